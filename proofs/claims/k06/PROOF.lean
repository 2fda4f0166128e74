import PyProof.Rows.All
import Wide.All
import OpenK.AllK
import Wide.FinOn
import Lean
import PyProof.EqAt
import PyProof.EqKinds
import PyProof.TupleCall
import KE.KEqDict
import PyProof.Draws
import PyProof.Rows.Range3
import PyProof.Rows.SumAny
import PyProof.DictUpdate
import PyProof.RaisesDict
import PySem.Challenge.RW_sumlaw_k06_free_names
set_option Elab.async false
set_option linter.all false
set_option maxRecDepth 100000
namespace L2
open PySem PySem.Spec PyProof.Rows
noncomputable abbrev Key:=Sum Int Str
noncomputable def mJ:Key->Value->Bool
 | .inl k,v=>Value.isInt k v
 | .inr x,v=>Value.isStrOf x v
noncomputable def keyH(w:World):Key->Int
 | .inl k=>hashInt k
 | .inr x=>hashStr w x
theorem aR:∀{k:Key} {v:Value},mJ k v=true->(∃i t,k=Sum.inl i/\v=Value.int i t)\/(∃x t,k=Sum.inr x/\v=Value.str x t)
 | .inl i,v,h=>by
   obtain⟨t,e⟩:=Value.isInt_shape (k:=i) (v:=v) h;exact .inl ⟨i,t,rfl,e⟩
 | .inr x,v,h=>by
   obtain⟨t,e⟩:=Value.isStrOf_shape (x:=x) (v:=v) h;exact .inr ⟨x,t,rfl,e⟩
theorem uy(i:Int)(t:Tok):mJ (.inl i) (.int i t)=true:=by simp[mJ,Value.isInt]
theorem uU(x:Str)(t:Tok):mJ (.inr x) (.str x t)=true:=by simp[mJ,Value.isStrOf]
theorem K3(a b:Int):decide ((Sum.inl a:Key)=Sum.inl b)=(a==b):=by
 by_cases e:a=b
 ·subst e;simp
 ·have h:¬(Sum.inl a:Key)=Sum.inl b:=fun q=>e (Sum.inl.inj q)
  rw[decide_eq_false h];exact(beq_eq_false_iff_ne.mpr e).symm
theorem Js(a b:Str):decide ((Sum.inr a:Key)=Sum.inr b)=decide (a=b):=by
 by_cases e:a=b
 ·subst e;simp
 ·have h:¬(Sum.inr a:Key)=Sum.inr b:=fun q=>e (Sum.inr.inj q)
  rw[decide_eq_false h,decide_eq_false e]
theorem JP(a:Int)(b:Str):decide ((Sum.inl a:Key)=Sum.inr b)=false:=decide_eq_false (fun q=>nomatch q)
theorem Lb(a:Str)(b:Int):decide ((Sum.inr a:Key)=Sum.inl b)=false:=decide_eq_false (fun q=>nomatch q)
noncomputable def bB(prog:Program)(w:World):PySem.KeyKind prog w Key where
 is:=mJ
 hash:=keyH w
 inj:=fun v a b ha hb=>by
  rcases aR ha with⟨i,t,rfl,rfl⟩ | ⟨x,t,rfl,rfl⟩
  ·rcases aR hb with⟨j,u,rfl,e⟩ | ⟨y,u,rfl,e⟩
   ·injection e with e1 _;rw[e1]
   ·exact nomatch e
  ·rcases aR hb with⟨j,u,rfl,e⟩ | ⟨y,u,rfl,e⟩
   ·exact nomatch e
   ·injection e with e1 _;rw[e1]
 byValue:=fun k v h=>by
  rcases aR h with⟨i,t,rfl,rfl⟩ | ⟨x,t,rfl,rfl⟩<;>rfl
 pyHash:=fun hv h=>by
  rcases aR hv with⟨i,t,rfl,rfl⟩ | ⟨x,t,rfl,rfl⟩
  ·exact wpAny_pyHash_int h
  ·exact wpAny_pyHash_str h
 eqBool:=fun hu hv h=>by
  rcases aR hu with⟨i,t,rfl,rfl⟩ | ⟨x,t,rfl,rfl⟩
  ·rcases aR hv with⟨j,u,rfl,rfl⟩ | ⟨y,u,rfl,rfl⟩
   ·rw[K3]at h;exact wpAny_eqBool_int h
   ·rw[JP]at h;exact SeqAt.EqAt.int_str i t y u _ _ _ _ h
  ·rcases aR hv with⟨j,u,rfl,rfl⟩ | ⟨y,u,rfl,rfl⟩
   ·rw[Lb]at h;exact SeqAt.EqAt.str_int x t j u _ _ _ _ h
   ·rw[Js]at h;exact wpAny_eqBool_str h
 «strs»:=fun k x t v h=>by
  rcases aR h with⟨i,u,rfl,e⟩ | ⟨y,u,rfl,e⟩
  ·exact nomatch e
  ·injection e with e1 _
   subst e1;cases v<;>rfl
theorem pG(prog:Program)(w:World)(i:Int)(t:Tok):(bB prog w).is (.inl i) (.int i t)=true:=uy i t
theorem pZ(prog:Program)(w:World)(x:Str)(t:Tok):(bB prog w).is (.inr x) (.str x t)=true:=uU x t
end L2
namespace L2
open PySem PySem.Spec PyProof.Rows
inductive V where
 | non | bl (b:Bool) | int (i:Int) | str (x:Str) | byt (b:Array UInt8) | flt (b:UInt64) | ref (a:Addr) | ty (n:String)
 deriving DecidableEq
noncomputable def RelV:V->Value->Prop
 | .non,u=>u=Value.none
 | .bl b,u=>u=Value.bool b
 | .int i,u=>∃t,u=Value.int i t
 | .str x,u=>∃t,u=Value.str x t
 | .byt b,u=>∃t,u=Value.bytes b t
 | .flt b,u=>∃t,u=Value.float b t
 | .ref a,u=>u=Value.ref a
 | .ty n,u=>u=Value.type n
noncomputable abbrev Vals:List V->List Value->Prop:=Paired RelV
theorem Vals.length{xs:List V}{us:List Value}(r:Vals xs us):xs.length=us.length:=Paired.length r
theorem Vals.get:∀{xs:List V} {us:List Value} {i:Nat} {x:V},Vals xs us->xs[i]?=some x->∃u,us[i]?=some u/\RelV x u
 | _,_,_,_,.nil,e=>by simp at e
 | _,_,0,_,.cons r _,e=>by simp at e;subst e;exact⟨_,rfl,r⟩
 | _,_,i+1,x,.cons _ t,e=>by
   obtain⟨u,h1,h2⟩:=Vals.get (i:=i) (x:=x) t (by simpa using e);exact⟨u,by simpa using h1,h2⟩
theorem Vals.set{x:V}{u:Value}(r:RelV x u):∀{xs:List V} {us:List Value} (i:Nat),Vals xs us->Vals (xs.set i x) (us.set i u)
 | _,_,_,.nil=>.nil
 | _,_,0,.cons _ t=>.cons r t
 | _,_,i+1,.cons q t=>.cons q (Vals.set r i t)
theorem Vals.append:∀{xs ys:List V} {us ws:List Value},Vals xs us->Vals ys ws->Vals (xs++ys) (us++ws)
 | _,_,_,_,.nil,s=>s
 | _,_,_,_,.cons r t,s=>.cons r (Vals.append t s)
theorem Vals.take:∀{xs:List V} {us:List Value} (n:Nat),Vals xs us->Vals (xs.take n) (us.take n)
 | _,_,0,_=>.nil
 | _,_,_+1,.nil=>.nil
 | _,_,n+1,.cons r t=>.cons r (Vals.take n t)
theorem Vals.drop:∀{xs:List V} {us:List Value} (n:Nat),Vals xs us->Vals (xs.drop n) (us.drop n)
 | _,_,0,r=>r
 | _,_,_+1,.nil=>.nil
 | _,_,n+1,.cons _ t=>Vals.drop n t
noncomputable def RelO:Option V->Option Value->Prop
 | some v,some u=>RelV v u
 | none,none=>True
 | _,_=>False
noncomputable def KV{κ:Type}:List (κ×V)->List (κ×Value)->Prop:=Paired fun(p:κ×V) (q:κ×Value)=>p.1=q.1/\RelV p.2 q.2
noncomputable def kV:Key->V
 | .inl i=>.int i
 | .inr x=>.str x
inductive HO where
 | lst (xs:List V)
 | tup (xs:List V)
 | dK (kvs:List (Key×V)) (ep:Nat) | dT (kvs:List (List Key×V))
 | set (S:Int->Bool) (n:Nat)
 | ins (C dx:Addr) (fs:List (Str×V))
 | own (x:Addr)
 | xd (fs:List (Str×V))
 | met (f x:Addr)
 | rng (lo hi:Int)
 | frz (o:Obj) (u:HO)
 | tbl (ps:Array Value)
 | ext (φ:Heap->Prop)
noncomputable abbrev Hp:=Addr->Option HO
noncomputable def upd(H:Hp)(a:Addr)(o:HO):Hp:=fun b=>if b=a then some o else H b
theorem aW{H:Hp}{a:Addr}{o:HO}:upd H a o a=some o:=by unfold upd;rw[if_pos rfl]
theorem aM{H:Hp}{a b:Addr}{o:HO}(h:b≠a):upd H a o b=H b:=by unfold upd;rw[if_neg h]
theorem Lz{H:Hp}{a b:Addr}{o u:HO}(h:H a=some o)(h':H b=some u)(d:o≠u):a≠b:=by
 intro e;subst e;rw[h]at h';exact d (Option.some.inj h')
theorem bJ{H:Hp}{a b:Addr}{o:HO}(h:H a=some o)(h':H b=none):a≠b:=by
 intro e;subst e;rw[h]at h';cases h'
section
variable(P:Program)(w:World)
noncomputable def ObjOk(H:Hp)(h:Heap)(a:Addr):HO->Prop
 | .lst xs=>xs.length<=sizeLine/\∃(its:List Value) (n:Nat),Vals xs its/\h.get? a=some { cls:=.type "list",data:=.seq its.toArray n }
 | .tup xs=>xs.length<=sizeLine/\∃its:List Value,Vals xs its/\IsTup h a its.toArray
 | .dK kvs ep=>kvs.length<=sizeLine/\(a==sysModules)=false/\∃vs,KV kvs vs/\h.DictAt (bB P w) a vs ep
 | .dT kvs=>kvs.length<=sizeLine/\(a==sysModules)=false/\∃xs:List (List Key×Addr×Value),
  Paired (fun(p:List Key×V) (q:List Key×Addr×Value)=>p.1=q.1/\H q.2.1=some (.tup (p.1.map kV))/\RelV p.2 q.2.2) kvs xs /\
  ∃o es ep,h.get? a=some o/\o.ExactDict/\o.data=.dict es ep/\es.toList=xs.map (entryOfKey (tupleKind (bB P w)))/\(xs.map (·.1)).Nodup
 | .set S n=>h.SetOf (intKind P w) a S n
 | .ins C dx fs=>H dx=some (.own a)/\fs.length<=1000/\dx≠a/\h.get? a=some (PySem.W.instObj C dx) /\
  ∃mA,h.Ns1 dx mA/\(∀f,RelO (fs.lookup f) (mA f))/\PySem.Within mA (fs.map (·.1))
 | .own _=>∃o,h.get? a=some o
 | .xd fs=>∃mA,h.Ns1 a mA/\∀f,RelO (fs.lookup f) (mA f)
 | .rng lo hi=>∃t u v,h.get? a=some { cls:=.type "range",data:=.fields #[.int lo t,.int hi u,.int 1 v] }
 | .frz o u=>h.get? a=some o/\ObjOk H h a u
 | .tbl ps=>h.get? a=some { cls:=.none,data:=.fields ps }
 | .met f x=>h.get? a=some (PySem.W.methodObj (.ref f) (.ref x))
 | .ext φ=>φ h/\(∃o,h.get? a=some o)/\∀h1 h2:Heap,φ h1->(∀o,h1.get? a=some o->h2.get? a=some o)->φ h2
noncomputable def HOk(H:Hp)(h:Heap):Prop:=∀a o,H a=some o->ObjOk P w H h a o
end
section
variable{P:Program}{w:World}{H H':Hp}{h h':Heap}{a:Addr}{o:HO}
theorem ObjOk.lt(x:ObjOk P w H h a o):a<h.objs.size:=by
 cases o with
 | lst xs=>obtain⟨_,_,_,_,e⟩:=x;exact Heap.lt_size e
 | tup xs=>obtain⟨_,_,_,p⟩:=x;exact p.lt
 | dK kvs ep=>obtain⟨_,_,_,_,o,_,e,_⟩:=x;exact Heap.lt_size e
 | dT kvs=>obtain⟨_,_,_,_,o,_,_,e,_⟩:=x;exact Heap.lt_size e
 | set S n=>obtain⟨o,_,_,_,e,_⟩:=x;exact Heap.lt_size e
 | ins C dx fs=>obtain⟨_,_,_,e,_⟩:=x;exact Heap.lt_size e
 | own y=>obtain⟨_,e⟩:=x;exact Heap.lt_size e
 | xd fs=>obtain⟨_,⟨_,_,_,e,_⟩,_⟩:=x;exact Heap.lt_size e
 | rng lo hi=>obtain⟨_,_,_,e⟩:=x;exact Heap.lt_size e
 | frz ob u=>obtain⟨e,_⟩:=x;exact Heap.lt_size e
 | tbl ps=>exact Heap.lt_size (show h.get? a=some _ from x)
 | met f y=>exact Heap.lt_size (show h.get? a=some _ from x)
 | ext φ=>obtain⟨_,⟨_,e⟩,_⟩:=x;exact Heap.lt_size e
theorem Paired.mapP{α β:Type}{F G:α->β->Prop}:∀{l₁:List α} {l₂:List β},Paired F l₁ l₂->(∀a b,F a b->G a b)->Paired G l₁ l₂
 | _,_,.nil,_=>.nil
 | _,_,.cons r t,f=>.cons (f _ _ r) (Paired.mapP t f)
theorem ObjOk.stay(x:ObjOk P w H h a o)(k:∀b u,(b=a\/H b=some (.own a))->h.get? b=some u->h'.get? b=some u)
 (ho:∀b,H b=some (.own a)->H' b=some (.own a)) (ht:∀b xs,H b=some (.tup xs)->H' b=some (.tup xs)):ObjOk P w H' h' a o:=by
 induction o with
 | lst xs=>obtain⟨z,its,n,r,e⟩:=x;exact⟨z,its,n,r,k _ _ (.inl rfl) e⟩
 | tup xs=>obtain⟨z,its,r,ob,e,c⟩:=x;exact⟨z,its,r,ob,k _ _ (.inl rfl) e,c⟩
 | dK kvs ep=>obtain⟨z,y,vs,r,ob,es,e,c⟩:=x;exact⟨z,y,vs,r,ob,es,k _ _ (.inl rfl) e,c⟩
 | dT kvs=>
   obtain⟨z,y,xs,r,ob,es,ep,e,c⟩:=x;exact⟨z,y,xs,Paired.mapP r fun p q z=>⟨z.1,ht _ _ z.2.1,z.2.2⟩,ob,es,ep,k _ _ (.inl rfl) e,c⟩
 | set S n=>obtain⟨ob,es,ep,t,e,c⟩:=x;exact⟨ob,es,ep,t,k _ _ (.inl rfl) e,c⟩
 | ins C dx fs=>
   obtain⟨d,z,ne,e,mA,⟨od,es,ep,e2,c⟩,r⟩:=x;exact⟨ho _ d,z,ne,k _ _ (.inl rfl) e,mA,⟨od,es,ep,k _ _ (.inr d) e2,c⟩,r⟩
 | own y=>obtain⟨ob,e⟩:=x;exact⟨ob,k _ _ (.inl rfl) e⟩
 | xd fs=>obtain⟨mA,⟨od,es,ep,e,c⟩,r⟩:=x;exact⟨mA,⟨od,es,ep,k _ _ (.inl rfl) e,c⟩,r⟩
 | rng lo hi=>obtain⟨t,u,v,e⟩:=x;exact⟨t,u,v,k _ _ (.inl rfl) e⟩
 | frz ob u ih=>obtain⟨e,q⟩:=x;exact⟨k _ _ (.inl rfl) e,ih q⟩
 | tbl ps=>
   have e:h.get? a=some { cls:=.none,data:=.fields ps }:=x;show h'.get? a=some { cls:=.none,data:=.fields ps };exact k a _ (.inl rfl) e
 | met f y=>
   have e:h.get? a=some (PySem.W.methodObj (.ref f) (.ref y)):=x;show h'.get? a=some (PySem.W.methodObj (.ref f) (.ref y));exact k a _ (.inl rfl) e
 | ext φ=>obtain⟨p,⟨o,e⟩,st⟩:=x;exact⟨st _ _ p fun o q=>k _ _ (.inl rfl) q,⟨o,k _ _ (.inl rfl) e⟩,st⟩
theorem HOk.lt(x:HOk P w H h)(e:H a=some o):a<h.objs.size:=(x a o e).lt
theorem HOk.fresh(x:HOk P w H h)(e:h.objs.size<=a):H a=none:=by
 cases q:H a with
 | none=>rfl
 | some u=>exact absurd (Nat.lt_of_lt_of_le (x.lt q) e) (Nat.lt_irrefl _)
theorem HOk.kept(x:HOk P w H h)(k:∀b u,h.get? b=some u->h'.get? b=some u):HOk P w H h':=fun a o e=>
 (x a o e).stay (fun b u _ q=>k b u q) (fun _ q=>q) fun _ _ q=>q
theorem HOk.laid(x:HOk P w H h)(k:∀b u,h.get? b=some u->h'.get? b=some u)(hp:h.objs.size<=a)(new:ObjOk P w (upd H a o) h' a o):HOk P w (upd H a o) h':=fun b u e=>by
 have hn:=x.fresh hp
 by_cases hb:b=a
 ·subst hb;rw[aW]at e;cases e;exact new
 ·rw[aM hb]at e
  exact(x b u e).stay (fun c v _ q=>k c v q) (fun c q=>by rw[aM (bJ q hn)];exact q) fun c xs q=>by rw[aM (bJ q hn)];exact q
end
noncomputable def Rd(H:Hp)(a:Addr)(u:HO):Prop:=H a=some u\/∃o,H a=some (.frz o u)
theorem Rd.ok{P:Program}{w:World}{H:Hp}{h:Heap}{a:Addr}{u:HO}(r:Rd H a u)(x:HOk P w H h):ObjOk P w H h a u:=by
 rcases r with r | ⟨o,r⟩
 ·exact x a u r
 ·obtain⟨_,q⟩:=x a _ r
  exact q
noncomputable def Mut:Option HO->Prop
 | some (.lst _)=>True
 | some (.dK _ _)=>True
 | some (.dT _)=>True
 | some (.set _ _)=>True
 | some (.ins _ _ _)=>True
 | some (.ext _)=>True
 | _=>False
section
variable{P:Program}{w:World}{H:Hp}{h h':Heap}{x e:Addr}{o':HO}
theorem HOk.write(ok:HOk P w H h)(mu:Mut (H x))(he:e=x\/H e=some (.own x))(k:∀b u,b≠e->h.get? b=some u->h'.get? b=some u)(heo:∃u,h'.get? e=some u)
 (new:ObjOk P w (upd H x o') h' x o'):HOk P w (upd H x o') h':=fun b u q=>by
 have nown:∀c y,H c=some (.own y)->c≠x:=fun c y r z=>by subst z;rw[r]at mu;exact mu
 have ntup:∀c xs,H c=some (.tup xs)->c≠x:=fun c xs r z=>by subst z;rw[r]at mu;exact mu
 by_cases hb:b=x
 ·subst hb;rw[aW]at q;cases q;exact new
 ·rw[aM hb]at q
  by_cases hbe:b=e
  ·have q':H b=some (.own x):=by
    rcases he with z | z
    ·exact absurd (hbe.trans z) hb
    ·rw[hbe];exact z
   rw[q]at q';cases q';obtain⟨v,hv⟩:=heo;exact⟨v,by rw[hbe];exact hv⟩
  ·refine(ok b u q).stay (fun c v hc r=>k c v ?_ r) (fun c r=>by rw[aM (nown c b r)];exact r) fun c xs r=>by rw[aM (ntup c xs r)];exact r
   rcases hc with rfl | hc
   ·exact hbe
   ·rintro rfl
    rcases he with z | z
    ·exact nown c b hc z
    ·rw[hc]at z;cases z;exact hb rfl
end
structure Un(fs ex:List Addr)(H H':Hp)(h h':Heap):Prop where
 keep:∀b o,h.get? b=some o->H b=none->b∉fs->b∉ex->h'.get? b=some o
 slot:∀b o,h.get? b=some o->H b=none->b∈fs->b∉ex->∃sl,h'.get? b=some { o with slots:=sl }
 free:∀b o,h.get? b=some o->H b=none->b∉ex->H' b=none
 there:∀b o,h.get? b=some o->b∉ex->∃o',h'.get? b=some o'
 tups:∀b xs,H b=some (.tup xs)->H' b=some (.tup xs)
 frzs:∀b o u,H b=some (.frz o u)->H' b=some (.frz o u)
 tbls:∀b ps,H b=some (.tbl ps)->∃more,H' b=some (.tbl (ps++more))
section
variable{fs fs' ex ex':List Addr}{H H1 H2:Hp}{h h1 h2 h':Heap}{a x e:Addr}{o:HO}
theorem Un.any(u:Un fs ex H H1 h h1){b:Addr}{ob:Obj}(q:h.get? b=some ob)(n:H b=none)(hx:b∉ex):∃sl,h1.get? b=some { ob with slots:=sl }:=by
 by_cases hb:b∈fs
 ·exact u.slot b ob q n hb hx
 ·exact⟨ob.slots,u.keep b ob q n hb hx⟩
theorem Un.kept(k:∀b u,h.get? b=some u->h'.get? b=some u):Un fs ex H H h h' :=
 ⟨fun b ob q _ _ _=>k b ob q,fun b ob q _ _ _=>⟨ob.slots,k b ob q⟩,fun _ _ _ n _=>n,fun b ob q _=>⟨ob,k b ob q⟩,fun _ _ q=>q,fun _ _ _ q=>q,fun _ ps q=>⟨#[],by rw[q];simp⟩⟩
theorem Un.refl:Un fs ex H H h h:=Un.kept fun _ _ q=>q
theorem Un.laid(k:∀b u,h.get? b=some u->h'.get? b=some u)(hp:h.objs.size<=a)(hn:H a=none):Un fs ex H (upd H a o) h h' where
 keep:=fun b u q _ _ _=>k b u q
 slot:=fun b u q _ _ _=>⟨u.slots,k b u q⟩
 free:=fun b u q n _=>by rw[aM (Nat.ne_of_lt (Nat.lt_of_lt_of_le (Heap.lt_size q) hp))];exact n
 there:=fun b u q _=>⟨u,k b u q⟩
 tups:=fun b xs q=>by rw[aM (bJ q hn)];exact q
 frzs:=fun b u xs q=>by rw[aM (bJ q hn)];exact q
 tbls:=fun b ps q=>⟨#[],by rw[aM (bJ q hn),q];simp⟩
theorem Un.write(mu:Mut (H x))(he:e=x\/H e=some (.own x))(k:∀b u,b≠e->h.get? b=some u->h'.get? b=some u)(heo:∃u,h'.get? e=some u):Un fs ex H (upd H x o) h h':=by
 have hx:∀b,H b=none->b≠x:=fun b n z=>by subst z;rw[n]at mu;exact mu
 have hb:∀b,H b=none->b≠e:=fun b n z=>by
  subst z;rcases he with r | r
  ·exact hx b n r
  ·rw[n]at r;cases r
 have hm:∀b u,H b=some u->¬Mut (some u)->b≠x:=fun b u q nm z=>by subst z;rw[q]at mu;exact nm mu
 refine⟨fun b u q n _ _=>k b u (hb b n) q,fun b u q n _ _=>⟨u.slots,k b u (hb b n) q⟩,fun b u q n _=>by rw[aM (hx b n)];exact n,fun b u q _=>?_,
  fun b xs q=>by rw[aM (hm b _ q fun z=>z)];exact q,fun b u xs q=>by rw[aM (hm b _ q fun z=>z)];exact q,fun b ps q=>⟨#[],by rw[aM (hm b _ q fun z=>z),q];simp⟩⟩
 by_cases hbe:b=e
 ·subst hbe;exact heo
 ·exact⟨u,k b u hbe q⟩
end
noncomputable def trk(h:Heap)(H:Hp):List Addr:=(List.range h.objs.size).filter fun a=>(H a).isSome
noncomputable def hidT(h:Heap)(H:Hp):Heap:=PySem.W.hideAll h (trk h H)
theorem xQ(h:Heap)(H:Hp):(hidT h H).objs.size=h.objs.size:=PySem.W.hideAll_size _ _
theorem Ai{h:Heap}{H:Hp}{b:Addr}{o:Obj}(e:h.get? b=some o)(n:H b=none):(hidT h H).get? b=some o :=
 PySem.W.hideAll_get _ e fun hm=>by
  have q:(H b).isSome=true:=(List.mem_filter.mp hm).2;rw[n]at q;simp at q
theorem Ho{h:Heap}{H:Hp}{b:Addr}{o:Obj}(e:(hidT h H).get? b=some o):h.get? b=some o/\H b=none:=by
 have e':h.get? b=some o:=PySem.W.of_hideAll (trk h H) e;refine⟨e',?_⟩
 cases q:H b with
 | none=>rfl
 | some x=>
   have hm:b∈trk h H:=List.mem_filter.mpr ⟨List.mem_range.mpr (Heap.lt_size e'),by simp[q]⟩;have z:(hidT h H).get? b=none:=PySem.W.hideAll_none (trk h H) hm;rw[z]at e;cases e
end L2
namespace L2
open PySem PySem.Spec PyProof.Rows
structure Mod(K:PySem.W.Frag)(mg:Str->Option Value)(base:Heap):Prop where
 kin:K.In base
 glob:base.Ns mainGlobals mg
 blt:∃mb,base.Ns builtinsNs mb/\∀x:Str,x≠"__name__"->mb x=bootBuiltins x
 nolimit:base.NoLimit
structure Cx where
 prog:Program
 w:World
 K:PySem.W.Frag
 mg:Str->Option Value
 base:Heap
 A:Around
 N:List Str
 s₀:Shared
 H₀:Hp
 env:Env
 outer:List Env
 stack:List Env
 ex:List Addr
 fn:Str->Bool
 calm:Bool
 pn:List (Addr×Obj)
 xe:Value->Shared->Prop
noncomputable def frs(l:List Env):List Addr:=l.filterMap (·.frame)
noncomputable abbrev Cx.fs(X:Cx):List Addr:=frs X.outer
noncomputable def Vis(sc:Scope)(x:Str):Prop:=sc.names.lookup x=some .local\/sc.names.lookup x=some .cell\/sc.names.lookup x=some .free
noncomputable def Loc(sc:Scope)(x:Str):Prop:=sc.names.lookup x=some .local\/sc.names.lookup x=some .cell
noncomputable def Look(env:Env)(h:Heap)(m:Str->Option Value)(x:Str)(u:Value):Prop :=
 (env.kindOf x=some .local/\m x=some u)\/((env.kindOf x=some .cell\/env.kindOf x=some .free)/\∃c,env.cells.lookup x=some c/\h.IsCell c (some u))
structure Cx.Ok(X:Cx):Prop where
 mod:Mod X.K X.mg X.base
 kind:X.env.scope.kind=.function
 glob:X.env.globals=mainGlobals
 blt:X.env.builtins=builtinsNs
 above:X.s₀.heap.objs.size<=X.env.locals
 inj:∀x y c,X.env.cells.lookup x=some c->X.env.cells.lookup y=some c->x=y
 has:∀x,(X.env.kindOf x=some .cell\/X.env.kindOf x=some .free)->∃c,X.env.cells.lookup x=some c
 cab:∀x c,X.fn x=true->X.env.cells.lookup x=some c->X.s₀.heap.objs.size<=c
 hd:X.calm=true->X.A.handled=none
 frames:X.A.frames=some X.stack
 stk:X.stack=X.outer\/(X.stack=X.env::X.outer/\X.env.frame=some X.env.locals)
 exf:∀b∈X.ex,b≠X.env.locals/\∀x c,X.env.cells.lookup x=some c->c≠b
 bs:∀b o,X.base.get? b=some o->X.s₀.heap.get? b=some o/\X.H₀ b=none
 bsz:X.base.objs.size<=X.s₀.heap.objs.size
 noex:∀b o,X.base.get? b=some o->b∉X.ex
 exfs:∀b∈X.ex,b∉X.fs
 funs:X.s₀.heap.FunFrames X.base X.outer
 frf:∀b∈X.fs,X.H₀ b=none
structure Inv(X:Cx)(pins:List (Addr×Obj))(σ:List (Option V))(H:Hp)(s:Shared):Prop where
 ok:X.Ok
 os:s.os=X.s₀.os
 bare:AllBare s.gens
 base:Un X.fs X.ex X.H₀ H X.s₀.heap s.heap
 loc:∃m,s.heap.Ns X.env.locals m/\∀(i:Nat) (x:Str) (v:V),X.N[i]?=some x->σ[i]?=some (some v)->Vis X.env.scope x->∃u,RelV v u/\Look X.env s.heap m x u
 cell:∀x c,X.env.cells.lookup x=some c->∃v,s.heap.IsCell c v
 free:H X.env.locals=none
 freeC:∀x c,X.env.cells.lookup x=some c->H c=none
 pin:∀p∈X.pn++pins,s.heap.get? p.1=some p.2/\H p.1=none/\p.1≠X.env.locals/\p.1∉X.fs/\∀v,p.2.data≠.cell v
 hok:HOk X.prog X.w H s.heap
 len:σ.length=X.N.length
section
variable{X:Cx}{pins:List (Addr×Obj)}{σ:List (Option V)}{H H':Hp}{s:Shared}{h':Heap}
theorem Cx.Ok.nofr(ok:X.Ok){b:Addr}{o:Obj}(e:X.base.get? b=some o):b∉X.fs:=fun hb=>by
 have:=(ok.funs.mem hb).1;rw[e]at this;cases this
theorem Inv.bs(I:Inv X pins σ H s):∀b o,X.base.get? b=some o->s.heap.get? b=some o/\H b=none:=fun b o e=>
 ⟨I.base.keep b o (I.ok.bs b o e).1 (I.ok.bs b o e).2 (I.ok.nofr e) (I.ok.noex b o e),I.base.free b o (I.ok.bs b o e).1 (I.ok.bs b o e).2 (I.ok.noex b o e)⟩
theorem Inv.bk(I:Inv X pins σ H s):∀b o,X.base.get? b=some o->s.heap.get? b=some o:=fun b o e=>(I.bs b o e).1
theorem Inv.mod(I:Inv X pins σ H s):Mod X.K X.mg X.base:=I.ok.mod
theorem Inv.kIn(I:Inv X pins σ H s):X.K.In s.heap:=I.ok.mod.kin.keeps I.bk
theorem Inv.lt(I:Inv X pins σ H s):X.env.locals<s.heap.objs.size:=let⟨_,hn,_⟩:=I.loc;hn.lt
theorem Inv.sz(I:Inv X pins σ H s):X.s₀.heap.objs.size<=s.heap.objs.size:=Nat.le_trans I.ok.above (Nat.le_of_lt I.lt)
theorem Inv.nofs(I:Inv X pins σ H s){a:Addr}(h:s.heap.objs.size<=a):a∉X.fs:=fun hb=>by
 obtain⟨_,o,ho,_⟩:=I.ok.funs.mem hb;exact absurd (Nat.lt_of_lt_of_le (Heap.lt_size ho) (Nat.le_trans I.sz h)) (Nat.lt_irrefl _)
theorem Inv.cne(I:Inv X pins σ H s):∀x c,X.env.cells.lookup x=some c->c≠X.env.locals:=fun x c e z=>by
 obtain⟨v,o,ho,hd⟩:=I.cell x c e;obtain⟨m,⟨o',es,ep,ho',hd',_⟩,_⟩:=I.loc;rw[z,ho']at ho;cases ho;rw[hd']at hd;cases hd
theorem Inv.funs(I:Inv X pins σ H s):s.heap.FunFrames X.base X.outer:=by
 have all:∀(l:List Env),(∀b∈frs l,b∈X.fs)->X.s₀.heap.FunFrames X.base l->s.heap.FunFrames X.base l:=by
  intro l
  induction l with
  | nil=>intro _ _;trivial
  | cons env r ih=>
    intro hs hl;obtain⟨hk,⟨L,o,hf,hn,ho,hd⟩,hr⟩:=hl;have hL:L∈X.fs:=hs L (by unfold frs;rw[List.filterMap_cons,hf];exact List.mem_cons_self)
    obtain⟨sl,e⟩:=I.base.slot L o ho (I.ok.frf L hL) hL fun z=>I.ok.exfs L z hL
    exact⟨hk,⟨L,_,hf,hn,e,hd⟩,ih (fun b hb=>hs b (by unfold frs;rw[List.filterMap_cons,hf];exact List.mem_cons_of_mem _ hb)) hr⟩
 exact all X.outer (fun _ hb=>hb) I.ok.funs
theorem Inv.stack(I:Inv X pins σ H s):s.heap.FunFrames X.base X.stack:=by
 rcases I.ok.stk with e | ⟨e,hf⟩
 ·rw[e];exact I.funs
 ·rw[e]
  obtain⟨m,hn,_⟩:=I.loc;refine .cons (by rw[I.ok.kind];decide) hf hn ?_ I.funs;exact Heap.get?_none_of_le (Nat.le_trans I.ok.bsz I.ok.above)
theorem Inv.stkSub(I:Inv X pins σ H s):∀b∈frs X.stack,b∈X.env.locals::X.fs:=fun b hb=>by
 rcases I.ok.stk with e | ⟨e,hf⟩
 ·rw[e]at hb;exact List.mem_cons_of_mem _ hb
 ·rw[e]at hb
  unfold frs at hb;rw[List.filterMap_cons,hf]at hb;exact hb
theorem Inv.stkFree(I:Inv X pins σ H s):∀b∈frs X.stack,H b=none:=fun b hb=>by
 rcases List.mem_cons.mp (I.stkSub b hb)with e | hb
 ·rw[e];exact I.free
 ·obtain⟨_,o,ho,_⟩:=I.ok.funs.mem hb
  exact I.base.free b o ho (I.ok.frf b hb) fun z=>I.ok.exfs b z hb
theorem Inv.step{g':Array GenState}{t':Nat}{d':Drawn}{ch:List Addr}(I:Inv X pins σ H s)
 (hch:∀b∈ch,(b∈X.ex\/X.s₀.heap.objs.size<=b)/\b≠X.env.locals/\(∀x c,X.env.cells.lookup x=some c->c≠b)/\∀p∈X.pn++pins,p.1≠b)
 (keep:∀b o,b≠X.env.locals->b∉X.fs->b∉ch->s.heap.get? b=some o->H b=none->h'.get? b=some o)
 (slot:∀b o,b≠X.env.locals->b∈X.fs->b∉ch->s.heap.get? b=some o->H b=none->∃sl,h'.get? b=some { o with slots:=sl }) (free:∀b o,b∉ch->s.heap.get? b=some o->H b=none->H' b=none)
 (there:∀b o,b∉ch->s.heap.get? b=some o->∃o',h'.get? b=some o')
 (tups:∀b xs,H b=some (.tup xs)->H' b=some (.tup xs)) (frzs:∀b o u,H b=some (.frz o u)->H' b=some (.frz o u)) (tbls:∀b ps,H b=some (.tbl ps)->∃more,H' b=some (.tbl (ps++more)))
 (ns:∀m,s.heap.Ns X.env.locals m->h'.Ns X.env.locals m) (hok:HOk X.prog X.w H' h') (hg:AllBare g') :
 Inv X pins σ H' { s with heap:=h',gens:=g',drawn:=d',toks:=t' }:=by
 have neL:∀b o,X.s₀.heap.get? b=some o->b≠X.env.locals:=fun b o e=>Nat.ne_of_lt (Nat.lt_of_lt_of_le (Heap.lt_size e) I.ok.above)
 have neC:∀b o,X.s₀.heap.get? b=some o->b∉X.ex->b∉ch:=fun b o e hx hb=>by
  rcases(hch b hb).1 with z | z
  ·exact hx z
  ·exact absurd (Nat.lt_of_lt_of_le (Heap.lt_size e) z) (Nat.lt_irrefl _)
 have cellK:∀x c,X.env.cells.lookup x=some c->∀v,s.heap.IsCell c v->h'.IsCell c v:=fun x c e v ⟨o,ho,hd⟩=>by
  have nch:c∉ch:=fun z=>(hch c z).2.2.1 x c e rfl
  by_cases hc:c∈X.fs
  ·obtain⟨sl,q⟩:=slot c o (I.cne x c e) hc nch ho (I.freeC x c e)
   exact⟨_,q,hd⟩
  ·exact⟨o,keep c o (I.cne x c e) hc nch ho (I.freeC x c e),hd⟩
 refine⟨I.ok,I.os,hg,⟨fun b o e n hb hx=>?_,fun b o e n hb hx=>?_,fun b o e n hx=>?_,fun b o e hx=>?_,fun b xs e=>tups b xs (I.base.tups b xs e),fun b o xs e=>frzs b o xs (I.base.frzs b o xs e),fun b ps e=>?_⟩,?_,fun x c e=>?_,?_,fun x c e=>?_,fun p hp=>?_,hok,I.len⟩
 ·exact keep b o (neL b o e) hb (neC b o e hx) (I.base.keep b o e n hb hx) (I.base.free b o e n hx)
 ·obtain⟨sl,e1⟩:=I.base.slot b o e n hb hx
  obtain⟨sl',e2⟩:=slot b _ (neL b o e) hb (neC b o e hx) e1 (I.base.free b o e n hx);exact⟨sl',e2⟩
 ·obtain⟨o',e1⟩:=I.base.there b o e hx
  exact free b o' (neC b o e hx) e1 (I.base.free b o e n hx)
 ·obtain⟨o',e1⟩:=I.base.there b o e hx
  exact there b o' (neC b o e hx) e1
 ·obtain⟨m1,e1⟩:=I.base.tbls b ps e
  obtain⟨m2,e2⟩:=tbls b _ e1;exact⟨m1++m2,by rw[e2,Array.append_assoc]⟩
 ·obtain⟨m,hn,hl⟩:=I.loc
  refine⟨m,ns m hn,fun i x v e1 e2 e3=>?_⟩;obtain⟨u,r,l⟩:=hl i x v e1 e2 e3;refine⟨u,r,?_⟩;rcases l with l | ⟨k,c,e,z⟩
  ·exact .inl l
  ·exact .inr ⟨k,c,e,cellK x c e _ z⟩
 ·obtain⟨v,z⟩:=I.cell x c e
  exact⟨v,cellK x c e v z⟩
 ·obtain⟨m,⟨o,_,_,ho,_⟩,_⟩:=I.loc
  exact free _ o (fun z=>(hch _ z).2.1 rfl) ho I.free
 ·obtain⟨v,o,ho,hd⟩:=I.cell x c e
  exact free c o (fun z=>(hch c z).2.2.1 x c e rfl) ho (I.freeC x c e)
 ·obtain⟨e,n,ne,nf,d⟩:=I.pin p hp
  have nch:p.1∉ch:=fun z=>(hch p.1 z).2.2.2 p hp rfl
  exact⟨keep p.1 p.2 ne nf nch e n,free p.1 p.2 nch e n,ne,nf,d⟩
theorem Inv.un{t':Nat}(I:Inv X pins σ H s)(u:Un X.fs [] H H' s.heap h')(hok:HOk X.prog X.w H' h'):Inv X pins σ H' { s with heap:=h',toks:=t' }:=by
 obtain⟨m,⟨o,es,ep,ho,r⟩,_⟩:=id I.loc;obtain⟨sl,hL⟩:=u.any ho I.free (by simp)
 exact I.step (g':=s.gens) (d':=s.drawn) (ch:=[]) (fun _ z=>nomatch z) (fun b o _ hb _ e n=>u.keep b o e n hb (by simp)) (fun b o _ hb _ e n=>u.slot b o e n hb (by simp)) (fun b o _ e n=>u.free b o e n (by simp)) (fun b o _ e=>u.there b o e (by simp)) u.tups u.frzs u.tbls (fun m' hm=>by
  obtain⟨o',es',ep',ho',r'⟩:=hm;rw[ho]at ho';cases ho'
  exact⟨_,es',ep',hL,r'⟩) hok I.bare
theorem Inv.call{g':Array GenState}{t':Nat}{d':Drawn}{ch:List Addr}(I:Inv X pins σ H s)(u:Un (frs X.stack) ch H H' s.heap h')(hok:HOk X.prog X.w H' h')(hg:AllBare g')
 (hch:∀b∈ch,(b∈X.ex\/X.s₀.heap.objs.size<=b)/\b≠X.env.locals/\(∀x c,X.env.cells.lookup x=some c->c≠b)/\∀p∈X.pn++pins,p.1≠b) :
 Inv X pins σ H' { s with heap:=h',gens:=g',drawn:=d',toks:=t' }:=by
 obtain⟨m,⟨o,es,ep,ho,r⟩,_⟩:=id I.loc
 obtain⟨sl,hL⟩:=u.any ho I.free fun z=>(hch _ z).2.1 rfl
 exact I.step (ch:=ch) hch (fun b o hL hb hc e n=>u.keep b o e n (fun z=>(List.mem_cons.mp (I.stkSub b z)).elim hL hb) hc) (fun b o _ _ hc e n=>u.any e n hc) (fun b o hc e n=>u.free b o e n hc) (fun b o hc e=>u.there b o e hc) u.tups u.frzs u.tbls (fun m' hm=>by
  obtain⟨o',es',ep',ho',r'⟩:=hm;rw[ho]at ho';cases ho'
  exact⟨_,es',ep',hL,r'⟩) hok hg
theorem Inv.turned{t':Nat}{it:Addr}(I:Inv X pins σ H s)(k:∀b o,b≠it->s.heap.get? b=some o->h'.get? b=some o)(hn:H it=none)(hL:it≠X.env.locals)
 (h1:it∈X.ex\/X.s₀.heap.objs.size<=it) (h2:∀x c,X.env.cells.lookup x=some c->c≠it) (h3:∀p∈X.pn++pins,p.1≠it):Inv X pins σ H { s with heap:=h',toks:=t' }:=by
 have nit:∀b u,H b=some u->b≠it:=fun b u e z=>by rw[z,hn]at e;cases e
 refine I.step (g':=s.gens) (d':=s.drawn) (ch:=[it]) (fun b hb=>?_) (fun b o _ _ hc e _=>k b o (fun z=>hc (by simp[z])) e) (fun b o _ _ hc e _=>⟨o.slots,k b o (fun z=>hc (by simp[z])) e⟩) (fun _ _ _ _ n=>n)
  (fun b o hc e=>⟨o,k b o (fun z=>hc (by simp[z])) e⟩) (fun _ _ e=>e) (fun _ _ _ e=>e) (fun b ps e=>⟨#[],by rw[e];simp⟩) (fun m hm=>?_) (fun b u e=>?_) I.bare
 ·have e:b=it:=by simpa using hb
  subst e;exact⟨h1,hL,h2,h3⟩
 ·obtain⟨o,es,ep,ho,r⟩:=hm
  exact⟨o,es,ep,k _ o (Ne.symm hL) ho,r⟩
 ·refine(I.hok b u e).stay (fun c v hc q=>k c v ?_ q) (fun _ q=>q) fun _ _ q=>q
  rcases hc with z | z
  ·rw[z];exact nit b u e
  ·exact nit c _ z
theorem Inv.tok(I:Inv X pins σ H s)(t:Nat):Inv X pins σ H { s with toks:=t }:=I.un (h':=s.heap) (t':=t) Un.refl I.hok
theorem Inv.kept{t':Nat}(I:Inv X pins σ H s)(k:∀b u,s.heap.get? b=some u->h'.get? b=some u):Inv X pins σ H { s with heap:=h',toks:=t' }:=I.un (Un.kept k) (I.hok.kept k)
theorem Inv.laid{a:Addr}{o:HO}{t':Nat}(I:Inv X pins σ H s)(k:∀b u,s.heap.get? b=some u->h'.get? b=some u)(hp:s.heap.objs.size<=a)(new:ObjOk X.prog X.w (upd H a o) h' a o) :
 Inv X pins σ (upd H a o) { s with heap:=h',toks:=t' }:=I.un (Un.laid k hp (I.hok.fresh hp)) (I.hok.laid k hp new)
theorem Inv.write{x e:Addr}{o:HO}{t':Nat}(I:Inv X pins σ H s)(mu:Mut (H x))(he:e=x\/H e=some (.own x))(k:∀b u,b≠e->s.heap.get? b=some u->h'.get? b=some u)(heo:∃u,h'.get? e=some u)
 (new:ObjOk X.prog X.w (upd H x o) h' x o):Inv X pins σ (upd H x o) { s with heap:=h',toks:=t' }:=I.un (Un.write mu he k heo) (I.hok.write mu he k heo new)
theorem Inv.pins_of{pins':List (Addr×Obj)}(I:Inv X pins σ H s)(h:∀p∈pins',s.heap.get? p.1=some p.2/\H p.1=none/\p.1≠X.env.locals/\p.1∉X.fs/\∀v,p.2.data≠.cell v):Inv X pins' σ H s :=
 ⟨I.ok,I.os,I.bare,I.base,I.loc,I.cell,I.free,I.freeC,fun p hp=>(List.mem_append.mp hp).elim (fun z=>I.pin p (List.mem_append_left _ z)) (h p),I.hok,I.len⟩
theorem qg{N:List Str}(hN:N.Nodup){i j:Nat}{x:Str}(a:N[i]?=some x)(b:N[j]?=some x):i=j:=by
 obtain⟨h1,e1⟩:=List.getElem?_eq_some_iff.mp a;obtain⟨h2,e2⟩:=List.getElem?_eq_some_iff.mp b;exact(List.getElem_inj hN).mp (e1.trans e2.symm)
theorem lQ{M:Model}{A:Around}{E:Value->Shared->Prop}{i:Nat}{x:Str}{v:V}{u:Value}{Q:Unit->Shared->Prop}(I:Inv X pins σ H s)(hN:X.N.Nodup)(hi:X.N[i]?=some x)(hx:Loc X.env.scope x)(r:RelV v u)
 (h:∀s',Inv X pins (σ.set i (some v)) H s'->(∃a,Heap.SameBut a s.heap s'.heap/\(a=X.env.locals\/X.env.cells.lookup x=some a))->Q () s') (hf:X.fn x=true\/X.env.scope.names.lookup x=some .local:=by first | exact .inl rfl | exact .inr rfl | assumption):wpAny M A (storeName X.env x u) Q E s:=by
 obtain⟨m,hn,hl⟩:=id I.loc
 have hcls:(X.env.scope.kind==.class||(X.env.scope.kind==.module&&X.env.locals !=X.env.globals))=false:=by rw[I.ok.kind];rfl
 have hiσ:i<σ.length:=by rw[I.len];exact(List.getElem?_eq_some_iff.mp hi).1
 have cne:=I.cne
 have tracked:∀{a:Addr} {h':Heap},(∃o,s.heap.get? a=some o/\H a=none)->Heap.SameBut a s.heap h'->HOk X.prog X.w H h':=fun{a h'} ha hs b ob e=>by
  obtain⟨_,_,hfree⟩:=ha
  refine(I.hok b ob e).stay (fun c w' hc q=>(hs.2 c ?_).trans q) (fun _ q=>q) fun _ _ q=>q
  rintro rfl
  rcases hc with rfl | hc
  ·rw[hfree]at e;cases e
  ·rw[hfree]at hc;cases hc
 rcases hx with hk | hk
 ·refine wpAny_storeName_local hk hn (fun h' hn' hs=>?_) hcls
  obtain⟨oL,_,_,hoL,_⟩:=id hn;refine h _ ⟨I.ok,I.os,I.bare,⟨fun b o e n hb hx=>?_,fun b o e n hb hx=>?_,I.base.free,fun b o e hx=>?_,I.base.tups,I.base.frzs,I.base.tbls⟩,⟨_,hn',fun j y v' e1 e2 e3=>?_⟩,fun y c e=>?_,I.free,I.freeC,fun p hp=>?_,tracked ⟨oL,hoL,I.free⟩ hs,by simpa using I.len⟩ ⟨_,hs,.inl rfl⟩
  ·exact(hs.2 b (Nat.ne_of_lt (Nat.lt_of_lt_of_le (Heap.lt_size e) I.ok.above))).trans (I.base.keep b o e n hb hx)
  ·obtain⟨sl,e1⟩:=I.base.slot b o e n hb hx
   exact⟨sl,(hs.2 b (Nat.ne_of_lt (Nat.lt_of_lt_of_le (Heap.lt_size e) I.ok.above))).trans e1⟩
  ·obtain⟨o',e1⟩:=I.base.there b o e hx
   exact⟨o',(hs.2 b (Nat.ne_of_lt (Nat.lt_of_lt_of_le (Heap.lt_size e) I.ok.above))).trans e1⟩
  ·by_cases hj:j=i
   ·subst hj
    rw[hi]at e1;cases e1;rw[List.getElem?_set_self hiσ]at e2;cases e2;exact⟨u,r,.inl ⟨hk,by simp⟩⟩
   ·rw[List.getElem?_set_ne (Ne.symm hj)]at e2
    obtain⟨u',r',q⟩:=hl j y v' e1 e2 e3;refine⟨u',r',?_⟩;rcases q with⟨k,e⟩ | ⟨k,c,e,z⟩
    ·refine .inl ⟨k,?_⟩
     have:y≠x:=fun e=>hj (qg hN e1 (e▸hi))
     simp[this,e]
    ·exact .inr ⟨k,c,e,z.sameBut hs (cne y c e)⟩
  ·obtain⟨w',z⟩:=I.cell y c e
   exact⟨w',z.sameBut hs (cne y c e)⟩
  ·obtain⟨e,n,ne,nf,d⟩:=I.pin p hp
   exact⟨(hs.2 p.1 ne).trans e,n,ne,nf,d⟩
 ·have hfn:X.fn x=true:=by
   rcases hf with z | z
   ·exact z
   ·rw[z]at hk;cases hk
  obtain⟨c,hc⟩:=I.ok.has x (.inl hk);obtain⟨w',z⟩:=I.cell x c hc;refine wpAny_storeName_cell I.ok.kind hk hc z (fun h' hc' hs=>?_);obtain⟨oc,hoc,hocd⟩:=id z;refine h { s with heap:=h' } ⟨I.ok,I.os,I.bare,⟨fun b o e n hb hx=>?_,fun b o e n hb hx=>?_,I.base.free,fun b o e hx=>?_,I.base.tups,I.base.frzs,I.base.tbls⟩,⟨m,hn.sameBut hs (Ne.symm (cne x c hc)),fun j y v' e1 e2 e3=>?_⟩,fun y c' e=>?_,I.free,I.freeC,fun p hp=>?_,tracked ⟨oc,hoc,I.freeC x c hc⟩ hs,by simpa using I.len⟩ ⟨c,hs,.inr hc⟩
  ·exact(hs.2 b (Nat.ne_of_lt (Nat.lt_of_lt_of_le (Heap.lt_size e) (I.ok.cab x c hfn hc)))).trans (I.base.keep b o e n hb hx)
  ·obtain⟨sl,e1⟩:=I.base.slot b o e n hb hx
   exact⟨sl,(hs.2 b (Nat.ne_of_lt (Nat.lt_of_lt_of_le (Heap.lt_size e) (I.ok.cab x c hfn hc)))).trans e1⟩
  ·obtain⟨o',e1⟩:=I.base.there b o e hx
   exact⟨o',(hs.2 b (Nat.ne_of_lt (Nat.lt_of_lt_of_le (Heap.lt_size e) (I.ok.cab x c hfn hc)))).trans e1⟩
  ·by_cases hj:j=i
   ·subst hj
    rw[hi]at e1;cases e1;rw[List.getElem?_set_self hiσ]at e2;cases e2;exact⟨u,r,.inr ⟨.inl hk,c,hc,hc'⟩⟩
   ·rw[List.getElem?_set_ne (Ne.symm hj)]at e2
    obtain⟨u',r',q⟩:=hl j y v' e1 e2 e3;refine⟨u',r',?_⟩;rcases q with q | ⟨k,c',e,z'⟩
    ·exact .inl q
    ·refine .inr ⟨k,c',e,z'.sameBut hs ?_⟩
     rintro rfl
     exact hj (qg hN e1 (I.ok.inj _ _ _ e hc▸hi))
  ·by_cases hcc:c'=c
   ·subst hcc;exact⟨_,hc'⟩
   ·obtain⟨w2,z2⟩:=I.cell y c' e
    exact⟨w2,z2.sameBut hs hcc⟩
  ·obtain⟨e,n,ne,nf,d⟩:=I.pin p hp
   refine⟨(hs.2 p.1 ?_).trans e,n,ne,nf,d⟩;intro q;rw[q,hoc]at e;have q':oc=p.2:=Option.some.inj e;exact d w' (by rw[<-q'];exact hocd)
theorem qz{M:Model}{A:Around}{E:Value->Shared->Prop}{i:Nat}{x:Str}{v:V}{u:Value}{Q:Unit->Shared->Prop}(I:Inv X pins σ H s)(hN:X.N.Nodup)(hi:X.N[i]?=some x)(hx:Loc X.env.scope x)(r:RelV v u)
 (h:∀s',Inv X pins (σ.set i (some v)) H s'->Q () s') (hf:X.fn x=true\/X.env.scope.names.lookup x=some .local:=by first | exact .inl rfl | exact .inr rfl | assumption):wpAny M A (storeName X.env x u) Q E s :=
 lQ I hN hi hx r (fun s' I' _=>h s' I') hf
end
noncomputable abbrev XK:=Value->Option Addr->Hp->Prop
noncomputable abbrev St:=List (Option V)
noncomputable abbrev VK:=V->Hp->Prop
noncomputable abbrev TE:=St->Hp->VK->Prop
noncomputable abbrev TT:=St->Hp->(Bool->Hp->Prop)->Prop
noncomputable abbrev TA:=St->Hp->(List V->Hp->Prop)->Prop
structure Ends where
 nx:St->Hp->Prop
 rt:VK
 bk:St->Hp->Prop:=fun _ _=>False
 ct:St->Hp->Prop:=fun _ _=>False
noncomputable abbrev TS:=Ends->St->Hp->Prop
noncomputable def EP(X:Cx)(pins:List (Addr×Obj))(σ:St)(Q:VK)(u:Value)(s':Shared):Prop:=∃v H',Inv X pins σ H' s'/\RelV v u/\Q v H'
noncomputable def TP(X:Cx)(pins:List (Addr×Obj))(σ:St)(Q:Bool->Hp->Prop)(b:Bool)(s':Shared):Prop:=∃H',Inv X pins σ H' s'/\Q b H'
noncomputable def AP(X:Cx)(pins:List (Addr×Obj))(σ:St)(Q:List V->Hp->Prop)(us:List Value)(s':Shared):Prop:=∃vs H',Inv X pins σ H' s'/\Vals vs us/\Q vs H'
noncomputable def SP(X:Cx)(pins:List (Addr×Obj))(D:Ends)(f:Flow)(s':Shared):Prop :=
 match f with
 | .next=>∃σ' H',Inv X pins σ' H' s'/\D.nx σ' H'
 | .brk=>∃σ' H',Inv X pins σ' H' s'/\D.bk σ' H'
 | .cont=>∃σ' H',Inv X pins σ' H' s'/\D.ct σ' H'
 | .ret u=>∃v σ' H',Inv X pins σ' H' s'/\RelV v u/\D.rt v H'
noncomputable def PE(X:Cx)(e:Expr)(t:TE):Prop :=
 ∀(pins:List (Addr×Obj)) (s:Shared) (σ:St) (H:Hp) (Q:VK),Inv X pins σ H s->t σ H Q->wpAny (model X.prog X.w) X.A (eval e X.env) (EP X pins σ Q) X.xe s
noncomputable def PT(X:Cx)(e:Expr)(t:TT):Prop :=
 ∀(pins:List (Addr×Obj)) (s:Shared) (σ:St) (H:Hp) (Q:Bool->Hp->Prop),Inv X pins σ H s->t σ H Q->wpAny (model X.prog X.w) X.A (isTrue e X.env (eval e X.env)) (TP X pins σ Q) X.xe s
noncomputable def PW(X:Cx)(e:Expr)(t:TT):Prop :=
 ∀(whole:Sem Value) (pins:List (Addr×Obj)) (s:Shared) (σ:St) (H:Hp) (Q:Bool->Hp->Prop),Inv X pins σ H s->t σ H Q->wpAny (model X.prog X.w) X.A (isTrue e X.env whole) (TP X pins σ Q) X.xe s
theorem PW.pt{X:Cx}{e:Expr}{t:TT}(h:PW X e t):PT X e t:=h _
noncomputable def PA(X:Cx)(es:List Expr)(t:TA):Prop :=
 ∀(pos:Pos) (pins:List (Addr×Obj)) (s:Shared) (σ:St) (H:Hp) (Q:List V->Hp->Prop),Inv X pins σ H s->t σ H Q->wpAny (model X.prog X.w) X.A (spliced (backTo pos (starEach es X.env))) (AP X pins σ Q) X.xe s
noncomputable def PS(X:Cx)(st:Stmt)(t:TS):Prop :=
 ∀(pins:List (Addr×Obj)) (s:Shared) (σ:St) (H:Hp) (D:Ends),Inv X pins σ H s->t D σ H->wpAny (model X.prog X.w) X.A (exec st X.env) (SP X pins D) X.xe s
noncomputable def PSs(X:Cx)(st:List Stmt)(t:TS):Prop :=
 ∀(pins:List (Addr×Obj)) (s:Shared) (σ:St) (H:Hp) (D:Ends),Inv X pins σ H s->t D σ H->wpAny (model X.prog X.w) X.A (execs st X.env) (SP X pins D) X.xe s
theorem thn{α:Type}{t:Sem α}{Q Q':α->Shared->Prop}{M:Model}{A:Around}{E:Value->Shared->Prop}{s:Shared}(h:wpAny M A t Q E s)(hQ:∀a s,Q a s->Q' a s):wpAny M A t Q' E s:=wpAny_mono h hQ fun _ _ x=>x
end L2
namespace L2
open PySem PySem.Spec PyProof.Rows
section
variable{X:Cx}
noncomputable def tVar(i:Nat):TE:=fun σ H Q=>∃v,σ[i]?=some (some v)/\Q v H
noncomputable def tC(v:V):TE:=fun _ H Q=>Q v H
theorem jt{i:Nat}{x:Str}{pos:Pos}(hN:X.N[i]?=some x)(hv:Vis X.env.scope x)(hd:(x==("__debug__":Str))=false:=by decide)(hcd:(x==("__classdict__":Str))=false:=by decide):PE X (.Name x pos) (tVar i):=by
 intro pins s σ H Q I h;obtain⟨v,e,h⟩:=h;obtain⟨m,hn,hl⟩:=I.loc;obtain⟨u,r,l⟩:=hl i x v hN e hv
 have fin:EP X pins σ Q u s:=⟨v,H,I,r,h⟩
 rcases l with⟨hk,hm⟩ | ⟨hk,c,hc,hcell⟩
 ·exact wpAny_Name (wpAny_loadName_local I.ok.kind hk hn hm fin) hd
 ·rcases hk with hk | hk
  ·exact wpAny_Name (wpAny_loadName_cell I.ok.kind hk hc hcell fin) hd
  ·exact wpAny_Name (wpAny_loadName_free I.ok.kind hk hc hcell fin hcd) hd
theorem HB{i j pos}:PE X (.Constant (.int i) j pos) (tC (.int i)):=fun _ _ _ H _ I h=>wpAny_Constant_int ⟨.int i,H,I.tok _,⟨_,rfl⟩,h⟩
theorem O5{b j pos}:PE X (.Constant (.bool b) j pos) (tC (.bl b)):=fun _ _ _ H _ I h=>Constant_bool ⟨.bl b,H,I,rfl,h⟩
theorem JS{j pos}:PE X (.Constant .none j pos) (tC .non):=fun _ _ _ H _ I h=>Constant_none ⟨.non,H,I,rfl,h⟩
theorem Jq{x j pos}:PE X (.Constant (.str x) j pos) (tC (.str x)):=fun _ _ _ H _ I h=>Calls.Constant_str ⟨.str x,H,I.tok _,⟨_,rfl⟩,h⟩
noncomputable def Gl(X:Cx)(x:Str):Prop:=X.env.kindOf x=some .globalImplicit
theorem lJ{E:Value->Shared->Prop}{pins:List (Addr×Obj)}{s:Shared}{σ:St}{H:Hp}{x:Str}{u:Value}{pos:Pos}{Q:Value->Shared->Prop}(I:Inv X pins σ H s)(hg:Gl X x)(hm:X.mg x=some u)(h:Q u s)
 (hd:(x==("__debug__":Str))=false:=by decide):wpAny (model X.prog X.w) X.A (eval (.Name x pos) X.env) Q E s :=
 Calls.Name_function_global I.ok.kind hg (Calls.loadGlobal_global (by rw[I.ok.glob];exact I.mod.glob.keeps I.bk) hm h) hd
theorem qW{E:Value->Shared->Prop}{pins:List (Addr×Obj)}{s:Shared}{σ:St}{H:Hp}{x:Str}{u:Value}{pos:Pos}{Q:Value->Shared->Prop}(I:Inv X pins σ H s)(hg:Gl X x)(hm:X.mg x=none)(hv:bootBuiltins x=some u)(h:Q u s)
 (hn:x≠"__name__":=by decide) (hd:(x==("__debug__":Str))=false:=by decide):wpAny (model X.prog X.w) X.A (eval (.Name x pos) X.env) Q E s:=by
 obtain⟨mb,h1,h2⟩:=I.mod.blt;exact Calls.Name_function_global I.ok.kind hg (Calls.loadGlobal_builtin (by rw[I.ok.glob];exact I.mod.glob.keeps I.bk) hm (by rw[I.ok.blt];exact h1.keeps I.bk) ((h2 x hn).trans hv) h) hd
theorem G6{x:Str}{v:V}{u:Value}{pos:Pos}(hg:Gl X x)(hm:X.mg x=some u)(r:RelV v u)(hd:(x==("__debug__":Str))=false:=by decide):PE X (.Name x pos) (tC v) :=
 fun _ _ _ H _ I h=>lJ I hg hm ⟨v,H,I,r,h⟩ hd
theorem Cu{x:Str}{v:V}{u:Value}{pos:Pos}(hg:Gl X x)(hm:X.mg x=none)(hv:bootBuiltins x=some u)(r:RelV v u)(hn:x≠"__name__":=by decide)(hd:(x==("__debug__":Str))=false:=by decide):PE X (.Name x pos) (tC v) :=
 fun _ _ _ H _ I h=>qW I hg hm hv ⟨v,H,I,r,h⟩ hn hd
variable{a b:Expr}{ta tb:TE}{pos:Pos}
noncomputable def PC(X:Cx)(op:CmpOp)(a b:Expr)(t:TE):Prop :=
 ∀(pins:List (Addr×Obj)) (s:Shared) (σ:St) (H:Hp) (Q:VK),Inv X pins σ H s->t σ H Q ->
  wpAny (model X.prog X.w) X.A (eval a X.env) (fun v s₁=>wpAny (model X.prog X.w) X.A (eval b X.env) (fun u s₂=>wpAny (model X.prog X.w) X.A (compareOp op v u) (EP X pins σ Q) X.xe s₂) X.xe s₁) X.xe s
noncomputable def tB(t:TE):TT:=fun σ H Q=>t σ H fun x H1=>∃c,x=.bl c/\Q c H1
theorem Ay{op:CmpOp}{t:TE}(h:PC X op a b t)(h1:behindInMarks op b=false:=by first | exact nobehind _ (by decide) (by decide) | rfl):PE X (.Compare a [op] [b] pos) t:=fun pins s σ H Q I hw=>wpAny_Compare1 (h pins s σ H Q I hw) h1
theorem Ax{op:CmpOp}{t:TE}(h:PC X op a b t)(h1:behindInMarks op b=false:=by first | exact nobehind _ (by decide) (by decide) | rfl):PT X (.Compare a [op] [b] pos) (tB t):=by
 intro pins s σ H Q I hw;refine wpAny_isTrue_Compare1 (thn (h pins s σ H _ I hw) fun v s1 h1=>thn h1 fun u s2 h2=>thn h2 fun c s3 ⟨x,H1,I1,r1,q1⟩=>?_) h1;obtain⟨d,rfl,q⟩:=q1;cases r1;exact wpAny_truthy_bool ⟨H1,I1,q⟩
variable{tA tB':TT}{rest:List Expr}
noncomputable def tAnd(t u:TT):TT:=fun σ H Q=>t σ H fun c H1=>if c=true then u σ H1 Q else Q false H1
noncomputable def tOr(t u:TT):TT:=fun σ H Q=>t σ H fun c H1=>if c=true then Q true H1 else u σ H1 Q
noncomputable def tNot(t:TT):TT:=fun σ H Q=>t σ H fun c H1=>Q (!c) H1
theorem Gw(ha:PT X a tA):PW X (.BoolOp .And [a] pos) tA:=by
 intro wh pins s σ H Q I h;refine isTrue_and (thn (ha pins s σ H Q I h) fun c s1 e=>?_)
 cases c with
 | true=>exact isTrue_and_nil e
 | false=>exact e
theorem JT(ha:PT X a tA):PW X (.BoolOp .Or [a] pos) tA:=by
 intro wh pins s σ H Q I h;refine isTrue_or (thn (ha pins s σ H Q I h) fun c s1 e=>?_)
 cases c with
 | false=>exact isTrue_or_nil e
 | true=>exact e
theorem Kd(ha:PT X a tA)(hb:PW X (.BoolOp .And (b::rest) pos) tB'):PW X (.BoolOp .And (a::b::rest) pos) (tAnd tA tB'):=by
 intro wh pins s σ H Q I h;refine isTrue_and (thn (ha pins s σ H _ I h) fun c s1 ⟨H1,I1,q1⟩=>?_)
 cases c with
 | true=>exact hb wh pins s1 σ H1 Q I1 q1
 | false=>exact⟨H1,I1,q1⟩
theorem M4(ha:PT X a tA)(hb:PW X (.BoolOp .Or (b::rest) pos) tB'):PW X (.BoolOp .Or (a::b::rest) pos) (tOr tA tB'):=by
 intro wh pins s σ H Q I h;refine isTrue_or (thn (ha pins s σ H _ I h) fun c s1 ⟨H1,I1,q1⟩=>?_)
 cases c with
 | true=>exact⟨H1,I1,q1⟩
 | false=>exact hb wh pins s1 σ H1 Q I1 q1
theorem Jm(ha:PT X a tA):PT X (.UnaryOp .Not a pos) (tNot tA):=by
 intro pins s σ H Q I h;exact isTrue_not (ha pins s σ H (fun c H1=>Q (!c) H1) I h)
noncomputable def Ms(ta tb:TE):TE:=fun σ H Q=>ta σ H fun x H1=>∃c,x=.bl c/\if c=true then tb σ H1 Q else Q (.bl false) H1
noncomputable def tOrV(ta tb:TE):TE:=fun σ H Q=>ta σ H fun x H1=>∃c,x=.bl c/\if c=true then Q (.bl true) H1 else tb σ H1 Q
theorem JL{op}{t:TE}(h:PE X a t):PE X (.BoolOp op [a] pos) t:=fun pins s σ H Q I hw=>BoolOp_one (h pins s σ H Q I hw)
theorem Kw(ha:PE X a ta)(hb:PE X (.BoolOp .And (b::rest) pos) tb):PE X (.BoolOp .And (a::b::rest) pos) (Ms ta tb):=by
 intro pins s σ H Q I h;refine BoolOp_and (thn (ha pins s σ H _ I h) fun v s1 ⟨x,H1,I1,r1,q1⟩=>?_);obtain⟨c,rfl,q1⟩:=q1;cases r1;refine wpAny_truthy_bool ?_
 cases c with
 | true=>exact hb pins s1 σ H1 Q I1 q1
 | false=>exact⟨.bl false,H1,I1,rfl,q1⟩
theorem Nu(ha:PE X a ta)(hb:PE X (.BoolOp .Or (b::rest) pos) tb):PE X (.BoolOp .Or (a::b::rest) pos) (tOrV ta tb):=by
 intro pins s σ H Q I h;refine BoolOp_or (thn (ha pins s σ H _ I h) fun v s1 ⟨x,H1,I1,r1,q1⟩=>?_);obtain⟨c,rfl,q1⟩:=q1;cases r1;refine wpAny_truthy_bool ?_
 cases c with
 | false=>exact hb pins s1 σ H1 Q I1 q1
 | true=>exact⟨.bl true,H1,I1,rfl,q1⟩
end
end L2
namespace L2
open PySem PySem.Spec PyProof.Rows
noncomputable def SqL(K:PySem.W.Frag)(H:Hp)(a:Addr)(xs:List V):Prop :=
 Rd H a (.lst xs) \/
  ∃(o:Obj) (its:Array Value) (n:Nat),K.lookup a=some o/\o.cls=.type "list"/\o.dict=none/\o.data=.seq its n/\its.size<=sizeLine/\Vals xs its.toList
noncomputable def SqT(K:PySem.W.Frag)(H:Hp)(a:Addr)(xs:List V):Prop :=
 Rd H a (.tup xs) \/
  ∃(o:Obj) (its:Array Value) (n:Nat),K.lookup a=some o/\o.cls=.type "tuple"/\o.data=.seq its n/\its.size<=sizeLine/\Vals xs its.toList
noncomputable def absV:Value->Option V
 | .none=>some .non
 | .bool b=>some (.bl b)
 | .int i _=>some (.int i)
 | .str x _=>some (.str x)
 | .bytes b _=>some (.byt b)
 | .float b _=>some (.flt b)
 | .ref a=>some (.ref a)
 | .type n=>some (.ty n)
 | _=>none
theorem RelV.abs{x:V}{u:Value}(r:RelV x u):absV u=some x:=by
 cases x with
 | non=>cases r;rfl
 | bl _=>cases r;rfl
 | int _=>obtain⟨t,rfl⟩:=r;rfl
 | str _=>obtain⟨t,rfl⟩:=r;rfl
 | byt _=>obtain⟨t,rfl⟩:=r;rfl
 | flt _=>obtain⟨t,rfl⟩:=r;rfl
 | ref _=>cases r;rfl
 | ty _=>cases r;rfl
theorem RelV.inj{x y:V}{u:Value}(r:RelV x u)(q:RelV y u):x=y:=Option.some.inj (r.abs.symm.trans q.abs)
theorem Vals.inj:∀{xs ys:List V} {us:List Value},Vals xs us->Vals ys us->xs=ys
 | _,_,_,.nil,.nil=>rfl
 | _,_,_,.cons r t,.cons r' t'=>by rw[r.inj r',Vals.inj t t']
section
variable{X:Cx}{pins:List (Addr×Obj)}{σ:St}{H:Hp}{s:Shared}{a:Addr}{xs ys:List V}
theorem SqL.of{K:PySem.W.Frag}(h:H a=some (.lst xs)):SqL K H a xs:=.inl (.inl h)
theorem Inv.list(I:Inv X pins σ H s)(h:SqL X.K H a xs):∃its:List Value,Vals xs its/\PlainL s.heap a its.toArray/\xs.length<=sizeLine:=by
 rcases h with h | ⟨o,its,n,hk,hc,hd,hs,hz,r⟩
 ·obtain⟨z,its,n,r,e⟩:=h.ok I.hok
  exact⟨its,r,⟨_,n,e,rfl,rfl,rfl⟩,z⟩
 ·refine⟨its.toList,r,⟨o,n,I.kIn a o hk,hc,hd,by simpa using hs⟩,?_⟩
  have e:=r.length;simp only[Array.length_toList]at e;omega
theorem Inv.tuple(I:Inv X pins σ H s)(h:SqT X.K H a xs):∃its:List Value,Vals xs its/\IsTup s.heap a its.toArray/\xs.length<=sizeLine:=by
 rcases h with h | ⟨o,its,n,hk,hc,hs,hz,r⟩
 ·obtain⟨z,its,r,p⟩:=h.ok I.hok
  exact⟨its,r,p,z⟩
 ·refine⟨its.toList,r,⟨o,I.kIn a o hk,hc,n,by simpa using hs⟩,?_⟩
  have e:=r.length;simp only[Array.length_toList]at e;omega
theorem Inv.list_inj(I:Inv X pins σ H s)(h:SqL X.K H a xs)(h':SqL X.K H a ys):xs=ys:=by
 obtain⟨its,r,⟨o,n,e,_,_,d⟩,_⟩:=I.list h;obtain⟨its',r',⟨o',n',e',_,_,d'⟩,_⟩:=I.list h';rw[e]at e';cases e';rw[d]at d';injection d' with d1 _
 have:its=its':=by simpa using congrArg Array.toList d1
 subst this;exact r.inj r'
theorem Inv.tuple_inj(I:Inv X pins σ H s)(h:SqT X.K H a xs)(h':SqT X.K H a ys):xs=ys:=by
 obtain⟨its,r,⟨o,e,_,n,d⟩,_⟩:=I.tuple h;obtain⟨its',r',⟨o',e',_,n',d'⟩,_⟩:=I.tuple h';rw[e]at e';cases e';rw[d]at d';injection d' with d1 _
 have:its=its':=by simpa using congrArg Array.toList d1
 subst this;exact r.inj r'
end
noncomputable abbrev Cx.wish(X:Cx)(E:Value->Shared->Prop):Cx:={ X with xe:=E }
noncomputable abbrev Cx.nox(X:Cx):Cx:=X.wish fun _ _=>False
theorem Cx.Ok.wish{X:Cx}(ok:X.Ok)(E:Value->Shared->Prop):(X.wish E).Ok :=
 ⟨ok.mod,ok.kind,ok.glob,ok.blt,ok.above,ok.inj,ok.has,ok.cab,ok.hd,ok.frames,ok.stk,ok.exf,ok.bs,ok.bsz,ok.noex,ok.exfs,ok.funs,ok.frf⟩
theorem Cx.Ok.unwish{X:Cx}{E:Value->Shared->Prop}(ok:(X.wish E).Ok):X.Ok :=
 ⟨ok.mod,ok.kind,ok.glob,ok.blt,ok.above,ok.inj,ok.has,ok.cab,ok.hd,ok.frames,ok.stk,ok.exf,ok.bs,ok.bsz,ok.noex,ok.exfs,ok.funs,ok.frf⟩
section
variable{X:Cx}{pins:List (Addr×Obj)}{σ:St}{H:Hp}{s:Shared}{E:Value->Shared->Prop}
theorem Inv.wish(I:Inv X pins σ H s)(E:Value->Shared->Prop):Inv (X.wish E) pins σ H s:=⟨I.ok.wish E,I.os,I.bare,I.base,I.loc,I.cell,I.free,I.freeC,I.pin,I.hok,I.len⟩
theorem Inv.unwish(I:Inv (X.wish E) pins σ H s):Inv X pins σ H s:=⟨I.ok.unwish,I.os,I.bare,I.base,I.loc,I.cell,I.free,I.freeC,I.pin,I.hok,I.len⟩
theorem SP.unwish{D:Ends}{f:Flow}{s':Shared}(h:SP (X.wish E) pins D f s'):SP X pins D f s':=by
 cases f with
 | next=>obtain⟨σ',H',I,q⟩:=h;exact⟨σ',H',I.unwish,q⟩
 | brk=>obtain⟨σ',H',I,q⟩:=h;exact⟨σ',H',I.unwish,q⟩
 | cont=>obtain⟨σ',H',I,q⟩:=h;exact⟨σ',H',I.unwish,q⟩
 | ret u=>obtain⟨v,σ',H',I,r,q⟩:=h;exact⟨v,σ',H',I.unwish,r,q⟩
theorem PE.nox{e:Expr}{t:TE}(h:PE X.nox e t):PE X e t:=fun pins s σ H Q I hw=>
 wpAny_mono (h pins s σ H Q (I.wish _) hw) (fun _ _ ⟨v,H',I',r,q⟩=>⟨v,H',I'.unwish,r,q⟩) fun _ _ z=>False.elim z
theorem PT.nox{e:Expr}{t:TT}(h:PT X.nox e t):PT X e t:=fun pins s σ H Q I hw=>
 wpAny_mono (h pins s σ H Q (I.wish _) hw) (fun _ _ ⟨H',I',q⟩=>⟨H',I'.unwish,q⟩) fun _ _ z=>False.elim z
end
section
variable{X:Cx}{st:Stmt}{rest:List Stmt}{t u:TS}{e:Expr}{te:TE}{pos:Pos}
noncomputable def HX:TS:=fun D σ H=>D.nx σ H
noncomputable def tSeq(t u:TS):TS:=fun D σ H=>t { D with nx:=u D } σ H
theorem Gh:PSs X [] HX:=fun _ _ σ H _ I h=>wpAny_execs_nil ⟨σ,H,I,h⟩
theorem yM(h1:PS X st t)(h2:PSs X rest u):PSs X (st::rest) (tSeq t u):=by
 intro pins s σ H D I h;refine wpAny_execs_cons (thn (h1 pins s σ H { D with nx:=u D } I h) fun f s1 q=>?_)
 cases f with
 | next=>
   obtain⟨σ',H',I',q⟩:=q;exact h2 pins s1 σ' H' D I' q
 | ret v=>exact q
 | brk=>exact q
 | cont=>exact q
noncomputable def Jc:TS:=fun D σ H=>D.bk σ H
noncomputable def Li:TS:=fun D σ H=>D.ct σ H
theorem GK:PS X (.Pass pos) HX:=fun _ _ σ H _ I h=>wpAny_Pass ⟨σ,H,I,h⟩
theorem zm:PS X (.Break pos) Jc:=fun _ _ σ H _ I h=>wpAny_Break ⟨σ,H,I,h⟩
theorem oH:PS X (.Continue pos) Li:=fun _ _ σ H _ I h=>wpAny_Continue ⟨σ,H,I,h⟩
theorem Inv.quiet{pins:List (Addr×Obj)}{σ:St}{H:Hp}{s:Shared}(I:Inv X pins σ H s):interactive X.env=false:=by simp[interactive,I.ok.kind]
noncomputable def Lg(te:TE):TS:=fun D σ H=>te σ H fun _ H1=>D.nx σ H1
theorem pN(he:PE X e te)(hs:swapsWith e none pos.line X.env=pure false:=by rfl):PS X (.Expr e pos) (Lg te):=by
 intro pins s σ H D I h;exact wpAny_Expr_any (thn (he pins s σ H _ I h) fun v s1 ⟨x,H1,I1,r1,q1⟩=>⟨σ,H1,I1,q1⟩) I.quiet hs
noncomputable def tRet(te:TE):TS:=fun D σ H=>te σ H D.rt
theorem BP(he:PE X e te):PS X (.Return (some e) pos) (tRet te):=by
 intro pins s σ H D I h;exact wpAny_Return_some (thn (he pins s σ H _ I h) fun v s1 ⟨x,H1,I1,r1,q1⟩=>⟨x,σ,H1,I1,r1,q1⟩)
noncomputable def Nh:TS:=fun D _ H=>D.rt .non H
theorem Ds:PS X (.Return none pos) Nh:=fun _ _ σ H _ I h=>wpAny_Return_none ⟨.non,σ,H,I,rfl,h⟩
noncomputable def tIfS(c:TT)(t u:TS):TS:=fun D σ H=>c σ H fun b H1=>if b=true then t D σ H1 else u D σ H1
theorem Ij{c:Expr}{a b:List Stmt}{tc:TT}(hc:PT X c tc)(ha:PSs X a t)(hb:PSs X b u):PS X (.If c a b pos) (tIfS tc t u):=by
 intro pins s σ H D I h;refine wpAny_If (thn (hc pins s σ H _ I h) fun d s1 ⟨H1,I1,q1⟩=>?_)
 cases d with
 | true=>exact ha pins s1 σ H1 D I1 q1
 | false=>exact hb pins s1 σ H1 D I1 q1
end
noncomputable abbrev TG:=V->St->Hp->(St->Hp->Prop)->Prop
noncomputable abbrev TGs:=List V->St->Hp->(St->Hp->Prop)->Prop
noncomputable def PG(X:Cx)(target:Expr)(t:TG):Prop :=
 ∀(pins:List (Addr×Obj)) (s:Shared) (σ:St) (H:Hp) (v:V) (u:Value) (Q:St->Hp->Prop),Inv X pins σ H s->RelV v u->t v σ H Q ->
  wpAny (model X.prog X.w) X.A (assign target X.env u) (fun _ s'=>∃σ' H',Inv X pins σ' H' s'/\Q σ' H') X.xe s
noncomputable def PGs(X:Cx)(ts:List Expr)(t:TGs):Prop :=
 ∀(pins:List (Addr×Obj)) (s:Shared) (σ:St) (H:Hp) (vs:List V) (us:List Value) (Q:St->Hp->Prop),Inv X pins σ H s->Vals vs us->t vs σ H Q ->
  wpAny (model X.prog X.w) X.A (assignInOrder ((assignEach ts X.env).map (·.2)) us) (fun _ s'=>∃σ' H',Inv X pins σ' H' s'/\Q σ' H') X.xe s
noncomputable abbrev TSet:=V->V->V->Hp->(Hp->Prop)->Prop
noncomputable def PSet(X:Cx)(t:TSet):Prop :=
 ∀(pins:List (Addr×Obj)) (s:Shared) (σ:St) (H:Hp) (o i v:V) (ov iv u:Value) (Q:Hp->Prop),Inv X pins σ H s->RelV o ov->RelV i iv->RelV v u->t o i v H Q ->
  wpAny (model X.prog X.w) X.A (setItem ov iv u) (fun _ s'=>∃H',Inv X pins σ H' s'/\Q H') X.xe s
section
variable{X:Cx}{pos:Pos}
noncomputable def tG(i:Nat):TG:=fun v σ H Q=>Q (σ.set i (some v)) H
theorem lB{i:Nat}{x:Str}(hN:X.N.Nodup)(hi:X.N[i]?=some x)(hx:Loc X.env.scope x)(hf:X.fn x=true\/X.env.scope.names.lookup x=some .local:=by first | exact .inl rfl | exact .inr rfl | assumption):PG X (.Name x pos) (tG i):=by
 intro pins s σ H v u Q I r h;exact wpAny_assign_Name (qz I hN hi hx r (fun s' I'=>⟨_,H,I',h⟩) hf)
noncomputable def gNil:TGs:=fun vs σ H Q=>vs=[]/\Q σ H
noncomputable def Jj(t:TG)(u:TGs):TGs:=fun vs σ H Q=>∃v r,vs=v::r/\t v σ H fun σ' H'=>u r σ' H' Q
theorem xO:PGs X [] gNil:=by
 intro pins s σ H vs us Q I r h;obtain⟨e,h⟩:=h;subst e;cases r;exact assignInOrder_nil ⟨σ,H,I,h⟩
theorem rE{e:Expr}{es:List Expr}{t:TG}{u:TGs}(h1:PG X e t)(h2:PGs X es u)
 (hs:(assignEach (e::es) X.env).map (·.2)=assign e X.env::(assignEach es X.env).map (·.2):=by rfl):PGs X (e::es) (Jj t u):=by
 intro pins s σ H vs us Q I r h;obtain⟨v,vr,e1,h⟩:=h;subst e1
 cases r with
 | cons r rr=>
   rw[hs];refine assignInOrder_cons (thn (h1 pins s σ H _ _ _ I r h) fun _ s1 ⟨σ1,H1,I1,q1⟩=>?_);exact h2 pins s1 σ1 H1 _ _ Q I1 rr q1
noncomputable def gTup(K:PySem.W.Frag)(n:Nat)(t:TGs):TG:=fun v σ H Q=>∃a xs,v=.ref a/\SqT K H a xs/\xs.length=n/\t xs σ H Q
theorem Cd{es:List Expr}{k:Nat}{t:TGs}{n:Nat}(hc:X.calm=true)(h:PGs X es t)
 (hn:(assignEach es X.env).length=n:=by rfl) (hst:(assignEach es X.env).findIdx? (·.1)=none:=by rfl):PG X (.Tuple es k pos) (gTup X.K n t):=by
 intro pins s σ H v u Q I r hw;obtain⟨a,xs,e1,hq,hl,hw⟩:=hw;subst e1;cases r;obtain⟨its,rv,ht,hz⟩:=I.tuple hq
 refine assign_Tuple_tuple (I.ok.hd hc) ht (by simp[hn,<-hl,rv.length]) hst fun h' hx=>?_
 have I1:Inv X pins σ H { s with heap:=h' }:=I.kept (t':=s.toks) fun b o e=>hx b o (Nat.ne_of_lt (Heap.lt_size e)) e
 exact h pins _ σ H xs _ Q I1 (by simpa using rv) hw
noncomputable def gSub(to ti:TE)(t:TSet):TG:=fun v σ H Q=>to σ H fun o H1=>ti σ H1 fun i H2=>t o i v H2 fun H3=>Q σ H3
theorem Ja{o i:Expr}{to ti:TE}{t:TSet}(ho:PE X o to)(hi:PE X i ti)(hs:PSet X t)
 (ha:∀v,assign (.Subscript o i pos) X.env v=(do
  let ov <-holding [v] (eval o X.env)
  let iv <-holding [v,ov] (eval i X.env)
  standAt pos
  holding [v,ov,iv] (setItem ov iv v)
  release [v,ov,iv] []):=by intro _;rfl):PG X (.Subscript o i pos) (gSub to ti t):=by
 intro pins s σ H v u Q I r h;rw[ha];refine wpAny_bind (wpAny_holding (thn (ho pins s σ H _ I h) fun ov s1 ⟨x,H1,I1,r1,q1⟩=>?_));refine wpAny_bind (wpAny_holding (thn (hi pins s1 σ H1 _ I1 q1) fun iv s2 ⟨y,H2,I2,r2,q2⟩=>?_));refine wpAny_bind (wpAny_standAt (wpAny_bind (wpAny_holding (thn (hs pins s2 σ H2 x y v ov iv u _ I2 r1 r2 r q2) fun _ s3 ⟨H3,I3,q3⟩=>?_))));exact wpAny_release ⟨σ,H3,I3,q3⟩
noncomputable def tAsg(te:TE)(g:TG):TS:=fun D σ H=>te σ H fun x H1=>g x σ H1 D.nx
theorem KD{tg e:Expr}{te:TE}{g:TG}(he:PE X e te)(hg:PG X tg g)(hs:swapsWithSole [tg] e pos.line X.env=pure false:=by rfl)(hw:swappedStores [tg] e X.env=pure none:=by rfl)
 (h1:(assignEach [tg] X.env).map (·.2)=[assign tg X.env]:=by rfl):PS X (.Assign [tg] e pos) (tAsg te g):=by
 intro pins s σ H D I h;refine wpAny_Assign_stores (thn (he pins s σ H _ I h) fun v s1 ⟨x,H1,I1,r1,q1⟩=>?_) hs hw;rw[h1]
 exact thn (hg pins s1 σ H1 x v _ I1 r1 q1) fun _ s2 q=>q
theorem JG{i:Nat}{x:Str}{e:Expr}{te:TE}{pos':Pos}(hN:X.N.Nodup)(hi:X.N[i]?=some x)(hx:Loc X.env.scope x)(he:PE X e te)(hs:swapsWith e (some (.Name x pos')) pos.line X.env=pure false:=by rfl)(hf:X.fn x=true\/X.env.scope.names.lookup x=some .local:=by first | exact .inl rfl | exact .inr rfl | assumption) :
 PS X (.Assign [.Name x pos'] e pos) (tAsg te (tG i)):=by
 intro pins s σ H D I h;refine wpAny_Assign_Name (thn (he pins s σ H _ I h) fun v s1 ⟨y,H1,I1,r1,q1⟩=>?_) hs;exact qz I1 hN hi hx r1 (fun s2 I2=>⟨_,H1,I2,q1⟩) hf
end
section
variable{X:Cx}{pos:Pos}
end
structure It where
 go:Nat->Hp->Prop
 yld:Nat->Hp->V->Hp->Prop
 stop:Nat->Hp->Prop
noncomputable def FpOk(X:Cx)(pins:List (Addr×Obj))(H:Hp)(b:Addr):Prop :=
 H b=none/\b≠X.env.locals/\b∉X.fs/\(b∈X.ex\/X.s₀.heap.objs.size<=b)/\(∀x c,X.env.cells.lookup x=some c->c≠b)/\∀p∈X.pn++pins,p.1≠b
theorem Inv.fpOk{X:Cx}{pins:List (Addr×Obj)}{σ:St}{H H':Hp}{s:Shared}{b:Addr}(I:Inv X pins σ H s)(hb:s.heap.objs.size<=b)(hn:H' b=none):FpOk X pins H' b:=by
 refine⟨hn,Nat.ne_of_gt (Nat.lt_of_lt_of_le I.lt hb),I.nofs hb,.inr (Nat.le_trans I.sz hb),fun x c e z=>?_,fun p hp z=>?_⟩
 ·obtain⟨v,q⟩:=I.cell x c e
  exact absurd (Nat.lt_of_lt_of_le q.lt (by rw[z];exact hb)) (Nat.lt_irrefl _)
 ·exact absurd (Nat.lt_of_lt_of_le (Heap.lt_size (I.pin p hp).1) (by rw[z];exact hb)) (Nat.lt_irrefl _)
structure Turn(P:Program)(w:World)(K:PySem.W.Frag)(tg:Expr)(J:It)(fp:List Addr)(it:Addr)(tn:Nat->Heap->Prop):Prop where
 mem:it∈fp
 obj:∀i h,tn i h->∀b∈fp,∃o,h.get? b=some o/\∀v,o.data≠.cell v
 keep:∀i h h',tn i h->(∀b∈fp,∀o,h.get? b=some o->h'.get? b=some o)->tn i h'
 item:∀(X:Cx),X.prog=P->X.w=w->X.K=K->X.calm=true->∀(i:Nat) (pins:List (Addr×Obj)) (s:Shared) (σ:St) (H:Hp) (E:Value->Shared->Prop),Inv X pins σ H s->(∀b∈fp,FpOk X pins H b)->tn i s.heap->J.go i H ->
  wpAny (model P w) X.A (pyNext (.ref it)) (fun r s1=>∃u,r=some u /\
   wpAny (model P w) X.A (letOwnedTupleGo tg (.ref it) u) (fun _ s2=>∃x H',Inv X pins σ H' s2/\RelV x u/\J.yld i H x H'/\tn (i+1) s2.heap/\∀b∈fp,H' b=none) E s1) E s
 done:∀(X:Cx),X.prog=P->X.w=w->X.K=K->X.calm=true->∀(i:Nat) (pins:List (Addr×Obj)) (s:Shared) (σ:St) (H:Hp) (E:Value->Shared->Prop),Inv X pins σ H s->(∀b∈fp,FpOk X pins H b)->tn i s.heap->J.stop i H ->
  wpAny (model P w) X.A (pyNext (.ref it)) (fun r s1=>r=none/\Inv X pins σ H s1) E s
 self:∀(A:Around) (i:Nat) (s:Shared) (Q:Value->Shared->Prop) (E:Value->Shared->Prop),tn i s.heap->Q (.ref it) s->wpAny (model P w) A (pyIter (.ref it)) Q E s
noncomputable abbrev TI:=St->Hp->(It->Hp->Prop)->Prop
noncomputable def PIE(X:Cx)(pins:List (Addr×Obj))(σ:St)(tg:Expr)(R:It->Hp->Prop)(itv:Value)(s2:Shared):Prop :=
 ∃(it:Addr) (fp:List Addr) (tn:Nat->Heap->Prop) (J:It) (H':Hp),itv=.ref it/\Inv X pins σ H' s2/\Turn X.prog X.w X.K tg J fp it tn/\tn 0 s2.heap/\(∀b∈fp,FpOk X pins H' b)/\R J H'
noncomputable def PI(X:Cx)(tg iter:Expr)(wi:TI):Prop :=
 ∀(pins:List (Addr×Obj)) (s:Shared) (σ:St) (H:Hp) (R:It->Hp->Prop),Inv X pins σ H s->wi σ H R ->
  wpAny (model X.prog X.w) X.A (eval iter X.env) (fun v s1=>wpAny (model X.prog X.w) X.A (pyIter v) (PIE X pins σ tg R) X.xe s1) X.xe s
theorem xx{M:Model}{A:Around}{E:Value->Shared->Prop}{s:Shared}{tg:Expr}{it:Addr}{u:Value}{o:Obj}{n:String}{vs:Array Value}{Q:Unit->Shared->Prop}(ho:s.heap.get? it=some o)(hc:o.cls=.type n)(hd:o.data=.fields vs)
 (hn:["enumerate","zip","dict_itemiterator","dict_reverseitemiterator","odict_iterator","itertools.zip_longest","itertools.pairwise"].contains n=false) (hQ:Q () s):wpAny M A (letOwnedTupleGo tg (.ref it) u) Q E s:=by
 unfold letOwnedTupleGo
 cases tg<;>first
  | exact wpAny_pure hQ
  | (cases u<;>first
   | exact wpAny_pure hQ
   | (refine wpAny_bind (wpAny_load ho ?_)
      rw[hc,hd];show wpAny M A (if(["enumerate","zip","dict_itemiterator","dict_reverseitemiterator","odict_iterator","itertools.zip_longest","itertools.pairwise"].contains n&&vs[0]?==some (rawInt _))=true then _ else _) Q E s;rw[if_neg (by intro h;rw[hn,Bool.false_and]at h;cases h)]
      exact wpAny_pure hQ))
noncomputable def Itl(K:PySem.W.Frag)(a:Addr):It :=
 ⟨fun i H=>∃xs x,SqL K H a xs/\xs[i]?=some x,fun i H x H'=>H'=H/\∀xs,SqL K H a xs->xs[i]?=some x,fun i H=>∃xs,SqL K H a xs/\xs.length<=i⟩
noncomputable def Itt(K:PySem.W.Frag)(a:Addr):It :=
 ⟨fun i H=>∃xs x,SqT K H a xs/\xs[i]?=some x,fun i H x H'=>H'=H/\∀xs,SqT K H a xs->xs[i]?=some x,fun i H=>∃xs,SqT K H a xs/\xs.length<=i⟩
noncomputable def Itr(lo:Int)(n:Nat):It:=⟨fun i _=>i<n,fun i H x H'=>H'=H/\x=.int (lo+i),fun i _=>n<=i⟩
theorem w5{P:Program}{w:World}{K:PySem.W.Frag}{tg:Expr}(a it:Addr):Turn P w K tg (Itl K a) [it] it (fun i h=>h.IsListIter it a i)where
 mem:=by simp
 obj:=fun i h st b hb=>by
  have e:b=it:=by simpa using hb
  subst e;obtain⟨o,e,c,d⟩:=st;exact⟨o,e,fun v z=>by rw[d]at z;cases z⟩
 keep:=fun i h h' st k=>st.at fun o e=>k it (by simp) o e
 item:=by
  intro X hP hw hK hc i pins s σ H E I hf st hg;subst hP hw hK;obtain⟨xs,x,hq,hx⟩:=hg;obtain⟨its,rv,p,hz⟩:=I.list hq;obtain⟨u,hu,ru⟩:=rv.get hx;obtain⟨f0,f1,f2,f3,f4,f5⟩:=hf it (by simp)
  refine wpAny_pyNext_list_item st p.isList (x:=u) (by simpa using hu) fun h' st' sb=>?_
  have I1:Inv X pins σ H { s with heap:=h' }:=I.turned (t':=s.toks) (fun b o hb e=>(sb.2 b hb).trans e) f0 f1 f3 f4 f5;obtain⟨o,e,c,d⟩:=id st';exact⟨u,rfl,xx (s:={ s with heap:=h' }) e c d (by decide) ⟨x,H,I1,ru,⟨rfl,fun ys hy=>by rw[I.list_inj hy hq];exact hx⟩,st',fun b hb=>(hf b hb).1⟩⟩
 done:=by
  intro X hP hw hK hc i pins s σ H E I hf st hg;subst hP hw hK;obtain⟨xs,hq,hx⟩:=hg;obtain⟨its,rv,p,hz⟩:=I.list hq;obtain⟨f0,f1,f2,f3,f4,f5⟩:=hf it (by simp);have hl:=rv.length
  exact wpAny_pyNext_list_end (I.ok.hd hc) st p.isList (by simp;omega) fun h' eb=>⟨rfl,I.turned (t':=s.toks) (fun b o hb e=>eb b o hb e) f0 f1 f3 f4 f5⟩
 self:=fun _ _ _ _ _ st h=>wpAny_pyIter_listiter st h
theorem sX{P:Program}{w:World}{K:PySem.W.Frag}{tg:Expr}(a it:Addr):Turn P w K tg (Itt K a) [it] it (fun i h=>h.IsTupleIter it a i)where
 mem:=by simp
 obj:=fun i h st b hb=>by
  have e:b=it:=by simpa using hb
  subst e;obtain⟨o,e,c,d⟩:=st;exact⟨o,e,fun v z=>by rw[d]at z;cases z⟩
 keep:=fun i h h' st k=>st.at fun o e=>k it (by simp) o e
 item:=by
  intro X hP hw hK hc i pins s σ H E I hf st hg;subst hP hw hK;obtain⟨xs,x,hq,hx⟩:=hg;obtain⟨its,rv,p,hz⟩:=I.tuple hq;obtain⟨u,hu,ru⟩:=rv.get hx;obtain⟨f0,f1,f2,f3,f4,f5⟩:=hf it (by simp)
  refine wpAny_pyNext_tuple_item st (show s.heap.IsTuple a its.toArray from p) (x:=u) (by simpa using hu) fun h' st' sb=>?_
  have I1:Inv X pins σ H { s with heap:=h' }:=I.turned (t':=s.toks) (fun b o hb e=>(sb.2 b hb).trans e) f0 f1 f3 f4 f5;obtain⟨o,e,c,d⟩:=id st';exact⟨u,rfl,xx (s:={ s with heap:=h' }) e c d (by decide) ⟨x,H,I1,ru,⟨rfl,fun ys hy=>by rw[I.tuple_inj hy hq];exact hx⟩,st',fun b hb=>(hf b hb).1⟩⟩
 done:=by
  intro X hP hw hK hc i pins s σ H E I hf st hg;subst hP hw hK;obtain⟨xs,hq,hx⟩:=hg;obtain⟨its,rv,p,hz⟩:=I.tuple hq;obtain⟨f0,f1,f2,f3,f4,f5⟩:=hf it (by simp);have hl:=rv.length
  exact wpAny_pyNext_tuple_end (I.ok.hd hc) st (show s.heap.IsTuple a its.toArray from p) (by simp;omega) fun h' eb=>⟨rfl,I.turned (t':=s.toks) (fun b o hb e=>eb b o hb e) f0 f1 f3 f4 f5⟩
 self:=fun _ _ _ _ _ st h=>wpAny_pyIter_tupleiter st h
theorem rW{P:Program}{w:World}{K:PySem.W.Frag}{tg:Expr}(it:Addr)(lo:Int)(n:Nat):Turn P w K tg (Itr lo n) [it] it (fun i h=>IsRangeIter h it (lo+(i:Nat)*1) ((n:Int)-(i:Nat)) 1)where
 mem:=by simp
 obj:=fun i h st b hb=>by
  have e:b=it:=by simpa using hb
  subst e
  exact⟨_,st,fun v z=>by
   have z':Data.fields _=Data.cell v:=z
   cases z'⟩
 keep:=fun i h h' st k=>k it (by simp) _ st
 item:=by
  intro X hP hw hK hc i pins s σ H E I hf st hg;subst hP hw hK;obtain⟨f0,f1,f2,f3,f4,f5⟩:=hf it (by simp);have W:=Walks.range (prog:=X.prog) (w:=X.w) (I.ok.hd hc) it lo 1 n
  refine W.item i s _ _ hg st fun v h' tk hv st' kk=>?_
  obtain⟨t,rfl⟩:=hv;have I1:Inv X pins σ H { s with heap:=h',toks:=tk }:=I.turned (fun b o hb e=>kk b o (by simpa using hb) e) f0 f1 f3 f4 f5;refine⟨_,rfl,xx (s:={ s with heap:=h',toks:=tk }) (n:="range_iterator") st' rfl rfl (by decide) ⟨.int (lo+i),H,I1,⟨t,?_⟩,⟨rfl,rfl⟩,st',fun b hb=>(hf b hb).1⟩⟩;rw[Int.mul_one]
 done:=by
  intro X hP hw hK hc i pins s σ H E I hf st hg;subst hP hw hK;obtain⟨f0,f1,f2,f3,f4,f5⟩:=hf it (by simp)
  exact wpAny_pyNext_range_end (I.ok.hd hc) st (by have:n<=i:=hg;omega) fun h' eb=>⟨rfl,I.turned (t':=s.toks) (fun b o hb e=>eb b o hb e) f0 f1 f3 f4 f5⟩
 self:=fun _ _ _ _ _ st h=>wpAny_pyIter_rangeiter st h
end L2
namespace L2
open PySem PySem.Spec PyProof.Rows
section
variable{X:Cx}{tg:Expr}
noncomputable def O7(K:PySem.W.Frag)(tl:TE):TI:=fun σ H R=>tl σ H fun x H1=>∃a,x=.ref a/\(∃xs,SqL K H1 a xs)/\R (Itl K a) H1
noncomputable def iTup(K:PySem.W.Frag)(tl:TE):TI:=fun σ H R=>tl σ H fun x H1=>∃a,x=.ref a/\(∃xs,SqT K H1 a xs)/\R (Itt K a) H1
theorem Gm{l:Expr}{tl:TE}(hl:PE X l tl):PI X tg l (O7 X.K tl):=by
 intro pins s σ H R I h
 refine thn (hl pins s σ H _ I h) fun v s1 ⟨x,H1,I1,r1,q1⟩=>?_
 obtain⟨a,e,⟨xs,hq⟩,q⟩:=q1;subst e;cases r1;obtain⟨its,rv,p,hz⟩:=I1.list hq;refine wpAny_pyIter_list p.isList ?_;refine⟨s1.heap.objs.size,[s1.heap.objs.size],_,_,H1,rfl,I1.kept (t':=s1.toks) fun b o e=>Heap.get?_push_of_some _ e,w5 a _,⟨_,Heap.get?_push_size _ rfl,rfl,rfl⟩,fun b hb=>?_,q⟩
 have e:b=s1.heap.objs.size:=by simpa using hb
 subst e;exact I1.fpOk (Nat.le_refl _) (I1.hok.fresh (Nat.le_refl _))
theorem KQ{l:Expr}{tl:TE}(hl:PE X l tl):PI X tg l (iTup X.K tl):=by
 intro pins s σ H R I h
 refine thn (hl pins s σ H _ I h) fun v s1 ⟨x,H1,I1,r1,q1⟩=>?_
 obtain⟨a,e,⟨xs,hq⟩,q⟩:=q1;subst e;cases r1;obtain⟨its,rv,p,hz⟩:=I1.tuple hq;refine wpAny_pyIter_tuple (show s1.heap.IsTuple a its.toArray from p) ?_;refine⟨s1.heap.objs.size,[s1.heap.objs.size],_,_,H1,rfl,I1.kept (t':=s1.toks) fun b o e=>Heap.get?_push_of_some _ e,sX a _,⟨_,Heap.get?_push_size _ rfl,rfl,rfl⟩,fun b hb=>?_,q⟩
 have e:b=s1.heap.objs.size:=by simpa using hb
 subst e;exact I1.fpOk (Nat.le_refl _) (I1.hok.fresh (Nat.le_refl _))
theorem zY{pins:List (Addr×Obj)}{σ:St}{H:Hp}{s:Shared}{R:It->Hp->Prop}{E:Value->Shared->Prop}{lo hi:Int}{t u v:Tok}{tk:Nat}(I:Inv X pins σ H s)(h1:-(2 ^ 62)<=lo)(h2:lo<2 ^ 62)(h3:-(2 ^ 62)<=hi)(h4:hi<2 ^ 62)
 (q:R (Itr lo (hi-lo).toNat) H):wpAny (model X.prog X.w) X.A (pyIter (.ref s.heap.objs.size)) (PIE X pins σ tg R) E { s with heap:=s.heap.push { cls:=.type "range",data:=.fields #[.int lo t,.int hi u,.int 1 v] },toks:=tk }:=by
 refine wpAny_pyIter_range (IsRange.new ..) (small_one h1 h2 h3 h4) ?_
 have I1:Inv X pins σ H { s with heap:=s.heap.push { cls:=.type "range",data:=.fields #[.int lo t,.int hi u,.int 1 v] },toks:=tk }:=I.kept fun b o e=>Heap.get?_push_of_some _ e
 refine⟨(s.heap.push { cls:=.type "range",data:=.fields #[.int lo t,.int hi u,.int 1 v] }).objs.size,[(s.heap.push { cls:=.type "range",data:=.fields #[.int lo t,.int hi u,.int 1 v] }).objs.size],_,_,H,rfl,
  I1.kept (t':=tk) fun b o e=>Heap.get?_push_of_some _ e,rW _ lo (hi-lo).toNat,?_,fun b hb=>?_,q⟩
 ·have e1:lo+((0:Nat):Int)*1=lo:=by simp
  have e2:(((hi-lo).toNat:Nat):Int)-((0:Nat):Int)=Builtin.Range.rangeSize lo hi 1:=by rw[rangeSize_one];split<;>omega
  show IsRangeIter _ _ (lo+((0:Nat):Int)*1) ((((hi-lo).toNat:Nat):Int)-((0:Nat):Int)) 1;rw[e1,e2];exact Heap.get?_push_size _ rfl
 ·have e:b=(s.heap.push { cls:=.type "range",data:=.fields #[.int lo t,.int hi u,.int 1 v] }).objs.size:=by simpa using hb
  subst e;exact I1.fpOk (Nat.le_refl _) (I1.hok.fresh (Nat.le_refl _))
noncomputable def M5(ta:TA):TI:=fun σ H R=>ta σ H fun vs H1=>∃j:Int,vs=[.int j]/\-(2 ^ 62)<=j/\j<2 ^ 62/\R (Itr 0 j.toNat) H1
theorem wO{a:Expr}{ta:TA}{p pos:Pos}(hg:Gl X "range")(hm:X.mg "range"=none)(ha:PA X [a] ta)(hs:starEach [a] X.env=[(false,eval a X.env)]:=by rfl):PI X tg (.Call (.Name "range" p) [a] [] pos) (M5 ta):=by
 intro pins s σ H R I h;refine Call_ (qW I hg hm boot_range (PyProof.Rows.callWith_type1 (thn (ha pos pins s σ H _ I h) fun us s1 ⟨vs,H1,I1,r1,q1⟩=>?_) hs rfl));obtain⟨j,e,q1,q2,q⟩:=q1;subst e
 cases r1 with
 | cons r rr=>
   cases rr;obtain⟨t,rfl⟩:=r;exact call_range_1 (zY I1 (by omega) (by omega) q1 q2 (by simpa using q))
noncomputable def tFor(wi:TI)(g:TG)(tb:TS):TS:=fun D σ H=>wi σ H fun J H1=>∃W:Nat->Nat->St->Hp->Prop,(∃m,W 0 m σ H1)/\∀i m σ H,W i m σ H ->
 (J.stop i H/\D.nx σ H)\/(J.go i H/\∃N:St->Hp->Prop,(∀σ' H',N σ' H'->∃m',m'<m/\W (i+1) m' σ' H')/\∀x H',J.yld i H x H'->g x σ H' fun σ2 H2=>tb { D with nx:=N,ct:=N,bk:=D.nx } σ2 H2)
noncomputable def lX(fp:List Addr)(h:Heap):List (Addr×Obj):=fp.filterMap fun b=>(h.get? b).map fun o=>(b,o)
theorem dG{fp:List Addr}{h:Heap}{b:Addr}{o:Obj}(hb:b∈fp)(e:h.get? b=some o):(b,o)∈lX fp h:=List.mem_filterMap.mpr ⟨b,hb,by rw[e];rfl⟩
theorem uW{fp:List Addr}{h:Heap}{p:Addr×Obj}(hp:p∈lX fp h):p.1∈fp/\h.get? p.1=some p.2:=by
 obtain⟨b,hb,e⟩:=List.mem_filterMap.mp hp
 cases q:h.get? b with
 | none=>rw[q]at e;cases e
 | some o=>
   rw[q]at e;have e':(b,o)=p:=Option.some.inj e;subst e';exact⟨hb,q⟩
theorem Inv.pinned{pins:List (Addr×Obj)}{σ:St}{H:Hp}{s:Shared}{fp:List Addr}(I:Inv X pins σ H s)(hf:∀b∈fp,FpOk X pins H b)(ho:∀b∈fp,∃o,s.heap.get? b=some o/\∀v,o.data≠.cell v):Inv X (pins++lX fp s.heap) σ H s :=
 I.pins_of fun p hp=>(List.mem_append.mp hp).elim (fun z=>I.pin p (List.mem_append_right _ z)) fun z=>by
  obtain⟨hb,e⟩:=uW z;obtain⟨f0,f1,f2,_⟩:=hf p.1 hb;obtain⟨o,e',d⟩:=ho p.1 hb;rw[e]at e';cases e';exact⟨e,f0,f1,f2,d⟩
theorem Inv.unpinned{pins pl:List (Addr×Obj)}{σ:St}{H:Hp}{s:Shared}(I:Inv X (pins++pl) σ H s):Inv X pins σ H s:=I.pins_of fun p hp=>I.pin p (List.mem_append_right _ (List.mem_append_left _ hp))
theorem Ih{iter:Expr}{body:List Stmt}{wi:TI}{g:TG}{tb:TS}{pos:Pos}(hp:PassesOwn (model X.prog X.w) X.A X.env X.xe)(hc:X.calm=true)(hi:PI X tg iter wi)(hg:PG X tg g)(hb:PSs X body tb)
 (hs:∀x,foldedSetIterable iter X.env x=pure x:=by intro _;rfl):PS X (.For tg iter body [] pos) (tFor wi g tb):=by
 intro pins s σ H D I h;refine wpAny_For (thn (hi pins s σ H _ I h) fun v s1 h1=>thn h1 fun itv s2 h2=>?_) hs;obtain⟨it,fp,tn,J,H2,e,I2,T,st2,f2,W,⟨m0,w0⟩,turn⟩:=h2;subst e
 have stat:∀{H':Hp},(∀b∈fp,H' b=none)->∀b∈fp,FpOk X pins H' b:=fun hn b hb=>⟨hn b hb,(f2 b hb).2⟩
 refine codeAny_forLoop_any (fun n s'=>∃i σ' H',Inv X pins σ' H' s'/\tn i s'.heap/\(∀b∈fp,H' b=none)/\W i n σ' H') ?_ m0 ⟨0,σ,H2,I2,st2,fun b hb=>(f2 b hb).1,w0⟩
 rintro n s3 ⟨i,σ3,H3,I3,st3,fr3,w3⟩
 rcases turn i n σ3 H3 w3 with⟨stop,qn⟩ | ⟨go,N,hN,step⟩
 ·refine wpAny_passesOwn hp (thn (T.done X rfl rfl rfl hc i pins s3 σ3 H3 X.xe I3 (stat fr3) st3 stop) fun r s4 ⟨hr,I4⟩=>?_)
  subst hr;exact wpAny_execs_nil ⟨σ3,H3,I4,qn⟩
 ·refine wpAny_passesOwn hp (thn (T.item X rfl rfl rfl hc i pins s3 σ3 H3 X.xe I3 (stat fr3) st3 go) fun r s4 ⟨u,hr,h4⟩=>?_)
  subst hr;refine wpAny_passesOwn hp (thn h4 fun _ s5 ⟨x,H5,I5,r5,y5,st5,fr5⟩=>?_);have I5':=I5.pinned (stat fr5) (T.obj _ _ st5);refine wpAny_passesOwn hp (thn (hg _ s5 σ3 H5 x u _ I5' r5 (step x H5 y5)) fun _ s6 ⟨σ6,H6,I6,q6⟩=>?_);refine wpAny_passesOwn hp (thn (hb _ s6 σ6 H6 _ I6 q6) fun f s7 q7=>?_)
  have again:∀{σ7:St} {H7:Hp},Inv X (pins++lX fp s5.heap) σ7 H7 s7->N σ7 H7->∃m,m<n/\∃i σ' H',Inv X pins σ' H' s7/\tn i s7.heap/\(∀b∈fp,H' b=none)/\W i m σ' H':=fun{σ7 H7} I7 n7=>by
   obtain⟨m',hm,w7⟩:=hN σ7 H7 n7;refine⟨m',hm,i+1,σ7,H7,I7.unpinned,T.keep _ _ _ st5 fun b hb o e=>(I7.pin (b,o) (List.mem_append_right _ (List.mem_append_right _ (dG hb e)))).1,fun b hb=>?_,w7⟩;obtain⟨o,e,d⟩:=T.obj _ _ st5 b hb;exact(I7.pin (b,o) (List.mem_append_right _ (List.mem_append_right _ (dG hb e)))).2.1
  cases f with
  | next=>obtain⟨σ7,H7,I7,n7⟩:=q7;exact again I7 n7
  | cont=>obtain⟨σ7,H7,I7,n7⟩:=q7;exact again I7 n7
  | brk=>obtain⟨σ7,H7,I7,q7⟩:=q7;exact⟨σ7,H7,I7.unpinned,q7⟩
  | ret v=>obtain⟨x7,σ7,H7,I7,r7,q7⟩:=q7;exact⟨x7,σ7,H7,I7.unpinned,r7,q7⟩
end
end L2
namespace L2
open PySem PySem.Spec PyProof.Rows
noncomputable abbrev R2:=V->V->Hp->VK->Prop
noncomputable def OpR(X:Cx)(f:Value->Value->Sem Value)(r:R2):Prop :=
 ∀(pins:List (Addr×Obj)) (s:Shared) (σ:St) (H:Hp) (x y:V) (v u:Value) (Q:VK),Inv X pins σ H s->RelV x v->RelV y u->r x y H Q ->
  wpAny (model X.prog X.w) X.A (f v u) (EP X pins σ Q) X.xe s
noncomputable def UnR(X:Cx)(f:Value->Sem Value)(r:V->Hp->VK->Prop):Prop :=
 ∀(pins:List (Addr×Obj)) (s:Shared) (σ:St) (H:Hp) (x:V) (v:Value) (Q:VK),Inv X pins σ H s->RelV x v->r x H Q ->
  wpAny (model X.prog X.w) X.A (f v) (EP X pins σ Q) X.xe s
noncomputable def CallR(X:Cx)(f:Value)(r:List V->Hp->VK->Prop):Prop :=
 ∀(pins:List (Addr×Obj)) (s:Shared) (σ:St) (H:Hp) (xs:List V) (us:List Value) (Q:VK),Inv X pins σ H s->Vals xs us->r xs H Q ->
  wpAny (model X.prog X.w) X.A (call f us) (EP X pins σ Q) X.xe s
noncomputable def TruR(X:Cx)(r:V->Hp->(Bool->Hp->Prop)->Prop):Prop :=
 ∀(pins:List (Addr×Obj)) (s:Shared) (σ:St) (H:Hp) (x:V) (v:Value) (Q:Bool->Hp->Prop),Inv X pins σ H s->RelV x v->r x H Q ->
  wpAny (model X.prog X.w) X.A (truthy v) (TP X pins σ Q) X.xe s
noncomputable def tOp(r:R2)(ta tb:TE):TE:=fun σ H Q=>ta σ H fun x H1=>tb σ H1 fun y H2=>r x y H2 Q
noncomputable def tUn(r:V->Hp->VK->Prop)(ta:TE):TE:=fun σ H Q=>ta σ H fun x H1=>r x H1 Q
noncomputable def rI(C:Int->Int->Prop)(g:Int->Int->V):R2:=fun x y H Q=>∃i j,x=.int i/\y=.int j/\C i j/\Q (g i j) H
noncomputable def rI0(g:Int->Int->V):R2:=fun x y H Q=>∃i j,x=.int i/\y=.int j/\Q (g i j) H
noncomputable def rU(g:Int->V):V->Hp->VK->Prop:=fun x H Q=>∃i,x=.int i/\Q (g i) H
section
variable{X:Cx}{a b c:Expr}{ta tb tc:TE}{pos:Pos}
theorem binT(ha:PE X a ta)(hb:PE X b tb){pins:List (Addr×Obj)}{s:Shared}{σ:St}{H:Hp}{R:V->V->Hp->Prop}(I:Inv X pins σ H s)
 (h:ta σ H fun x H1=>tb σ H1 fun y H2=>R x y H2) {Q:Value->Shared->Prop} {f:Value->Value->Sem Value}
 (hf:∀v u s2 x y H2,Inv X pins σ H2 s2->RelV x v->RelV y u->R x y H2->wpAny (model X.prog X.w) X.A (f v u) Q X.xe s2) :
 wpAny (model X.prog X.w) X.A (eval a X.env) (fun v s₁=>wpAny (model X.prog X.w) X.A (eval b X.env) (fun u s₂=>wpAny (model X.prog X.w) X.A (f v u) Q X.xe s₂) X.xe s₁) X.xe s:=by
 refine thn (ha pins s σ H _ I h) fun v s1 ⟨x,H1,I1,r1,q1⟩=>?_
 refine thn (hb pins s1 σ H1 _ I1 q1) fun u s2 ⟨y,H2,I2,r2,q2⟩=>?_
 exact hf v u s2 x y H2 I2 r1 r2 q2
theorem Mu{op:Operator}{r:R2}(ho:OpR X (binaryOp op) r)(ha:PE X a ta)(hb:PE X b tb):PE X (.BinOp a op b pos) (tOp r ta tb):=by
 intro pins s σ H Q I h;exact wpAny_BinOp (binT ha hb I h fun v u s2 x y H2 I2 rx ry q=>ho pins s2 σ H2 x y v u Q I2 rx ry q)
theorem N7{op:UnaryOp}{r:V->Hp->VK->Prop}(ho:UnR X (unaryOp op) r)(ha:PE X a ta):PE X (.UnaryOp op a pos) (tUn r ta):=by
 intro pins s σ H Q I h;exact UnaryOp_ (thn (ha pins s σ H _ I h) fun v s1 ⟨x,H1,I1,r1,q1⟩=>ho pins s1 σ H1 x v Q I1 r1 q1)
theorem opI{f:Value->Value->Sem Value}{C:Int->Int->Prop}{g:Int->Int->Int}
 (rule:∀(i j:Int) (t u:Tok) (s:Shared) (Q:Value->Shared->Prop) (E:Value->Shared->Prop),C i j->Q (.int (g i j) s.toks) { s with toks:=s.toks+1 }->wpAny (model X.prog X.w) X.A (f (.int i t) (.int j u)) Q E s) :
 OpR X f (rI C fun i j=>.int (g i j)):=by
 intro pins s σ H x y v u Q I rx ry h;obtain⟨i,j,rfl,rfl,hc,q⟩:=h;obtain⟨t,rfl⟩:=rx;obtain⟨t',rfl⟩:=ry;exact rule i j t t' s _ _ hc ⟨.int (g i j),H,I.tok _,⟨_,rfl⟩,q⟩
theorem opI0{f:Value->Value->Sem Value}{g:Int->Int->Int}
 (rule:∀(i j:Int) (t u:Tok) (s:Shared) (Q:Value->Shared->Prop) (E:Value->Shared->Prop),Q (.int (g i j) s.toks) { s with toks:=s.toks+1 }->wpAny (model X.prog X.w) X.A (f (.int i t) (.int j u)) Q E s) :
 OpR X f (rI0 fun i j=>.int (g i j)):=by
 intro pins s σ H x y v u Q I rx ry h;obtain⟨i,j,rfl,rfl,q⟩:=h;obtain⟨t,rfl⟩:=rx;obtain⟨t',rfl⟩:=ry;exact rule i j t t' s _ _ ⟨.int (g i j),H,I.tok _,⟨_,rfl⟩,q⟩
theorem opB0{f:Value->Value->Sem Value}{g:Int->Int->Bool}
 (rule:∀(i j:Int) (t u:Tok) (s:Shared) (Q:Value->Shared->Prop) (E:Value->Shared->Prop),Q (.bool (g i j)) s->wpAny (model X.prog X.w) X.A (f (.int i t) (.int j u)) Q E s) :
 OpR X f (rI0 fun i j=>.bl (g i j)):=by
 intro pins s σ H x y v u Q I rx ry h;obtain⟨i,j,rfl,rfl,q⟩:=h;obtain⟨t,rfl⟩:=rx;obtain⟨t',rfl⟩:=ry;exact rule i j t t' s _ _ ⟨.bl (g i j),H,I,rfl,q⟩
noncomputable def CPow(i j:Int):Prop:=0<=j/\j<=1000000/\i.natAbs<2 ^ 64
theorem Jk:OpR X (binaryOp .Add) (rI0 fun i j=>.int (i+j)):=opI0 fun _ _ _ _ _ _ _ q=>add_int q
theorem Im:OpR X (binaryOp .Sub) (rI0 fun i j=>.int (i-j)):=opI0 fun _ _ _ _ _ _ _ q=>sub_int q
theorem Hg:OpR X (binaryOp .Mod) (rI (fun _ j=>j≠0) fun i j=>.int (i.fmod j)):=opI fun _ _ _ _ _ _ _ hc q=>mod_int' hc q
theorem Hx:OpR X (binaryOp .Pow) (rI CPow fun i j=>.int (i ^ j.toNat)):=opI fun _ _ _ _ _ _ _ hc q=>pow_int_small hc.1 hc.2.1 hc.2.2 q
theorem unI{f:Value->Sem Value}{g:Int->Int}
 (rule:∀(i:Int) (t:Tok) (s:Shared) (Q:Value->Shared->Prop) (E:Value->Shared->Prop),Q (.int (g i) s.toks) { s with toks:=s.toks+1 }->wpAny (model X.prog X.w) X.A (f (.int i t)) Q E s) :
 UnR X f (rU fun i=>.int (g i)):=by
 intro pins s σ H x v Q I rx h;obtain⟨i,rfl,q⟩:=h;obtain⟨t,rfl⟩:=rx;exact rule i t s _ _ ⟨.int (g i),H,I.tok _,⟨_,rfl⟩,q⟩
theorem Jg:UnR X (unaryOp .USub) (rU fun i=>.int (-i)):=unI fun _ _ _ _ _ q=>neg_int q
end
noncomputable def scal:V->V->Bool
 | .non,.non=>true | .non,.int _=>true | .int _,.non=>true | .non,.bl _=>true | .bl _,.non=>true | .non,.str _=>true | .str _,.non=>true
 | .int _,.int _=>true | .bl _,.bl _=>true | .str _,.str _=>true | .byt _,.byt _=>true
 | .int _,.str _=>true | .str _,.int _=>true | .bl _,.str _=>true | .str _,.bl _=>true
 | _,_=>false
noncomputable def rEq:R2:=fun x y H Q=>scal x y=true/\Q (.bl (decide (x=y))) H
noncomputable def rNe:R2:=fun x y H Q=>scal x y=true/\Q (.bl (!decide (x=y))) H
theorem xP{i j:Int}:decide (V.int i=V.int j)=(i==j):=by
 rw[Bool.eq_iff_iff];simp
theorem Ar{i j:Bool}:decide (V.bl i=V.bl j)=(i==j):=by
 rw[Bool.eq_iff_iff];simp
theorem xR{i j:Str}:decide (V.str i=V.str j)=(i==j):=by
 rw[Bool.eq_iff_iff];simp
theorem wW{i j:Array UInt8}:decide (V.byt i=V.byt j)=(i.toList==j.toList):=by
 rw[Bool.eq_iff_iff];cases i;cases j;simp
section
variable{X:Cx}{a b c:Expr}{ta tb tc:TE}{pos:Pos}
theorem aN{pins:List (Addr×Obj)}{σ:St}{H:Hp}{s:Shared}{Q:VK}{k k':Bool}(I:Inv X pins σ H s)(q:Q (.bl k) H)(e:k=k'):EP X pins σ Q (.bool k') s:=by
 subst e;exact⟨.bl k,H,I,rfl,q⟩
theorem MK:OpR X (compareOp .Eq) rEq:=by
 intro pins s σ H x y v u Q I rx ry h;obtain⟨hs,q⟩:=h
 cases x with
 | non=>
   cases rx
   cases y with
   | non=>cases ry;exact PySem.EqNone.eq_none_none (aN I q (by simp))
   | bl j=>cases ry;exact PySem.EqNone.eq_none_bool (aN I q (by simp))
   | int j=>obtain⟨t',rfl⟩:=ry;exact PySem.EqNone.eq_none_int (aN I q (by simp))
   | str j=>obtain⟨t',rfl⟩:=ry;exact PySem.EqNone.eq_none_str (aN I q (by simp))
   | _=>exact absurd (show false=true from hs) Bool.false_ne_true
 | bl i=>
   cases rx
   cases y with
   | non=>cases ry;exact PySem.EqNone.eq_bool_none (aN I q (by simp))
   | bl j=>cases ry;exact eq_bool (aN I q Ar)
   | str j=>obtain⟨t',rfl⟩:=ry;exact PySem.EqMixed.eq_bool_str (aN I q (by simp))
   | _=>exact absurd (show false=true from hs) Bool.false_ne_true
 | int i=>
   obtain⟨t,rfl⟩:=rx
   cases y with
   | non=>cases ry;exact PySem.EqNone.eq_int_none (aN I q (by simp))
   | int j=>obtain⟨t',rfl⟩:=ry;exact eq_int (aN I q xP)
   | str j=>obtain⟨t',rfl⟩:=ry;exact PySem.EqMixed.eq_int_str (aN I q (by simp))
   | _=>exact absurd (show false=true from hs) Bool.false_ne_true
 | str i=>
   obtain⟨t,rfl⟩:=rx
   cases y with
   | non=>cases ry;exact PySem.EqNone.eq_str_none (aN I q (by simp))
   | bl j=>cases ry;exact PySem.EqMixed.eq_str_bool (aN I q (by simp))
   | int j=>obtain⟨t',rfl⟩:=ry;exact PySem.EqMixed.eq_str_int (aN I q (by simp))
   | str j=>obtain⟨t',rfl⟩:=ry;exact eq_str (aN I q xR)
   | _=>exact absurd (show false=true from hs) Bool.false_ne_true
 | byt i=>
   obtain⟨t,rfl⟩:=rx
   cases y with
   | byt j=>obtain⟨t',rfl⟩:=ry;exact PySem.W.eq_bytes (aN I q wW)
   | _=>exact absurd (show false=true from hs) Bool.false_ne_true
 | _=>cases y<;>exact absurd (show false=true from hs) Bool.false_ne_true
theorem Lq:OpR X (compareOp .NotEq) rNe:=by
 intro pins s σ H x y v u Q I rx ry h;obtain⟨hs,q⟩:=h
 cases x with
 | non=>
   cases rx
   cases y with
   | non=>cases ry;exact PySem.EqNone.ne_none_none (aN I q (by simp))
   | bl j=>cases ry;exact PySem.EqNone.ne_none_bool (aN I q (by simp))
   | int j=>obtain⟨t',rfl⟩:=ry;exact PySem.EqNone.ne_none_int (aN I q (by simp))
   | str j=>obtain⟨t',rfl⟩:=ry;exact PySem.EqNone.ne_none_str (aN I q (by simp))
   | _=>exact absurd (show false=true from hs) Bool.false_ne_true
 | bl i=>
   cases rx
   cases y with
   | non=>cases ry;exact PySem.EqNone.ne_bool_none (aN I q (by simp))
   | bl j=>cases ry;exact ne_bool (aN I q (congrArg not Ar))
   | str j=>obtain⟨t',rfl⟩:=ry;exact PySem.EqMixed.ne_bool_str (aN I q (by simp))
   | _=>exact absurd (show false=true from hs) Bool.false_ne_true
 | int i=>
   obtain⟨t,rfl⟩:=rx
   cases y with
   | non=>cases ry;exact PySem.EqNone.ne_int_none (aN I q (by simp))
   | int j=>obtain⟨t',rfl⟩:=ry;exact ne_int (aN I q (congrArg not xP))
   | str j=>obtain⟨t',rfl⟩:=ry;exact PySem.EqMixed.ne_int_str (aN I q (by simp))
   | _=>exact absurd (show false=true from hs) Bool.false_ne_true
 | str i=>
   obtain⟨t,rfl⟩:=rx
   cases y with
   | non=>cases ry;exact PySem.EqNone.ne_str_none (aN I q (by simp))
   | bl j=>cases ry;exact PySem.EqMixed.ne_str_bool (aN I q (by simp))
   | int j=>obtain⟨t',rfl⟩:=ry;exact PySem.EqMixed.ne_str_int (aN I q (by simp))
   | str j=>obtain⟨t',rfl⟩:=ry;exact ne_str (aN I q (congrArg not xR))
   | _=>exact absurd (show false=true from hs) Bool.false_ne_true
 | byt i=>
   obtain⟨t,rfl⟩:=rx
   cases y with
   | byt j=>obtain⟨t',rfl⟩:=ry;exact PySem.W.ne_bytes (aN I q (congrArg not wW))
   | _=>exact absurd (show false=true from hs) Bool.false_ne_true
 | _=>cases y<;>exact absurd (show false=true from hs) Bool.false_ne_true
theorem M6:OpR X (compareOp .Lt) (rI0 fun i j=>.bl (decide (i<j))):=opB0 fun _ _ _ _ _ _ _ q=>lt_int q
theorem Lr:OpR X (compareOp .Gt) (rI0 fun i j=>.bl (decide (j<i))):=opB0 fun _ _ _ _ _ _ _ q=>gt_int q
theorem wk:OpR X (compareOp .Lt) (fun x y H Q=>∃i j,x=.str i/\y=.str j/\Q (.bl (decide (i.cps.toList<j.cps.toList))) H):=by
 intro pins s σ H x y v u Q I rx ry h;obtain⟨i,j,rfl,rfl,q⟩:=h;obtain⟨t,rfl⟩:=rx;obtain⟨t',rfl⟩:=ry;exact lt_str (aN I q rfl)
theorem mW:OpR X (compareOp .In) (fun x y H Q=>∃i j,x=.str i/\y=.str j/\Q (.bl (!(Builtin.Str.occurrences j i 0 j.length 1).isEmpty)) H):=by
 intro pins s σ H x y v u Q I rx ry h;obtain⟨i,j,rfl,rfl,q⟩:=h;obtain⟨t,rfl⟩:=rx;obtain⟨t',rfl⟩:=ry;exact in_str (aN I q rfl)
theorem gF:OpR X (compareOp .NotIn) (fun x y H Q=>∃i j,x=.str i/\y=.str j/\Q (.bl (!(!(Builtin.Str.occurrences j i 0 j.length 1).isEmpty))) H):=by
 intro pins s σ H x y v u Q I rx ry h;obtain⟨i,j,rfl,rfl,q⟩:=h;obtain⟨t,rfl⟩:=rx;obtain⟨t',rfl⟩:=ry;exact notIn_str (aN I q rfl)
theorem OpR.or{f:Value->Value->Sem Value}{r r':R2}(h:OpR X f r)(h':OpR X f r'):OpR X f (fun x y H Q=>r x y H Q\/r' x y H Q):=by
 intro pins s σ H x y v u Q I rx ry q;rcases q with q | q
 ·exact h pins s σ H x y v u Q I rx ry q
 ·exact h' pins s σ H x y v u Q I rx ry q
theorem iY{op:CmpOp}{r:R2}(ho:OpR X (compareOp op) r)(ha:PE X a ta)(hb:PE X b tb)(hm:behindInMarks op b=false):PE X (.Compare a [op] [b] pos) (tOp r ta tb):=by
 intro pins s σ H Q I h;exact wpAny_Compare1 (binT ha hb I h fun v u s2 x y H2 I2 rx ry q=>ho pins s2 σ H2 x y v u Q I2 rx ry q) hm
noncomputable def N6(t:TE):TT:=fun σ H Q=>t σ H fun x H'=>∃k,x=.bl k/\Q k H'
theorem jf{op:CmpOp}{r:R2}(ho:OpR X (compareOp op) r)(ha:PE X a ta)(hb:PE X b tb)(hm:behindInMarks op b=false):PT X (.Compare a [op] [b] pos) (N6 (tOp r ta tb)):=by
 intro pins s σ H Q I h
 refine wpAny_isTrue_Compare1 (thn (ha pins s σ H _ I h) fun v s1 ⟨x,H1,I1,r1,q1⟩=>thn (hb pins s1 σ H1 _ I1 q1) fun u s2 ⟨y,H2,I2,r2,q2⟩=>
  thn (ho pins s2 σ H2 x y v u _ I2 r1 r2 q2) fun c s3 ⟨z,H3,I3,r3,k,e,q3⟩=>?_) hm
 subst e;cases r3;exact wpAny_truthy_bool ⟨H3,I3,q3⟩
noncomputable def TruV(K:PySem.W.Frag)(x:V)(H:Hp)(k:Bool):Prop :=
 match x with
 | .non=>k=false
 | .bl b=>k=b
 | .int i=>k=(i !=0)
 | .str y=>y.length<=sizeLine/\k=((y.length:Int) !=0)
 | .byt y=>y.size<=sizeLine/\k=((y.size:Int) !=0)
 | .ref p=>(∃xs,SqL K H p xs/\k=!xs.isEmpty)\/(∃xs,SqT K H p xs/\k=!xs.isEmpty)\/∃kvs ep,H p=some (.dK kvs ep)/\k=!kvs.isEmpty
 | _=>False
theorem t7{κ:Type}{kvs:List (κ×V)}{vs:List (κ×Value)}(r:KV kvs vs):(!vs.isEmpty)=!kvs.isEmpty:=by
 cases r<;>rfl
theorem jD{xs:List V}{its:List Value}(r:Vals xs its):(!its.toArray.isEmpty)=!xs.isEmpty:=by
 cases r<;>simp
theorem j5:(sizeLine:Nat)<2 ^ 63:=by rw[sizeLine_eq];decide
theorem Br:TruR X (fun x H Q=>∃k,TruV X.K x H k/\Q k H):=by
 intro pins s σ H x v Q I rx h;obtain⟨k,e,q⟩:=h;have hl:=j5;have hs:sizeLine=16777216:=sizeLine_eq
 cases x with
 | non=>
   cases rx;have e':k=false:=e;subst e';exact truthy_none ⟨H,I,q⟩
 | bl b=>
   cases rx;have e':k=b:=e;subst e';exact wpAny_truthy_bool ⟨H,I,q⟩
 | int i=>
   obtain⟨t,rfl⟩:=rx;have e':k=(i !=0):=e;subst e';exact PySem.P.truthy_int ⟨H,I,q⟩
 | str y=>
   obtain⟨t,rfl⟩:=rx;obtain⟨hy,e'⟩:y.length<=sizeLine/\k=((y.length:Int) !=0):=e;subst e';exact PySem.P.truthy_str (by omega) ⟨H,I.tok _,q⟩
 | byt y=>
   obtain⟨t,rfl⟩:=rx;obtain⟨hy,e'⟩:y.size<=sizeLine/\k=((y.size:Int) !=0):=e;subst e';exact PySem.W.truthy_bytes (by omega) ⟨H,I.tok _,q⟩
 | ref p=>
   cases rx;have e':(∃xs,SqL X.K H p xs/\k=!xs.isEmpty)\/(∃xs,SqT X.K H p xs/\k=!xs.isEmpty)\/∃kvs ep,H p=some (.dK kvs ep)/\k=!kvs.isEmpty:=e;rcases e' with⟨xs,hx,e'⟩ | ⟨xs,hx,e'⟩ | ⟨kvs,ep,hx,e'⟩
   ·subst e'
    obtain⟨its,r,pl,hz⟩:=I.list hx;have hlen:=r.length;exact wpAny_truthy_list pl.isList (by simp only[List.size_toArray];omega) ⟨H,I.tok _,by rw[jD r];exact q⟩
   ·subst e'
    obtain⟨its,r,pl,hz⟩:=I.tuple hx;have hlen:=r.length;exact truthy_tuple pl (by simp only[List.size_toArray];omega) ⟨H,I.tok _,by rw[jD r];exact q⟩
   ·subst e'
    obtain⟨hz,hS,vs,r,m⟩:kvs.length<=sizeLine/\(p==sysModules)=false/\∃vs,KV kvs vs/\s.heap.DictAt (bB X.prog X.w) p vs ep:=I.hok p _ hx;have m:=m.dictOf;have hlen:kvs.length=vs.length:=Paired.length r;exact wpAny_truthy_dict hS m (by omega) ⟨H,I.tok _,by rw[t7 r];exact q⟩
 | _=>exact(show False from e).elim
theorem Aj(ha:PE X a ta)(he:∀whole,isTrue a X.env whole=(do let v <-whole;standAt a.pos;holding [v] (truthy v))) :
 PT X a (fun σ H Q=>ta σ H fun x H'=>∃k,TruV X.K x H' k/\Q k H'):=by
 intro pins s σ H Q I h;exact isTrue_plain (thn (ha pins s σ H _ I h) fun v s1 ⟨x,H1,I1,r1,q1⟩=>Br pins s1 σ H1 x v Q I1 r1 q1) (he _)
theorem sG:OpR X (binaryOp .Add) (fun x y H Q=>∃i j,x=.str i/\y=.str j/\i.length+j.length<=sizeLine/\Q (.str (i++j)) H):=by
 intro pins s σ H x y v u Q I rx ry h;obtain⟨i,j,rfl,rfl,hz,q⟩:=h;obtain⟨t,rfl⟩:=rx;obtain⟨t',rfl⟩:=ry;exact add_str (fun t' tk=>⟨.str (i++j),H,I.tok _,⟨_,rfl⟩,q⟩) hz
theorem vals1{x:V}{us:List Value}(r:Vals [x] us):∃u,us=[u]/\RelV x u:=by
 cases r with
 | cons r1 r2=>cases r2;exact⟨_,rfl,r1⟩
theorem vals2{x y:V}{us:List Value}(r:Vals [x,y] us):∃u w',us=[u,w']/\RelV x u/\RelV y w':=by
 cases r with
 | cons r1 r2=>
   cases r2 with
   | cons r3 r4=>cases r4;exact⟨_,_,rfl,r1,r3⟩
theorem yO:CallR X (.builtin "abs") (fun xs H Q=>∃i,xs=[.int i]/\Q (.int (if i<0 then -i else i)) H):=by
 intro pins s σ H xs us Q I r h;obtain⟨i,rfl,q⟩:=h;obtain⟨u,rfl,t,rfl⟩:=vals1 r
 exact call_abs_int fun u tk=>⟨.int (if i<0 then -i else i),H,I.tok _,⟨_,rfl⟩,q⟩
theorem vW(hc:X.calm=true):CallR X (.builtin "min") (fun xs H Q=>∃i j,xs=[.int i,.int j]/\Q (.int (if j<i then j else i)) H):=by
 intro pins s σ H xs us Q I r h;obtain⟨i,j,rfl,q⟩:=h;obtain⟨u,w',rfl,⟨t,rfl⟩,⟨t',rfl⟩⟩:=vals2 r
 refine min_two_ints (I.ok.hd hc) fun h' tk k=>⟨_,H,I.kept k,?_,q⟩
 by_cases hj:j<i
 ·rw[if_pos hj,if_pos hj];exact⟨_,rfl⟩
 ·rw[if_neg hj,if_neg hj];exact⟨_,rfl⟩
end
end L2
namespace L2
open PySem PySem.Spec PyProof.Rows
structure ObjM(h:Heap)(x dx C:Addr)(mA:Str->Option Value):Prop where
 obj:h.get? x=some (PySem.W.instObj C dx)
 ns:h.Ns1 dx mA
 ne:dx≠x
theorem v6{h:Heap}{dx:Addr}{mA:Str->Option Value}(n:h.Ns1 dx mA):∃od,h.get? dx=some od/\∀name,PySem.W.lookIn name od=some (mA name):=by
 obtain⟨o,es,ep,ho,hd,hk,_,hm⟩:=n;refine⟨o,ho,fun name=>?_⟩;have e:=hm name;unfold nsFind findBy at e;rw[<-Array.find?_toList]at e;unfold PySem.W.lookIn;rw[hd];dsimp only;split
 ·rename_i y q
  rw[q]at e;exact congrArg some e
 ·rename_i q
  rw[q]at e
  have a:es.toList.any (·.refKey)=false:=by
   rw[List.any_eq_false];intro y hy;obtain⟨z,t,hkey⟩:=hk y (Array.mem_toList_iff.mp hy);simp[DictEntry.refKey,hkey]
  have a':¬es.toList.any (·.refKey)=true:=by rw[a];exact Bool.false_ne_true
  rw[if_neg a'];exact congrArg some e
theorem ObjM.look{h:Heap}{x dx C:Addr}{mA:Str->Option Value}(I:ObjM h x dx C mA):∃od,PySem.W.InstAt h x (PySem.W.instObj C dx) C (some od)/\∀name,PySem.W.lookIn name od=some (mA name) :=
 let⟨od,ho,hl⟩:=v6 I.ns
 ⟨od,⟨I.obj,rfl,rfl,ho⟩,hl⟩
section
variable{prog:Program}{w:World}{A:Around}{E:Value->Shared->Prop}{s:Shared}{K:PySem.W.Frag}{x dx C f:Addr}{mA:Str->Option Value}{name:Str}{v:Value}
theorem Hr{expr:Bool}{Q:Value->Shared->Prop}(X:K.In s.heap)(I:ObjM s.heap x dx C mA)(hg:PySem.W.plainGet K C name=true)(hh:PySem.W.hasDictIn K C=true)
 (ha:PySem.W.findIn K (.ref C) name=some none) (hv:mA name=some v) (hv':PySem.W.handedIn v=true) (h:Q v { s with toks:=s.toks+1 }) :
 wpAny (model prog w) A (getAttr (.ref x) name expr) Q E s:=by
 obtain⟨od,J,hl⟩:=I.look;exact PySem.W.get_value X J (PySem.W.plainGet_of hg).1 (PySem.W.findObj_own hh ha rfl (by rw[hl,hv])) hv' h
theorem yr{pl:Sem Bool}{Q:Value×List Value->Shared->Prop}(X:K.In s.heap)(I:ObjM s.heap x dx C mA)(hg:PySem.W.plainGet K C name=true)
 (hf:PySem.W.findIn K (.ref C) name=some (some (.ref f))) (ht:PySem.W.isFn K (.ref f)=true) (hv:mA name=none) (h:Q (.ref f,[.ref x]) s) :
 wpAny (model prog w) A (getMethod (.ref x) name pl) Q E s:=by
 obtain⟨od,J,hl⟩:=I.look;exact PySem.W.method_fn X J (PySem.W.plainGet_of hg).1 (PySem.W.plainGet_of hg).2 hf (beq_iff_eq.mp ht) (by show(PySem.W.lookIn name od).map (·.isSome)=some false;rw[hl,hv];rfl) h
theorem Dz{ns:List Str}{Q:Unit->Shared->Prop}(X:K.In s.heap)(I:ObjM s.heap x dx C mA)
 (hs:PySem.W.findIn K (.ref C) "__setattr__"=some (some (.builtin "object.__setattr__"))) (hp:PySem.W.plainOver K C=true) (ht:PySem.W.takerIn K C name=some none) (hh:PySem.W.hasDictIn K C=true)
 (hw:PySem.Within mA ns) (hsz:ns.length<=sizeLine)
 (h:∀h',ObjM h' x dx C (fun y=>if y=name then some v else mA y)->Heap.SameBut dx s.heap h'->Q () { s with heap:=h',toks:=s.toks+2 }) :
 wpAny (model prog w) A (setAttr (.ref x) name v) Q E s:=by
 obtain⟨od,J,hl⟩:=I.look;refine PySem.W.set_plain X J hs (PySem.W.osa_open (s:={ s with toks:=s.toks+1 }) (r:=none) X J hp ht fun b=>?_);obtain⟨cd,hc,hd'⟩:=PySem.W.any_some hh;have hx:s.heap.get? x=some ⟨.ref C,some dx,.plain,#[]⟩:=I.obj;refine wpAny_bind (wpAny_pure (wpAny_bind (wpAny_bind (wpAny_loadPart hx (wpAny_bind (PySem.W.Looks.here (s:={ s with toks:=s.toks+1 }) (PySem.W.looks_clsIn X hc) ?_))))));rw[hd'];refine wpAny_pure (a:=some dx) (wpAny_bind (wpAny_pure (wpAny_bind ?_)))
 refine wpAny_nsSet1 (s:={ s with toks:=s.toks+1 }) I.ns fun h' hn2 hs2=>?_
 obtain⟨oD,esD,epD,hoD,hdD,hcD⟩:=hn2.count (PySem.Within.cons name v hw);refine wpAny_bind (wpAny_lookBehind hoD (by rw[hdD];exact pastItsLine_dict (Nat.le_trans hcD (by rw[List.length_cons];omega))) ?_);exact wpAny_pure (h _ ⟨(hs2.2 _ (Ne.symm I.ne)).trans I.obj,hn2,I.ne⟩ hs2)
theorem yj{R:Result->Shared->Prop}{vs:List Value}{kw:List (Str×Value)}(X:K.In s.heap)(hm:PySem.W.makesIn K C=true)
 (hi:PySem.W.findIn K (.ref C) "__init__"=some (some (.ref f))) (hf:PySem.W.typeIn K (.ref f)=some (.type "function"))
 (h:codeAny (model prog w) (A.under (.builtin "type.__call__" ⟨.ref C::vs,kw⟩)) (.call (.ref f) ⟨.ref (s.heap.objs.size+1)::vs,kw⟩) (PySem.W.InitBack (s.heap.objs.size+1) R)
  { s with heap:=(s.heap.push PySem.W.emptyDict).push (PySem.W.instObj C s.heap.objs.size) }) :
 codeAny (model prog w) A (.call (.ref C) ⟨vs,kw⟩) R s:=by
 obtain⟨hh,g,d,t,os⟩:=s;exact PySem.W.make_core (PySem.W.makes_of X hm) (PySem.W.looks_findIn X hi) (fun self=>PySem.W.bind_fn X self hf) (.inl rfl) h
end
noncomputable def putF(f:Str)(v:V):List (Str×V)->List (Str×V)
 | []=>[(f,v)]
 | (g,x)::r=>if g=f then(g,v)::r else(g,x)::putF f v r
theorem iy(f g:Str)(v:V):∀fs:List (Str×V),(putF f v fs).lookup g=if g=f then some v else fs.lookup g
 | []=>by
   show List.lookup g [(f,v)]=_
   by_cases h:g=f
   ·have hb:(g==f)=true:=beq_iff_eq.mpr h
    simp only[List.lookup,hb,if_pos h]
   ·have hb:(g==f)=false:=beq_eq_false_iff_ne.mpr h
    simp only[List.lookup,hb,if_neg h]
 | (k,x)::r=>by
   have ih:=iy f g v r;rw[show putF f v ((k,x)::r)=(if k=f then(k,v)::r else(k,x)::putF f v r)from rfl]
   by_cases hk:k=f
   ·rw[if_pos hk]
    by_cases h:g=k
    ·have hb:(g==k)=true:=beq_iff_eq.mpr h
     simp only[List.lookup,hb,if_pos (h.trans hk)]
    ·have hb:(g==k)=false:=beq_eq_false_iff_ne.mpr h
     simp only[List.lookup,hb,if_neg (fun e:g=f=>h (e.trans hk.symm))]
   ·rw[if_neg hk]
    by_cases h:g=k
    ·have hb:(g==k)=true:=beq_iff_eq.mpr h
     simp only[List.lookup,hb,if_neg (fun e:g=f=>hk (h.symm.trans e))]
    ·have hb:(g==k)=false:=beq_eq_false_iff_ne.mpr h
     simp only[List.lookup,hb];exact ih
theorem jm(f:Str)(v:V):∀fs:List (Str×V),f∈(putF f v fs).map (·.1)/\∀g,g∈fs.map (·.1)->g∈(putF f v fs).map (·.1)
 | []=>⟨by simp[putF],fun g h=>by simp at h⟩
 | (k,x)::r=>by
   obtain⟨i1,i2⟩:=jm f v r;rw[show putF f v ((k,x)::r)=(if k=f then(k,v)::r else(k,x)::putF f v r)from rfl]
   by_cases hk:k=f
   ·rw[if_pos hk]
    subst hk;exact⟨by simp,fun g h=>by simpa using h⟩
   ·rw[if_neg hk]
    refine⟨?_,fun g h=>?_⟩
    ·rw[List.map_cons]
     exact List.mem_cons_of_mem _ i1
    ·rw[List.map_cons]at h ⊢
     rcases List.mem_cons.mp h with e | e
     ·exact List.mem_cons.mpr (.inl e)
     ·exact List.mem_cons_of_mem _ (i2 g e)
theorem iz(f:Str)(v:V):∀fs:List (Str×V),(putF f v fs).length<=fs.length+1
 | []=>by simp[putF]
 | (k,x)::r=>by
   have ih:=iz f v r;rw[show putF f v ((k,x)::r)=(if k=f then(k,v)::r else(k,x)::putF f v r)from rfl]
   by_cases hk:k=f
   ·rw[if_pos hk,List.length_cons,List.length_cons];omega
   ·rw[if_neg hk,List.length_cons,List.length_cons];omega
theorem RelO.some_of{v:V}{o:Option Value}(r:RelO (some v) o):∃u,o=some u/\RelV v u:=by
 cases o with
 | none=>exact(show False from r).elim
 | some u=>exact⟨u,rfl,r⟩
theorem RelO.none_of{o:Option Value}(r:RelO none o):o=none:=by
 cases o with
 | none=>rfl
 | some u=>exact(show False from r).elim
theorem vQ{v:V}{u:Value}(r:RelV v u):PySem.W.handedIn u=true:=by
 cases v with
 | non=>cases (show u=Value.none from r);rfl
 | bl b=>cases (show u=Value.bool b from r);rfl
 | int i=>obtain⟨t,e⟩:=(show ∃t,u=Value.int i t from r);cases e;rfl
 | str x=>obtain⟨t,e⟩:=(show ∃t,u=Value.str x t from r);cases e;rfl
 | byt b=>obtain⟨t,e⟩:=(show ∃t,u=Value.bytes b t from r);cases e;rfl
 | flt b=>obtain⟨t,e⟩:=(show ∃t,u=Value.float b t from r);cases e;rfl
 | ref a=>cases (show u=Value.ref a from r);rfl
 | ty n=>cases (show u=Value.type n from r);rfl
section
variable{P:Program}{w:World}{H H':Hp}{h h':Heap}{a C dx:Addr}{fs fs':List (Str×V)}
theorem pW(hok:HOk P w H h)(e:H a=some (.ins C dx fs)):∃mA,ObjM h a dx C mA/\(∀f,RelO (fs.lookup f) (mA f))/\PySem.Within mA (fs.map (·.1))/\fs.length<=1000/\H dx=some (.own a):=by
 obtain⟨d,z,ne,ob,mA,n,r,q⟩:=(show ObjOk P w H h a (.ins C dx fs)from hok a _ e)
 exact⟨mA,⟨ob,n,ne⟩,r,q,z,d⟩
end
structure Cls(K:PySem.W.Frag)(C:Addr):Prop where
 pg:PySem.W.plainGet K C Str.empty=true
 hd:PySem.W.hasDictIn K C=true
 po:PySem.W.plainOver K C=true
 sa:PySem.W.findIn K (.ref C) "__setattr__"=some (some (.builtin "object.__setattr__"))
theorem Cls.get{K:PySem.W.Frag}{C:Addr}(c:Cls K C)(f:Str):PySem.W.plainGet K C f=true:=c.pg
noncomputable def NoAttr(K:PySem.W.Frag)(C:Addr)(f:Str):Prop:=PySem.W.findIn K (.ref C) f=some none
theorem NoAttr.taker{K:PySem.W.Frag}{C:Addr}{f:Str}(n:NoAttr K C f):PySem.W.takerIn K C f=some none:=by
 unfold PySem.W.takerIn;rw[show PySem.W.findIn K (.ref C) f=some none from n]
 rfl
structure Con(K:PySem.W.Frag)(C:Addr)(f:Str)(v:V)(u:Value):Prop where
 at_:PySem.W.findIn K (.ref C) f=some (some u)
 rel:RelV v u
 get:PySem.W.specialIn K u "__get__"=some none
 cp:PySem.W.copiedNames.contains f=false
structure Meth(K:PySem.W.Frag)(C:Addr)(m:Str)(f:Addr):Prop where
 at_:PySem.W.findIn K (.ref C) m=some (some (.ref f))
 fn:PySem.W.isFn K (.ref f)=true
 kp:PySem.W.keepIn K (.ref f)=true
section
variable{X:Cx}{pins:List (Addr×Obj)}{σ:St}{H:Hp}{s:Shared}{a C dx:Addr}{fs:List (Str×V)}{f:Str}{v:V}{A:Around}{E:Value->Shared->Prop}
theorem rR{b:Bool}{Q:Value->Shared->Prop}(I:Inv X pins σ H s)(e:H a=some (.ins C dx fs))(c:Cls X.K C)(n:NoAttr X.K C f)(l:fs.lookup f=some v)
 (h:∀u s',Inv X pins σ H s'->RelV v u->Q u s'):wpAny (model X.prog X.w) A (getAttr (.ref a) f b) Q E s:=by
 obtain⟨mA,O,r,_,_,_⟩:=pW I.hok e;obtain⟨u,hu,ru⟩:=RelO.some_of (v:=v) (o:=mA f) (by rw[<-l];exact r f);exact Hr I.kIn O (c.get f) c.hd n hu (vQ ru) (h u _ (I.tok _) ru)
theorem jG{m:Str}{g:Addr}{pl:Sem Bool}{Q:Value×List Value->Shared->Prop}(I:Inv X pins σ H s)(e:H a=some (.ins C dx fs))(c:Cls X.K C)(k:Meth X.K C m g)(l:fs.lookup m=none)
 (h:Q (.ref g,[.ref a]) s):wpAny (model X.prog X.w) A (getMethod (.ref a) m pl) Q E s:=by
 obtain⟨mA,O,r,_,_,_⟩:=pW I.hok e;have hn:mA m=none:=RelO.none_of (by rw[<-l];exact r m);exact yr I.kIn O (c.get m) k.at_ k.fn hn h
theorem sV{y:V}{u:Value}{Q:Unit->Shared->Prop}(I:Inv X pins σ H s)(e:H a=some (.ins C dx fs))(c:Cls X.K C)(n:NoAttr X.K C f)(hl:fs.length<1000)(ry:RelV y u)
 (h:∀s',Inv X pins σ (upd H a (.ins C dx (putF f y fs))) s'->Q () s'):wpAny (model X.prog X.w) A (setAttr (.ref a) f u) Q E s:=by
 obtain⟨mA,O,r,wi,_,ho⟩:=pW I.hok e
 have hz:(fs.map (·.1)).length<=sizeLine:=by rw[List.length_map,sizeLine_eq];omega
 refine Dz I.kIn O c.sa c.po n.taker c.hd wi hz fun h' O' sb=>h _ ?_
 have hd:∃o,h'.get? dx=some o:=let⟨o,_,_,e',_⟩:=O'.ns;⟨o,e'⟩
 refine I.write (x:=a) (e:=dx) (by rw[e];exact True.intro) (.inr ho) (fun b q hb z=>(sb.2 b hb).trans z) hd ?_;refine⟨by rw[aM O.ne];exact ho,?_,O.ne,O'.obj,_,O'.ns,fun g=>?_,fun g hg=>?_⟩
 ·have:=iz f y fs;omega
 ·show RelO ((putF f y fs).lookup g) (if g=f then some u else mA g)
  rw[iy]
  by_cases q:g=f
  ·rw[if_pos q,if_pos q];exact ry
  ·rw[if_neg q,if_neg q];exact r g
 ·by_cases q:g=f
  ·rw[q];exact(jm f y fs).1
  ·refine(jm f y fs).2 g (wi g fun z=>hg ?_)
   show(if g=f then some u else mA g)=none;rw[if_neg q];exact z
theorem Inv.made(I:Inv X pins σ H s):Inv X pins σ (upd (upd H s.heap.objs.size (.own (s.heap.objs.size+1))) (s.heap.objs.size+1) (.ins C s.heap.objs.size []))
 { s with heap:=(s.heap.push PySem.W.emptyDict).push (PySem.W.instObj C s.heap.objs.size) }:=by
 have e1:(s.heap.push PySem.W.emptyDict).get? s.heap.objs.size=some PySem.W.emptyDict:=Heap.get?_push_size s.heap rfl
 have e2:((s.heap.push PySem.W.emptyDict).push (PySem.W.instObj C s.heap.objs.size)).get? (s.heap.objs.size+1)=some (PySem.W.instObj C s.heap.objs.size):=by
  have:=Heap.get?_push_size (s.heap.push PySem.W.emptyDict) (o:=PySem.W.instObj C s.heap.objs.size) rfl
  rwa [Heap.size_push]at this
 have e3:(s.heap.push PySem.W.emptyDict).Ns s.heap.objs.size (fun _=>none):=⟨PySem.W.emptyDict,#[],_,e1,rfl,(fun e he=>absurd he (by simp)),fun _=>rfl⟩
 have I1:=I.laid (a:=s.heap.objs.size) (o:=.own (s.heap.objs.size+1)) (h':=s.heap.push PySem.W.emptyDict) (t':=s.toks) (fun b u q=>Heap.get?_push_of_some _ q) (Nat.le_refl _) ⟨_,e1⟩;refine I1.laid (a:=s.heap.objs.size+1) (o:=.ins C s.heap.objs.size []) (t':=s.toks) (fun b u q=>Heap.get?_push_of_some _ q) (Nat.le_of_eq (Heap.size_push _ _)) ?_;have ne:s.heap.objs.size≠s.heap.objs.size+1:=Nat.ne_of_lt (Nat.lt_succ_self _);refine⟨by rw[aM ne,aW],Nat.zero_le _,ne,e2,fun _=>none,(Heap.Ns1.of_empty e3).at fun o q=>Heap.get?_push_of_some _ q,fun _=>True.intro,fun y hy=>absurd rfl hy⟩
theorem Du{prog:Program}{w:World}{env:Env}{e:Expr}{f:Str}{pos:Pos}{s:Shared}{Q:Value->Shared->Prop}(hb:attributeBase e f env (eval e env)=eval e env)
 (h:wpAny (model prog w) A (eval e env) (fun o s₁=>wpAny (model prog w) A (getAttr o f true) Q E s₁) E s):wpAny (model prog w) A (eval (.Attribute e f pos) env) Q E s :=
 Attribute_any_ h (by rw[arm_eval_Attribute,hb])
end
noncomputable def tFld(K:PySem.W.Frag)(ta:TE)(f:Str):TE:=fun σ H Q=>ta σ H fun x H1=>∃a C dx fs v,x=.ref a/\H1 a=some (.ins C dx fs)/\Cls K C/\NoAttr K C f/\fs.lookup f=some v/\Q v H1
noncomputable def sFld(K:PySem.W.Frag)(ta tv:TE)(f:Str):TS:=fun D σ H=>tv σ H fun y H1=>ta σ H1 fun x H2=>∃a C dx fs,x=.ref a/\H2 a=some (.ins C dx fs)/\Cls K C/\NoAttr K C f/\fs.length<1000 /\
 D.nx σ (upd H2 a (.ins C dx (putF f y fs)))
section
variable{X:Cx}{o e value:Expr}{f:Str}{pos pos' tpos:Pos}{ta tv:TE}
theorem Ji(he:PE X e ta)(hb:attributeBase e f X.env (eval e X.env)=eval e X.env):PE X (.Attribute e f pos) (tFld X.K ta f):=by
 intro pins s σ H Q I h;refine Du hb (thn (he pins s σ H _ I h) fun u s1 ⟨x,H1,I1,rx,a,C,dx,fs,v,ex,ea,c,n,l,q⟩=>?_);subst ex;obtain rfl:u=Value.ref a:=rx
 exact rR I1 ea c n l fun u' s2 I2 ru=>⟨v,H1,I2,ru,q⟩
theorem J4(ha:PE X o ta)(hv:PE X value tv)(hs:swapsWith value (some (.Attribute o f pos')) pos.line X.env=pure false):PS X (.Assign [.Attribute o f pos'] value pos) (sFld X.K ta tv f):=by
 intro pins s σ H D I h;refine plainObj_wpAny_Assign_Attribute (thn (hv pins s σ H _ I h) fun u s1 ⟨y,H1,I1,ry,q⟩=>thn (ha pins s1 σ H1 _ I1 q) fun ov s2 ⟨x,H2,I2,rx,a,C,dx,fs,ex,ea,c,n,l,q2⟩=>?_) hs;subst ex;obtain rfl:ov=Value.ref a:=rx
 exact sV I2 ea c n l ry fun s3 I3=>⟨σ,_,I3,q2⟩
end
section
variable{X:Cx}{pins:List (Addr×Obj)}{σ:St}{H:Hp}{s:Shared}{A:Around}{E:Value->Shared->Prop}{Q:Value->Shared->Prop}{c:Value}{b:Bool}
inductive TyOf(K:PySem.W.Frag)(H:Hp):V->Value->Prop where
 | non:TyOf K H .non (.type "NoneType")
 | bl (x:Bool):TyOf K H (.bl x) (.type "bool")
 | int (i:Int):TyOf K H (.int i) (.type "int")
 | str (x:Str):TyOf K H (.str x) (.type "str")
 | flt (x:UInt64):TyOf K H (.flt x) (.type "float")
 | lst {a:Addr} {xs:List V} (e:H a=some (.lst xs)):TyOf K H (.ref a) (.type "list")
 | frz {a:Addr} {o:Obj} {xs:List V} (e:H a=some (.frz o (.lst xs))):TyOf K H (.ref a) (.type "list")
 | tup {a:Addr} {xs:List V} (e:H a=some (.tup xs)):TyOf K H (.ref a) (.type "tuple")
 | dK {a:Addr} {kvs:List (Key×V)} {ep:Nat} (e:H a=some (.dK kvs ep)):TyOf K H (.ref a) (.type "dict")
 | dT {a:Addr} {kvs:List (List Key×V)} (e:H a=some (.dT kvs)):TyOf K H (.ref a) (.type "dict")
 | ins {a C dx:Addr} {fs:List (Str×V)} (e:H a=some (.ins C dx fs)) (cl:Cls K C) (ha:PySem.W.findIn K (.ref C) "__class__"=some (some (.builtin "object.__class__")))
  (hn:PySem.W.specialIn K (.builtin "object.__class__") "__get__"=some (some (.builtin "getset_descriptor.__get__"))) (htk:PySem.W.takesIn K (.builtin "object.__class__")=some true)
  (hm:PySem.W.mroIn K C (.type "object")=some true):TyOf K H (.ref a) (.ref C)
end
end L2
namespace L2
open PySem PySem.Spec PyProof.Rows
structure Room(k:Nat)(A:Around):Prop where
 hd:A.handled=none
 dp:A.depth+3*k+5<recursionLimit
 un:A.units+16*k+200<cLine
theorem Room.mono{j k:Nat}{A:Around}(r:Room k A)(h:j<=k):Room j A:=⟨r.hd,by have:=r.dp;omega,by have:=r.un;omega⟩
theorem Room.deeper{k:Nat}{A:Around}(r:Room (k+1) A)(env:Env):Room k (A.deeper env) :=
 ⟨r.hd,by have:=r.dp;show A.depth+1+3*k+5<_;omega,by have:=r.un;show A.units+3+16*k+200<_;omega⟩
theorem sU{A:Around}{C:Addr}{us:List Value}{kw:List (Str×Value)}:(A.under (.builtin "type.__call__" ⟨.ref C::us,kw⟩)).depth=A.depth+1:=by
 first | rfl | simp[Around.under,Code.weight,Code.isCreation,Code.isGuard,Code.isCaller,Code.frames,Code.isFrame,guardIds]
theorem t8{A:Around}{C:Addr}{us:List Value}{kw:List (Str×Value)}:(A.under (.builtin "type.__call__" ⟨.ref C::us,kw⟩)).units=A.units+1:=by
 first | rfl | simp[Around.under,Code.cUnits,Code.frames,Code.isFrame]
theorem Room.make{k:Nat}{A:Around}(r:Room (k+1) A)(C:Addr)(us:List Value)(kw:List (Str×Value)):Room k (A.under (.builtin "type.__call__" ⟨.ref C::us,kw⟩)) :=
 ⟨r.hd,by have:=r.dp;rw[sU];omega,by have:=r.un;rw[t8];omega⟩
theorem Room.depth{k:Nat}{A:Around}(r:Room k A):A.depth<recursionLimit:=by have:=r.dp;omega
theorem Room.units{k:Nat}{A:Around}(r:Room k A):A.units+64<cLine:=by have:=r.un;omega
noncomputable def tNil:TA:=fun _ H Q=>Q [] H
noncomputable def IW(ta:TE)(tr:TA):TA:=fun σ H Q=>ta σ H fun x H1=>tr σ H1 fun xs H2=>Q (x::xs) H2
section
variable{X:Cx}{e:Expr}{es:List Expr}{te:TE}{t:TA}{pos:Pos}
theorem dw:PA X [] tNil:=fun _ _ _ _ H Q I h=>Calls.spliced_nil ⟨[],H,I,.nil,h⟩
theorem bQ(ha:PE X e te)(hr:PA X es t)(hs:starEach (e::es) X.env=(false,eval e X.env)::starEach es X.env:=by rfl):PA X (e::es) (IW te t):=by
 intro pos pins s σ H Q I h;rw[hs];show wpAny _ _ (spliced ((false,eval e X.env)::backTo pos (starEach es X.env))) _ _ s;refine Calls.spliced_cons (thn (ha pins s σ H _ I h) fun u s1 ⟨x,H1,I1,r1,q1⟩=>?_)
 exact thn (hr pos pins s1 σ H1 _ I1 q1) fun us s2 ⟨xs,H2,I2,r2,q2⟩=>⟨x::xs,H2,I2,.cons r1 r2,q2⟩
noncomputable def tTup(t:TA):TE:=fun σ H Q=>t σ H fun xs H1=>xs.length<=sizeLine/\∀p,H1 p=none->Q (.ref p) (upd H1 p (.tup xs))
noncomputable def tLst(t:TA):TE:=fun σ H Q=>t σ H fun xs H1=>xs.length<=sizeLine/\∀p,H1 p=none->Q (.ref p) (upd H1 p (.lst xs))
theorem JC{x1}(h:PA X es t):PE X (.Tuple es x1 pos) (tTup t):=by
 intro pins s σ H Q I hq;refine wpAny_Tuple_spliced (thn (h pos pins s σ H _ I hq) fun us s1 ⟨xs,H1,I1,r,z,q⟩=>⟨by rw[<-r.length];exact z,?_⟩);have hf:H1 s1.heap.objs.size=none:=I1.hok.fresh (Nat.le_refl _);refine⟨.ref s1.heap.objs.size,upd H1 s1.heap.objs.size (.tup xs),I1.laid (t':=s1.toks) (fun b u e=>Heap.get?_push_of_some _ e) (Nat.le_refl _) ?_,rfl,q _ hf⟩;exact⟨z,us,r,⟨_,Heap.get?_push_size _ rfl,rfl,_,rfl⟩⟩
theorem Ir(h:PA X es t):PE X (.List es pos) (tLst t):=by
 intro pins s σ H Q I hq;refine wpAny_List_spliced (thn (h pos pins s σ H _ I hq) fun us s1 ⟨xs,H1,I1,r,z,q⟩=>⟨by rw[<-r.length];exact z,?_⟩);have hf:H1 s1.heap.objs.size=none:=I1.hok.fresh (Nat.le_refl _);refine⟨.ref s1.heap.objs.size,upd H1 s1.heap.objs.size (.lst xs),I1.laid (t':=s1.toks) (fun b u e=>Heap.get?_push_of_some _ e) (Nat.le_refl _) ?_,rfl,q _ hf⟩;exact⟨z,us,0,r,Heap.get?_push_size _ rfl⟩
end
noncomputable abbrev Sp:=List V->Hp->VK->XK->Prop
noncomputable abbrev CXT:=List Env->Hp->Shared->XK->Value->Shared->Prop
structure Env0(P:Program)(w:World)(K:PySem.W.Frag)(mg:Str->Option Value)(base:Heap)(A:Around)(outer:List Env)(s:Shared)(H:Hp):Prop where
 frames:A.frames=some outer
 mod:Mod K mg base
 bs:∀b o,base.get? b=some o->s.heap.get? b=some o/\H b=none
 bsz:base.objs.size<=s.heap.objs.size
 funs:s.heap.FunFrames base outer
 frf:∀b∈frs outer,H b=none
 hok:HOk P w H s.heap
 bare:AllBare s.gens
noncomputable def CE(outer:List Env)(P:Program)(w:World)(H:Hp)(s:Shared)(Q:VK)(u:Value)(s':Shared):Prop :=
 ∃v H',s'.os=s.os/\AllBare s'.gens/\Un (frs outer) [] H H' s.heap s'.heap/\HOk P w H' s'.heap/\RelV v u/\Q v H'
noncomputable def CR(CX:CXT)(outer:List Env)(P:Program)(w:World)(H:Hp)(s:Shared)(Q:VK)(E:XK)(r:Result)(s':Shared):Prop :=
 match r with
 | .ok (.ret u)=>CE outer P w H s Q u s'
 | .ok _=>False
 | .error e=>CX outer H s E e s'
structure FnOk(P:Program)(w:World)(K:PySem.W.Frag)(mg:Str->Option Value)(base:Heap)(CX:CXT)(k:Nat)(f:Addr)(fd:FuncData)(ps:List Str)(sp:Sp):Prop where
 len:∀vs H Q E,sp vs H Q E->vs.length=ps.length
 run:∀(A:Around) (outer:List Env) (s:Shared) (H:Hp) (args:Args) (us:List Value) (vs:List V) (Q:VK) (E:XK),Room k A->Env0 P w K mg base A outer s H->BindsTo s fd args (ps.zip us)->Vals vs us->sp vs H Q E ->
  codeAny (model P w) A (.call (.ref f) args) (CR CX outer P w H s Q E) s
theorem Env0.make{P:Program}{w:World}{K:PySem.W.Frag}{mg:Str->Option Value}{base:Heap}{A:Around}{outer:List Env}{s:Shared}{H:Hp}(e:Env0 P w K mg base A outer s H)(C:Addr)(us:List Value)(kw:List (Str×Value)) :
 Env0 P w K mg base (A.under (.builtin "type.__call__" ⟨.ref C::us,kw⟩)) outer s H:=⟨by first | exact e.frames | (simpa[Around.under,Code.envs,Code.isFrame,pushEnvs]using e.frames),e.mod,e.bs,e.bsz,e.funs,e.frf,e.hok,e.bare⟩
section
variable{X:Cx}{pins:List (Addr×Obj)}{σ:St}{H:Hp}{s s':Shared}
theorem Inv.env0(I:Inv X pins σ H s):Env0 X.prog X.w X.K X.mg X.base X.A X.stack s H :=
 ⟨I.ok.frames,I.ok.mod,I.bs,Nat.le_trans I.ok.bsz I.sz,I.stack,I.stkFree,I.hok,I.bare⟩
theorem Inv.after{Q:VK}{u:Value}(I:Inv X pins σ H s)(h:CE X.stack X.prog X.w H s Q u s'):EP X pins σ Q u s':=by
 obtain⟨v,H',os,bare,un,hok,r,q⟩:=h;obtain⟨hh,g,d,t,os'⟩:=s';obtain rfl:os'=s.os:=os;exact⟨v,H',I.call (h':=hh) (g':=g) (d':=d) (t':=t) (ch:=[]) un hok bare (fun b z=>absurd z (by simp)),r,q⟩
end
noncomputable def J3(sp:Sp)(dvs:List V)(E:XK)(t:TA):TE:=fun σ H Q=>t σ H fun vs H1=>sp (vs++dvs) H1 Q E
noncomputable def zZ(C:Addr)(m:Str)(sp:Sp)(dvs:List V)(E:XK)(ta:TE)(t:TA):TE:=fun σ H Q=>ta σ H fun x H1=>∃a dx fs,x=.ref a/\H1 a=some (.ins C dx fs)/\fs.lookup m=none /\
 t σ H1 fun vs H2=>sp (x::(vs++dvs)) H2 Q E
noncomputable def Ma(C:Addr)(sp:Sp)(dvs:List V)(E:XK)(t:TA):TE:=fun σ H Q=>t σ H fun vs H1=>∀x dx,H1 x=none->H1 dx=none->dx≠x ->
 sp (.ref x::(vs++dvs)) (upd (upd H1 dx (.own x)) x (.ins C dx [])) (fun v H2=>v=.non/\Q (.ref x) H2) E
noncomputable def Binds(K:PySem.W.Frag)(fd:FuncData)(ps:List Str)(ds:List Value):Prop :=
 ∀(s:Shared) (us:List Value),K.In s.heap->(us++ds).length=ps.length->BindsTo s fd ⟨us,[]⟩ (ps.zip (us++ds))
theorem Binds.all{K:PySem.W.Frag}{fd:FuncData}{ps:List Str}(h:∀us:List Value,us.length=ps.length->bindArgs fd ⟨us,[]⟩=pure (ps.zip us)):Binds K fd ps []:=fun s us _ hl=>by
 rw[List.append_nil]at hl ⊢;exact .of_eq (h us hl)
noncomputable def gM(CX:CXT)(X:Cx)(E:XK):Prop:=∀(pins:List (Addr×Obj)) (σ:St) (H:Hp) (s:Shared) (e:Value) (s':Shared),Inv X pins σ H s->CX X.stack H s E e s'->X.xe e s'
section
variable{X:Cx}{CX:CXT}{k:Nat}{f C:Addr}{fd:FuncData}{ps:List Str}{sp:Sp}{dvs:List V}{ds:List Value}{E:XK}{x m:Str}{p pos apos:Pos}{e o:Expr}{es:List Expr}{ta:TE}{t:TA}
theorem qi{pins:List (Addr×Obj)}{σ:St}{H:Hp}{s:Shared}{Q:VK}{us:List Value}{vs:List V}(F:FnOk X.prog X.w X.K X.mg X.base CX k f fd ps sp)(hr:Room k X.A)(hb:Binds X.K fd ps ds)(hd:Vals dvs ds)(hx:gM CX X E)
 (I:Inv X pins σ H s) (r:Vals vs us) (h:sp (vs++dvs) H Q E):wpAny (model X.prog X.w) X.A (call (.ref f) us) (EP X pins σ Q) X.xe s:=by
 have r2:Vals (vs++dvs) (us++ds):=r.append hd
 have hl:(us++ds).length=ps.length:=by rw[<-r2.length];exact F.len _ _ _ _ h
 refine wpAny_call (codeAny_mono (F.run X.A X.stack s H ⟨us,[]⟩ (us++ds) (vs++dvs) Q E hr I.env0 (hb s us I.kIn hl) r2 h) fun r s' hq=>?_)
 cases r with
 | error e=>exact hx pins σ H s e s' I hq
 | ok fl=>
   cases fl with
   | ret u=>exact I.after hq
   | next=>exact False.elim hq
   | brk=>exact False.elim hq
   | cont=>exact False.elim hq
theorem Gf(F:FnOk X.prog X.w X.K X.mg X.base CX k f fd ps sp)(hr:Room k X.A)(hg:Gl X x)(hm:X.mg x=some (.ref f))(hk:PySem.W.keepIn X.K (.ref f)=true)(hb:Binds X.K fd ps ds)(hd:Vals dvs ds)(hx:gM CX X E)
 (ha:PA X (e::es) t) (hdb:(x==("__debug__":Str))=false:=by decide) (he:starEach (e::es) X.env=(false,eval e X.env)::starEach es X.env:=by rfl) (hpl:(backTo pos (starEach es X.env)).any (·.1)=false:=by rfl) :
 PE X (.Call (.Name x p) (e::es) [] pos) (J3 sp dvs E t):=by
 intro pins s σ H Q I h;refine wpAny_Call_Name_kw (lJ I hg hm ?_ hdb);refine PySem.W.callWith_K (h₀:=X.base) I.ok.mod.kin hk (thn (ha pos pins s σ H _ I h) fun us s1 ⟨vs,H1,I1,r,q⟩=>⟨I1.kIn,?_⟩) he hpl;exact qi F hr hb hd hx I1 r q
theorem Cw{pl:Sem Bool}(he:PE X o ta)(c:Cls X.K C)(hm:Meth X.K C m f)(F:FnOk X.prog X.w X.K X.mg X.base CX k f fd ps sp)(hr:Room k X.A)(hb:Binds X.K fd ps ds)(hd:Vals dvs ds)(hx:gM CX X E)(ha:PA X (e::es) t)
 (hst:starEach (e::es) X.env=(false,eval e X.env)::starEach es X.env:=by rfl) (hpl:(backTo pos (starEach es X.env)).any (·.1)=false:=by rfl)
 (ht:eval (.Call (.Attribute o m apos) (e::es) [] pos) X.env=(do
  let ov <-eval o X.env
  standAt apos.atName
  let(f,first) <-holding [ov] (getMethod ov m pl)
  callWith pos f first (backTo pos (starEach (e::es) X.env)) (backToKw pos (keywordEach [] X.env))):=by rfl) :
 PE X (.Call (.Attribute o m apos) (e::es) [] pos) (zZ C m sp dvs E ta t):=by
 intro pins s σ H Q I h;refine PySem.W.methodCall_KW (pl:=pl) (thn (he pins s σ H _ I h) fun u s1 ⟨x,H1,I1,rx,a,dx,fs,ex,ea,l,q⟩=>?_) ht;subst ex;obtain rfl:u=Value.ref a:=rx;refine jG I1 ea c hm l ?_;refine PySem.W.callWith_K (first:=[.ref a]) (h₀:=X.base) I.ok.mod.kin hm.kp (thn (ha pos pins s1 σ H1 _ I1 q) fun us s2 ⟨vs,H2,I2,r,q2⟩=>⟨I2.kIn,?_⟩) hst hpl;exact qi (us:=.ref a::us) (vs:=.ref a::vs) F hr hb hd hx I2 (.cons rfl r) q2
theorem zV{pl:Sem Bool}(he:PE X o ta)(c:Cls X.K C)(hm:Meth X.K C m f)(F:FnOk X.prog X.w X.K X.mg X.base CX k f fd ps sp)(hr:Room k X.A)(hb:Binds X.K fd ps ds)(hd:Vals dvs ds)(hx:gM CX X E)
 (ht:eval (.Call (.Attribute o m apos) [] [] pos) X.env=(do
  let ov <-eval o X.env
  standAt apos.atName
  let(f,first) <-holding [ov] (getMethod ov m pl)
  callWith pos f first (backTo pos (starEach [] X.env)) (backToKw pos (keywordEach [] X.env))):=by rfl) :
 PE X (.Call (.Attribute o m apos) [] [] pos) (zZ C m sp dvs E ta tNil):=by
 intro pins s σ H Q I h;refine PySem.W.methodCall_KW (pl:=pl) (thn (he pins s σ H _ I h) fun u s1 ⟨x,H1,I1,rx,a,dx,fs,ex,ea,l,q⟩=>?_) ht;subst ex;obtain rfl:u=Value.ref a:=rx;refine jG I1 ea c hm l ?_;exact PySem.W.callWith_K0 (first:=[.ref a]) I1.kIn hm.kp (qi (us:=[.ref a]) (vs:=[.ref a]) F hr hb hd hx I1 (.cons rfl .nil) q)
structure Mk(K:PySem.W.Frag)(C f:Addr):Prop where
 makes:PySem.W.makesIn K C=true
 init:PySem.W.findIn K (.ref C) "__init__"=some (some (.ref f))
 fn:PySem.W.isFn K (.ref f)=true
 kp:PySem.W.keepIn K (.ref C)=true
theorem yg{pins:List (Addr×Obj)}{σ:St}{H:Hp}{s:Shared}{Q:VK}{us:List Value}{vs:List V}(M:Mk X.K C f)(F:FnOk X.prog X.w X.K X.mg X.base CX k f fd ps sp)(hr:Room (k+1) X.A)(hb:Binds X.K fd ps ds)(hd:Vals dvs ds)
 (hx:gM CX X E) (I:Inv X pins σ H s) (r:Vals vs us)
 (h:∀x dx,H x=none->H dx=none->dx≠x->sp (.ref x::(vs++dvs)) (upd (upd H dx (.own x)) x (.ins C dx [])) (fun v H2=>v=.non/\Q (.ref x) H2) E) :
 wpAny (model X.prog X.w) X.A (call (.ref C) us) (EP X pins σ Q) X.xe s:=by
 have hq:=h (s.heap.objs.size+1) s.heap.objs.size (I.hok.fresh (Nat.le_succ _)) (I.hok.fresh (Nat.le_refl _)) (Nat.ne_of_lt (Nat.lt_succ_self _));have I2:=Inv.made (C:=C) I;have r2:Vals (V.ref (s.heap.objs.size+1)::(vs++dvs)) (Value.ref (s.heap.objs.size+1)::(us++ds)):=.cons rfl (r.append hd)
 have hl:(Value.ref (s.heap.objs.size+1)::us++ds).length=ps.length:=by
  have e:=r2.length;rw[F.len _ _ _ _ hq]at e;exact e.symm
 refine wpAny_call (yj (f:=f) I.kIn M.makes M.init (beq_iff_eq.mp M.fn) (codeAny_mono (F.run _ X.stack _ _ ⟨Value.ref (s.heap.objs.size+1)::us,[]⟩ (Value.ref (s.heap.objs.size+1)::(us++ds)) _ _ E (hr.make C us [])
  (I2.env0.make C us []) (hb _ (Value.ref (s.heap.objs.size+1)::us) I2.kIn hl) r2 hq) fun r s' hq'=>?_))
 cases r with
 | error e=>exact hx pins σ _ _ e s' I2 hq'
 | ok fl=>
   cases fl with
   | ret u=>
     obtain⟨v,H',I3,rv,ev,q3⟩:=I2.after hq';subst ev;exact⟨rv,⟨V.ref (s.heap.objs.size+1),H',I3,rfl,q3⟩⟩
   | next=>exact False.elim hq'
   | brk=>exact False.elim hq'
   | cont=>exact False.elim hq'
theorem Gx(M:Mk X.K C f)(F:FnOk X.prog X.w X.K X.mg X.base CX k f fd ps sp)(hr:Room (k+1) X.A)(hg:Gl X x)(hm:X.mg x=some (.ref C))(hb:Binds X.K fd ps ds)(hd:Vals dvs ds)(hx:gM CX X E)
 (ha:PA X (e::es) t) (hdb:(x==("__debug__":Str))=false:=by decide) (he:starEach (e::es) X.env=(false,eval e X.env)::starEach es X.env:=by rfl) (hpl:(backTo pos (starEach es X.env)).any (·.1)=false:=by rfl) :
 PE X (.Call (.Name x p) (e::es) [] pos) (Ma C sp dvs E t):=by
 intro pins s σ H Q I h;refine wpAny_Call_Name_kw (lJ I hg hm ?_ hdb);refine PySem.W.callWith_K (h₀:=X.base) I.ok.mod.kin M.kp (thn (ha pos pins s σ H _ I h) fun us s1 ⟨vs,H1,I1,r,q⟩=>⟨I1.kIn,?_⟩) he hpl;exact yg M F hr hb hd hx I1 r q
end
section
variable{X:Cx}{CX:CXT}{k:Nat}{f C:Addr}{fd:FuncData}{ps ks:List Str}{sp:Sp}{E:XK}{x m:Str}{p pos apos kpos:Pos}{e o:Expr}{es:List Expr}{kws:List Keyword}{te ta:TE}{t tk:TA}{nm:Option Str}
structure KBinds(K:PySem.W.Frag)(fd:FuncData)(ps ks:List Str)(g:List Value->List Value->List Value)(gV:List V->List V->List V):Prop where
 to:∀(s:Shared) (us ws:List Value),K.In s.heap->(g us ws).length=ps.length->BindsTo s fd ⟨us,ks.zip ws⟩ (ps.zip (g us ws))
 rel:∀{vs:List V} {us:List Value} {zs:List V} {ws:List Value},Vals vs us->Vals zs ws->Vals (gV vs zs) (g us ws)
variable{g:List Value->List Value->List Value}{gV:List V->List V->List V}
end
structure FnScope(N P:List Str)(sc:Scope):Prop where
 kind:sc.kind=.function
 co:sc.isCoroutine=false
 gen:sc.isGenerator=false
 nd:N.Nodup
 pre:N.take P.length=P
 par:∀x∈P,sc.names.lookup x=some .local\/sc.names.lookup x=some .cell
 nofree:∀y∈sc.names,y.2≠.free
theorem nT{kindOf:Str->Option NameKind}{x:Str}:∀{binds:List (Str×Value)} {m:Str->Option Value},(∀v,(x,v)∉binds)->bindL kindOf binds m x=m x
 | [],_,_=>rfl
 | (n,v)::r,m,h=>by
   unfold bindL;rw[nT fun w hw=>h w (List.mem_cons_of_mem _ hw)];split
   ·have:x≠n:=by rintro rfl;exact h v List.mem_cons_self
    simp[this]
   ·rfl
theorem nO{kindOf:Str->Option NameKind}{x:Str}:∀{binds:List (Str×Value)} {m:Str->Option Value},(∀v,(x,v)∉binds)->bindC kindOf binds m x=m x
 | [],_,_=>rfl
 | (n,v)::r,m,h=>by
   unfold bindC;rw[nO fun w hw=>h w (List.mem_cons_of_mem _ hw)];split
   ·rfl
   ·have:x≠n:=by rintro rfl;exact h v List.mem_cons_self
    simp[this]
theorem nH{kindOf:Str->Option NameKind}{x:Str}{v:Value}:∀{P:List Str} {vs:List Value} {i:Nat} {m:Str->Option Value},P.Nodup->P[i]?=some x->vs[i]?=some v->kindOf x=some .local ->
 bindL kindOf (P.zip vs) m x=some v
 | [],_,_,_,_,h,_,_=>by simp at h
 | _::_,[],_,_,_,_,h,_=>by simp at h
 | p::P,w::vs,0,m,nd,h1,h2,hk=>by
   simp at h1 h2;subst h1;subst h2;show bindL kindOf ((p,w)::P.zip vs) m p=_;unfold bindL;rw[nT fun v hv=>(List.nodup_cons.mp nd).1 (List.of_mem_zip hv).1,if_pos hk];simp
 | p::P,w::vs,i+1,m,nd,h1,h2,hk=>by
   show bindL kindOf ((p,w)::P.zip vs) m x=_;unfold bindL;exact nH (i:=i) (List.nodup_cons.mp nd).2 (by simpa using h1) (by simpa using h2) hk
theorem lN{kindOf:Str->Option NameKind}{x:Str}{v:Value}:∀{P:List Str} {vs:List Value} {i:Nat} {m:Str->Option Value},P.Nodup->P[i]?=some x->vs[i]?=some v->kindOf x≠some .local ->
 bindC kindOf (P.zip vs) m x=some v
 | [],_,_,_,_,h,_,_=>by simp at h
 | _::_,[],_,_,_,_,h,_=>by simp at h
 | p::P,w::vs,0,m,nd,h1,h2,hk=>by
   simp at h1 h2;subst h1;subst h2;show bindC kindOf ((p,w)::P.zip vs) m p=_;unfold bindC;rw[nO fun v hv=>(List.nodup_cons.mp nd).1 (List.of_mem_zip hv).1,if_neg hk];simp
 | p::P,w::vs,i+1,m,nd,h1,h2,hk=>by
   show bindC kindOf ((p,w)::P.zip vs) m x=_;unfold bindC;exact lN (i:=i) (List.nodup_cons.mp nd).2 (by simpa using h1) (by simpa using h2) hk
noncomputable def start(N:List Str)(vs:List V):St:=vs.map some++List.replicate (N.length-vs.length) none
noncomputable def cxOf(CX:CXT)(P:Program)(w:World)(K:PySem.W.Frag)(mg:Str->Option Value)(base:Heap)(N:List Str)(qual:Str)(scope:Scope)(f:Addr)(cd:Value)(A:Around)(outer:List Env)(s:Shared)(H:Hp)(E:XK):Cx where
 prog:=P
 w:=w
 K:=K
 mg:=mg
 base:=base
 A:=A.deeper (envOfC qual scope s.heap.objs.size f cd)
 N:=N
 s₀:=s
 H₀:=H
 env:=envOfC qual scope s.heap.objs.size f cd
 outer:=outer
 stack:=envOfC qual scope s.heap.objs.size f cd::outer
 ex:=[]
 calm:=true
 fn:=fun _=>true
 pn:=[]
 xe:=fun e s'=>wpAny (model P w) (A.deeper (envOfC qual scope s.heap.objs.size f cd)) (leaving (envOfC qual scope s.heap.objs.size f cd) e) (fun _ s''=>CX outer H s E e s'') (fun e' s''=>CX outer H s E e' s'') s'
theorem qG{sc:Scope}{n:Nat}{x:Str}(h:sc.names.lookup x=some .cell):∃c,(cellsFrom n sc.names []).lookup x=some c:=by
 have q:=PySem.W.cellsFrom_some sc.names n [] (.inl h);exact Option.isSome_iff_exists.mp q
theorem wU{CX:CXT}{P:Program}{w:World}{K:PySem.W.Frag}{mg:Str->Option Value}{base:Heap}{N ps:List Str}{qual:Str}{scope:Scope}{f:Addr}{cd:Value}{A:Around}{outer:List Env}{s s1:Shared}{H:Hp}{E:XK}{us:List Value}{vs:List V}
 (S:FnScope N ps scope) (hd:A.handled=none) (e0:Env0 P w K mg base A outer s H) (hl:vs.length=ps.length) (r:Vals vs us)
 (x:InCallC s s.heap.objs.size (bindL (envOfC qual scope s.heap.objs.size f cd).kindOf (ps.zip us) fun _=>none) (cellsFrom (s.heap.objs.size+1) scope.names []) (bindC (envOfC qual scope s.heap.objs.size f cd).kindOf (ps.zip us) fun _=>none) s1) :
 Inv (cxOf CX P w K mg base N qual scope f cd A outer s H E) [] (start N vs) H s1:=by
 have hpl:ps.length<=N.length:=by have:=congrArg List.length S.pre;rw[List.length_take]at this;omega
 obtain⟨h1,tk,rfl,hk⟩:=x.done
 have noA:∀b:Addr,b∉(cxOf CX P w K mg base N qual scope f cd A outer s H E).ex:=fun b z=>absurd (show b∈([]:List Addr)from z) (by simp)
 refine⟨⟨e0.mod,S.kind,rfl,rfl,Nat.le_refl _,fun y z c h1 h2=>?_,fun y hy=>?_,fun y c _ h=>?_,fun _=>hd,Around.frames_deeper e0.frames,.inr ⟨rfl,rfl⟩,fun b z=>absurd z (noA b),e0.bs,e0.bsz,fun b _ _=>noA b,fun b z=>absurd z (noA b),e0.funs,e0.frf⟩,
  rfl,e0.bare,Un.kept hk,⟨_,x.toInCall.ns,fun i y v h1 h2 h3=>?_⟩,fun y c h=>⟨_,x.cell y c h⟩,e0.hok.fresh (Nat.le_refl _),fun y c h=>?_,fun p hp=>absurd (show p∈([]:List (Addr×Obj))from hp) (by simp),e0.hok.kept hk,?_⟩
 ·exact name_of_addr x.apart (PySem.mem_of_lookup h1) (PySem.mem_of_lookup h2)
 ·have hy:scope.names.lookup y=some .cell\/scope.names.lookup y=some .free:=hy
  rcases hy with hy | hy
  ·exact qG hy
  ·exact absurd rfl (S.nofree _ (PySem.mem_of_lookup hy))
 ·exact Nat.le_of_lt (x.above y c (PySem.mem_of_lookup h))
 ·have hi:i<vs.length:=by
   unfold start at h2
   by_cases hi:i<vs.length
   ·exact hi
   ·rw[List.getElem?_append_right (by simpa using hi)]at h2
    rw[List.getElem?_replicate]at h2;split at h2<;>cases h2
  have ha:vs[i]?=some v:=by
   unfold start at h2;rw[List.getElem?_append_left (by simpa using hi),List.getElem?_map]at h2
   cases e:vs[i]? with
   | none=>rw[e]at h2;cases h2
   | some a=>rw[e]at h2;cases h2;rfl
  obtain⟨u,hu,rv⟩:=r.get ha
  have hp:ps[i]?=some y:=by
   rw[<-S.pre,List.getElem?_take_of_lt (by omega)];exact h1
  have ndP:ps.Nodup:=by rw[<-S.pre];exact S.nd.sublist (List.take_sublist _ _)
  refine⟨u,rv,?_⟩;rcases S.par y (List.mem_of_getElem? hp)with k | k
  ·exact .inl ⟨k,nH ndP hp hu k⟩
  ·obtain⟨c,e⟩:=qG (n:=s.heap.objs.size+1) k
   refine .inr ⟨.inl k,c,e,?_⟩;have q:=x.cell y c e;rw[lN ndP hp hu (by show scope.names.lookup y≠_;rw[k];decide)]at q;exact q
 ·exact e0.hok.fresh (Nat.le_of_lt (x.above y c (PySem.mem_of_lookup h)))
 ·unfold start
  show _=N.length;rw[List.length_append,List.length_map,List.length_replicate];omega
theorem Ks{CX:CXT}{P:Program}{w:World}{K:PySem.W.Frag}{mg:Str->Option Value}{base:Heap}{k:Nat}{f:Addr}{name qual:Str}{params:Arguments}{body:List Stmt}{scope:Scope}{dV kV doc pm cdv ct oc:Value}{an od:Option Addr}
 {osl:Array (Option Value)} {N ps:List Str} {sp:Sp} (lk:K.lookup f=some ⟨oc,od,.func (PySem.W.fnOf name qual params body scope dV kV doc pm an cdv ct),osl⟩) (hcd:PySem.W.codeIn K cdv qual=true) (S:FnScope N ps scope)
 (len:∀vs H Q E,sp vs H Q E->vs.length=ps.length)
 (hbody:∀(A:Around) (outer:List Env) (s:Shared) (H:Hp) (vs:List V) (Q:VK) (E:XK),Room k (A.deeper (envOfC qual scope s.heap.objs.size f cdv))->sp vs H Q E ->
  ∃t,PSs (cxOf CX P w K mg base N qual scope f cdv A outer s H E) body t/\t { nx:=fun _ H'=>Q .non H',rt:=Q } (start N vs) H) :
 FnOk P w K mg base CX (k+1) f (PySem.W.fnOf name qual params body scope dV kV doc pm an cdv ct) ps sp:=by
 refine⟨len,fun A outer s H args us vs Q E hr e0 hb r hsp=>?_⟩;have hl:=len _ _ _ _ hsp
 have KX:K.In s.heap:=e0.mod.kin.keeps fun b o e=>(e0.bs b o e).1
 have lim:s.heap.NoLimit:=e0.mod.nolimit.keeps fun b o e=>(e0.bs b o e).1
 have hkind:∀y∈ps.zip us,scope.names.lookup y.1=some .local\/(scope.names.lookup y.1=some .cell/\((cellsFrom (s.heap.objs.size+1) scope.names []).lookup y.1).isSome=true):=fun⟨n,v⟩ hy=>by
  rcases S.par n (List.of_mem_zip hy).1 with q | q
  ·exact .inl q
  ·exact .inr ⟨q,PySem.W.cellsFrom_some _ _ _ (.inl q)⟩
 refine codeAny_call_function hr.depth (KX _ _ lk) rfl S.co S.gen rfl (PySem.W.codeRec_of KX hcd) (hb _ _ _ _ ?_)
 refine wpAny_newFunctionEnv_cells S.kind hkind fun env he s1 x=>?_
 subst he;refine⟨lim.keeps x.toInCall.keep,codeAny_func ?_⟩;obtain⟨t,ht,hq⟩:=hbody A outer s H vs Q E (hr.deeper _) hsp;have I:Inv (cxOf CX P w K mg base N qual scope f cdv A outer s H E) [] (start N vs) H s1:=wU S hr.hd e0 hl r x
 refine wpAny_mono (ht [] s1 (start N vs) H _ I hq) (fun fl s' hs=>?_) fun e s' hs=>hs
 have fin:∀{σ':St} {H':Hp} {v:V} {u:Value},Inv (cxOf CX P w K mg base N qual scope f cdv A outer s H E) [] σ' H' s'->RelV v u->Q v H'->CE outer P w H s Q u s' :=
  fun{σ' H' v u} J rv q=>⟨v,H',J.os,J.bare,J.base,J.hok,rv,q⟩
 cases fl with
 | ret u=>
   obtain⟨v,σ',H',J,rv,q⟩:=hs;exact fin J rv q
 | next=>
   obtain⟨σ',H',J,q⟩:=hs;exact fin (v:=V.non) (u:=Value.none) J rfl q
 | brk=>
   obtain⟨_,_,_,q⟩:=hs;exact False.elim q
 | cont=>
   obtain⟨_,_,_,q⟩:=hs;exact False.elim q
end L2
namespace L2
open PySem PySem.Spec PyProof.Rows
section
variable{X:Cx}{x:Str}{p pos:Pos}{e:Expr}{es:List Expr}{t:TA}{id T:String}{r:List V->Hp->VK->Prop}
noncomputable def tCB(r:List V->Hp->VK->Prop)(t:TA):TE:=fun σ H Q=>t σ H fun vs H1=>r vs H1 Q
theorem ik(hc:CallR X (.builtin id) r)(hg:Gl X x)(hm:X.mg x=none)(hv:bootBuiltins x=some (.builtin id))(ha:PA X (e::es) t)(hn:x≠"__name__":=by decide)(hdb:(x==("__debug__":Str))=false:=by decide)
 (he:starEach (e::es) X.env=(false,eval e X.env)::starEach es X.env:=by rfl) (hpl:(backTo pos (starEach es X.env)).any (·.1)=false:=by rfl):PE X (.Call (.Name x p) (e::es) [] pos) (tCB r t):=by
 intro pins s σ H Q I h;refine wpAny_Call_Name_kw (qW I hg hm hv ?_ hn hdb);exact PyProof.Rows.callWith_builtin1 (thn (ha pos pins s σ H _ I h) fun us s1 ⟨vs,H1,I1,r1,q1⟩=>hc pins s1 σ H1 vs us Q I1 r1 q1) he hpl
theorem n6(hc:CallR X (.type T) r)(hg:Gl X x)(hm:X.mg x=none)(hv:bootBuiltins x=some (.type T))(ha:PA X (e::es) t)(hn:x≠"__name__":=by decide)(hdb:(x==("__debug__":Str))=false:=by decide)
 (he:starEach (e::es) X.env=(false,eval e X.env)::starEach es X.env:=by rfl) (hpl:(backTo pos (starEach es X.env)).any (·.1)=false:=by rfl):PE X (.Call (.Name x p) (e::es) [] pos) (tCB r t):=by
 intro pins s σ H Q I h;refine wpAny_Call_Name_kw (qW I hg hm hv ?_ hn hdb);exact PyProof.Rows.callWith_type1 (thn (ha pos pins s σ H _ I h) fun us s1 ⟨vs,H1,I1,r1,q1⟩=>hc pins s1 σ H1 vs us Q I1 r1 q1) he hpl
end
end L2
namespace L2
open PySem PySem.Spec PyProof.Rows
section
variable{κ:Type} [DecidableEq κ]
noncomputable def valV(kvs:List (κ×V))(k:κ):Option V:=(kvs.find? fun kv=>decide (kv.1=k)).map (·.2)
noncomputable def putK(kvs:List (κ×V))(k:κ)(v:V):List (κ×V) :=
 if(kvs.any fun kv=>decide (kv.1=k))=true then kvs.map (fun kv=>if kv.1=k then(kv.1,v)else kv)else kvs++[(k,v)]
theorem lL{p:κ×V}{r:List (κ×V)}{k:κ}(e:p.1=k):valV (p::r) k=some p.2:=by simp[valV,List.find?_cons,e]
theorem jX{p:κ×V}{r:List (κ×V)}{k:κ}(e:¬p.1=k):valV (p::r) k=valV r k:=by simp[valV,List.find?_cons,e]
theorem qD(k:κ):∀kvs:List (κ×V),(kvs.any fun kv=>decide (kv.1=k))=(valV kvs k).isSome
 | []=>rfl
 | p::r=>by
   rw[List.any_cons]
   by_cases e:p.1=k
   ·simp only[lL e,decide_eq_true e,Bool.true_or,Option.isSome_some]
   ·rw[jX e,decide_eq_false e,Bool.false_or];exact qD k r
theorem iG(kvs:List (κ×V))(k:κ)(v:V):(putK kvs k v).length<=kvs.length+1:=by
 unfold putK;split
 ·rw[List.length_map];omega
 ·rw[List.length_append,List.length_cons,List.length_nil];omega
theorem RelO.isSome_eq{o:Option V}{u:Option Value}(r:RelO o u):o.isSome=u.isSome:=by
 cases o with
 | none=>cases u with
   | none=>rfl
   | some _=>exact(show False from r).elim
 | some _=>cases u with
   | none=>exact(show False from r).elim
   | some _=>rfl
theorem KV.val{kvs:List (κ×V)}{vs:List (κ×Value)}(r:KV kvs vs)(k:κ):RelO (valV kvs k) (valueAt vs k):=by
 unfold KV at r
 induction r with
 | nil=>exact True.intro
 | @cons p q ps qs h t ih=>
   obtain⟨h1,h2⟩:=h
   by_cases e:p.1=k
   ·have e':q.1=k:=h1.symm.trans e
    have b:valueAt (q::qs) k=some q.2:=by simp[valueAt,List.find?_cons,e']
    rw[lL e,b];exact h2
   ·have e':¬q.1=k:=fun z=>e (h1.trans z)
    have b:valueAt (q::qs) k=valueAt qs k:=by simp[valueAt,List.find?_cons,e']
    rw[jX e,b];exact ih
theorem KV.any{kvs:List (κ×V)}{vs:List (κ×Value)}(r:KV kvs vs)(k:κ):(kvs.any fun kv=>decide (kv.1=k))=vs.any fun kv=>decide (kv.1=k):=by
 unfold KV at r
 induction r with
 | nil=>rfl
 | cons h t ih=>rw[List.any_cons,List.any_cons,ih,h.1]
theorem KV.repl{kvs:List (κ×V)}{vs:List (κ×Value)}(r:KV kvs vs)(k:κ){y:V}{u:Value}(ry:RelV y u) :
 KV (kvs.map fun kv=>if kv.1=k then(kv.1,y)else kv) (vs.map fun kv=>if kv.1=k then(kv.1,u)else kv):=by
 unfold KV at r ⊢
 induction r with
 | nil=>exact .nil
 | @cons p q ps qs h t ih=>
   rw[List.map_cons,List.map_cons];refine .cons ?_ ih;obtain⟨h1,h2⟩:=h
   by_cases e:p.1=k
   ·rw[if_pos e,if_pos (h1.symm.trans e)];exact⟨h1,ry⟩
   ·rw[if_neg e,if_neg (fun z=>e (h1.trans z))];exact⟨h1,h2⟩
theorem KV.put{kvs:List (κ×V)}{vs:List (κ×Value)}(r:KV kvs vs)(k:κ){y:V}{u:Value}(ry:RelV y u):KV (putK kvs k y) (stored vs k u):=by
 unfold putK stored;rw[r.any k]
 by_cases e:(vs.any fun kv=>decide (kv.1=k))=true
 ·rw[if_pos e,if_pos e];exact r.repl k ry
 ·rw[if_neg e,if_neg e];exact Paired.snoc r ⟨rfl,ry⟩
theorem KV.keys{kvs:List (κ×V)}{vs:List (κ×Value)}(r:KV kvs vs):kvs.map (·.1)=vs.map (·.1):=by
 unfold KV at r
 induction r with
 | nil=>rfl
 | cons h t ih=>rw[List.map_cons,List.map_cons,ih,h.1]
theorem KV.length{kvs:List (κ×V)}{vs:List (κ×Value)}(r:KV kvs vs):kvs.length=vs.length:=Paired.length r
end
theorem vB{P:Program}{w:World}{k:Key}{u:Value}(r:RelV (kV k) u):(bB P w).is k u=true:=by
 cases k with
 | inl i=>obtain⟨t,e⟩:=(show ∃t,u=Value.int i t from r);subst e;exact pG P w i t
 | inr x=>obtain⟨t,e⟩:=(show ∃t,u=Value.str x t from r);subst e;exact pZ P w x t
theorem nW{P:Program}{w:World}:∀{ks:List Key} {us:List Value},Vals (ks.map kV) us->ItemsAre (bB P w) ks us
 | [],_,r=>by rw[List.map_nil]at r;cases r;exact .nil
 | k::ks,_,r=>by
   rw[List.map_cons]at r
   cases r with
   | cons h t=>exact .cons (vB h) (nW t)
noncomputable abbrev KT(H:Hp):List (List Key×V)->List (List Key×Addr×Value)->Prop:=Paired fun p q=>p.1=q.1/\H q.2.1=some (.tup (p.1.map kV))/\RelV p.2 q.2.2
theorem KT.val{H:Hp}{kvs:List (List Key×V)}{xs:List (List Key×Addr×Value)}(r:KT H kvs xs)(k:List Key):RelO (valV kvs k) ((atKey xs k).map (·.2)):=by
 induction r with
 | nil=>exact True.intro
 | @cons p q ps qs h t ih=>
   obtain⟨h1,_,h2⟩:=h
   by_cases e:p.1=k
   ·have e':q.1=k:=h1.symm.trans e
    have b:atKey (q::qs) k=some q.2:=by simp[atKey,List.find?_cons,e']
    rw[lL e,b];exact h2
   ·have e':¬q.1=k:=fun z=>e (h1.trans z)
    have b:atKey (q::qs) k=atKey qs k:=by simp[atKey,List.find?_cons,e']
    rw[jX e,b];exact ih
theorem KT.repl{H:Hp}{kvs:List (List Key×V)}{xs:List (List Key×Addr×Value)}(r:KT H kvs xs)(k:List Key){y:V}{u:Value}(ry:RelV y u) :
 KT H (kvs.map fun kv=>if kv.1=k then(kv.1,y)else kv) (xs.map (putAt k u)):=by
 induction r with
 | nil=>exact .nil
 | @cons p q ps qs h t ih=>
   rw[List.map_cons,List.map_cons];refine .cons ?_ ih;obtain⟨h1,h2,h3⟩:=h;unfold putAt
   by_cases e:p.1=k
   ·rw[if_pos e,if_pos (h1.symm.trans e)];exact⟨h1,h2,ry⟩
   ·rw[if_neg e,if_neg (fun z=>e (h1.trans z))];exact⟨h1,h2,h3⟩
theorem KT.put{H:Hp}{kvs:List (List Key×V)}{xs:List (List Key×Addr×Value)}(r:KT H kvs xs)(k:List Key){b:Addr}{y:V}{u:Value}(hb:H b=some (.tup (k.map kV)))(ry:RelV y u) :
 KT H (putK kvs k y) (storedH xs k b u):=by
 have e:(kvs.any fun kv=>decide (kv.1=k))=(atKey xs k).isSome:=by
  rw[qD,(r.val k).isSome_eq,Option.isSome_map]
 unfold putK storedH;rw[e]
 by_cases q:(atKey xs k).isSome=true
 ·rw[if_pos q,if_pos q];exact r.repl k ry
 ·rw[if_neg q,if_neg q];exact Paired.snoc r ⟨rfl,hb,ry⟩
theorem KT.keeps{H H':Hp}{kvs:List (List Key×V)}{xs:List (List Key×Addr×Value)}(r:KT H kvs xs)(ht:∀b ys,H b=some (.tup ys)->H' b=some (.tup ys)):KT H' kvs xs :=
 Paired.mapP r fun _ _ z=>⟨z.1,ht _ _ z.2.1,z.2.2⟩
section
variable{P:Program}{w:World}{H:Hp}{h:Heap}{a:Addr}
theorem Iu{u:HO}(ok:HOk P w H h)(e:Rd H a u):ObjOk P w H h a u:=e.ok ok
noncomputable abbrev RdK(H:Hp)(a:Addr)(kvs:List (Key×V)):Prop:=∃ep,Rd H a (.dK kvs ep)
theorem mq{kvs:List (Key×V)}(ok:HOk P w H h)(e:RdK H a kvs):kvs.length<=sizeLine/\(a==sysModules)=false/\∃vs,KV kvs vs/\h.DictOf (bB P w) a vs:=by
 obtain⟨ep,e⟩:=e
 obtain⟨h1,h2,vs,h3,h4⟩:=(show ObjOk P w H h a (.dK kvs ep)from Iu ok e)
 exact⟨h1,h2,vs,h3,h4.dictOf⟩
theorem Ml{kvs:List (Key×V)}{ep:Nat}(ok:HOk P w H h)(e:H a=some (.dK kvs ep)):kvs.length<=sizeLine/\(a==sysModules)=false/\∃vs,KV kvs vs/\h.DictOf (bB P w) a vs:=mq ok ⟨ep,.inl e⟩
theorem mZ{ks:List Key}(ok:HOk P w H h)(e:H a=some (.tup (ks.map kV))):(tupleKind (bB P w)).is h ks a:=by
 obtain⟨_,its,r,o,h1,h2,n,h3⟩:=(show ObjOk P w H h a (.tup (ks.map kV))from ok a _ e)
 exact⟨o,its.toArray,n,h1,h2,h3,by simpa using nW r⟩
theorem wR{kvs:List (List Key×V)}(ok:HOk P w H h)(e:Rd H a (.dT kvs)):kvs.length<=sizeLine/\(a==sysModules)=false /\
 ∃xs,KT H kvs xs/\h.DictOfH (tupleKind (bB P w)) a xs:=by
 obtain⟨z,y,xs,r,o,es,ep,h1,h2,h3,h4,h5⟩:=(show ObjOk P w H h a (.dT kvs)from Iu ok e)
 refine⟨z,y,xs,r,o,es,ep,h1,h2,h3,h4,fun x hx=>?_,h5⟩
 have all:∀{l:List (List Key×V)} {m:List (List Key×Addr×Value)},KT H l m->∀x∈m,(tupleKind (bB P w)).is h x.1 x.2.1:=by
  intro l m q
  induction q with
  | nil=>intro x hx;exact nomatch hx
  | @cons p q ps qs hq t ih=>
    intro x hx;rcases List.mem_cons.mp hx with e | hx
    ·subst e
     exact mZ ok (by rw[<-hq.1];exact hq.2.1)
    ·exact ih x hx
 exact all r x hx
theorem MT{kvs:List (List Key×V)}(ok:HOk P w H h)(e:H a=some (.dT kvs)):kvs.length<=sizeLine/\(a==sysModules)=false /\
 ∃xs,KT H kvs xs/\h.DictOfH (tupleKind (bB P w)) a xs:=wR ok (.inl e)
end
noncomputable def DGet(H:Hp)(a:Addr)(y:V)(r:Option V):Prop :=
 (∃kvs k,RdK H a kvs/\y=kV k/\r=valV kvs k)\/∃kvs k b,Rd H a (.dT kvs)/\y=.ref b/\H b=some (.tup (k.map kV))/\r=valV kvs k
noncomputable def DPut(H:Hp)(a:Addr)(y v:V)(H':Hp):Prop :=
 (∃kvs k ep ep',H a=some (.dK kvs ep)/\y=kV k/\kvs.length<sizeLine/\H'=upd H a (.dK (putK kvs k v) ep')) \/
 ∃kvs k b,H a=some (.dT kvs)/\y=.ref b/\H b=some (.tup (k.map kV))/\kvs.length<sizeLine/\H'=upd H a (.dT (putK kvs k v))
theorem DGet.k{H:Hp}{a:Addr}{kvs:List (Key×V)}{k:Key}{ep:Nat}(e:H a=some (.dK kvs ep)):DGet H a (kV k) (valV kvs k):=.inl ⟨kvs,k,⟨ep,.inl e⟩,rfl,rfl⟩
theorem DPut.k{H:Hp}{a:Addr}{kvs:List (Key×V)}{k:Key}{v:V}{ep ep':Nat}(e:H a=some (.dK kvs ep))(hl:kvs.length<sizeLine):DPut H a (kV k) v (upd H a (.dK (putK kvs k v) ep')):=.inl ⟨kvs,k,ep,ep',e,rfl,hl,rfl⟩
section
variable{X:Cx}{pins:List (Addr×Obj)}{σ:St}{H:Hp}{s:Shared}{a:Addr}{y v:V}{u r:Value}{o:Option V}{A:Around}{E:Value->Shared->Prop}
theorem Inv.big(I:Inv X pins σ H s):sysModules<s.heap.objs.size:=by
 have h:mainGlobals<s.heap.objs.size:=(I.mod.glob.keeps I.bk).lt;exact Nat.lt_trans (by decide) h
theorem xK{Q:Value->Shared->Prop}(hu:A.units+1<cLine)(I:Inv X pins σ H s)(g:DGet H a y (some v))(ry:RelV y u)(h:∀w' s',Inv X pins σ H s'->RelV v w'->Q w' s') :
 wpAny (model X.prog X.w) A (getItem (.ref a) u) Q E s:=by
 rcases g with⟨kvs,k,e,ey,l⟩ | ⟨kvs,k,b,e,ey,eb,l⟩
 ·subst ey
  obtain⟨z,hd,vs,rel,dd⟩:=mq I.hok e;obtain⟨w',hw,rw'⟩:=RelO.some_of (v:=v) (o:=valueAt vs k) (by rw[l];exact rel.val k);exact wpAny_getItem_of (vB ry) dd.mapOf hw (h w' _ (I.tok _) rw')
 ·subst ey
  cases (show u=Value.ref b from ry);obtain⟨z,hd,xs,rel,dd⟩:=wR I.hok e;obtain⟨w',hw,rw'⟩:=RelO.some_of (v:=v) (o:=(atKey xs k).map (·.2)) (by rw[l];exact rel.val k);obtain⟨p,hp,hp2⟩:=Option.map_eq_some_iff.mp hw;refine wpAny_getItem_heap (tupleKind_room_in1 hu) (mZ I.hok eb) dd hp ?_;rw[hp2];exact h w' _ (I.tok _) rw'
theorem d_in{Q:Value->Shared->Prop}(hu:A.units+1<cLine)(I:Inv X pins σ H s)(g:DGet H a y o)(ry:RelV y u)(h:∀s',Inv X pins σ H s'->Q (.bool o.isSome) s') :
 wpAny (model X.prog X.w) A (compareOp .In u (.ref a)) Q E s:=by
 rcases g with⟨kvs,k,e,ey,l⟩ | ⟨kvs,k,b,e,ey,eb,l⟩
 ·subst ey
  obtain⟨z,hd,vs,rel,dd⟩:=mq I.hok e;refine wpAny_in_of (vB ry) hd dd.mapOf ?_;rw[<-(rel.val k).isSome_eq,<-l];exact h _ (I.tok _)
 ·subst ey
  cases (show u=Value.ref b from ry);obtain⟨z,hd,xs,rel,dd⟩:=wR I.hok e;refine wpAny_in_heap (tupleKind_room_in1 hu) (mZ I.hok eb) hd dd ?_;have q:=(rel.val k).isSome_eq;rw[Option.isSome_map]at q;rw[<-q,<-l];exact h _ (I.tok _)
theorem FP{Q:Value->Shared->Prop}(hu:A.units+1<cLine)(I:Inv X pins σ H s)(g:DGet H a y o)(ry:RelV y u)(h:∀s',Inv X pins σ H s'->Q (.bool (!o.isSome)) s') :
 wpAny (model X.prog X.w) A (compareOp .NotIn u (.ref a)) Q E s:=by
 rcases g with⟨kvs,k,e,ey,l⟩ | ⟨kvs,k,b,e,ey,eb,l⟩
 ·subst ey
  obtain⟨z,hd,vs,rel,dd⟩:=mq I.hok e;refine wpAny_notIn_of (vB ry) hd dd.mapOf ?_;rw[<-(rel.val k).isSome_eq,<-l];exact h _ (I.tok _)
 ·subst ey
  cases (show u=Value.ref b from ry);obtain⟨z,hd,xs,rel,dd⟩:=wR I.hok e;refine wpAny_notIn_heap (tupleKind_room_in1 hu) (mZ I.hok eb) hd dd ?_;have q:=(rel.val k).isSome_eq;rw[Option.isSome_map]at q;rw[<-q,<-l];exact h _ (I.tok _)
theorem uD{h':Heap}{t':Nat}{ob:HO}(I:Inv X pins σ H s)(mu:Mut (H a))(hs:Heap.SameBut a s.heap h')(he:∃q,h'.get? a=some q)(new:ObjOk X.prog X.w (upd H a ob) h' a ob) :
 Inv X pins σ (upd H a ob) { s with heap:=h',toks:=t' } :=
 I.write (x:=a) (e:=a) mu (.inl rfl) (fun b q hb z=>(hs.2 b hb).trans z) he new
theorem Cq{P:Program}{w:World}{H':Hp}{h':Heap}{kvs:List (Key×V)}{vs:List (Key×Value)}(z:kvs.length<=sizeLine)(hd:(a==sysModules)=false)(rel:KV kvs vs){ep:Nat}(dd:h'.DictAt (bB P w) a vs ep) :
 ObjOk P w H' h' a (.dK kvs ep):=⟨z,hd,vs,rel,dd⟩
theorem vL{Q:Unit->Shared->Prop}(hu:A.units+1<cLine)(I:Inv X pins σ H s)(g:∃H',DPut H a y v H')(ry:RelV y u)(rv:RelV v r)(h:∀H' s',DPut H a y v H'->Inv X pins σ H' s'->Q () s') :
 wpAny (model X.prog X.w) A (setItem (.ref a) u r) Q E s:=by
 obtain⟨H',g⟩:=g;have gg:=g;rcases g with⟨kvs,k,ep,ep',e,ey,l,eH⟩ | ⟨kvs,k,b,e,ey,eb,l,eH⟩
 ·subst ey eH
  obtain⟨z,hd,vs,rel,dd⟩:=Ml I.hok e
  have hz:vs.length<=sizeLine:=by rw[<-rel.length];exact z
  have hl:(putK kvs k v).length<=sizeLine:=by have:=iG kvs k v;omega
  refine wpAny_setItem_pairs (hsz:=hz) (vB ry) dd fun h' dd' hs=>?_
  have he:∃q,h'.get? a=some q:=let⟨q,_,_,hq,_⟩:=dd';⟨q,hq⟩
  obtain⟨ep2,dd'⟩:=dd'.dictAt;exact h _ _ (.inl ⟨kvs,k,ep,ep2,e,rfl,l,rfl⟩) (uD I (by rw[e];exact True.intro) hs he (Cq hl hd (rel.put k rv) dd'))
 ·subst ey eH
  cases (show u=Value.ref b from ry);obtain⟨z,hd,xs,rel,dd⟩:=MT I.hok e
  have hz:xs.length<=sizeLine:=by rw[<-Paired.length rel];exact z
  have hl:(putK kvs k v).length<=sizeLine:=by have:=iG kvs k v;omega
  refine wpAny_setItem_heap (hsz:=hz) (tupleKind_room_in1 hu) (mZ I.hok eb) dd fun h' dd' hs=>h _ _ gg ?_
  obtain⟨q,es,ep,hq,h2,h3,h4,_,h5⟩:=dd';refine uD I (by rw[e];exact True.intro) hs ⟨q,hq⟩ ⟨hl,hd,_,(rel.put k eb rv).keeps fun c ys ec=>?_,q,es,ep,hq,h2,h3,h4,h5⟩;rw[aM (Lz ec e (fun z=>nomatch z))];exact ec
end
section
variable{X:Cx}{pins:List (Addr×Obj)}{σ:St}{H:Hp}{s:Shared}{a:Addr}{kvs:List (Key×V)}{k:Key}{u:Value}{A:Around}{E:Value->Shared->Prop}
theorem Nx{Q:Value->Shared->Prop}(I:Inv X pins σ H s)(e:RdK H a kvs)(h:∀t s',Inv X pins σ H s'->Q (.int kvs.length t) s'):wpAny (model X.prog X.w) A (call (.builtin "len") [.ref a]) Q E s:=by
 obtain⟨z,hd,vs,rel,dd⟩:=mq I.hok e;refine call_len_dict hd dd (by rw[<-rel.length];rw[sizeLine_eq]at z;omega) ?_;rw[<-rel.length];exact h _ _ (I.tok _)
end
noncomputable def NoSl(i:Expr):Prop:=∀ov iv,subscripted i false ov iv=operate [ov,iv] (getItem ov iv)
theorem Gg{prog:Program}{w:World}{A:Around}{E:Value->Shared->Prop}{s:Shared}{env:Env}{value slice:Expr}{pos:Pos}{T id:String}{Q:Value->Shared->Prop}
 (hl:typeLookup (.type T) "__getitem__"=pure (some (.builtin id))) (hs:NoSl slice)
 (h:wpAny (model prog w) A (eval value env) (fun o s₁=>wpAny (model prog w) A (eval slice env) (fun i s₂=>s₂.TypeIs o T/\wpAny (model prog w) A (getItem o i) Q E s₂) E s₁) E s) :
 wpAny (model prog w) A (eval (.Subscript value slice pos) env) Q E s:=by
 refine Subscript_ (wpAny_mono h (fun o s₁ h₁=>wpAny_mono h₁ (fun i s₂ h₂=>?_) fun _ _ x=>x) fun _ _ x=>x);obtain⟨hT,h₂⟩:=h₂;unfold subscriptTail;refine wpAny_bind ?_;rw[getitemInPython_of_ne hT.not_modules];refine wpAny_bind (wpAny_specialOf hT hl ?_)
 have fin:wpAny (model prog w) A (subscripted slice false o i) (fun r s₃=>wpAny (model prog w) A (letTemporaryGo value o r >>= fun _=>pure r) Q E s₃) E s₂:=by
  rw[hs o i];exact wpAny_operating (wpAny_mono h₂ (fun r s₃ h₃=>wpAny_bind (wpAny_letTemporaryGo (wpAny_pure h₃))) fun _ _ x=>x)
 first
  | exact wpAny_pure (wpAny_bind fin)
  | exact wpAny_bind (wpAny_pure (wpAny_bind fin))
  | exact wpAny_bind fin
theorem oG{X:Cx}{pins:List (Addr×Obj)}{σ:St}{H:Hp}{s:Shared}{a:Addr}{y:V}{o:Option V}(I:Inv X pins σ H s)(g:DGet H a y o):s.TypeIs (.ref a) "dict":=by
 rcases g with⟨kvs,k,e,_,_⟩ | ⟨kvs,k,b,e,_,_,_⟩
 ·obtain⟨_,_,vs,_,dd⟩:=mq I.hok e
  exact dd.typeIs
 ·obtain⟨_,_,xs,_,dd⟩:=wR I.hok e
  exact dd.typeIs
noncomputable def Nq(td ty:TE):TE:=fun σ H Q=>td σ H fun x H1=>ty σ H1 fun y H2=>∃a v,x=.ref a/\DGet H2 a y (some v)/\Q v H2
noncomputable def tDIn(ty td:TE):TE:=fun σ H Q=>ty σ H fun y H1=>td σ H1 fun x H2=>∃a o,x=.ref a/\DGet H2 a y o/\Q (.bl o.isSome) H2
noncomputable def DY(ty td:TE):TE:=fun σ H Q=>ty σ H fun y H1=>td σ H1 fun x H2=>∃a o,x=.ref a/\DGet H2 a y o/\Q (.bl (!o.isSome)) H2
noncomputable def LQ(td ty tv:TE):TS:=fun D σ H=>tv σ H fun v H1=>td σ H1 fun x H2=>ty σ H2 fun y H3=>∃a,x=.ref a/\(∃H4,DPut H3 a y v H4)/\∀H4,DPut H3 a y v H4->D.nx σ H4
section
variable{X:Cx}{o i e value:Expr}{pos pos' tpos:Pos}{td ty tv:TE}
theorem GD(hu:X.A.units+1<cLine)(ho:PE X o td)(hi:PE X i ty)(hs:NoSl i):PE X (.Subscript o i pos) (Nq td ty):=by
 intro pins s σ H Q I h;refine Gg PySem.F.slot_dict_getitem.lookup hs (thn (ho pins s σ H _ I h) fun u s1 ⟨x,H1,I1,rx,q1⟩=>thn (hi pins s1 σ H1 _ I1 q1) fun iv s2 ⟨y,H2,I2,ry,a,v,ex,g,q2⟩=>?_);subst ex;obtain rfl:u=Value.ref a:=rx;exact⟨oG I2 g,xK hu I2 g ry fun w' s3 I3 rw'=>⟨v,H2,I3,rw',q2⟩⟩
theorem Al(hu:X.A.units+1<cLine)(hi:PE X i ty)(ho:PE X o td):PC X .In i o (tDIn ty td):=by
 intro pins s σ H Q I h
 refine thn (hi pins s σ H _ I h) fun iv s1 ⟨y,H1,I1,ry,q1⟩=>thn (ho pins s1 σ H1 _ I1 q1) fun u s2 ⟨x,H2,I2,rx,a,ov,ex,g,q2⟩=>?_
 subst ex;obtain rfl:u=Value.ref a:=rx
 exact d_in hu I2 g ry fun s3 I3=>⟨.bl ov.isSome,H2,I3,rfl,q2⟩
theorem nZ(hu:X.A.units+1<cLine)(hi:PE X i ty)(ho:PE X o td):PC X .NotIn i o (DY ty td):=by
 intro pins s σ H Q I h
 refine thn (hi pins s σ H _ I h) fun iv s1 ⟨y,H1,I1,ry,q1⟩=>thn (ho pins s1 σ H1 _ I1 q1) fun u s2 ⟨x,H2,I2,rx,a,ov,ex,g,q2⟩=>?_
 subst ex;obtain rfl:u=Value.ref a:=rx
 exact FP hu I2 g ry fun s3 I3=>⟨.bl (!ov.isSome),H2,I3,rfl,q2⟩
theorem Ff(hu:X.A.units+1<cLine)(ho:PE X o td)(hi:PE X i ty)(hv:PE X value tv)(hs:swapsWith value (some (.Subscript o i pos')) pos.line X.env=pure false) :
 PS X (.Assign [.Subscript o i pos'] value pos) (LQ td ty tv):=by
 intro pins s σ H D I h;refine wpAny_Assign_Subscript (thn (hv pins s σ H _ I h) fun r s1 ⟨v,H1,I1,rv,q1⟩=>thn (ho pins s1 σ H1 _ I1 q1) fun u s2 ⟨x,H2,I2,rx,q2⟩=>thn (hi pins s2 σ H2 _ I2 q2) fun iv s3 ⟨y,H3,I3,ry,a,ex,g,q3⟩=>?_) hs;subst ex;obtain rfl:u=Value.ref a:=rx
 exact vL hu I3 g ry rv fun H4 s4 g4 I4=>⟨σ,H4,I4,q3 H4 g4⟩
end
theorem yK{P:Program}{w:World}{H:Hp}(h:Heap)(hb:sysModules<h.objs.size):∃ep,ObjOk P w H (h.push { cls:=.type "dict",data:=.dict #[] }) h.objs.size (.dK [] ep):=by
 obtain⟨ep,x⟩:=(Heap.DictOf.new (knd:=bB P w) h).dictAt;exact⟨ep,Nat.zero_le _,beq_eq_false_iff_ne.mpr (Ne.symm (Nat.ne_of_lt hb)),[],.nil,x⟩
noncomputable def Kc:TE:=fun _ H Q=>∀p ep,H p=none->Q (.ref p) (upd H p (.dK [] ep))
section
variable{X:Cx}{pos:Pos}
theorem yD:PE X (.Dict [] [] pos) Kc:=fun pins s σ H Q I h=>by
 obtain⟨ep,ok⟩:=yK (P:=X.prog) (w:=X.w) (H:=upd H s.heap.objs.size (.dK [] 0)) s.heap I.big;have ok:ObjOk X.prog X.w (upd H s.heap.objs.size (.dK [] ep)) (s.heap.push { cls:=.type "dict",data:=.dict #[] }) s.heap.objs.size (.dK [] ep):=ok;exact wpAny_Dict_empty ⟨.ref s.heap.objs.size,_,I.laid (a:=s.heap.objs.size) (o:=.dK [] ep) (t':=s.toks) (fun _ _ q=>Heap.get?_push_of_some _ q) (Nat.le_refl _) ok,rfl,h _ _ (I.hok.fresh (Nat.le_refl _))⟩
end
structure M1(X:Cx)(o:Expr)(m:Str)(apos:Pos)(e:Expr)(cpos:Pos):Prop where
 base:attributeBase o m X.env (eval o X.env)=eval o X.env
 few:((backTo cpos (starEach [e] X.env)).all (fun x=>!x.1)&&(backToKw cpos (keywordEach [] X.env)).all (fun x=>x.1.isSome)
  && decide (([e]:List Expr).length+([]:List Keyword).length+(if([]:List Keyword).isEmpty then 0 else 1)<30))=true
 line:(apos.endLine==cpos.line)=true
 trees:backTo cpos (starEach [e] X.env)=[(false,eval e X.env)]
structure M2(X:Cx)(o:Expr)(m:Str)(apos:Pos)(e f:Expr)(cpos:Pos):Prop where
 base:attributeBase o m X.env (eval o X.env)=eval o X.env
 few:((backTo cpos (starEach [e,f] X.env)).all (fun x=>!x.1)&&(backToKw cpos (keywordEach [] X.env)).all (fun x=>x.1.isSome)
  && decide (([e,f]:List Expr).length+([]:List Keyword).length+(if([]:List Keyword).isEmpty then 0 else 1)<30))=true
 line:(apos.endLine==cpos.line)=true
 trees:backTo cpos (starEach [e,f] X.env)=[(false,eval e X.env),(false,eval f X.env)]
section
variable{X:Cx}{pins:List (Addr×Obj)}{σ:St}{H:Hp}{s:Shared}{a:Addr}{y d:V}{u r:Value}{o:Option V}{A:Around}{E:Value->Shared->Prop}
end
section
variable{X:Cx}{o e f:Expr}{apos cpos:Pos}{td ty tx:TE}
end
section
variable{X:Cx}{pins:List (Addr×Obj)}{σ:St}{H:Hp}{s:Shared}{a:Addr}{kvs:List (Key×V)}{A:Around}{E:Value->Shared->Prop}
theorem zG{Q:Value->Shared->Prop}(I:Inv X pins σ H s)(e:RdK H a kvs)(h:∀p ep s',H p=none->Inv X pins σ (upd H p (.dK kvs ep)) s'->Q (.ref p) s'):wpAny (model X.prog X.w) A (call (.type "dict") [.ref a]) Q E s:=by
 obtain⟨z,hd,vs,rel,dd⟩:=mq I.hok e
 refine kt_call_dict hd dd (by rw[<-rel.length];exact z) fun h' dd' hs=>?_
 obtain⟨ep,dd'⟩:=dd'.dictAt;refine h _ _ _ (I.hok.fresh (Nat.le_refl _)) (I.laid (a:=s.heap.objs.size) (o:=.dK kvs ep) (t':=s.toks) (fun b q hq=>?_) (Nat.le_refl _) (Cq z (beq_eq_false_iff_ne.mpr (Ne.symm (Nat.ne_of_lt I.big))) rel dd'));exact(hs.2 b (Nat.ne_of_lt (Heap.lt_size hq))).trans (Heap.get?_push_of_some _ hq)
end
section
variable{X:Cx}{pins:List (Addr×Obj)}{σ:St}{H:Hp}{s:Shared}{a:Addr}{y:V}{u:Value}{A:Around}{E:Value->Shared->Prop}
end
end L2
namespace HT
open PySem PyProof.Rows
section
open PySem.SeqAt
open PySem.AutoSeq1 (wpAny_loadPart')
open PySem.MeetsSeq PySem.MeetsSeq2 PySem.MeetsSeq3
end
section
variable{prog:Program}{w:World}{A:Around}{E:Value->Shared->Prop}{s:Shared}
theorem cat_tup{t b:Addr}{vs ws:List Value}{Q:Value->Shared->Prop}(ht:IsTup s.heap t vs.toArray)(hb:IsTup s.heap b ws.toArray)(hv:vs≠[])
 (h1:ws=[]->Q (.ref t) s) (h2:ws≠[]->Q (.ref s.heap.objs.size) { s with heap:=s.heap.push { cls:=.type "tuple",data:=.seq (vs++ws).toArray } })
 (hsz:vs.length+ws.length<=sizeLine):wpAny (model prog w) A (binaryOp .Add (.ref t) (.ref b)) Q E s:=by
 obtain⟨⟨cls,dd,data,sl⟩,ho,hc,n,hd⟩:=id ht;obtain⟨⟨cls2,dd2,data2,sl2⟩,ho2,hc2,n2,hd2⟩:=id hb;simp only at hc hd hc2 hd2;subst hc hd hc2 hd2
 have e:vs.toArray++ws.toArray=(vs++ws).toArray:=by simp
 by_cases hw:ws=[]
 ·exact concat_meets ⟨_,ho,rfl⟩ ⟨_,ho2,rfl⟩ noFill_tuple_add seq_tuple_add PySem.F.slot_tuple_add PySem.F.entry_tuple_add (PySem.F.args_tuple_add_2 _ _)
   (tuple_addW1 t b vs.toArray ws.toArray n n2 dd dd2 sl sl2 (by simpa using hv) (by simp[hw])) ⟨ho,ho2,h1 hw⟩
 ·refine concat_meets ⟨_,ho,rfl⟩ ⟨_,ho2,rfl⟩ noFill_tuple_add seq_tuple_add PySem.F.slot_tuple_add PySem.F.entry_tuple_add (PySem.F.args_tuple_add_2 _ _)
   (tuple_addW2 t b vs.toArray ws.toArray n n2 dd dd2 sl sl2 (by simpa using hv) (by simpa using hw) (by rw[List.size_toArray,List.size_toArray];exact hsz)) ⟨ho,ho2,?_⟩
  rw[e];exact h2 hw
noncomputable def sIx(n d:Nat):Option Int->Nat
 | none=>d
 | some v=>if v<0 then(v+(n:Int)).toNat else min v.toNat n
theorem Jz(n d:Nat)(hd:d<=n)(o:Option Int):sIx n d o<=n:=by
 cases o with
 | none=>exact hd
 | some v=>
   show(if v<0 then(v+(n:Int)).toNat else min v.toNat n)<=n
   by_cases hv:v<0
   ·rw[if_pos hv];omega
   ·rw[if_neg hv];exact Nat.min_le_right _ _
theorem uB(v:Int)(n d:Nat):(if v<0 then max (v+(n:Int)) 0 else min v (n:Int))=((sIx n d (some v):Nat):Int):=by
 show(if v<0 then max (v+(n:Int)) 0 else min v (n:Int))=(((if v<0 then(v+(n:Int)).toNat else min v.toNat n):Nat):Int)
 by_cases hv:v<0
 ·simp only[if_pos hv];omega
 ·simp only[if_neg hv];omega
theorem sS(lo hi:Option Int)(n:Nat):Builtin.Slice.sliceAdjust lo hi 1 (n:Int)=(((sIx n 0 lo:Nat):Int),((sIx n n hi:Nat):Int)):=by
 have h1:¬((1:Int)<0):=by omega
 unfold Builtin.Slice.sliceAdjust;simp only[h1,if_false];refine Prod.ext ?_ ?_
 ·cases lo with
  | none=>rfl
  | some v=>exact uB v n 0
 ·cases hi with
  | none=>rfl
  | some v=>exact uB v n n
theorem sJ(i j:Nat):Builtin.Slice.slicePlaces (i:Int) (j:Int) 1=j-i:=by
 unfold Builtin.Slice.slicePlaces
 have h1:(1:Int)>0:=by omega
 simp only[h1,if_true,Int.ediv_one];split<;>omega
theorem jN{v:Value}{o:Option Int}{Q:Option Int->Shared->Prop}(p:IsPart v o)(h:Q o s):wpAny (model prog w) A (Builtin.Slice.slicePartIndex v) Q E s:=by
 cases p with
 | none=>exact slicePart_none h
 | int i t=>exact slicePart_int h
theorem gU{sl:Addr}{vl vu:Value}{lo hi:Option Int}{n:Nat}{Q:Int×Int×Nat->Shared->Prop}(hs:s.heap.IsSliceOf sl vl vu .none)(pl:IsPart vl lo)(pu:IsPart vu hi)
 (h:Q (((sIx n 0 lo:Nat):Int),1,sIx n n hi-sIx n 0 lo) s):wpAny (model prog w) A (Builtin.Slice.sliceApplied (.ref sl) (pure (n:Int))) Q E s:=by
 obtain⟨os,hos,hcs,hds⟩:=id hs;unfold Builtin.Slice.sliceApplied Builtin.Slice.sliceFields;refine wpAny_bind (wpAny_bind (wpAny_field hos hds (x:=vl) rfl (wpAny_bind (wpAny_field hos hds (x:=vu) rfl (wpAny_bind (wpAny_field hos hds (x:=.none) rfl (wpAny_pure ?_)))))));refine wpAny_bind (slicePart_none ?_);show wpAny _ _ (if((1:Int)==0)=true then _ else _) _ _ s;rw[if_neg (by decide)];refine wpAny_bind (jN pl (wpAny_bind (jN pu (wpAny_bind (wpAny_pure ?_)))));show wpAny _ _ (match Builtin.Slice.sliceAdjust lo hi 1 (n:Int)with | (lo,hi)=>pure (lo,(1:Int),Builtin.Slice.slicePlaces lo hi 1)) _ _ s;rw[sS lo hi n];show wpAny _ _ (pure (((sIx n 0 lo:Nat):Int),(1:Int),Builtin.Slice.slicePlaces ((sIx n 0 lo:Nat):Int) ((sIx n n hi:Nat):Int) 1)) _ _ s;rw[sJ];exact wpAny_pure h
theorem yx(xs:Array Value)(i k:Nat):((List.range k).filterMap fun(m:Nat)=>xs[((i:Int)+(m:Int)*1).toNat]?).toArray=((xs.toList.drop i).take k).toArray:=by
 have e:(fun(m:Nat)=>xs[((i:Int)+(m:Int)*1).toNat]?)=fun m=>xs[i+m]?:=by
  funext m
  have:((i:Int)+(m:Int)*1).toNat=i+m:=by omega
  rw[this]
 rw[e];have:=pick_run xs i k;rw[List.filterMap_map]at this
 have e2:((fun x=>xs[x]?)∘fun x=>i+x)=fun m=>xs[i+m]?:=rfl
 rw[e2]at this;rw[this]
theorem getItem_tuple_cut{t sl:Addr}{items:Array Value}{vl vu:Value}{lo hi:Option Int}{Q:Value->Shared->Prop}(ht:IsTup s.heap t items)(hs:s.heap.IsSliceOf sl vl vu .none)(pl:IsPart vl lo)(pu:IsPart vu hi)
 (hw:¬(sIx items.size 0 lo=0/\sIx items.size items.size hi=items.size))
 (h:Q (.ref s.heap.objs.size) { s with heap:=s.heap.push { cls:=.type "tuple",data:=.seq ((items.toList.drop (sIx items.size 0 lo)).take (sIx items.size items.size hi-sIx items.size 0 lo)).toArray } })
 (hsz:items.size<=sizeLine):wpAny (model prog w) A (getItem (.ref t) (.ref sl)) Q E s:=by
 have htake:sizeOk (.seq ((items.toList.drop (sIx items.size 0 lo)).take (sIx items.size items.size hi-sIx items.size 0 lo)).toArray):=by
  show((items.toList.drop (sIx items.size 0 lo)).take (sIx items.size items.size hi-sIx items.size 0 lo)).toArray.size<=sizeLine;rw[List.size_toArray,List.length_take,List.length_drop,Array.length_toList];omega
 have hj:sIx items.size items.size hi<=items.size:=Jz _ _ (Nat.le_refl _) hi;obtain⟨os,hos,hcs,hds⟩:=id hs
 have hTs:s.TypeIs (.ref sl) "slice":=⟨os,hos,hcs⟩
 unfold getItem
 try with_reducible refine wpAny_holding ?_
 first | refine wpAny_bind (wpAny_pure ?_) | skip
 refine wpAny_bind (wpAny_sequenceKey ht.typeIs (by decide) ?_)
 refine wpAny_bind (wpAny_callSpecial?_slot (name:=Str.ofString "__getitem__") ht.typeIs PyProof.Rows.slot_tuple_getitem
  (wpAny_call_entry PyProof.Rows.slot_tuple_getitem ht.typeIs entry_tuple_getitem ?_ (args_tuple_getitem _ _)))
 show wpAny _ _ (Builtin.Tuple.tupleItemsOf (.ref t) >>= _) _ _ s;refine wpAny_bind (tupleItemsOf_ ht ?_);refine wpAny_bind (wpAny_typeOf hTs ?_);rw[if_pos (by decide)];refine wpAny_bind (gU hs pl pu ?_)
 have hno:¬((((sIx items.size 0 lo:Nat):Int)==0&&(1:Int)==1&&(sIx items.size items.size hi-sIx items.size 0 lo)==items.size)=true):=by
  intro q;rw[Bool.and_eq_true,Bool.and_eq_true]at q;have q1:((sIx items.size 0 lo:Nat):Int)=0:=eq_of_beq q.1.1;have q2:sIx items.size items.size hi-sIx items.size 0 lo=items.size:=eq_of_beq q.2;exact hw ⟨by omega,by omega⟩
 show wpAny _ _ (if(((sIx items.size 0 lo:Nat):Int)==0&&(1:Int)==1&&(sIx items.size items.size hi-sIx items.size 0 lo)==items.size)=true then _ else _) _ _ s;rw[if_neg hno,yx]
 first
  | exact wpAny_bind (m:=Builtin.Tuple.tupleExact _) (wpAny_newObj_type (wpAny_pure ⟨_,rfl,wpAny_pure h⟩) htake)
  | exact wpAny_bind (m:=Builtin.Tuple.tupleExact _) (wpAny_newObj_type (wpAny_bind (wpAny_pure (wpAny_pure ⟨_,rfl,wpAny_pure h⟩))) htake)
  | exact wpAny_bind (wpAny_bind (m:=Builtin.Tuple.tupleExact _) (wpAny_newObj_type (wpAny_pure (wpAny_pure ⟨_,rfl,wpAny_pure h⟩)) htake))
  | exact wpAny_bind (wpAny_bind (m:=Builtin.Tuple.tupleExact _) (wpAny_newObj_type (wpAny_pure ⟨_,rfl,wpAny_pure h⟩) htake))
end
end HT
namespace L2
open PySem PySem.Spec PyProof.Rows
noncomputable abbrev TO:=St->Hp->(Option Int->Hp->Prop)->Prop
noncomputable def PO(X:Cx)(e:Option Expr)(t:TO):Prop :=
 ∀(pins:List (Addr×Obj)) (s:Shared) (σ:St) (H:Hp) (Q:Option Int->Hp->Prop),Inv X pins σ H s->t σ H Q ->
  wpAny (model X.prog X.w) X.A (evalPart e X.env) (fun u s'=>∃o H',Inv X pins σ H' s'/\IsPart u o/\Q o H') X.xe s
noncomputable def Eu:TO:=fun _ H Q=>Q none H
noncomputable def Ln(t:TE):TO:=fun σ H Q=>t σ H fun x H1=>∃i,x=.int i/\Q (some i) H1
theorem intsAre_of{ns:List Int}:∀{us:List Value},Vals (ns.map V.int) us->IntsAre us ns:=by
 induction ns with
 | nil=>intro us r;rw[List.map_nil]at r;cases r;exact .nil
 | cons n ns ih=>
   intro us r;rw[List.map_cons]at r
   cases r with
   | cons r1 r2=>
     obtain⟨t,e⟩:=r1;subst e;exact .cons n t (ih r2)
section
variable{X:Cx}{e:Expr}{te:TE}{lo hi:Option Expr}{tl th:TO}{pos p2:Pos}
theorem G7:PO X none Eu:=by
 intro pins s σ H Q I h;rw[evalPart_none];exact wpAny_pure ⟨none,H,I,.none,h⟩
theorem Fy(h:PE X e te):PO X (some e) (Ln te):=by
 intro pins s σ H Q I hw;rw[evalPart_some]
 refine thn (h pins s σ H _ I hw) fun u s1 ⟨x,H1,I1,r1,q1⟩=>?_
 obtain⟨i,rfl,q⟩:=q1;obtain⟨t,rfl⟩:=r1;exact⟨some i,H1,I1,.int i t,q⟩
noncomputable def SlR(X:Cx)(r:V->Option Int->Option Int->Hp->VK->Prop):Prop :=
 ∀(pins:List (Addr×Obj)) (s:Shared) (σ:St) (H:Hp) (x:V) (v vl vu:Value) (lo hi:Option Int) (sl:Addr) (Q:VK),Inv X pins σ H s->RelV x v->s.heap.IsSliceOf sl vl vu .none->IsPart vl lo->IsPart vu hi->r x lo hi H Q ->
  ∃T id,typeLookup (.type T) "__getitem__"=pure (some (.builtin id))/\s.TypeIs v T/\wpAny (model X.prog X.w) X.A (getItem v (.ref sl)) (EP X pins σ Q) X.xe s
theorem SlR.or{r r':V->Option Int->Option Int->Hp->VK->Prop}(h:SlR X r)(h':SlR X r'):SlR X (fun x lo hi H Q=>r x lo hi H Q\/r' x lo hi H Q):=by
 intro pins s σ H x v vl vu lo hi sl Q I rx hs pl pu q;rcases q with q | q
 ·exact h pins s σ H x v vl vu lo hi sl Q I rx hs pl pu q
 ·exact h' pins s σ H x v vl vu lo hi sl Q I rx hs pl pu q
noncomputable def tSl(r:V->Option Int->Option Int->Hp->VK->Prop)(te:TE)(tl th:TO):TE:=fun σ H Q=>te σ H fun x H1=>tl σ H1 fun l H2=>th σ H2 fun u H3=>r x l u H3 Q
theorem yG{r:V->Option Int->Option Int->Hp->VK->Prop}(hr:SlR X r)(he:PE X e te)(hl:PO X lo tl)(hu:PO X hi th):PE X (.Subscript e (.Slice lo hi none p2) pos) (tSl r te tl th):=by
 intro pins s σ H Q I h;refine Subscript_ (thn (he pins s σ H _ I h) fun v s1 ⟨x,H1,I1,r1,q1⟩=>?_);refine wpAny_Slice (thn (hl pins s1 σ H1 _ I1 q1) fun vl s2 ⟨l,H2,I2,pl,q2⟩=>thn (hu pins s2 σ H2 _ I2 q2) fun vu s3 ⟨u,H3,I3,pu,q3⟩=>?_);rw[evalPart_none];refine wpAny_pure ?_
 have I4:Inv X pins σ H3 { s3 with heap:=s3.heap.push { cls:=.type "slice",data:=.fields #[vl,vu,.none] } }:=I3.kept (t':=s3.toks) fun b ob q=>Heap.get?_push_of_some _ q
 obtain⟨T,id,hT,ht,hg⟩:=hr pins { s3 with heap:=s3.heap.push { cls:=.type "slice",data:=.fields #[vl,vu,.none] } } σ H3 x v vl vu l u s3.heap.objs.size Q I4 r1 (Heap.IsSliceOf.new ..) pl pu q3;show wpAny (model X.prog X.w) X.A (subscriptTail e (.Slice lo hi none p2) v (.ref s3.heap.objs.size)) (EP X pins σ Q) X.xe { s3 with heap:=s3.heap.push { cls:=.type "slice",data:=.fields #[vl,vu,.none] } };exact tail_any (ops:=[.ref s3.heap.objs.size,v]) ht hT hg (by with_unfolding_all rfl)
noncomputable def cutV(xs:List V)(lo hi:Option Int):List V:=(xs.drop (HT.sIx xs.length 0 lo)).take (HT.sIx xs.length xs.length hi-HT.sIx xs.length 0 lo)
theorem iV(xs:List V)(lo hi:Option Int):(cutV xs lo hi).length<=xs.length:=by
 unfold cutV;rw[List.length_take,List.length_drop];omega
noncomputable def rSlT(K:PySem.W.Frag):V->Option Int->Option Int->Hp->VK->Prop:=fun x lo hi H Q=>∃a xs,x=.ref a/\SqT K H a xs /\
 ¬(HT.sIx xs.length 0 lo=0/\HT.sIx xs.length xs.length hi=xs.length)/\∀p,H p=none->Q (.ref p) (upd H p (.tup (cutV xs lo hi)))
theorem Jb:SlR X (rSlT X.K):=by
 intro pins s σ H x v vl vu lo hi sl Q I rx hs pl pu h;obtain⟨a,xs,rfl,hx,hw,q⟩:=h;cases rx;obtain⟨its,r,ht,hz⟩:=I.tuple hx
 have hlen:its.toArray.size=xs.length:=by rw[List.size_toArray];exact r.length.symm
 refine⟨"tuple",_,PyProof.Rows.slot_tuple_getitem.lookup,ht.typeIs,?_⟩;refine HT.getItem_tuple_cut ht hs pl pu (by rw[hlen];exact hw) ?_ (by rw[hlen];exact hz);rw[hlen];refine⟨.ref s.heap.objs.size,_,I.laid (t':=s.toks) (o:=.tup (cutV xs lo hi)) (fun b ob q=>Heap.get?_push_of_some _ q) (Nat.le_refl _) ?_,rfl,q _ (I.hok.fresh (Nat.le_refl _))⟩;exact⟨Nat.le_trans (iV xs lo hi) hz,_,(r.drop (HT.sIx xs.length 0 lo)).take (HT.sIx xs.length xs.length hi-HT.sIx xs.length 0 lo),IsTup.new _ _⟩
noncomputable def JV(K:PySem.W.Frag):R2:=fun x y H Q=>∃a b xs ys,x=.ref a/\y=.ref b/\SqT K H a xs/\SqT K H b ys/\xs≠[]/\xs.length+ys.length<=sizeLine /\
 (ys=[]->Q (.ref a) H)/\(ys≠[]->∀p,H p=none->Q (.ref p) (upd H p (.tup (xs++ys))))
theorem Vals.nil_iff{xs:List V}{us:List Value}(r:Vals xs us):us=[]↔xs=[]:=by
 cases r with
 | nil=>simp
 | cons _ _=>simp
theorem Hc:OpR X (binaryOp .Add) (JV X.K):=by
 intro pins s σ H x y v u Q I rx ry h;obtain⟨a,b,xs,ys,rfl,rfl,ha,hb,hx,hz,q1,q2⟩:=h;cases rx;cases ry;obtain⟨its,r1,p1,_⟩:=I.tuple ha;obtain⟨its2,r2,p2,_⟩:=I.tuple hb;refine HT.cat_tup p1 p2 (fun z=>hx (r1.nil_iff.mp z)) (fun z=>⟨.ref a,H,I,rfl,q1 (r2.nil_iff.mp z)⟩) (fun z=>?_) (by rw[<-r1.length,<-r2.length];exact hz);refine⟨.ref s.heap.objs.size,_,I.laid (t':=s.toks) (o:=.tup (xs++ys)) (fun b ob q=>Heap.get?_push_of_some _ q) (Nat.le_refl _) ?_,rfl,q2 (fun w=>z (r2.nil_iff.mpr w)) _ (I.hok.fresh (Nat.le_refl _))⟩;exact⟨by rw[List.length_append];exact hz,_,r1.append r2,IsTup.new _ _⟩
end
end L2
namespace L2
open PySem PySem.Spec PyProof.Rows
noncomputable def ixN(n:Nat)(i:Int):Option Nat:=if 0<=i then(if i<n then some i.toNat else none)else if -(n:Int)<=i then some (i+n).toNat else none
noncomputable def atI{α:Type}(xs:List α)(i:Int):Option α:=(ixN xs.length i).bind fun j=>xs[j]?
theorem wZ{n:Nat}{i:Int}{j:Nat}(h:ixN n i=some j):seqIndex? i n=some j/\j<n/\-(n:Int)<=i/\i<n:=by
 unfold ixN at h
 by_cases h0:0<=i
 ·rw[if_pos h0]at h
  by_cases h1:i<n
  ·rw[if_pos h1]at h
   have e:i.toNat=j:=Option.some.inj h;exact⟨by rw[seqIndex_of h0 h1,e],by omega,by omega,h1⟩
  ·rw[if_neg h1]at h;cases h
 ·rw[if_neg h0]at h
  by_cases h1:-(n:Int)<=i
  ·rw[if_pos h1]at h
   have e:(i+n).toNat=j:=Option.some.inj h;exact⟨by rw[seqIndex_neg (by omega) h1,e],by omega,h1,by omega⟩
  ·rw[if_neg h1]at h;cases h
theorem pP{α:Type}{xs:List α}{i:Int}{v:α}(h:atI xs i=some v):∃j,seqIndex? i xs.length=some j/\xs[j]?=some v/\j<xs.length/\-(xs.length:Int)<=i/\i<xs.length:=by
 unfold atI at h
 cases e:ixN xs.length i with
 | none=>rw[e]at h;cases h
 | some j=>
   rw[e]at h;obtain⟨h1,h2,h3,h4⟩:=wZ e;exact⟨j,h1,h,h2,h3,h4⟩
noncomputable def vh(b:Expr):Prop:=∀o i,subscripted b false o i=operate [o,i] (getItem o i)
noncomputable def IxR(X:Cx)(r:R2):Prop :=
 ∀(value slice:Expr) (pins:List (Addr×Obj)) (s:Shared) (σ:St) (H:Hp) (x y:V) (v u:Value) (Q:VK),Inv X pins σ H s->RelV x v->RelV y u->r x y H Q ->
  subscripted slice false v u=operate [v,u] (getItem v u)->wpAny (model X.prog X.w) X.A (subscriptTail value slice v u) (EP X pins σ Q) X.xe s
noncomputable def MtR(X:Cx)(id:String)(r:V->List V->Hp->VK->Prop):Prop :=
 ∀(pins:List (Addr×Obj)) (s:Shared) (σ:St) (H:Hp) (x:V) (xs:List V) (v:Value) (us:List Value) (Q:VK),Inv X pins σ H s->RelV x v->Vals xs us->r x xs H Q ->
  wpAny (model X.prog X.w) X.A (call (.builtin id) (v::us)) (EP X pins σ Q) X.xe s
section
variable{X:Cx}{a b:Expr}{ta tb:TE}{pos:Pos}
theorem IxR.or{r r':R2}(h:IxR X r)(h':IxR X r'):IxR X (fun x y H Q=>r x y H Q\/r' x y H Q):=by
 intro value slice pins s σ H x y v u Q I rx ry q hs;rcases q with q | q
 ·exact h value slice pins s σ H x y v u Q I rx ry q hs
 ·exact h' value slice pins s σ H x y v u Q I rx ry q hs
theorem O4{r:R2}(hr:IxR X r)(ha:PE X a ta)(hb:PE X b tb)(hs:vh b):PE X (.Subscript a b pos) (tOp r ta tb):=by
 intro pins s σ H Q I h;exact Subscript_ (binT ha hb I h fun v u s2 x y H2 I2 rx ry q=>hr a b pins s2 σ H2 x y v u Q I2 rx ry q (hs _ _))
noncomputable def rIxL(K:PySem.W.Frag):R2:=fun x y H Q=>∃p xs i v,x=.ref p/\y=.int i/\SqL K H p xs/\atI xs i=some v/\Q v H
noncomputable def rIxT(K:PySem.W.Frag):R2:=fun x y H Q=>∃p xs i v,x=.ref p/\y=.int i/\SqT K H p xs/\atI xs i=some v/\Q v H
noncomputable def rIxS:R2:=fun x y H Q=>∃z i c,x=.str z/\y=.int i/\z.length<=sizeLine/\atI z.cps.toList i=some c/\Q (.str ⟨#[c]⟩) H
theorem CG:IxR X (rIxL X.K):=by
 intro value slice pins s σ H x y v u Q I rx ry h hs;obtain⟨p,xs,i,z,rfl,rfl,hq,he,q⟩:=h;cases rx;obtain⟨t,rfl⟩:=ry;obtain⟨its,r,pl,hz⟩:=I.list hq;obtain⟨j,h1,h2,h3,h4,h5⟩:=pP he;obtain⟨w,ew,rw'⟩:=r.get h2;have hl:=r.length;have hn:=j5
 have fin:EP X pins σ Q w s:=⟨z,H,I,rw',q⟩
 by_cases h0:0<=i
 ·have hj:i.toNat=j:=by
   rw[seqIndex_of h0 h5]at h1;exact Option.some.inj h1
  exact item_listR pl.isList h0 (by omega) (by rw[hj];simpa using ew) fin hs
 ·have hj:(i+(its.toArray.size:Int)).toNat=j:=by
   rw[seqIndex_neg (by omega) h4]at h1;rw[List.size_toArray,<-hl];exact Option.some.inj h1
  exact subscriptTail_builtinR (x:=w) pl.isList.typeIs slot_list_getitem.lookup
   (wpAny_getItem_list_neg (Q:=fun r s'=>r=w/\EP X pins σ Q r s') pl.isList (by omega) (by rw[List.size_toArray]<;>omega) (by omega) (by rw[hj];simpa using ew) ⟨rfl,fin⟩) hs
theorem JR:IxR X (rIxT X.K):=by
 intro value slice pins s σ H x y v u Q I rx ry h hs;obtain⟨p,xs,i,z,rfl,rfl,hq,he,q⟩:=h;cases rx;obtain⟨t,rfl⟩:=ry;obtain⟨its,r,pl,hz⟩:=I.tuple hq;obtain⟨j,h1,h2,h3,h4,h5⟩:=pP he;obtain⟨w,ew,rw'⟩:=r.get h2;have hl:=r.length;have hn:=j5
 have fin:EP X pins σ Q w s:=⟨z,H,I,rw',q⟩
 exact subscriptTail_builtinR (x:=w) pl.typeIs slot_tuple_getitem.lookup
  (getItem_tuple (j:=j) (Q:=fun r s'=>r=w/\EP X pins σ Q r s') pl (by omega) (by omega) (by rw[List.size_toArray,<-hl];exact h1) (by simpa using ew) ⟨rfl,fin⟩) hs
theorem uC:IxR X rIxS:=by
 intro value slice pins s σ H x y v u Q I rx ry h hs;obtain⟨z,i,c,rfl,rfl,hz,he,q⟩:=h;obtain⟨t,rfl⟩:=rx;obtain⟨t',rfl⟩:=ry;obtain⟨j,h1,h2,h3,h4,h5⟩:=pP he
 have hl:z.cps.toList.length=z.length:=by simp[Str.length]
 rw[hl]at h1 h4 h5;have hn:=j5
 exact tail_any (typeIs_str s z t) slot_str_getitem.lookup (getItem_str (c:=c) (by
  have e1:decide (i < -(2 ^ 63:Int))=false:=decide_eq_false (by omega);have e2:decide (i≥2 ^ 63)=false:=decide_eq_false (by omega)
  rw[e1,e2,Bool.or_false]) (by rw[h1];simpa using h2) ⟨.str ⟨#[c]⟩,H,I.tok _,⟨_,rfl⟩,q⟩) hs
theorem tM(its:List Value)(n j:Nat)(u:Value):Obj.mapSeq (·.setIfInBounds j u) { cls:=.type "list",data:=.seq its.toArray n }={ cls:=.type "list",data:=.seq (its.set j u).toArray n }:=by
 simp[Obj.mapSeq]
theorem Inv.lst{pins:List (Addr×Obj)}{σ:St}{H:Hp}{s:Shared}{p:Addr}{xs:List V}(I:Inv X pins σ H s)(h:H p=some (.lst xs)) :
 ∃(its:List Value) (n:Nat),Vals xs its/\s.heap.get? p=some { cls:=.type "list",data:=.seq its.toArray n }/\xs.length<=sizeLine:=by
 obtain⟨z,its,n,r,e⟩:=I.hok p _ h;exact⟨its,n,r,e,z⟩
theorem Inv.lstUpd{pins:List (Addr×Obj)}{σ:St}{H:Hp}{s:Shared}{p:Addr}{xs ys:List V}{its its':List Value}{n n':Nat}{f:Obj->Obj}(I:Inv X pins σ H s)(h:H p=some (.lst xs))
 (ho:s.heap.get? p=some { cls:=.type "list",data:=.seq its.toArray n }) (hf:f { cls:=.type "list",data:=.seq its.toArray n }={ cls:=.type "list",data:=.seq its'.toArray n' }) (r:Vals ys its') (hz:ys.length<=sizeLine) (t:Nat) :
 Inv X pins σ (upd H p (.lst ys)) { s with heap:=s.heap.update p f,toks:=t }:=by
 have e:(s.heap.update p f).get? p=some { cls:=.type "list",data:=.seq its'.toArray n' }:=by
  rw[Heap.get?_update_self f ho (by rw[hf]<;>rfl),hf]
 refine I.write (x:=p) (e:=p) (by rw[h];trivial) (.inl rfl) (fun b u hb q=>(Heap.get?_update_other _ _ (Ne.symm hb)).trans q) ⟨_,e⟩ ?_;exact⟨hz,its',n',r,e⟩
noncomputable def Nv:V->V->V->Hp->(Hp->Prop)->Prop:=fun o i v H Q=>∃p xs k j,o=.ref p/\i=.int k/\H p=some (.lst xs)/\ixN xs.length k=some j/\Q (upd H p (.lst (xs.set j v)))
theorem set_list:PSet X Nv:=by
 intro pins s σ H o i v ov iv u Q I ro ri rv h;obtain⟨p,xs,k,j,rfl,rfl,hp,hj,q⟩:=h;cases ro;obtain⟨t,rfl⟩:=ri;obtain⟨its,n,r,ho,hz⟩:=I.lst hp;obtain⟨h1,h2,h3,h4⟩:=wZ hj;have hl:=r.length;have hn:=j5
 have I':Inv X pins σ (upd H p (.lst (xs.set j v))) { s with heap:=s.heap.update p (Obj.mapSeq (·.setIfInBounds j u)) } :=
  I.lstUpd hp ho (tM its n j u) (r.set rv j) (by rw[List.length_set];exact hz) s.toks
 by_cases h0:0<=k
 ·have hk:k.toNat=j:=by
   rw[seqIndex_of h0 h4]at h1;exact Option.some.inj h1
  exact PySem.W.ki_setAt ho h0 (by omega) (by rw[List.size_toArray,<-hl];exact h4) (by rw[hk];exact⟨_,I',q⟩)
 ·have hk:(k+(its.toArray.size:Int)).toNat=j:=by
   rw[seqIndex_neg (by omega) h3]at h1;rw[List.size_toArray,<-hl];exact Option.some.inj h1
  exact PySem.W.ki_setBack ho (by omega) (by rw[List.size_toArray,<-hl];exact h3) (by omega) (by rw[hk];exact⟨_,I',q⟩)
theorem lW(lo hi:Option Int)(n:Nat):(sliceBounds lo hi none n).1=((HT.sIx n 0 lo:Nat):Int)/\(sliceBounds lo hi none n).2.1=((HT.sIx n n hi:Nat):Int)/\(sliceBounds lo hi none n).2.2=1:=by
 refine⟨?_,?_,rfl⟩
 ·cases lo with
  | none=>simp[sliceBounds,HT.sIx]
  | some i=>
    simp only[sliceBounds,HT.sIx,Option.getD_none,show(1:Int)>0 by decide,if_true]
    by_cases h:i<0
    ·simp only[h,if_true]<;>omega
    ·simp only[h,if_false]<;>omega
 ·cases hi with
  | none=>simp[sliceBounds,HT.sIx]
  | some i=>
    simp only[sliceBounds,HT.sIx,Option.getD_none,show(1:Int)>0 by decide,if_true]
    by_cases h:i<0
    ·simp only[h,if_true]<;>omega
    ·simp only[h,if_false]<;>omega
theorem kE(its:List Value)(lo hi:Option Int):slicePick its.toArray lo hi none=((its.drop (HT.sIx its.length 0 lo)).take (HT.sIx its.length its.length hi-HT.sIx its.length 0 lo)).toArray:=by
 obtain⟨h1,h2,h3⟩:=lW lo hi its.toArray.size;unfold slicePick;rw[h1,h2,h3];simp only[sliceRange_one,pick_run,List.size_toArray]<;>rfl
noncomputable def rSlL(K:PySem.W.Frag):V->Option Int->Option Int->Hp->VK->Prop:=fun x lo hi H Q=>∃a xs,x=.ref a/\SqL K H a xs/\∀p,H p=none->Q (.ref p) (upd H p (.lst (cutV xs lo hi)))
theorem Gn:SlR X (rSlL X.K):=by
 intro pins s σ H x v vl vu lo hi sl Q I rx hs pl pu h;obtain⟨a,xs,rfl,hx,q⟩:=h;cases rx;obtain⟨its,r,ht,hz⟩:=I.list hx;have hlen:=r.length;refine⟨"list",_,slot_list_getitem.lookup,ht.isList.typeIs,?_⟩;refine wpAny_getItem_list_slice ht.isList hs pl pu .none (by simp) ?_ (by rw[List.size_toArray]<;>omega);rw[kE,<-hlen];refine⟨.ref s.heap.objs.size,_,I.laid (t':=s.toks) (o:=.lst (cutV xs lo hi)) (fun b ob q=>Heap.get?_push_of_some _ q) (Nat.le_refl _) ?_,rfl,q _ (I.hok.fresh (Nat.le_refl _))⟩;exact⟨Nat.le_trans (iV xs lo hi) hz,_,0,(r.drop (HT.sIx xs.length 0 lo)).take (HT.sIx xs.length xs.length hi-HT.sIx xs.length 0 lo),Heap.get?_push_size _ rfl⟩
noncomputable def ju:V->Bool
 | .non=>true
 | .bl _=>true
 | .int _=>true
 | .str _=>true
 | _=>false
noncomputable def eqV:V->V->Bool
 | .non,.non=>true
 | .bl a,.bl b=>a==b
 | .bl a,.int b=>(if a then 1 else 0)==b
 | .int a,.bl b=>a==(if b then 1 else 0)
 | .int a,.int b=>a==b
 | .str a,.str b=>a==b
 | _,_=>false
theorem Kl{A:Around}{s:Shared}{y x:V}{u v:Value}(ry:RelV y u)(rx:RelV x v)(fy:ju y=true)(fx:ju x=true):SeqAt.EqAt A s u v (eqV y x):=by
 cases y with
 | non=>
   cases ry
   cases x with
   | non=>cases rx;exact SeqAt.EqAt.same _
   | bl b=>cases rx;exact SeqAt.EqAt.none_bool b
   | int b=>obtain⟨t,rfl⟩:=rx;exact SeqAt.EqAt.none_int b t
   | str b=>obtain⟨t,rfl⟩:=rx;exact SeqAt.EqAt.none_str b t
   | _=>exact absurd (show false=true from fx) Bool.false_ne_true
 | bl a=>
   cases ry
   cases x with
   | non=>cases rx;exact SeqAt.EqAt.bool_none a
   | bl b=>cases rx;exact SeqAt.EqAt.bool_bool a b
   | int b=>obtain⟨t,rfl⟩:=rx;exact SeqAt.EqAt.bool_int a b t
   | str b=>obtain⟨t,rfl⟩:=rx;exact SeqAt.EqAt.bool_str a b t
   | _=>exact absurd (show false=true from fx) Bool.false_ne_true
 | int a=>
   obtain⟨t',rfl⟩:=ry
   cases x with
   | non=>cases rx;exact SeqAt.EqAt.int_none a t'
   | bl b=>cases rx;exact SeqAt.EqAt.int_bool a t' b
   | int b=>obtain⟨t,rfl⟩:=rx;exact SeqAt.EqAt.int_int a t' b t
   | str b=>obtain⟨t,rfl⟩:=rx;exact SeqAt.EqAt.int_str a t' b t
   | _=>exact absurd (show false=true from fx) Bool.false_ne_true
 | str a=>
   obtain⟨t',rfl⟩:=ry
   cases x with
   | non=>cases rx;exact SeqAt.EqAt.str_none a t'
   | bl b=>cases rx;exact SeqAt.EqAt.str_bool a t' b
   | int b=>obtain⟨t,rfl⟩:=rx;exact SeqAt.EqAt.str_int a t' b t
   | str b=>obtain⟨t,rfl⟩:=rx;exact SeqAt.EqAt.str_str a t' b t
   | _=>exact absurd (show false=true from fx) Bool.false_ne_true
 | _=>exact absurd (show false=true from fy) Bool.false_ne_true
noncomputable def eqU(x:V)(u:Value):Bool:=match u with
 | .none=>eqV .non x
 | .bool b=>eqV (.bl b) x
 | .int i _=>eqV (.int i) x
 | .str z _=>eqV (.str z) x
 | _=>false
theorem Bo{x y:V}{u:Value}(r:RelV y u)(f:ju y=true):eqU x u=eqV y x:=by
 cases y with
 | non=>cases r;rfl
 | bl b=>cases r;rfl
 | int i=>obtain⟨t,rfl⟩:=r;rfl
 | str z=>obtain⟨t,rfl⟩:=r;rfl
 | _=>exact absurd (show false=true from f) Bool.false_ne_true
theorem iD{x:V}:∀{xs:List V} {us:List Value},Vals xs us->xs.all ju=true->us.any (eqU x)=xs.any fun y=>eqV y x
 | _,_,.nil,_=>rfl
 | y::xs,u::us,.cons r t,f=>by
   rw[List.all_cons,Bool.and_eq_true]at f;rw[List.any_cons,List.any_cons,Bo r f.1,iD t f.2]
theorem fO{A:Around}{s:Shared}{x:V}{v:Value}(rx:RelV x v)(fx:ju x=true):∀{xs:List V} {us:List Value},Vals xs us->xs.all ju=true->∀u∈us,SeqAt.EqAt A s u v (eqU x u)
 | _,_,.nil,_=>fun u hu=>by cases hu
 | y::xs,u::us,.cons r t,f=>fun u' hu=>by
   rw[List.all_cons,Bool.and_eq_true]at f;rcases List.mem_cons.mp hu with rfl | hu
   ·rw[Bo r f.1];exact Kl r rx f.1 fx
   ·exact fO rx fx t f.2 u' hu
noncomputable def inV(x:V)(xs:List V):Bool:=xs.any fun y=>eqV y x
noncomputable def rIn(K:PySem.W.Frag)(neg:Bool):R2:=fun x y H Q=>∃p xs,y=.ref p/\(SqL K H p xs\/SqT K H p xs)/\ju x=true/\xs.all ju=true/\Q (.bl (if neg then !inV x xs else inV x xs)) H
theorem nj:OpR X (compareOp .In) (rIn X.K false):=by
 intro pins s σ H x y v u Q I rx ry h;obtain⟨p,xs,rfl,hq,fx,fs,q⟩:=h;cases ry;rcases hq with hq | hq
 ·obtain⟨its,r,pl,hz⟩:=I.list hq
  refine SeqAt.in_listAt (eqU x) pl.isList (fun w hw=>fO rx fx r fs w (by simpa using hw)) ⟨.bl _,H,I,rfl,?_⟩;rw[show its.toArray.any (eqU x)=its.any (eqU x) by simp,iD r fs];exact q
 ·obtain⟨its,r,pl,hz⟩:=I.tuple hq
  refine SeqAt.in_tupleAt (eqU x) pl (fun w hw=>fO rx fx r fs w (by simpa using hw)) ⟨.bl _,H,I,rfl,?_⟩;rw[show its.toArray.any (eqU x)=its.any (eqU x) by simp,iD r fs];exact q
theorem gG:OpR X (compareOp .NotIn) (rIn X.K true):=by
 intro pins s σ H x y v u Q I rx ry h;obtain⟨p,xs,rfl,hq,fx,fs,q⟩:=h;cases ry;rcases hq with hq | hq
 ·obtain⟨its,r,pl,hz⟩:=I.list hq
  refine SeqAt.notIn_listAt (eqU x) pl.isList (fun w hw=>fO rx fx r fs w (by simpa using hw)) ⟨.bl _,H,I,rfl,?_⟩;rw[show its.toArray.any (eqU x)=its.any (eqU x) by simp,iD r fs];exact q
 ·obtain⟨its,r,pl,hz⟩:=I.tuple hq
  refine SeqAt.notIn_tupleAt (eqU x) pl (fun w hw=>fO rx fx r fs w (by simpa using hw)) ⟨.bl _,H,I,rfl,?_⟩;rw[show its.toArray.any (eqU x)=its.any (eqU x) by simp,iD r fs];exact q
theorem mG:CallR X (.builtin "len") (fun xs H Q=>∃p ys,xs=[.ref p]/\(SqL X.K H p ys\/SqT X.K H p ys)/\Q (.int ys.length) H):=by
 intro pins s σ H xs us Q I r h;obtain⟨p,ys,rfl,hq,q⟩:=h;obtain⟨u,rfl,rx⟩:=vals1 r;cases rx;have hn:=j5;rcases hq with hq | hq
 ·obtain⟨its,r',pl,hz⟩:=I.list hq
  have hlen:=r'.length;exact Calls.call_len_list pl.isList (by simp only[List.size_toArray]<;>omega) ⟨.int ys.length,H,I.tok _,⟨s.toks+1,by rw[List.size_toArray,hlen]⟩,q⟩
 ·obtain⟨its,r',pl,hz⟩:=I.tuple hq
  have hlen:=r'.length;exact len_tuple pl (by simp only[List.size_toArray]<;>omega) ⟨.int ys.length,H,I.tok _,⟨s.toks+1,by rw[List.size_toArray,hlen]⟩,q⟩
theorem nF:CallR X (.builtin "len") (fun xs H Q=>∃z,xs=[.str z]/\z.length<=sizeLine/\Q (.int z.length) H):=by
 intro pins s σ H xs us Q I r h;obtain⟨z,rfl,hz,q⟩:=h;obtain⟨u,rfl,t,rfl⟩:=vals1 r;have hn:=j5;exact len_str (by omega) ⟨.int z.length,H,I.tok _,⟨_,rfl⟩,q⟩
theorem CallR.or{f:Value}{r r':List V->Hp->VK->Prop}(h:CallR X f r)(h':CallR X f r'):CallR X f (fun xs H Q=>r xs H Q\/r' xs H Q):=by
 intro pins s σ H xs us Q I rs q;rcases q with q | q
 ·exact h pins s σ H xs us Q I rs q
 ·exact h' pins s σ H xs us Q I rs q
theorem lF:CallR X (.type "tuple") (fun xs H Q=>∃p ys,xs=[.ref p]/\((SqL X.K H p ys/\∀l,H l=none->Q (.ref l) (upd H l (.tup ys)))\/(SqT X.K H p ys/\Q (.ref p) H))):=by
 intro pins s σ H xs us Q I r h;obtain⟨p,ys,rfl,h⟩:=h;obtain⟨u,rfl,rx⟩:=vals1 r;cases rx;rcases h with⟨hq,q⟩ | ⟨hq,q⟩
 ·obtain⟨its,r',pl,hz⟩:=I.list hq
  have hlen:=r'.length;refine call_tuple_list pl.isList (fun h' kp=>?_) (by simp only[List.size_toArray]<;>omega);have I1:Inv X pins σ H { s with heap:=h' }:=I.kept (t':=s.toks) kp
  have I2:Inv X pins σ (upd H h'.objs.size (.tup ys)) { s with heap:=h'.push { cls:=.type "tuple",data:=.seq its.toArray } } :=
   I1.laid (t':=s.toks) (fun b o e=>Heap.get?_push_of_some _ e) (Nat.le_refl _) (show ObjOk X.prog X.w _ _ _ (.tup ys)from⟨hz,its,r',IsTup.new _ _⟩)
  exact⟨.ref h'.objs.size,_,I2,rfl,q _ (I1.hok.fresh (Nat.le_refl _))⟩
 ·obtain⟨its,r',pl,hz⟩:=I.tuple hq
  exact call_tuple_same pl ⟨.ref p,H,I,rfl,q⟩
noncomputable def tyV(K:PySem.W.Frag)(T:String)(x:V)(H:Hp):Prop:=match x with
 | .str _=>T="str"
 | .int _=>T="int"
 | .ref p=>(T="list"/\∃xs,SqL K H p xs)\/(T="tuple"/\∃o,K.lookup p=some o/\o.cls=.type "tuple"/\o.dict=none) \/
  (T="dict"/\((∃kvs ep,H p=some (.dK kvs ep))\/∃kvs,H p=some (.dT kvs)))\/(T="set"/\∃S n,H p=some (.set S n))
 | _=>False
theorem Hz{pins:List (Addr×Obj)}{σ:St}{H:Hp}{s:Shared}{T:String}{x:V}{v:Value}(I:Inv X pins σ H s)(r:RelV x v)(ty:tyV X.K T x H) :
 s.TypeIs v T/\∀a,v=.ref a->∃ob,s.heap.get? a=some ob/\ob.dict=none:=by
 cases x with
 | str z=>
   obtain⟨t,rfl⟩:=r;cases (show T="str" from ty);exact⟨typeIs_str s z t,fun _ e=>nomatch e⟩
 | int i=>
   obtain⟨t,rfl⟩:=r;cases (show T="int" from ty);exact⟨typeIs_int s i t,fun _ e=>nomatch e⟩
 | ref p=>
   cases r;rcases ty with⟨rfl,xs,hq⟩ | ⟨rfl,o,hk,hc,hd⟩ | ⟨rfl,hk⟩ | ⟨rfl,S,n,hk⟩
   ·obtain⟨its,_,pl,_⟩:=I.list hq
    refine⟨pl.isList.typeIs,fun a e=>?_⟩;cases e;obtain⟨o,n,e,c,hd,_⟩:=pl;exact⟨o,e,hd⟩
   ·refine⟨⟨o,I.kIn p o hk,hc⟩,fun a e=>?_⟩
    cases e;exact⟨o,I.kIn _ o hk,hd⟩
   ·have z:∃o,s.heap.get? p=some o/\o.ExactDict:=by
     rcases hk with⟨kvs,ep,hk⟩ | ⟨kvs,hk⟩
     ·obtain⟨_,_,_,_,o,_,e,ex,_⟩:=I.hok p _ hk
      exact⟨o,e,ex⟩
     ·obtain⟨_,_,_,_,o,_,_,e,ex,_⟩:=I.hok p _ hk
      exact⟨o,e,ex⟩
    obtain⟨o,e,ex⟩:=z;refine⟨⟨o,e,ex.1⟩,fun a e2=>?_⟩;cases e2;exact⟨o,e,ex.2.1⟩
   ·obtain⟨o,_,_,_,e,ex,_⟩:=I.hok p _ hk
    refine⟨⟨o,e,ex.1⟩,fun a e2=>?_⟩;cases e2;exact⟨o,e,ex.2.1⟩
 | _=>exact False.elim ty
noncomputable def tBM(K:PySem.W.Frag)(T:String)(r:V->List V->Hp->VK->Prop)(to:TE)(t:TA):TE:=fun σ H Q=>to σ H fun x H1=>tyV K T x H1/\t σ H1 fun xs H2=>r x xs H2 Q
variable{o e:Expr}{es:List Expr}{to:TE}{t:TA}{name:Str}{apos cpos:Pos}{T id:String}{r:V->List V->Hp->VK->Prop}
theorem DR(pa:PlainAttrs T)(slot:Slot T name id)(hty:typeOf (.builtin id)=pure (.type "method_descriptor"))(hm:MtR X id r)(ho:PE X o to)(ha:PA X (e::es) t)
 (hbase:attributeBase o name X.env (eval o X.env)=eval o X.env:=by rfl)
 (hfew:((backTo cpos (starEach (e::es) X.env)).all (fun x=>!x.1)&&(backToKw cpos (keywordEach [] X.env)).all (fun x=>x.1.isSome)
  && decide ((e::es).length+([]:List Keyword).length+(if([]:List Keyword).isEmpty then 0 else 1)<30))=true:=by rfl)
 (hline:(apos.endLine==cpos.line)=true:=by rfl) (hs:starEach (e::es) X.env=(false,eval e X.env)::starEach es X.env:=by rfl) (hplain:(backTo cpos (starEach es X.env)).any (·.1)=false:=by rfl) :
 PE X (.Call (.Attribute o name apos) (e::es) [] cpos) (tBM X.K T r to t):=by
 intro pins s σ H Q I h;refine wpAny_Call_method_late hbase hfew hline rfl (thn (ho pins s σ H _ I h) fun v s1 ⟨x,H1,I1,r1,ty,q1⟩=>?_);obtain⟨h1,h2⟩:=Hz I1 r1 ty;refine⟨T,id,pa,slot,hty,h1,h2,?_⟩;have hA:=ha cpos pins s1 σ H1 _ I1 q1;rw[hs]at hA ⊢;refine Calls.callWith_builtin (by show(false||(backTo cpos (starEach es X.env)).any (·.1))=false;rw[hplain]<;>rfl) (Calls.evalArgs_plain ?_)
 exact thn hA fun us s2 ⟨vs,H2,I2,r2,q2⟩=>hm pins s2 σ H2 x vs v us Q I2 r1 r2 q2
end
end L2
namespace L2
open PySem PySem.Spec PyProof.Rows
noncomputable def MtM(X:Cx)(id:String)(r:V->List V->Hp->VK->Prop):Prop :=
 ∀(pins:List (Addr×Obj)) (s:Shared) (σ:St) (H:Hp) (x:V) (xs:List V) (v:Value) (us:List Value) (Q:VK),Inv X pins σ H s->RelV x v->Vals xs us->r x xs H Q ->
  wpAny (model X.prog X.w) X.A (call (.builtin id) (v::us)) (EP X pins σ Q) X.xe s
theorem Vals.one:∀{x:V} {us:List Value},Vals [x] us->∃u,us=[u]/\RelV x u
 | _,_,.cons r .nil=>⟨_,rfl,r⟩
section
variable{X:Cx}{pins:List (Addr×Obj)}{σ:St}{H:Hp}{s:Shared}{l b:Addr}{xs ys zs:List V}
theorem Inv.lset{its its':List Value}{n:Nat}{f:Array Value->Array Value}{t':Nat}(I:Inv X pins σ H s)(hH:H l=some (.lst xs))
 (e:s.heap.get? l=some { cls:=.type "list",data:=.seq its.toArray n }) (hf:f its.toArray=its'.toArray) (hv:Vals ys its') (hz:ys.length<=sizeLine) :
 Inv X pins σ (upd H l (.lst ys)) { s with heap:=s.heap.update l (Obj.mapSeq f),toks:=t' }:=by
 have q:=PySem.IsL.update e f;rw[hf]at q;refine I.write (x:=l) (e:=l) (by rw[hH];exact trivial) (.inl rfl) (fun b' u hb hu=>(Heap.get?_update_other s.heap (Obj.mapSeq f) (Ne.symm hb)).trans hu) ⟨_,q⟩ ?_;exact⟨hz,its',_,hv,q⟩
theorem Inv.lnew{its:List Value}{t':Nat}(I:Inv X pins σ H s)(hv:Vals ys its)(hz:ys.length<=sizeLine) :
 Inv X pins σ (upd H s.heap.objs.size (.lst ys)) { s with heap:=s.heap.push { cls:=.type "list",data:=.seq its.toArray },toks:=t' } :=
 I.laid (fun _ _ q=>Heap.get?_push_of_some _ q) (Nat.le_refl _) ⟨hz,its,0,hv,Heap.get?_push_size _ rfl⟩
theorem Inv.fresh(I:Inv X pins σ H s):H s.heap.objs.size=none:=I.hok.fresh (Nat.le_refl _)
theorem Inv.lstM(I:Inv X pins σ H s)(hH:H l=some (.lst xs)):xs.length<=sizeLine/\∃(its:List Value) (n:Nat),Vals xs its/\xs.length=its.length/\s.heap.get? l=some { cls:=.type "list",data:=.seq its.toArray n }:=by
 obtain⟨z,its,n,r,e⟩:=I.hok l _ hH;exact⟨z,its,n,r,r.length,e⟩
theorem zz{n:Nat}(h:n<=sizeLine):Builtin.List.listTooLong n=false:=by
 unfold Builtin.List.listTooLong;exact decide_eq_false (by omega)
end
section
variable{X:Cx}
noncomputable def CN:V->List V->Hp->VK->Prop:=fun x vs H Q=>∃l xs y,x=.ref l/\vs=[y]/\H l=some (.lst xs)/\xs.length<sizeLine/\Q .non (upd H l (.lst (xs++[y])))
theorem oh:MtM X "list.append" CN:=by
 intro pins s σ H x vs v us Q I rx rv h;obtain⟨l,xs,y,rfl,rfl,hH,hz,q⟩:=h;cases rx;obtain⟨u,rfl,ru⟩:=rv.one;obtain⟨z,its,n,r,hl,e⟩:=I.lstM hH;refine call_meets F.slot_list_append ⟨_,e,rfl⟩ F.entry_list_append (F.args_list_append_2 _ _) (PySem.list_append l its.toArray n u (by rw[List.size_toArray];omega)) ⟨e,?_⟩;refine⟨.non,_,I.lset (its':=its++[u]) hH e (by simp) (r.append (.cons ru .nil)) ?_,rfl,q⟩;rw[List.length_append,List.length_singleton];omega
noncomputable def Fp:V->List V->Hp->VK->Prop:=fun x vs H Q=>∃l b xs zs,x=.ref l/\vs=[.ref b]/\H l=some (.lst xs)/\H b=some (.lst zs)/\xs.length+zs.length<=sizeLine/\Q .non (upd H l (.lst (xs++zs)))
theorem vf:MtM X "list.extend" Fp:=by
 intro pins s σ H x vs v us Q I rx rv h;obtain⟨l,b,xs,zs,rfl,rfl,hH,hB,hz,q⟩:=h;cases rx;obtain⟨u,rfl,ru⟩:=rv.one;cases ru;obtain⟨z,its,n,r,hl,e⟩:=I.lstM hH;obtain⟨z2,its2,n2,r2,hl2,e2⟩:=I.lstM hB
 have hsz:its.toArray.size+its2.toArray.size<=sizeLine:=by rw[List.size_toArray,List.size_toArray];omega
 have hlong:¬(!its.toArray.isEmpty&&Builtin.List.listTooLong (its.toArray.size+its2.toArray.size))=true:=by
  rw[zz hsz,Bool.and_false];exact Bool.false_ne_true
 refine call_meets F.slot_list_extend ⟨_,e,rfl⟩ F.entry_list_extend (F.args_list_extend_2 _ _)
  (AutoSeq1.list_extend_list_list_0 l its.toArray n b its2.toArray n2 hlong (by rw[List.size_toArray];omega) (by omega)) ⟨e,e2,?_⟩
 refine⟨.non,_,I.lset (its':=its++its2) hH e (by simp) (r.append r2) ?_,rfl,q⟩;rw[List.length_append];omega
end
section
variable{prog:Program}{w:World}{A:Around}{E:Value->Shared->Prop}{s:Shared}
set_option maxRecDepth 100000 in
end
section
variable{X:Cx}
end
end L2
namespace Att
open PySem PySem.W PySem.Calls PyProof.Rows
theorem j0{P:Params}{h:Heap}:∀(ns:List Int) (vs:List Value),WellAll P h vs (ns.map WData.int)->IntsAre vs ns:=by
 intro ns
 induction ns with
 | nil=>
   intro vs w;rw[List.map_nil]at w;cases w;exact .nil
 | cons n ns ih=>
   intro vs w;rw[List.map_cons]at w
   cases w with
   | cons a b=>
     cases a;exact .cons _ _ (ih _ b)
theorem uE{l:OpenLaw}{n:Nat}(hn:l.most=some n){P:Params}{h:Heap}{args:List WData}{vals:List Value}
 (hpre:l.row.toRowW.claim.pre args=true) (hwl:WellAll P h vals args) :
 ∃a vs ns,vals=[Value.ref a]/\args=[WData.list (ns.map WData.int)]/\h.get? a=some { cls:=.type "list",data:=.seq vs.toArray }/\IntsAre vs ns/\ns.length<=n:=by
 have hsh:WShape.hasAll [] args [.list .int]=true:=(pre_splitW hpre).1;have hc:l.pre.holds [] { args:=args }=true:=(pre_splitW hpre).2;obtain⟨d,r,rfl,h1,h2⟩:=hasAllW_cons hsh;obtain rfl:=hasAllW_nil h2;obtain⟨xs,rfl,h3⟩:=hasW_list h1;obtain⟨ns,rfl⟩:=items_int h3
 have hlen:ns.length<=n:=by
  unfold OpenLaw.pre at hc
  have h4:(WTm.not (.lt (.lit (.int (n:Int))) (.len (.arg 0)))).holds [] { args:=[.list (ns.map .int)] }=true:=by
   have h4:=(holds_andW hc).1;rw[hn]at h4;exact h4
  have h5:=condW_of h4 (w_not (w_lt w_lit (w_len_list (w_arg rfl))));rw[List.length_map]at h5
  refine Nat.le_of_not_lt fun q=>?_
  have q':(n:Int)<((ns.length:Nat):Int):=by omega
  first
   | (rw[decide_eq_true q']at h5;exact absurd h5 (by decide))
   | (simp at h5;omega)
 cases hwl with
 | cons w1 w2=>
   cases w2
   cases w1 with
   | list ho hall=>exact⟨_,_,ns,rfl,rfl,ho,j0 ns _ hall,hlen⟩
theorem uq(l:OpenLaw)(args:List WData):l.row.toRowW.claim.post args (.bool true) args=true :=
 postW_of (r:=l.row.toRowW) (X:=(true==true))
  (show WShape.has [] (.bool true) .bool=true by first | rfl | decide | simp[WShape.has,WShape.arms,WShape.armsAll])
  (show(WTm.eq .res (.lit (.bool true))).value [] { args:=args,res:=some (.bool true),after:=args }=some (.bool (true==true))from w_eq_bool (w_res rfl) w_lit) rfl
theorem attach_call{l:OpenLaw}{n:Nat}{q:Program}{loose:List Str}{XP:(Str->Option Value)->Heap->Prop}{YP:World->Heap->Prop}{d:DefRec}
 (hn:l.most=some n) (hdf:d.params.defaults=[])
 (call:∀(w:World) (s₀ s₁:Shared) (mg mb:Str->Option Value) (fa:Addr) (o:Obj) (pm cd doc:Value) (a:Addr) (vs:List Value) (ns:List Int),
  Ground q loose [] XP w s₀ mg mb s₁.heap->YP w s₁.heap ->
  s₁.heap.get? fa=some o->o.data=.func (docDef d.name d.params d.body d.scope pm cd doc)->s₁.heap.CodeRec cd d.name->mg d.name=some (.ref fa) ->
  s₁.heap.get? a=some { cls:=.type "list",data:=.seq vs.toArray }->IntsAre vs ns->ns.length<=n->s₁.gens=#[] ->
  codeAny (model l.prog w) callerA (.call (.ref fa) ⟨[.ref a],[]⟩) (fun r s'=>r=.ok (.ret (.bool true))/\OldK s₁.heap s'.heap/\s'.os=s₁.os/\AllBare s'.gens) s₁) :
 WalkO q loose XP YP l.row.toRowW d [] (fun f vs=>PySem.call f vs):=by
 intro w s₀ s₁ mg mb G Y fa o pm cd doc dV kV ho hd hcd hD hmg hg args vals as hpre hlay hrd hwl hlo;obtain rfl:dV=.none:=Dflts.none hD hdf;obtain rfl:kV=.none:=Dflts.noKw hD;obtain⟨a,vs,ns,rfl,rfl,hobj,hints,hlen⟩:=uE hn hpre hwl;refine enter_call (codeAny_mono (call w s₀ s₁ mg mb fa o pm cd doc a vs ns G Y ho (fd_plain hd) hcd hmg hobj hints hlen hg) fun r s' hq=>?_);obtain⟨rfl,h2,h3,h4⟩:=hq;exact⟨.inl ⟨.bool true,.bool true,[],rfl,fun _=>rfl,.bool true,uq l _,fun _=>⟨List.Pairwise.nil,fun _ hm=>(nomatch hm)⟩⟩,h2,h3,h4⟩
section
variable{prog:Program}{w:World}{A:Around}{E:Value->Shared->Prop}{s:Shared}{K:Frag}
end
end Att
namespace L2
open PySem PySem.Spec PyProof.Rows
theorem di:∀{vs:List Value} {ns:List Int},IntsAre vs ns->Vals (ns.map V.int) vs
 | _,_,.nil=>.nil
 | _,_,.cons n t h=>.cons ⟨t,rfl⟩ (di h)
noncomputable def Only(H:Hp):Prop:=∀b,H b=none\/∃o xs,H b=some (.frz o (.lst xs))
theorem yU{P:Program}{w:World}{K:PySem.W.Frag}{mg mb:Str->Option Value}{CX:CXT}{k:Nat}{fa a:Addr}{fd:FuncData}{x:Str}{sp:Sp}{s₁:Shared}{vs:List Value}{ns:List Int}
 (KX:K.In s₁.heap) (hns:s₁.heap.Ns mainGlobals mg) (hb:s₁.heap.Ns builtinsNs mb) (hbb:∀x:Str,x≠"__name__"->mb x=bootBuiltins x) (hlim:s₁.heap.NoLimit) (hg:s₁.gens=#[])
 (ha:s₁.heap.get? a=some { cls:=.type "list",data:=.seq vs.toArray }) (hi:IntsAre vs ns) (hl:ns.length<=sizeLine) (hr:Room k callerA)
 (F:∀base:Heap,K.In base->base.Ns mainGlobals mg->FnOk P w K mg base CX k fa fd [x] sp) (hbind:∀(s:Shared) (u:Value),BindsTo s fd ⟨[u],[]⟩ [(x,u)])
 (hsp:∀H:Hp,Only H->SqL K H a (ns.map V.int)->sp [.ref a] H (fun v _=>v=.bl true) fun _ _ _=>False)
 (hCX:∀H e s',CX [] H s₁ (fun _ _ _=>False) e s'->False) :
 codeAny (model P w) callerA (.call (.ref fa) ⟨[.ref a],[]⟩) (fun r s'=>r=.ok (.ret (.bool true))/\OldK s₁.heap s'.heap/\s'.os=s₁.os/\AllBare s'.gens) s₁:=by
 have rv:=di hi;have lenV:=hi.length
 have core:∀H:Hp,Only H->SqL K H a (ns.map V.int)->HOk P w H s₁.heap->(∀b,H b≠none->b=a)->(H a≠none->K.lookup a=none) ->
  codeAny (model P w) callerA (.call (.ref fa) ⟨[.ref a],[]⟩) (fun r s'=>r=.ok (.ret (.bool true))/\OldK s₁.heap s'.heap/\s'.os=s₁.os/\AllBare s'.gens) s₁:=by
  intro H hO hS hok hA hK
  have cT:∀{b:Addr} {o:Obj},s₁.heap.get? b=some o->H b=none->(hidT s₁.heap H).get? b=some o:=fun e n=>Ai e n
  have noA:∀{b:Addr} {o:Obj} {es:Array DictEntry} {ep:Nat},s₁.heap.get? b=some o->o.data=.dict es ep->H b=none:=fun{b o es ep} e d=>by
   cases q:H b with
   | none=>rfl
   | some u=>
     have e':b=a:=hA b (by rw[q];simp);subst e';rw[ha]at e;cases e;have d':Data.seq vs.toArray _=Data.dict es ep:=d;cases d'
  have nsK:∀{b:Addr} {m:Str->Option Value},s₁.heap.Ns b m->(hidT s₁.heap H).Ns b m:=fun{b m} ⟨o,es,ep,e,d,r⟩=>⟨o,es,ep,cT e (noA e d),d,r⟩
  have hKb:K.In (hidT s₁.heap H):=fun b o e=>cT (KX b o e) (by
   cases q:H b with
   | none=>rfl
   | some u=>
     have e':b=a:=hA b (by rw[q];simp);subst e'
     rw[hK (by rw[q];simp)]at e;cases e)
  have hM:Mod K mg (hidT s₁.heap H):=⟨hKb,nsK hns,⟨mb,nsK hb,hbb⟩,let⟨mc,h1,h2⟩:=hlim;⟨mc,nsK h1,h2⟩⟩
  have e0:Env0 P w K mg (hidT s₁.heap H) callerA [] s₁ H:=⟨rfl,hM,fun b o e=>Ho e,Nat.le_of_eq (xQ _ _),trivial,fun b hb=>absurd (show b∈([]:List Addr)from hb) (by simp),hok,.of_eq hg⟩
  refine codeAny_mono ((F _ hKb (nsK hns)).run callerA [] s₁ H ⟨[.ref a],[]⟩ [.ref a] [.ref a] _ _ hr e0 (hbind s₁ (.ref a)) (.cons rfl .nil) (hsp H hO hS)) fun r s' h=>?_
  cases r with
  | error e=>exact(hCX H e s' h).elim
  | ok fl=>
    cases fl with
    | next=>exact False.elim h
    | brk=>exact False.elim h
    | cont=>exact False.elim h
    | ret u=>
      obtain⟨v,H',os,bare,un,hok',r',q⟩:=h;have q':v=.bl true:=q;subst q';obtain rfl:u=Value.bool true:=r';refine⟨rfl,OldK.of_keep fun b o e=>?_,os,bare⟩
      cases q:H b with
      | none=>exact un.keep b o e q (by intro z;exact absurd (show b∈([]:List Addr)from z) (by simp)) (by simp)
      | some u=>
        rcases hO b with z | ⟨ob,xs,z⟩
        ·rw[q]at z;cases z
        ·have z2:=un.frzs b ob _ z
         obtain⟨e1,_⟩:=hok b _ z;obtain⟨e2,_⟩:=hok' b _ z2;rw[e]at e1;cases e1;exact e2
 cases hk:K.lookup a with
 | some o=>
   have e:=KX a o hk;rw[ha]at e;cases e
   refine core (fun _=>none) (fun _=>.inl rfl) (.inr ⟨_,vs.toArray,_,hk,rfl,rfl,rfl,by rw[List.size_toArray,lenV];exact hl,by simpa using rv⟩) (fun b u z=>by have z':(none:Option HO)=some u:=z;cases z') (fun b z=>absurd rfl z) fun z=>absurd rfl z
 | none=>
   refine core (fun b=>if b=a then some (.frz { cls:=.type "list",data:=.seq vs.toArray } (.lst (ns.map V.int)))else none) (fun b=>?_) (.inl (.inr ⟨{ cls:=.type "list",data:=.seq vs.toArray },if_pos rfl⟩)) (fun b u z=>?_) (fun b z=>?_) fun _=>hk
   ·by_cases hb:b=a
    ·exact .inr ⟨_,_,if_pos hb⟩
    ·exact .inl (if_neg hb)
   ·by_cases hb:b=a
    ·have z':=(if_pos hb).symm.trans z
     cases z';subst hb;exact⟨ha,by rw[List.length_map];exact hl,vs,_,rv,ha⟩
    ·have z':=(if_neg hb).symm.trans z
     cases z'
   ·by_cases hb:b=a
    ·exact hb
    ·exact absurd (if_neg hb) z
end L2
namespace L2
open PySem PySem.Spec PyProof.Rows
theorem walk_of{l:PySem.W.OpenLaw}{n k:Nat}{q:Program}{loose:List Str}{XP:(Str->Option Value)->Heap->Prop}{YP:World->Heap->Prop}{d:DefRec}{K:Params->PySem.W.Frag}{CX:World->CXT}{sp:World->Sp}{x:Str}
 (hn:l.most=some n) (hn2:n<=sizeLine) (hdf:d.params.defaults=[]) (hr:Room k callerA)
 (hY:∀(w:World) (h:Heap),YP w h->(K w.params).In h)
 (F:∀(w:World) (mg:Str->Option Value) (fa:Addr) (h:Heap),(K w.params).In h->h.Ns mainGlobals mg->mg d.name=some (.ref fa) ->
  ∃fd:FuncData,(∀(s:Shared) (u:Value),BindsTo s fd ⟨[u],[]⟩ [(x,u)]) /\
   ∀base:Heap,(K w.params).In base->base.Ns mainGlobals mg->FnOk l.prog w (K w.params) mg base (CX w) k fa fd [x] (sp w))
 (hsp:∀(w:World) (H:Hp) (a:Addr) (ns:List Int),ns.length<=n->Only H->SqL (K w.params) H a (ns.map V.int)->sp w [.ref a] H (fun v _=>v=.bl true) fun _ _ _=>False)
 (hCX:∀(w:World) (H:Hp) (s:Shared) (e:Value) (s':Shared),CX w [] H s (fun _ _ _=>False) e s'->False) :
 PySem.W.WalkO q loose XP YP l.row.toRowW d [] (fun f vs=>PySem.call f vs):=by
 refine Att.attach_call hn hdf fun w s₀ s₁ mg mb fa o pm cd doc a vs ns G Y ho hd hcd hmg hobj hints hlen hg=>?_
 have KX:=hY w _ Y;obtain⟨fd,hb,hF⟩:=F w mg fa _ KX G.T.g hmg
 exact yU KX G.T.g G.T.b G.T.builtins G.T.nolimit hg hobj hints (Nat.le_trans hlen hn2) hr hF hb (fun H hO hS=>hsp w H a ns hlen hO hS) fun H e s'=>hCX w H s₁ e s'
end L2
namespace L2
open PySem PySem.Spec PyProof.Rows
noncomputable def aQ(s:Stmt):Arguments:=match s with
 | .FunctionDef _ a _ _ _ _ _ _ _ _=>a
 | _=>{ posonlyargs:=[],args:=[],vararg:=none,kwonlyargs:=[],kw_defaults:=[],kwarg:=none,defaults:=[] }
noncomputable def aH(s:Stmt):List Stmt:=match s with
 | .FunctionDef _ _ b _ _ _ _ _ _ _=>b
 | _=>[]
noncomputable def ak(s:Stmt):Scope:=match s with
 | .FunctionDef _ _ _ _ _ _ sc _ _ _=>sc
 | _=>{ kind:=.function,names:=[],isGenerator:=false,isCoroutine:=false }
noncomputable abbrev CX0:CXT:=fun _ _ _ _ _ _=>False
noncomputable abbrev E0:XK:=fun _ _ _=>False
theorem xg{X:Cx}:gM CX0 X E0:=fun _ _ _ _ _ _ _ h=>h.elim
structure Fun(K:PySem.W.Frag)(x qual:Str)(st:Stmt)(f:Addr)(fd:FuncData):Prop where
 ex:∃(oc:Value) (od:Option Addr) (kV doc pm:Value) (an:Option Addr) (cdv ct:Value) (osl:Array (Option Value)),
  fd=PySem.W.fnOf x qual (aQ st) (aH st) (ak st) .none kV doc pm an cdv ct/\K.lookup f=some ⟨oc,od,.func fd,osl⟩/\PySem.W.codeIn K cdv qual=true
 kp:PySem.W.keepIn K (.ref f)=true
section
variable{P:Program}{w:World}{K:PySem.W.Frag}{mg:Str->Option Value}{base:Heap}
theorem Fun.binds{x qual:Str}{st:Stmt}{f:Addr}{fd:FuncData}{ps:List Str}(F:Fun K x qual st f fd)
 (h:∀(kV doc pm:Value) (an:Option Addr) (cdv ct:Value) (us:List Value),us.length=ps.length->bindArgs (PySem.W.fnOf x qual (aQ st) (aH st) (ak st) .none kV doc pm an cdv ct) ⟨us,[]⟩=pure (ps.zip us)):Binds K fd ps []:=by
 obtain⟨oc,od,kV,doc,pm,an,cdv,ct,osl,rfl,lk,hcd⟩:=F.ex;exact .all (h kV doc pm an cdv ct)
theorem lU{x qual:Str}{st:Stmt}{f:Addr}{oc:Value}{od an:Option Addr}{osl:Array (Option Value)}{kV doc pm cdv ct:Value}(l:K.lookup f=some ⟨oc,od,.func (PySem.W.fnOf x qual (aQ st) (aH st) (ak st) .none kV doc pm an cdv ct),osl⟩)
 (c:PySem.W.codeIn K cdv qual=true) (k:PySem.W.keepIn K (.ref f)=true):Fun K x qual st f (PySem.W.fnOf x qual (aQ st) (aH st) (ak st) .none kV doc pm an cdv ct):=⟨⟨oc,od,kV,doc,pm,an,cdv,ct,osl,rfl,l,c⟩,k⟩
end
theorem uh{A:Around}{k:Nat}(hr:Room k A):A.units+1<cLine:=Nat.lt_of_le_of_lt (Nat.add_le_add_left (by decide:1<=64) _) hr.units
section
variable{X:Cx}
theorem uJ:CallR X (.builtin "len") (fun xs H Q=>∃a kvs ep,xs=[V.ref a]/\H a=some (.dK kvs ep)/\Q (.int kvs.length) H):=by
 intro pins s σ H xs us Q I r h;obtain⟨a,kvs,ep,rfl,ha,q⟩:=h;obtain⟨u,rfl,ru⟩:=vals1 r;cases ru
 exact Nx I ⟨ep,.inl ha⟩ fun t s' I'=>⟨.int kvs.length,H,I',⟨t,rfl⟩,q⟩
end
noncomputable def Same(H H':Hp):Prop:=∀b o,H b=some o->H' b=some o
theorem Same.refl(H:Hp):Same H H:=fun _ _ h=>h
theorem Same.trans{H H1 H2:Hp}(a:Same H H1)(b:Same H1 H2):Same H H2:=fun c o h=>b c o (a c o h)
theorem Same.free{H H':Hp}(e:Same H H'){l:Addr}(h:H' l=Option.none):H l=Option.none:=by
 cases q:H l with
 | none=>rfl
 | some o=>
   rw[e l o q]at h;cases h
theorem Same.seq{K:PySem.W.Frag}{H H':Hp}{a:Addr}{xs:List V}(e:Same H H')(h:SqL K H a xs):SqL K H' a xs:=by
 rcases h with(h | ⟨o,h⟩) | h
 ·exact .inl (.inl (e _ _ h))
 ·exact .inl (.inr ⟨o,e _ _ h⟩)
 ·exact .inr h
section
variable{κ:Type} [DecidableEq κ]
end
end L2
namespace Z
inductive DK where
 | i (n:Int)
 | s (x:List Nat)
 deriving DecidableEq
inductive D where
 | non | bl (b:Bool) | int (i:Int) | str (s:List Nat)
 | tup (l:List D) | lst (l:List D) | dct (ks:List DK) (vs:List D) | obj (c:Nat) (ns:List (List Nat)) (vs:List D)
 | err (c:Nat)
inductive R(α:Type)where
 | ok (a:α)
 | exc (c:Nat)
 | stuck
theorem nope{α:Type}{t:α}{p:Prop}(h:(none:Option α)=some t):p:=nomatch h
theorem eN{α:Type}{t:α}{p:Prop}(h:(.stuck:R α)=.ok t):p:=nomatch h
namespace R
noncomputable def bind{α β:Type}(x:R α)(f:α->R β):R β:=match x with
 | .ok a=>f a
 | .exc c=>.exc c
 | .stuck=>.stuck
noncomputable instance:Monad R where
 pure:=.ok
 bind:=R.bind
@[simp] theorem Nj{α β:Type}(a:α)(f:α->R β):(R.ok a >>= f)=f a:=rfl
@[simp] theorem Le{α β:Type}(c:Nat)(f:α->R β):((R.exc c:R α) >>= f)=.exc c:=rfl
@[simp] theorem Hu{α β:Type}(f:α->R β):((R.stuck:R α) >>= f)=.stuck:=rfl
@[simp] theorem M7{α:Type}(a:α):(pure a:R α)=.ok a:=rfl
noncomputable def of{α:Type}:Option α->R α
 | some a=>.ok a
 | none=>.stuck
noncomputable def chk(b:Bool){α:Type}(x:R α):R α:=if b then x else .stuck
end R
inductive Own where
 | sh | ow | me
 deriving DecidableEq
noncomputable abbrev Slot:=Own×D
noncomputable abbrev Dst:=List (Option Slot)
inductive O2 where
 | add | sub | mul | fdiv | mod | pow | eq | ne | lt | le | gt | ge | is | isnot | «in» | notin
 deriving DecidableEq
inductive Ty where
 | int | bool | str | tup | lst | dct | cls (c:Nat) | valueError
 deriving DecidableEq
inductive B1 where
 | len | abs | tuple | list | dict | sorted | sortedSet | lenSet | all | any | str | max | min | sum | int
 deriving DecidableEq
inductive B2 where
 | max | min | divmod | maxd | mind
 deriving DecidableEq
inductive M1 where
 | get | join | startswith | endswith | zfill | lstrip | rstrip | strip | isdigit | isalpha | index | count | find
 deriving DecidableEq
mutual
inductive T where
 | var (i:Nat)
 | cst (d:D)
 | op2 (p:O2) (a b:T)
 | neg (a:T)
 | not (a:T)
 | and (a b:T)
 | or (a b:T)
 | ite (c a b:T)
 | tup (l:TL)
 | lst (l:TL)
 | dnew (ks:List DK) (vs:TL)
 | idx (a i:T)
 | kidx (ks:List DK) (vs:List D) (i:T)
 | kin (ks:List DK) (neg:Bool) (i:T)
 | slc (a:T) (lo hi:T)
 | call (f:Nat) (l:TL)
 | mk (c:Nat) (l:TL)
 | meth (m:List Nat) (o:T) (l:TL)
 | fld (o:T) (f:List Nat)
 | b1 (b:B1) (a:T)
 | b2 (b:B2) (a c:T)
 | m0 (m:M1) (o:T)
 | m1 (m:M1) (o a:T)
 | get2 (o a c:T)
 | isin (a:T) (ty:Ty)
 | fstr (l:TL)
 | comp (caps:List Nat) (m:Nat) (tg:Bool) (it:TI) (cond:T) (elt:T)
inductive TL where
 | nil
 | cons (t:T) (l:TL)
inductive TI where
 | val (t:T)
 | rng1 (t:T)
 | rng2 (a b:T)
 | rng3 (a b c:T)
 | zip (a b:T)
 | enum (a:T)
end
mutual
inductive S where
 | set (i:Nat) (e:T)
 | sett (is:List Nat) (e:T)
 | seti (i:Nat) (k e:T)
 | setf (i:Nat) (f:List Nat) (e:T)
 | setx (i f:Nat) (l:TL)
 | append (i:Nat) (e:T)
 | clear (i:Nat)
 | extend (i:Nat) (e:T)
 | update (i:Nat) (e:T)
 | pop1 (j:Option Nat) (i:Nat) (k:T)
 | pop2 (i:Nat) (k e:T)
 | ini (c:Nat) (l:TL)
 | ifs (c:T) (a b:SL)
 | ifq (c:T) (a b:SL)
 | for_ (tg:List Nat) (tup:Bool) (it:TI) (b:SL)
 | while_ (c:T) (b:SL)
 | ret (e:T)
 | retn
 | expr (e:T)
 | raise (c:Nat) (e:T)
 | try_ (b:SL) (c:Nat) (nm:Option Nat) (h:SL)
 | brk | cont | pass
inductive SL where
 | nil
 | cons (s:S) (l:SL)
end
mutual
noncomputable def D.imm:D->Bool
 | .non=>true
 | .bl _=>true
 | .int _=>true
 | .str _=>true
 | .tup l=>immL l
 | .lst _=>false
 | .dct _ _=>false
 | .obj _ _ _=>false
 | .err _=>false
noncomputable def immL:List D->Bool
 | []=>true
 | d::l=>d.imm&&immL l
end
noncomputable def look:List DK->List D->DK->Option D
 | k::ks,v::vs,x=>if k=x then some v else look ks vs x
 | _,_,_=>none
noncomputable def eqS:D->D->Option Bool
 | .non,.non=>some true
 | .non,.int _=>some false
 | .non,.bl _=>some false
 | .non,.str _=>some false
 | .int _,.non=>some false
 | .bl _,.non=>some false
 | .str _,.non=>some false
 | .int i,.int j=>some (decide (i=j))
 | .bl i,.bl j=>some (decide (i=j))
 | .str i,.str j=>some (decide (i=j))
 | .int _,.str _=>some false
 | .str _,.int _=>some false
 | .bl _,.str _=>some false
 | .str _,.bl _=>some false
 | _,_=>none
noncomputable def size(n:Nat):Bool:=decide (n<=16777216)
noncomputable def place(n:Nat)(i:Int):Option Nat:=if 0<=i then(if i<n then some i.toNat else none)else(if 0<=i+n then some (i+n).toNat else none)
noncomputable def clip(n:Nat)(i:Int):Nat:=if 0<=i then min i.toNat n else(i+n).toNat
noncomputable def dM(n:Nat):Option Int->Nat
 | none=>0
 | some i=>clip n i
noncomputable def bW(n:Nat):Option Int->Nat
 | none=>n
 | some i=>clip n i
noncomputable def cut{α:Type}(l:List α)(lo hi:Nat):List α:=(l.take hi).drop lo
noncomputable def keyOf:D->Option DK
 | .int i=>some (.i i)
 | .str x=>some (.s x)
 | _=>none
noncomputable def keyD:DK->D
 | .i n=>.int n
 | .s x=>.str x
noncomputable def putV:List DK->List D->DK->D->List D
 | k::ks,v::vs,x,y=>if k=x then y::vs else v::putV ks vs x y
 | _,_,_,y=>[y]
noncomputable def bI:List DK->DK->List DK
 | k::ks,x=>if k=x then k::ks else k::bI ks x
 | [],x=>[x]
noncomputable def Ac:List DK->List D->DK->List D
 | k::ks,v::vs,x=>if k=x then vs else v::Ac ks vs x
 | _,vs,_=>vs
noncomputable def qe:List DK->DK->List DK
 | k::ks,x=>if k=x then ks else k::qe ks x
 | [],_=>[]
noncomputable def ltS:List Nat->List Nat->Bool
 | [],[]=>false
 | [],_::_=>true
 | _::_,[]=>false
 | a::x,b::y=>if a<b then true else if b<a then false else ltS x y
noncomputable def insS(x:List Nat):List (List Nat)->List (List Nat)
 | []=>[x]
 | y::l=>if ltS x y then x::y::l else y::insS x l
noncomputable def cC:List (List Nat)->List (List Nat)
 | []=>[]
 | x::l=>insS x (cC l)
noncomputable def strsOf:List D->Option (List (List Nat))
 | []=>some []
 | .str x::l=>(strsOf l).map (x::·)
 | _::_=>none
noncomputable def intsOf:List D->Option (List Int)
 | []=>some []
 | .int x::l=>(intsOf l).map (x::·)
 | _::_=>none
noncomputable def bZ{α:Type} [DecidableEq α]:List α->List α
 | []=>[]
 | x::l=>if x∈l then bZ l else x::bZ l
noncomputable def insI(x:Int):List Int->List Int
 | []=>[x]
 | y::l=>if x<y then x::y::l else y::insI x l
noncomputable def sortI:List Int->List Int
 | []=>[]
 | x::l=>insI x (sortI l)
noncomputable def truth:D->Option Bool
 | .non=>some false
 | .bl b=>some b
 | .int i=>some (decide (i≠0))
 | .str x=>some (!x.isEmpty)
 | .tup l=>some (!l.isEmpty)
 | .lst l=>some (!l.isEmpty)
 | .dct ks _=>some (!ks.isEmpty)
 | _=>none
noncomputable def bits(i:Int):Nat:=if i=0 then 0 else i.natAbs.log2+1
noncomputable def fX(a b:Int):Bool:=decide (bits a<=64)||decide (bits b<=64)||decide (bits a+bits b<=134217728)
noncomputable def arith(p:O2)(a b:Int):R (Bool×D):=match p with
 | .add=>.ok (false,.int (a+b))
 | .sub=>.ok (false,.int (a-b))
 | .mul=>.chk (fX a b) (.ok (false,.int (a*b)))
 | .fdiv=>.chk (decide (b≠0)&&decide (b.natAbs.log2<9000)) (.ok (false,.int (a.fdiv b)))
 | .mod=>.chk (decide (b≠0)) (.ok (false,.int (a.fmod b)))
 | .pow=>.chk (decide (0<=b)&&decide (b<=64)&&decide (a.natAbs<18446744073709551616)) (.ok (false,.int (a ^ b.toNat)))
 | .lt=>.ok (false,.bl (decide (a<b)))
 | .le=>.ok (false,.bl (decide (a<=b)))
 | .gt=>.ok (false,.bl (decide (b<a)))
 | .ge=>.ok (false,.bl (decide (b<=a)))
 | _=>.stuck
noncomputable def fL:D->Bool
 | .non=>true
 | .bl _=>true
 | .int _=>true
 | .str _=>true
 | _=>false
noncomputable def inS(x:D):List D->Option Bool
 | []=>some false
 | y::l=>match eqS y x,inS x l with
   | some s,some t=>some (s||t)
   | _,_=>none
noncomputable def isIn(a b:D):Option Bool:=match b with
 | .lst l=>if fL a then inS a l else none
 | .tup l=>if fL a then inS a l else none
 | .dct ks _=>(keyOf a).map fun k=>decide (k∈ks)
 | .str y=>match a with
   | .str [c]=>some (decide (c∈y))
   | _=>none
 | _=>none
noncomputable def eqA(a b:D):Option Bool:=eqS a b
noncomputable def o2(p:O2)(a b:D):R (Bool×D):=match p with
 | .eq=>.of ((eqA a b).map fun t=>(false,.bl t))
 | .ne=>.of ((eqA a b).map fun t=>(false,.bl !t))
 | .is=>match b with
   | .non=>match a with
     | .non=>.ok (false,.bl true)
     | _=>.ok (false,.bl false)
   | .bl y=>match a with
     | .bl x=>.ok (false,.bl (x==y))
     | _=>.stuck
   | _=>.stuck
 | .isnot=>match b with
   | .non=>match a with
     | .non=>.ok (false,.bl false)
     | _=>.ok (false,.bl true)
   | .bl y=>match a with
     | .bl x=>.ok (false,.bl (x !=y))
     | _=>.stuck
   | _=>.stuck
 | .in=>.of ((isIn a b).map fun t=>(false,.bl t))
 | .notin=>.of ((isIn a b).map fun t=>(false,.bl !t))
 | p=>match a,b with
   | .int i,.int j=>arith p i j
   | .str x,.str y=>match p with
     | .add=>.chk (size (x.length+y.length)) (.ok (false,.str (x++y)))
     | .lt=>.ok (false,.bl (ltS x y))
     | .le=>.ok (false,.bl (!ltS y x))
     | _=>.stuck
   | .lst x,.lst y=>match p with
     | .add=>.chk (size (x.length+y.length)) (.ok (true,.lst (x++y)))
     | _=>.stuck
   | .tup x,.tup y=>match p with
     | .add=>.chk (size (x.length+y.length)) (.ok (false,.tup (x++y)))
     | _=>.stuck
   | _,_=>.stuck
noncomputable def idxD(a i:D):R (Bool×D):=match a,i with
 | .lst l,.int j=>.of ((place l.length j).bind fun n=>l[n]?.map fun d=>(false,d))
 | .tup l,.int j=>.of ((place l.length j).bind fun n=>l[n]?.map fun d=>(false,d))
 | .str x,.int j=>.of ((place x.length j).bind fun n=>x[n]?.map fun c=>(false,.str [c]))
 | .dct ks vs,k=>.of ((keyOf k).bind fun x=>(look ks vs x).map fun d=>(false,d))
 | _,_=>.stuck
noncomputable def slcD(a:D)(lo hi:Option Int):Option (Bool×D):=match a with
 | .lst l=>some (true,.lst (cut l (dM l.length lo) (bW l.length hi)))
 | .str x=>some (false,.str (cut x (dM x.length lo) (bW x.length hi)))
 | .tup l=>if dM l.length lo=0/\bW l.length hi=l.length then none else some (false,.tup (cut l (dM l.length lo) (bW l.length hi)))
 | _=>none
noncomputable def bnd(t:T)(d:D):Option (Option Int):=match t with
 | .cst .non=>some none
 | _=>match d with
   | .int i=>some (some i)
   | _=>none
noncomputable def fldD(ok:Nat->Bool)(o:D)(f:List Nat):R (Bool×D):=match o with
 | .obj c ns vs=>.chk (ok c) (.of ((look (ns.map .s) vs (.s f)).map fun d=>(false,d)))
 | _=>.stuck
noncomputable def qC:D->Option (List D)
 | .lst l=>some l
 | .tup l=>some l
 | .dct ks _=>some (ks.map keyD)
 | .str x=>some (x.map fun c=>.str [c])
 | _=>none
noncomputable def rn:D->Option (List D)
 | .lst l=>some l
 | .dct ks _=>some (ks.map keyD)
 | _=>none
noncomputable def boolsOf:List D->Option (List Bool)
 | []=>some []
 | .bl b::l=>(boolsOf l).map (b::·)
 | _::_=>none
noncomputable def figs(n:Nat):List Nat:=(Nat.toDigits 10 n).map Char.toNat
noncomputable def pO(i:Int):List Nat:=if i<0 then 45::figs i.natAbs else figs i.natAbs
noncomputable def ssD(l:List D):Option (Bool×D):=match strsOf l with
 | some x=>if l.length<4000/\(bZ x).length<64 then some (true,.lst ((cC (bZ x)).map .str))else none
 | none=>(intsOf l).bind fun x=>if l.length<4000/\(bZ x).length<64 then some (true,.lst ((sortI (bZ x)).map .int))else none
noncomputable def b1D(b:B1)(a:D):R (Bool×D):=match b with
 | .len=>match a with
   | .lst l=>.ok (false,.int l.length)
   | .tup l=>.ok (false,.int l.length)
   | .dct ks _=>.ok (false,.int ks.length)
   | .str x=>.ok (false,.int x.length)
   | _=>.stuck
 | .abs=>match a with
   | .int i=>.ok (false,.int (if i<0 then -i else i))
   | _=>.stuck
 | .tuple=>match a with
   | .lst l=>.ok (false,.tup l)
   | .tup l=>.ok (false,.tup l)
   | _=>.stuck
 | .list=>match a with
   | .lst l=>.ok (true,.lst l)
   | .tup l=>.ok (true,.lst l)
   | _=>.stuck
 | .dict=>match a with
   | .dct ks vs=>.ok (true,.dct ks vs)
   | _=>.stuck
 | .sorted=>.of ((rn a).bind fun l=>(strsOf l).bind fun x=>if x.length<64 then some (true,.lst ((cC x).map .str))else none)
 | .sortedSet=>match a with
   | .lst l=>.of (ssD l)
   | _=>.stuck
 | .lenSet=>.of ((qC a).bind fun l=>(strsOf l).map fun x=>(false,.int (bZ x).length))
 | .all=>match a with
   | .lst l=>.of ((boolsOf l).map fun t=>(false,.bl (t.all id)))
   | _=>.stuck
 | .any=>match a with
   | .lst l=>.of ((boolsOf l).map fun t=>(false,.bl (t.any id)))
   | _=>.stuck
 | .str=>match a with
   | .int i=>.chk (decide (i.natAbs.log2<1920)&&size (pO i).length) (.ok (false,.str (pO i)))
   | _=>.stuck
 | .max=>match a with
   | .lst l=>.of ((intsOf l).bind fun x=>match x with
     | []=>none
     | y::r=>some (false,.int (r.foldl (fun m z=>if z>m then z else m) y)))
   | _=>.stuck
 | .min=>match a with
   | .lst l=>.of ((intsOf l).bind fun x=>match x with
     | []=>none
     | y::r=>some (false,.int (r.foldl (fun m z=>if z<m then z else m) y)))
   | _=>.stuck
 | .sum=>match a with
   | .lst l=>.of ((intsOf l).map fun x=>(false,.int x.sum))
   | _=>.stuck
 | .int=>match a with
   | .int i=>.ok (false,.int i)
   | .bl b=>.ok (false,.int (if b then 1 else 0))
   | _=>.stuck
noncomputable def J5:List Int->D
 | []=>.non
 | y::r=>.int (r.foldl (fun m z=>if z<m then z else m) y)
noncomputable def b2D(b:B2)(x y:D):R (Bool×D):=match x,y with
 | .int i,.int j=>match b with
   | .max=>.ok (false,.int (if j>i then j else i))
   | .min=>.ok (false,.int (if j<i then j else i))
   | .divmod=>.chk (decide (0<j)&&decide (j.natAbs.log2<9000)) (.ok (false,.tup [.int (i/j),.int (i % j)]))
   | .maxd=>.stuck
   | .mind=>.stuck
 | .lst l,.int j=>match b with
   | .maxd=>.of ((intsOf l).map fun r=>(false,.int (match r with
     | []=>j
     | y::r=>r.foldl (fun m z=>if z>m then z else m) y)))
   | _=>.stuck
 | .lst l,.non=>match b with
   | .mind=>.of ((intsOf l).map fun r=>(false,J5 r))
   | _=>.stuck
 | _,_=>.stuck
noncomputable def iM(sep:List Nat):List (List Nat)->List Nat
 | []=>[]
 | [x]=>x
 | x::y::l=>x++sep++iM sep (y::l)
noncomputable def m1D(m:M1)(o a:D):R (Bool×D):=match m with
 | .get=>match o with
   | .dct ks vs=>.of ((keyOf a).map fun k=>(false,(look ks vs k).getD .non))
   | _=>.stuck
 | .join=>match o,a with
   | .str sep,.lst l=>.of ((strsOf l).bind fun x=>if size ((x.map List.length).sum+x.length*sep.length)then some (false,.str (iM sep x))else none)
   | _,_=>.stuck
 | .startswith=>match o,a with
   | .str x,.str y=>.ok (false,.bl (y.isPrefixOf x))
   | _,_=>.stuck
 | .zfill=>match o,a with
   | .str x,.int n=>.chk (decide (0<=n)&&decide (n<=1000)&&!(x.head?==some 43)&&!(x.head?==some 45)) (.ok (false,.str (List.replicate (n.toNat-x.length) 48++x)))
   | _,_=>.stuck
 | .lstrip=>match o,a with
   | .str x,.str [c]=>.ok (false,.str (x.dropWhile (·==c)))
   | _,_=>.stuck
 | _=>.stuck
noncomputable def Ii:List D->Option (List Nat)
 | []=>some []
 | [.str x,.int i]=>if i.natAbs.log2<1920 then some (x++pO i)else none
 | .str x::l=>(Ii l).map (x++·)
 | _::_=>none
noncomputable def Mg(o a c:D):R (Bool×D):=match o with
 | .dct ks vs=>.of ((keyOf a).map fun k=>(false,(look ks vs k).getD c))
 | _=>.stuck
structure Orc where
 fn:Nat->List D->R (Bool×D)
 ini:Nat->D->List D->R D
 meth:Nat->List Nat->Option Nat
 init:Nat->Option Nat
 sub:Nat->Nat->Bool
 w:Nat
noncomputable def isD(o:Orc)(ty:Ty)(d:D):Option Bool:=match ty with
 | .cls c'=>match d with
   | .err c=>if o.sub c c then some (o.sub c c')else none
   | _=>none
 | .valueError=>match d with
   | .err c=>if o.sub c c then some true else none
   | _=>none
 | ty=>match d with
   | .non=>some false
   | .bl _=>some (match ty with | .bool=>true | .int=>true | _=>false)
   | .int _=>some (match ty with | .int=>true | _=>false)
   | .str _=>some (match ty with | .str=>true | _=>false)
   | .tup _=>some (match ty with | .tup=>true | _=>false)
   | .lst _=>some (match ty with | .lst=>true | _=>false)
   | .dct _ _=>some (match ty with | .dct=>true | _=>false)
   | _=>none
noncomputable def sI(δ:Dst)(i:Nat):Option D:=match δ[i]? with
 | some (some (_,d))=>some d
 | _=>none
noncomputable def cA(δ:Dst):List Nat->Option (List D)
 | []=>some []
 | i::l=>(sI δ i).bind fun d=>(cA δ l).map (d::·)
noncomputable def isOwn(δ:Dst)(i:Nat):Bool:=match δ[i]? with
 | some (some (.ow,_))=>true
 | some (some (.me,_))=>true
 | _=>false
noncomputable def lent(br:Bool)(r:Bool×D):R (Bool×D):=if br then(if r.2.imm then .ok r else .stuck)else .ok r
noncomputable def rngD(a b:Int):List D:=(List.range (b-a).toNat).map fun(k:Nat)=>D.int (a+(k:Int))
noncomputable def MJ(a b c:Int):List D:=(List.range (if a<b then(b-a-1)/c+1 else 0).toNat).map fun(k:Nat)=>D.int (a+(k:Int)*c)
noncomputable def zipD:List D->List D->List D
 | x::l,y::r=>.tup [x,y]::zipD l r
 | _,_=>[]
noncomputable def Ga(i:Nat):List D->List D
 | []=>[]
 | x::l=>.tup [.int (i:Int),x]::Ga (i+1) l
noncomputable def inR(i:Int):Bool:=decide (-1000000<=i)&&decide (i<=1000000)
noncomputable def Nr:D->D->D->R (List D)
 | .int i,.int j,.int k=>.chk (inR i&&inR j&&inR k&&decide (0<k)) (.ok (MJ i j k))
 | _,_,_=>.stuck
noncomputable def zipR:D->D->R (List D)
 | .tup l,.tup r=>.ok (zipD l r)
 | _,_=>.stuck
noncomputable def takes(m:Nat)(tg:Bool)(d:D):Option (List D):=if tg then(match d with
 | .tup l=>if l.length=m then some l else none
 | _=>none)else some [d]
noncomputable def bA(f:List D->R (Bool×D))(c:List D->R (Bool×D))(m:Nat)(tg:Bool):List D->R (List D)
 | []=>.ok []
 | d::l=>(R.of (takes m tg d)).bind fun x=>(c x).bind fun t=>(R.of (truth t.2)).bind fun b=>
   if b then(f x).bind fun y=>(bA f c m tg l).bind fun r=>.ok (y.2::r)else bA f c m tg l
noncomputable def bT:D->R (Bool×D)
 | .bl b=>.ok (false,.bl b)
 | _=>.stuck
noncomputable def bM(δ:Dst):T->Bool
 | .var i=>isOwn δ i
 | _=>false
mutual
noncomputable def ev(o:Orc)(δ:Dst)(lk:Bool):T->R (Bool×D)
 | .var i=>match δ[i]? with
   | some (some (.sh,d))=>.ok (false,d)
   | some (some (_,d))=>if lk then .ok (false,d)else .stuck
   | _=>.stuck
 | .cst d=>.ok (false,d)
 | .op2 p a b=>(ev o δ true a).bind fun x=>(ev o δ true b).bind fun y=>o2 p x.2 y.2
 | .neg a=>(ev o δ true a).bind fun x=>match x.2 with
   | .int i=>.ok (false,.int (-i))
   | _=>.stuck
 | .not a=>(ev o δ true a).bind fun x=>(R.of (truth x.2)).bind fun b=>.ok (false,.bl !b)
 | .and a b=>(ev o δ true a).bind fun x=>match x.2 with
   | .bl true=>(ev o δ true b).bind fun y=>bT y.2
   | .bl false=>.ok (false,.bl false)
   | _=>.stuck
 | .or a b=>(ev o δ true a).bind fun x=>match x.2 with
   | .bl true=>.ok (false,.bl true)
   | .bl false=>(ev o δ true b).bind fun y=>bT y.2
   | _=>.stuck
 | .ite c a b=>(ev o δ true c).bind fun x=>(R.of (truth x.2)).bind fun t=>if t then ev o δ lk a else ev o δ lk b
 | .tup l=>(evL o δ l).bind fun x=>.chk (!x.1&&size x.2.length) (.ok (false,.tup x.2))
 | .lst l=>(evL o δ l).bind fun x=>.chk (!x.1&&size x.2.length) (.ok (true,.lst x.2))
 | .dnew ks l=>(evL o δ l).bind fun x=>.chk (!x.1&&decide (ks.length=x.2.length)&&decide (ks.length<=1000)&&decide ks.Nodup) (.ok (true,.dct ks x.2))
 | .idx a i=>(ev o δ true a).bind fun x=>(ev o δ true i).bind fun y=>idxD x.2 y.2
 | .kidx ks vs i=>(ev o δ true i).bind fun y=>.of ((keyOf y.2).bind fun x=>(look ks vs x).map fun d=>(false,d))
 | .kin ks neg i=>(ev o δ true i).bind fun y=>.of ((keyOf y.2).map fun x=>(false,.bl (neg ^^ decide (x∈ks))))
 | .slc a lo hi=>(ev o δ true a).bind fun x=>(ev o δ true lo).bind fun y=>(ev o δ true hi).bind fun z=>.of ((bnd lo y.2).bind fun l=>(bnd hi z.2).bind fun h=>slcD x.2 l h)
 | .call f l=>(evL o δ l).bind fun x=>(o.fn f x.2).bind (lent x.1)
 | .mk c l=>(evL o δ l).bind fun x=>(R.of (o.init c)).bind fun f=>R.chk (!x.1) ((o.ini f (.obj c [] []) x.2).bind fun d=>.ok (true,d))
 | .meth m a l=>(ev o δ (bM δ a) a).bind fun x=>(evL o δ l).bind fun y=>match x.2 with
   | .obj c ns _=>R.chk (!ns.contains m) ((R.of (o.meth c m)).bind fun f=>(o.fn f (x.2::y.2)).bind (lent (bM δ a||y.1)))
   | _=>.stuck
 | .fld a f=>(ev o δ true a).bind fun x=>fldD (fun c=>(o.init c).isSome) x.2 f
 | .b1 b a=>(ev o δ true a).bind fun x=>b1D b x.2
 | .b2 b a c=>(ev o δ true a).bind fun x=>(ev o δ true c).bind fun y=>b2D b x.2 y.2
 | .m0 _ _=>.stuck
 | .m1 m a b=>(ev o δ true a).bind fun x=>(ev o δ true b).bind fun y=>m1D m x.2 y.2
 | .get2 a b c=>(ev o δ true a).bind fun x=>(ev o δ true b).bind fun y=>(ev o δ false c).bind fun z=>Mg x.2 y.2 z.2
 | .isin a ty=>(ev o δ true a).bind fun x=>.of ((isD o ty x.2).map fun t=>(false,.bl t))
 | .fstr l=>(evL o δ l).bind fun x=>.of ((Ii x.2).bind fun t=>if size t.length then some (false,.str t)else none)
 | .comp caps m tg it c e=>(evI o δ true it).bind fun l=>(R.of (cA δ caps)).bind fun cs=>
   (bA (fun x=>ev o ((x++cs).map fun d=>some (.sh,d)) false e) (fun x=>ev o ((x++cs).map fun d=>some (.sh,d)) true c) m tg l).bind fun r=>
    R.chk (size r.length&&(immL r||caps.all fun i=>!isOwn δ i)) (.ok (true,.lst r))
noncomputable def evL(o:Orc)(δ:Dst):TL->R (Bool×List D)
 | .nil=>.ok (false,[])
 | .cons t l=>(ev o δ (bM δ t) t).bind fun x=>(evL o δ l).bind fun y=>.ok (bM δ t||y.1,x.2::y.2)
noncomputable def evI(o:Orc)(δ:Dst)(lk:Bool):TI->R (List D)
 | .val t=>(ev o δ lk t).bind fun x=>.of (qC x.2)
 | .rng1 t=>(ev o δ true t).bind fun x=>match x.2 with
   | .int n=>.chk (inR n) (.ok (rngD 0 n))
   | _=>.stuck
 | .rng2 a b=>(ev o δ true a).bind fun x=>(ev o δ true b).bind fun y=>match x.2,y.2 with
   | .int i,.int j=>.chk (inR i&&inR j) (.ok (rngD i j))
   | _,_=>.stuck
 | .rng3 a b c=>(ev o δ true a).bind fun x=>(ev o δ true b).bind fun y=>(ev o δ true c).bind fun z=>Nr x.2 y.2 z.2
 | .zip a b=>(ev o δ true a).bind fun x=>(ev o δ true b).bind fun y=>zipR x.2 y.2
 | .enum a=>(ev o δ lk a).bind fun x=>match x.2 with
   | .lst l=>.ok (Ga 0 l)
   | .dct ks _=>.ok (Ga 0 (ks.map keyD))
   | _=>.stuck
end
mutual
noncomputable def aP:T->List Nat
 | .var i=>[i]
 | .cst _=>[]
 | .op2 _ a b=>aP a++aP b
 | .neg a=>aP a
 | .not a=>aP a
 | .and a b=>aP a++aP b
 | .or a b=>aP a++aP b
 | .ite c a b=>aP c++(aP a++aP b)
 | .tup l=>gO l
 | .lst l=>gO l
 | .dnew _ l=>gO l
 | .idx a i=>aP a++aP i
 | .kidx _ _ i=>aP i
 | .kin _ _ i=>aP i
 | .slc a lo hi=>aP a++(aP lo++aP hi)
 | .call _ l=>gO l
 | .mk _ l=>gO l
 | .meth _ a l=>aP a++gO l
 | .fld a _=>aP a
 | .b1 _ a=>aP a
 | .b2 _ a b=>aP a++aP b
 | .m0 _ a=>aP a
 | .m1 _ a b=>aP a++aP b
 | .get2 a b c=>aP a++(aP b++aP c)
 | .isin a _=>aP a
 | .fstr l=>gO l
 | .comp caps _ _ it _ _=>caps++JZ it
noncomputable def gO:TL->List Nat
 | .nil=>[]
 | .cons t l=>aP t++gO l
noncomputable def JZ:TI->List Nat
 | .val t=>aP t
 | .rng1 t=>aP t
 | .rng2 a b=>aP a++aP b
 | .rng3 a b c=>aP a++(aP b++aP c)
 | .zip a b=>aP a++aP b
 | .enum a=>aP a
end
noncomputable def share1(δ:Dst)(i:Nat):Dst:=match δ[i]? with
 | some (some (.ow,d))=>δ.set i (some (.sh,d))
 | _=>δ
noncomputable def cU(δ:Dst):TI->Dst
 | .val (.var i)=>share1 δ i
 | .enum (.var i)=>share1 δ i
 | _=>δ
noncomputable def share(δ:Dst)(is:List Nat):Dst:=is.foldl share1 δ
noncomputable def evF(o:Orc)(δ:Dst)(e:T):Dst×R (Bool×D):=match ev o δ false e with
 | .stuck=>(share δ (aP e),ev o (share δ (aP e)) false e)
 | r=>(δ,r)
inductive SO where
 | nx (δ:Dst)
 | rt (w:Bool) (d:D) (δ:Dst)
 | bk (δ:Dst)
 | ct (δ:Dst)
 | ex (c:Nat) (δ:Dst)
 | stuck
noncomputable def SO.of(δ:Dst){α:Type}(r:R α)(k:α->SO):SO:=match r with
 | .ok a=>k a
 | .exc _=>.stuck
 | .stuck=>.stuck
noncomputable def SO.ofX(δ:Dst){α:Type}(r:R α)(k:α->SO):SO:=match r with
 | .ok a=>k a
 | .exc c=>.ex c δ
 | .stuck=>.stuck
noncomputable def setSlot(δ:Dst)(i:Nat)(w:Bool)(d:D):Option Dst:=if i<δ.length then some (δ.set i (some (if w then .ow else .sh,d)))else none
noncomputable def aJ(δ:Dst):List Nat->List D->Option Dst
 | [],[]=>some δ
 | i::is,d::ds=>(setSlot δ i false d).bind fun δ'=>aJ δ' is ds
 | _,_=>none
noncomputable def ownD(δ:Dst)(i:Nat):Option (Own×D):=match δ[i]? with
 | some (some (.ow,d))=>some (.ow,d)
 | some (some (.me,d))=>some (.me,d)
 | _=>none
noncomputable def az(x:Option SO):SO:=match x with
 | some r=>r
 | none=>.stuck
noncomputable def putItem(c k v:D):Option D:=match c,k with
 | .lst l,.int j=>(place l.length j).map fun n=>.lst (l.set n v)
 | .dct ks vs,k=>(keyOf k).bind fun x=>if ks.length<=100000 then some (.dct (bI ks x) (putV ks vs x v))else none
 | _,_=>none
noncomputable def cu(ok:Nat->Bool)(c:D)(f:List Nat)(v:D):Option D:=match c with
 | .obj c ns vs=>if ok c/\ns.length<900 then some (.obj c (bI (ns.map .s) (.s f) |>.map fun | .s x=>x | .i _=>[]) (putV (ns.map .s) vs (.s f) v))else none
 | _=>none
noncomputable def wQ:List DK->List D->List DK->List D->List DK×List D
 | ks,vs,k::ks',v::vs'=>wQ (bI ks k) (putV ks vs k v) ks' vs'
 | ks,vs,_,_=>(ks,vs)
noncomputable def cX(body:Dst->SO)(tg:List Nat)(tup:Bool):List D->Dst->SO
 | [],δ=>.nx δ
 | d::l,δ=>match takes tg.length tup d with
   | none=>.stuck
   | some ds=>match aJ δ tg ds with
     | none=>.stuck
     | some δ1=>match body δ1 with
       | .nx δ2=>cX body tg tup l δ2
       | .ct δ2=>cX body tg tup l δ2
       | .bk δ2=>.nx δ2
       | r=>r
noncomputable def pD(c:Dst->R (Bool×D))(body:Dst->SO):Nat->Dst->SO
 | 0,_=>.stuck
 | n+1,δ=>SO.of δ ((c δ).bind fun x=>R.of (truth x.2)) fun b=>if b then(match body δ with
  | .nx δ2=>pD c body n δ2
  | .ct δ2=>pD c body n δ2
  | .bk δ2=>.nx δ2
  | r=>r)else .nx δ
mutual
noncomputable def evS(o:Orc):S->Dst->SO
 | .set i e,δ=>SO.of (evF o δ e).1 (evF o δ e).2 fun r=>az ((setSlot (evF o δ e).1 i r.1 r.2).map .nx)
 | .sett is e,δ=>SO.of (evF o δ e).1 (evF o δ e).2 fun r=>az ((takes is.length true r.2).bind fun ds=>(aJ (evF o δ e).1 is ds).map .nx)
 | .seti i k e,δ=>SO.of (evF o δ e).1 (evF o δ e).2 fun r=>SO.of (evF o δ e).1 (ev o (evF o δ e).1 true k) fun y=>
  az ((ownD (evF o δ e).1 i).bind fun c=>(putItem c.2 y.2 r.2).map fun c'=>.nx ((evF o δ e).1.set i (some (c.1,c'))))
 | .setf i f e,δ=>SO.of (evF o δ e).1 (evF o δ e).2 fun r=>az ((ownD (evF o δ e).1 i).bind fun c=>(cu (fun c=>(o.init c).isSome) c.2 f r.2).map fun c'=>.nx ((evF o δ e).1.set i (some (c.1,c'))))
 | .append i e,δ=>SO.of (evF o δ e).1 (evF o δ e).2 fun r=>az ((ownD (evF o δ e).1 i).bind fun c=>match c.2 with
  | .lst l=>if size (l.length+1)then some (.nx ((evF o δ e).1.set i (some (c.1,.lst (l++[r.2])))))else none
  | _=>none)
 | .setx i f l,δ=>SO.of δ (evL o δ l) fun x=>SO.ofX δ ((o.fn f x.2).bind (lent x.1)) fun r=>az ((setSlot δ i r.1 r.2).map .nx)
 | .clear i,δ=>az ((ownD δ i).bind fun c=>match c.2 with
  | .lst _=>some (.nx (δ.set i (some (c.1,.lst []))))
  | _=>none)
 | .extend i e,δ=>SO.of (evF o δ e).1 (evF o δ e).2 fun r=>az ((ownD (evF o δ e).1 i).bind fun c=>match c.2,r.2 with
  | .lst l,.lst l'=>if size (l.length+l'.length)&&r.1 then some (.nx ((evF o δ e).1.set i (some (c.1,.lst (l++l')))))else none
  | _,_=>none)
 | .update i e,δ=>SO.of δ (ev o δ true e) fun r=>az ((ownD δ i).bind fun c=>match c.2,r.2 with
  | .dct ks vs,.dct ks' vs'=>if decide (ks.length+ks'.length<=100000)&&(match e with | .var j=>j !=i | _=>true)then some (.nx (δ.set i (some (c.1,.dct (wQ ks vs ks' vs').1 (wQ ks vs ks' vs').2))))else none
  | _,_=>none)
 | .pop1 j i k,δ=>SO.of δ (ev o δ true k) fun y=>az ((ownD δ i).bind fun c=>match c.2 with
  | .dct ks vs=>(keyOf y.2).bind fun x=>(look ks vs x).bind fun v=>(match j with
    | none=>some (SO.nx (δ.set i (some (c.1,.dct (qe ks x) (Ac ks vs x)))))
    | some j=>if i=j then none else(setSlot (δ.set i (some (c.1,.dct (qe ks x) (Ac ks vs x)))) j false v).map .nx)
  | _=>none)
 | .pop2 i k e,δ=>SO.of δ (ev o δ true k) fun y=>SO.of δ (ev o δ true e) fun _=>az ((ownD δ i).bind fun c=>match c.2 with
  | .dct ks vs=>(keyOf y.2).bind fun x=>some (.nx (δ.set i (some (c.1,.dct (qe ks x) (Ac ks vs x)))))
  | _=>none)
 | .ini c l,δ=>SO.of δ ((evL o δ l).bind fun x=>(R.of (ownD δ 0)).bind fun q=>(R.of (o.init c)).bind fun f=>R.chk (!x.1) ((o.ini f q.2 x.2).bind fun d=>.ok (q.1,d))) fun r=>.nx (δ.set 0 (some r))
 | .ifs c a b,δ=>SO.of δ ((ev o δ true c).bind fun x=>R.of (truth x.2)) fun t=>if t then evSs o a δ else evSs o b δ
 | .ifq c a b,δ=>(fun δ1=>SO.of δ1 ((ev o δ1 true c).bind fun x=>R.of (truth x.2)) fun t=>if t then evSs o a δ1 else evSs o b δ1) (share δ (aP c))
 | .for_ tg tup it b,δ=>(fun δ1=>SO.of δ1 (evI o δ1 false it) fun l=>cX (evSs o b) tg tup l δ1) (cU δ it)
 | .while_ c b,δ=>pD (fun δ=>ev o δ true c) (evSs o b) o.w δ
 | .ret e,δ=>match e with
   | .var i=>match δ[i]? with
     | some (some (.ow,d))=>.rt true d δ
     | some (some (.sh,d))=>.rt false d δ
     | _=>.stuck
   | e=>SO.of (evF o δ e).1 (evF o δ e).2 fun r=>.rt r.1 r.2 (evF o δ e).1
 | .retn,δ=>.rt false .non δ
 | .expr e,δ=>match e with
   | .call f l=>SO.of δ (evL o δ l) fun x=>SO.ofX δ ((o.fn f x.2).bind (lent x.1)) fun _=>.nx δ
   | e=>SO.of δ (ev o δ true e) fun _=>.nx δ
 | .raise c e,δ=>SO.of δ (ev o δ true e) fun _=>.ex c δ
 | .try_ b c nm h,δ=>match evSs o b δ with
   | .ex c' δ1=>if o.sub c' c then(match nm with
     | none=>evSs o h δ1
     | some j=>az ((setSlot δ1 j false (.err c')).map fun δ2=>match evSs o h δ2 with
       | .nx δ3=>.nx (δ3.set j none)
       | _=>.stuck))else .stuck
   | r=>r
 | .brk,δ=>.bk δ
 | .cont,δ=>.ct δ
 | .pass,δ=>.nx δ
noncomputable def evSs(o:Orc):SL->Dst->SO
 | .nil,δ=>.nx δ
 | .cons s l,δ=>match evS o s δ with
   | .nx δ1=>evSs o l δ1
   | r=>r
end
noncomputable def mK:S:=.expr (.m0 .get (.cst .non))
noncomputable def vP:SL:=.cons mK .nil
structure Fd where
 np:Nat
 ns:Nat
 body:SL
noncomputable def bG(o:Orc)(f:Fd)(args:List D):R (Bool×D):=if args.length=f.np then(match evSs o f.body (args.map (fun d=>some (Own.sh,d))++List.replicate (f.ns-f.np) none)with
 | .rt w d _=>.ok (w,d)
 | .nx _=>.ok (false,.non)
 | .ex c _=>.exc c
 | _=>.stuck)else .stuck
noncomputable def selfOf(δ:Dst):R D:=match(δ[0]?:Option (Option Slot))with
 | some (some (.me,d))=>.ok d
 | _=>.stuck
noncomputable def cz(o:Orc)(f:Fd)(self:D)(args:List D):R D:=if args.length+1=f.np then(match evSs o f.body (some (Own.me,self)::(args.map (fun d=>some (Own.sh,d))++List.replicate (f.ns-f.np) none))with
 | .rt _ .non δ=>selfOf δ
 | .nx δ=>selfOf δ
 | .ex c _=>.exc c
 | _=>.stuck)else .stuck
structure Prg where
 fns:List Fd
 meth:Nat->List Nat->Option Nat
 init:Nat->Option Nat
 sub:Nat->Nat->Bool
noncomputable def tabOf:List (Nat×List Nat×Nat)->Nat->List Nat->Option Nat
 | [],_,_=>none
 | (c',m',f)::l,c,m=>if c'=c/\m'=m then some f else tabOf l c m
noncomputable def iR:List (Nat×Nat)->Nat->Option Nat
 | [],_=>none
 | (c',f)::l,c=>if c'=c then some f else iR l c
theorem mQ{c f:Nat}{m:List Nat}:∀{l:List (Nat×List Nat×Nat)},tabOf l c m=some f->(c,m,f)∈l
 | [],h=>nomatch h
 | (c',m',f')::l,h=>by
   simp only[tabOf]at h;split at h
   ·rename_i z;cases h;rw[z.1,z.2];exact List.mem_cons_self
   ·exact List.mem_cons_of_mem _ (mQ h)
theorem gA{c f:Nat}:∀{l:List (Nat×Nat)},iR l c=some f->(c,f)∈l
 | [],h=>nomatch h
 | (c',f')::l,h=>by
   simp only[iR]at h;split at h
   ·rename_i z;cases h;rw[z];exact List.mem_cons_self
   ·exact List.mem_cons_of_mem _ (gA h)
noncomputable def orc2(P:Prg)(w:Nat):Nat->Orc×Option Orc
 | 0=>(⟨fun _ _=>.stuck,fun _ _ _=>.stuck,P.meth,P.init,P.sub,w⟩,none)
 | n+1=>(⟨fun f a=>match P.fns[f]? with | some d=>bG (orc2 P w n).1 d a | none=>.stuck,fun f s a=>match(orc2 P w n).2 with | none=>.stuck | some o=>(match P.fns[f]? with | some d=>cz o d s a | none=>.stuck),P.meth,P.init,P.sub,w⟩,some (orc2 P w n).1)
noncomputable def orc(P:Prg)(w n:Nat):Orc:=(orc2 P w n).1
theorem bF{P:Prg}{w n f:Nat}{d:Fd}{a:List D}(h:P.fns[f]?=some d):(orc P w (n+1)).fn f a=bG (orc P w n) d a:=by
 show(match P.fns[f]? with | some d=>bG (orc P w n) d a | none=>.stuck)=_;rw[h]
theorem eF{P:Prg}{w n f:Nat}{d:Fd}{s:D}{a:List D}(h:P.fns[f]?=some d):(orc P w (n+2)).ini f s a=cz (orc P w n) d s a:=by
 show(match P.fns[f]? with | some d=>cz (orc P w n) d s a | none=>.stuck)=_;rw[h]
end Z
set_option autoImplicit false
namespace Z
open PySem PySem.Spec PyProof.Rows L2
noncomputable def strV(x:List Nat):Str:=⟨x.toArray⟩
noncomputable def keyV:DK->Key
 | .i n=>.inl n
 | .s x=>.inr (strV x)
theorem cW{x y:List Nat}(h:strV x=strV y):x=y:=by
 have:=congrArg (fun s:Str=>s.cps.toList) h;simpa[strV]using this
theorem gZ{x y:DK}(h:keyV x=keyV y):x=y:=by
 cases x<;>cases y<;>simp[keyV]at h
 ·rw[h]
 ·rw[cW h]
noncomputable abbrev IsK(H:Hp)(a:Addr)(kvs:List (Key×V)):Prop:=∃ep,H a=some (.dK kvs ep)
noncomputable def KsOk(ks:List DK):Prop:=ks.Nodup/\∀x,DK.s x∈ks->x.length<=16777216
structure Wd where
 K:PySem.W.Frag
 CT:Nat->Addr
noncomputable def Mt(C a:Addr)(h:Heap):Prop:=∃o vs,h.get? a=some o/\(o.cls=.ref C/\o.dict=none)/\o.data=.fields vs
mutual
noncomputable def Rep(W:Wd)(G:Hp):D->V->Prop
 | .non,v=>v=.non
 | .bl b,v=>v=.bl b
 | .int i,v=>v=.int i
 | .str x,v=>v=.str (strV x)/\x.length<=16777216
 | .tup l,v=>∃a xs,v=.ref a/\SqT W.K G a xs/\Reps W G l xs
 | .lst l,v=>∃a xs,v=.ref a/\SqL W.K G a xs/\Reps W G l xs
 | .dct ks vs,v=>∃a kvs,v=.ref a/\IsK G a kvs/\kvs.map (·.1)=ks.map keyV/\KsOk ks/\Reps W G vs (kvs.map (·.2))
 | .obj c ns vs,v=>∃a dx fs,v=.ref a/\G a=some (.ins (W.CT c) dx fs)/\fs.map (·.1)=ns.map strV/\Reps W G vs (fs.map (·.2))
 | .err c,v=>∃a,v=.ref a/\G a=some (.ext (Mt (W.CT c) a))
noncomputable def Reps(W:Wd)(G:Hp):List D->List V->Prop
 | [],[]=>True
 | d::l,v::vs=>Rep W G d v/\Reps W G l vs
 | _,_=>False
end
theorem aL{K:PySem.W.Frag}{H H':Hp}{a:Addr}{xs:List V}(e:Same H H')(h:SqT K H a xs):SqT K H' a xs:=by
 rcases h with(h | ⟨o,h⟩) | h
 ·exact .inl (.inl (e _ _ h))
 ·exact .inl (.inr ⟨o,e _ _ h⟩)
 ·exact .inr h
mutual
theorem Rep.mono{W:Wd}{G G':Hp}(e:Same G G'):∀{d:D} {v:V},Rep W G d v->Rep W G' d v
 | .non,v,h=>by simpa only[Rep]using h
 | .bl b,v,h=>by simpa only[Rep]using h
 | .int i,v,h=>by simpa only[Rep]using h
 | .str x,v,h=>by simpa only[Rep]using h
 | .tup l,v,h=>by
   simp only[Rep]at h ⊢;obtain⟨a,xs,rfl,h1,h2⟩:=h;exact⟨a,xs,rfl,aL e h1,Reps.mono e h2⟩
 | .lst l,v,h=>by
   simp only[Rep]at h ⊢;obtain⟨a,xs,rfl,h1,h2⟩:=h;exact⟨a,xs,rfl,e.seq h1,Reps.mono e h2⟩
 | .dct ks vs,v,h=>by
   simp only[Rep]at h ⊢;obtain⟨a,kvs,rfl,h1,h2,h3,h4⟩:=h;exact⟨a,kvs,rfl,h1.imp fun _ z=>e _ _ z,h2,h3,Reps.mono e h4⟩
 | .obj c ns vs,v,h=>by
   simp only[Rep]at h ⊢;obtain⟨a,dx,fs,rfl,h1,h2,h3⟩:=h;exact⟨a,dx,fs,rfl,e _ _ h1,h2,Reps.mono e h3⟩
 | .err _,v,h=>by
   simp only[Rep]at h ⊢;obtain⟨a,rfl,h1⟩:=h;exact⟨a,rfl,e _ _ h1⟩
theorem Reps.mono{W:Wd}{G G':Hp}(e:Same G G'):∀{l:List D} {vs:List V},Reps W G l vs->Reps W G' l vs
 | [],[],_=>by simp only[Reps]
 | [],_::_,h=>by simp only[Reps]at h
 | _::_,[],h=>by simp only[Reps]at h
 | d::l,v::vs,h=>by
   simp only[Reps]at h ⊢;exact⟨Rep.mono e h.1,Reps.mono e h.2⟩
end
theorem Reps.length{W:Wd}{G:Hp}:∀{l:List D} {vs:List V},Reps W G l vs->l.length=vs.length
 | [],[],_=>rfl
 | [],_::_,h=>by simp only[Reps]at h
 | _::_,[],h=>by simp only[Reps]at h
 | d::l,v::vs,h=>by
   simp only[Reps]at h;simp[Reps.length h.2]
theorem Reps.get{W:Wd}{G:Hp}:∀{l:List D} {vs:List V} {i:Nat} {d:D},Reps W G l vs->l[i]?=some d->∃v,vs[i]?=some v/\Rep W G d v
 | [],_,_,_,_,e=>by simp at e
 | _::_,[],_,_,h,_=>by simp only[Reps]at h
 | d::l,v::vs,0,_,h,e=>by
   simp only[Reps]at h;simp at e;subst e;exact⟨v,rfl,h.1⟩
 | d::l,v::vs,i+1,x,h,e=>by
   simp only[Reps]at h;obtain⟨u,h1,h2⟩:=Reps.get (i:=i) (d:=x) h.2 (by simpa using e);exact⟨u,by simpa using h1,h2⟩
theorem Reps.append{W:Wd}{G:Hp}:∀{l l':List D} {vs vs':List V},Reps W G l vs->Reps W G l' vs'->Reps W G (l++l') (vs++vs')
 | [],_,[],_,_,h=>h
 | [],_,_::_,_,h,_=>by simp only[Reps]at h
 | _::_,_,[],_,h,_=>by simp only[Reps]at h
 | d::l,l',v::vs,vs',h,h'=>by
   simp only[Reps]at h;simp only[List.cons_append,Reps];exact⟨h.1,Reps.append h.2 h'⟩
theorem Reps.set{W:Wd}{G:Hp}{d:D}{v:V}(r:Rep W G d v):∀{l:List D} {vs:List V} (i:Nat),Reps W G l vs->Reps W G (l.set i d) (vs.set i v)
 | [],[],_,h=>h
 | [],_::_,_,h=>by simp only[Reps]at h
 | _::_,[],_,h=>by simp only[Reps]at h
 | _::l,_::vs,0,h=>by
   simp only[Reps]at h;simp only[List.set_cons_zero,Reps];exact⟨r,h.2⟩
 | x::l,y::vs,i+1,h=>by
   simp only[Reps]at h;simp only[List.set_cons_succ,Reps];exact⟨h.1,Reps.set r i h.2⟩
theorem Reps.take{W:Wd}{G:Hp}:∀{l:List D} {vs:List V} (n:Nat),Reps W G l vs->Reps W G (l.take n) (vs.take n)
 | _,_,0,_=>by simp[Reps]
 | [],[],_+1,h=>h
 | [],_::_,_+1,h=>by simp only[Reps]at h
 | _::_,[],_+1,h=>by simp only[Reps]at h
 | d::l,v::vs,n+1,h=>by
   simp only[Reps]at h;simp only[List.take_succ_cons,Reps];exact⟨h.1,Reps.take n h.2⟩
theorem Reps.drop{W:Wd}{G:Hp}:∀{l:List D} {vs:List V} (n:Nat),Reps W G l vs->Reps W G (l.drop n) (vs.drop n)
 | _,_,0,h=>by simpa using h
 | [],[],_+1,h=>h
 | [],_::_,_+1,h=>by simp only[Reps]at h
 | _::_,[],_+1,h=>by simp only[Reps]at h
 | d::l,v::vs,n+1,h=>by
   simp only[Reps]at h;simp only[List.drop_succ_cons];exact Reps.drop n h.2
noncomputable def vis(H:Hp)(P:Addr->Prop):Hp:=fun b=>open Classical in if P b then none else H b
theorem bD{H:Hp}{P:Addr->Prop}{b:Addr}{o:HO}(h:vis H P b=some o):H b=some o/\¬P b:=by
 unfold vis at h;split at h
 ·cases h
 ·exact⟨h,by assumption⟩
theorem bN{H:Hp}{P:Addr->Prop}{b:Addr}{o:HO}(h:H b=some o)(n:¬P b):vis H P b=some o:=by
 unfold vis;rw[if_neg n];exact h
theorem au{H H':Hp}{P:Addr->Prop}(e:Same H H'):Same (vis H P) (vis H' P):=fun b o h=>
 let⟨h1,h2⟩:=bD h
 bN (e b o h1) h2
theorem aC{H:Hp}{P P':Addr->Prop}(e:∀b,P' b->P b):Same (vis H P) (vis H P'):=fun b o h=>
 let⟨h1,h2⟩:=bD h
 bN h1 fun z=>h2 (e b z)
theorem aY{H:Hp}{P:Addr->Prop}:Same (vis H P) H:=fun b o h=>(bD h).1
noncomputable def RepT(W:Wd)(H G:Hp):D->V->Prop
 | .lst l,v=>∃a xs,v=.ref a/\SqL W.K H a xs/\Reps W G l xs
 | .dct ks vs,v=>∃a kvs,v=.ref a/\IsK H a kvs/\kvs.map (·.1)=ks.map keyV/\KsOk ks/\Reps W G vs (kvs.map (·.2))
 | .obj c ns vs,v=>∃a dx fs,v=.ref a/\H a=some (.ins (W.CT c) dx fs)/\fs.map (·.1)=ns.map strV/\Reps W G vs (fs.map (·.2))
 | d,v=>Rep W G d v
noncomputable def OwnAt(W:Wd)(H G:Hp)(a:Addr):D->Prop
 | .lst l=>∃xs,H a=some (.lst xs)/\Reps W G l xs
 | .dct ks vs=>∃kvs,IsK H a kvs/\kvs.map (·.1)=ks.map keyV/\KsOk ks/\Reps W G vs (kvs.map (·.2))
 | .obj c ns vs=>∃dx fs,H a=some (.ins (W.CT c) dx fs)/\fs.map (·.1)=ns.map strV/\Reps W G vs (fs.map (·.2))
 | _=>False
theorem RepT.mono{W:Wd}{H G H' G':Hp}{d:D}{v:V}(h:RepT W H G d v)(e:Same H H')(g:Same G G'):RepT W H' G' d v:=by
 cases d with
 | lst l=>
   obtain⟨a,xs,rfl,h1,h2⟩:=h;exact⟨a,xs,rfl,e.seq h1,h2.mono g⟩
 | dct ks vs=>
   obtain⟨a,kvs,rfl,h1,h2,h3,h4⟩:=h;exact⟨a,kvs,rfl,h1.imp fun _ z=>e _ _ z,h2,h3,h4.mono g⟩
 | obj c ns vs=>
   obtain⟨a,dx,fs,rfl,h1,h2,h3⟩:=h;exact⟨a,dx,fs,rfl,e _ _ h1,h2,h3.mono g⟩
 | non=>exact Rep.mono g h
 | bl b=>exact Rep.mono g h
 | int i=>exact Rep.mono g h
 | str x=>exact Rep.mono g h
 | tup l=>exact Rep.mono g h
 | err c=>exact Rep.mono g h
theorem Rep.top{W:Wd}{H G:Hp}{d:D}{v:V}(h:Rep W G d v)(e:Same G H):RepT W H G d v:=by
 cases d with
 | lst l=>
   simp only[Rep]at h;obtain⟨a,xs,rfl,h1,h2⟩:=h;exact⟨a,xs,rfl,e.seq h1,h2⟩
 | dct ks vs=>
   simp only[Rep]at h;obtain⟨a,kvs,rfl,h1,h2⟩:=h;exact⟨a,kvs,rfl,h1.imp fun _ z=>e _ _ z,h2⟩
 | obj c ns vs=>
   simp only[Rep]at h;obtain⟨a,dx,fs,rfl,h1,h2⟩:=h;exact⟨a,dx,fs,rfl,e _ _ h1,h2⟩
 | non=>exact h
 | bl b=>exact h
 | int i=>exact h
 | str x=>exact h
 | tup l=>exact h
 | err c=>exact h
theorem OwnAt.mono{W:Wd}{H G H' G':Hp}{a:Addr}{d:D}(h:OwnAt W H G a d)(e:∀o,H a=some o->H' a=some o)(g:Same G G'):OwnAt W H' G' a d:=by
 cases d with
 | lst l=>
   obtain⟨xs,h1,h2⟩:=h;exact⟨xs,e _ h1,h2.mono g⟩
 | dct ks vs=>
   obtain⟨kvs,h1,h2,h3,h4⟩:=h;exact⟨kvs,h1.imp fun _ z=>e _ z,h2,h3,h4.mono g⟩
 | obj c ns vs=>
   obtain⟨dx,fs,h1,h2,h3⟩:=h;exact⟨dx,fs,e _ h1,h2,h3.mono g⟩
 | non=>exact h
 | bl b=>exact h
 | int i=>exact h
 | str x=>exact h
 | tup l=>exact h
 | err c=>exact h
theorem OwnAt.top{W:Wd}{H G:Hp}{a:Addr}{d:D}(h:OwnAt W H G a d):RepT W H G d (.ref a):=by
 cases d with
 | lst l=>
   obtain⟨xs,h1,h2⟩:=h;exact⟨a,xs,rfl,.inl (.inl h1),h2⟩
 | dct ks vs=>
   obtain⟨kvs,h1,h2⟩:=h;exact⟨a,kvs,rfl,h1,h2⟩
 | obj c ns vs=>
   obtain⟨dx,fs,h1,h2⟩:=h;exact⟨a,dx,fs,rfl,h1,h2⟩
 | non=>exact False.elim h
 | bl b=>exact False.elim h
 | int i=>exact False.elim h
 | str x=>exact False.elim h
 | tup l=>exact False.elim h
 | err c=>exact False.elim h
theorem OwnAt.rep{W:Wd}{H G:Hp}{a:Addr}{d:D}(h:OwnAt W H G a d)(e:∀o,H a=some o->G a=some o):Rep W G d (.ref a):=by
 cases d with
 | lst l=>
   obtain⟨xs,h1,h2⟩:=h;simp only[Rep];exact⟨a,xs,rfl,.inl (.inl (e _ h1)),h2⟩
 | dct ks vs=>
   obtain⟨kvs,h1,h2⟩:=h;simp only[Rep];exact⟨a,kvs,rfl,h1.imp fun _ z=>e _ z,h2⟩
 | obj c ns vs=>
   obtain⟨dx,fs,h1,h2⟩:=h;simp only[Rep];exact⟨a,dx,fs,rfl,e _ h1,h2⟩
 | non=>exact False.elim h
 | bl b=>exact False.elim h
 | int i=>exact False.elim h
 | str x=>exact False.elim h
 | tup l=>exact False.elim h
 | err c=>exact False.elim h
theorem OwnAt.some{W:Wd}{H G:Hp}{a:Addr}{d:D}(h:OwnAt W H G a d):∃o,H a=some o/\(∀xs,o≠.tup xs)/\∀ob u,o≠.frz ob u:=by
 cases d with
 | lst l=>obtain⟨xs,h1,h2⟩:=h;exact⟨_,h1,(by intro _ z;cases z),(by intro _ _ z;cases z)⟩
 | dct ks vs=>obtain⟨kvs,⟨ep,h1⟩,h2⟩:=h;exact⟨_,h1,(by intro _ z;cases z),(by intro _ _ z;cases z)⟩
 | obj c ns vs=>obtain⟨dx,fs,h1,h2⟩:=h;exact⟨_,h1,(by intro _ z;cases z),(by intro _ _ z;cases z)⟩
 | non=>exact False.elim h
 | bl b=>exact False.elim h
 | int i=>exact False.elim h
 | str x=>exact False.elim h
 | tup l=>exact False.elim h
 | err c=>exact False.elim h
noncomputable def dO(σ:L2.St)(δ:Dst)(i:Nat)(a:Addr):Prop:=(∃w d,δ[i]?=some (some (w,d))/\w≠Own.sh)/\σ[i]?=some (some (.ref a))
noncomputable def Hid(B:Addr->Prop)(σ:L2.St)(δ:Dst)(a:Addr):Prop:=B a\/∃i,dO σ δ i a
noncomputable def Soft(H:Hp)(P:Addr->Prop):Prop:=∀a,P a->∀o,H a=some o->(∀xs,o≠.tup xs)/\∀ob u,o≠.frz ob u
structure SR(X:Cx)(W:Wd)(me:Option Addr)(B:Addr->Prop)(H:Hp)(σ:L2.St)(δ:Dst):Prop where
 kf:W.K=X.K
 len:σ.length=δ.length
 sh:∀(i:Nat) (d:D),δ[i]?=some (some (Own.sh,d))->∃v,σ[i]?=some (some v)/\Rep W (vis H (Hid B σ δ)) d v
 ow:∀(i:Nat) (d:D),δ[i]?=some (some (Own.ow,d))->∃a,σ[i]?=some (some (V.ref a))/\OwnAt W H (vis H (Hid B σ δ)) a d/\X.H₀ a=none/\¬B a/\some a≠me
 mi:∀(i:Nat) (d:D),δ[i]?=some (some (Own.me,d))->i=0/\∃a,me=some a/\σ[i]?=some (some (V.ref a))/\OwnAt W H (vis H (Hid B σ δ)) a d/\¬B a
 apart:∀(i j:Nat) (a:Addr),dO σ δ i a->dO σ δ j a->i=j
 same:∀b o,X.H₀ b=some o->some b≠me->H b=some o
 soft:Soft H B
 gone:∀b,B b->∃o,H b=some o
 live:∀x,me=some x->∃o,H x=some o
theorem SR.mono{X:Cx}{W:Wd}{me:Option Addr}{B:Addr->Prop}{H H':Hp}{σ:L2.St}{δ:Dst}(S:SR X W me B H σ δ)(e:Same H H'):SR X W me B H' σ δ where
 kf:=S.kf
 len:=S.len
 sh:=fun i d h=>let⟨v,h1,h2⟩:=S.sh i d h;⟨v,h1,h2.mono (au e)⟩
 ow:=fun i d h=>let⟨a,h1,h2,h3⟩:=S.ow i d h;⟨a,h1,h2.mono (fun o q=>e a o q) (au e),h3⟩
 mi:=fun i d h=>let⟨h0,a,h1,h2,h3,h4⟩:=S.mi i d h;⟨h0,a,h1,h2,h3.mono (fun o q=>e a o q) (au e),h4⟩
 apart:=S.apart
 same:=fun b o h h'=>e b o (S.same b o h h')
 soft:=fun a ha o ho=>by
  obtain⟨o',ho'⟩:=S.gone a ha;have:=e a o' ho';rw[ho]at this;cases this;exact S.soft a ha _ ho'
 gone:=fun b hb=>let⟨o,h⟩:=S.gone b hb;⟨o,e b o h⟩
 live:=fun x hx=>let⟨o,h⟩:=S.live x hx;⟨o,e x o h⟩
theorem SR.softH{X:Cx}{W:Wd}{me:Option Addr}{B:Addr->Prop}{H:Hp}{σ:L2.St}{δ:Dst}(S:SR X W me B H σ δ):Soft H (Hid B σ δ):=fun a ha o ho=>by
 rcases ha with ha | ⟨i,⟨w,d,h1,h2⟩,h3⟩
 ·exact S.soft a ha o ho
 ·cases w with
  | sh=>exact absurd rfl h2
  | ow=>
    obtain⟨b,q1,q2,_⟩:=S.ow i d h1;rw[h3]at q1;cases q1;obtain⟨o',q3,q4⟩:=q2.some;rw[ho]at q3;cases q3;exact q4
  | me=>
    obtain⟨_,b,_,q1,q2,_⟩:=S.mi i d h1;rw[h3]at q1;cases q1;obtain⟨o',q3,q4⟩:=q2.some;rw[ho]at q3;cases q3;exact q4
theorem SR.hidH{X:Cx}{W:Wd}{me:Option Addr}{B:Addr->Prop}{H:Hp}{σ:L2.St}{δ:Dst}(S:SR X W me B H σ δ){a:Addr}(ha:Hid B σ δ a):∃o,H a=some o:=by
 rcases ha with ha | ⟨i,⟨w,d,h1,h2⟩,h3⟩
 ·exact S.gone a ha
 ·cases w with
  | sh=>exact absurd rfl h2
  | ow=>
    obtain⟨b,q1,q2,_⟩:=S.ow i d h1;rw[h3]at q1;cases q1;obtain⟨o',q3,q4⟩:=q2.some;exact⟨_,q3⟩
  | me=>
    obtain⟨_,b,_,q1,q2,_⟩:=S.mi i d h1;rw[h3]at q1;cases q1;obtain⟨o',q3,q4⟩:=q2.some;exact⟨_,q3⟩
mutual
theorem Rep.imm{W:Wd}{H:Hp}{P:Addr->Prop}(S:Soft H P):∀{d:D} {v:V},d.imm=true->Rep W H d v->Rep W (vis H P) d v
 | .non,v,_,h=>by simpa only[Rep]using h
 | .bl b,v,_,h=>by simpa only[Rep]using h
 | .int i,v,_,h=>by simpa only[Rep]using h
 | .str x,v,_,h=>by simpa only[Rep]using h
 | .tup l,v,q,h=>by
   simp only[D.imm]at q;simp only[Rep]at h ⊢;obtain⟨a,xs,rfl,h1,h2⟩:=h;refine⟨a,xs,rfl,?_,Reps.imm S q h2⟩;rcases h1 with(h1 | ⟨o,h1⟩) | h1
   ·exact .inl (.inl (bN h1 fun z=>(S a z _ h1).1 _ rfl))
   ·exact .inl (.inr ⟨o,bN h1 fun z=>(S a z _ h1).2 _ _ rfl⟩)
   ·exact .inr h1
 | .lst l,v,q,h=>by simp[D.imm]at q
 | .dct ks vs,v,q,h=>by simp[D.imm]at q
 | .obj c ns vs,v,q,h=>by simp[D.imm]at q
 | .err _,v,q,h=>by simp[D.imm]at q
theorem Reps.imm{W:Wd}{H:Hp}{P:Addr->Prop}(S:Soft H P):∀{l:List D} {vs:List V},immL l=true->Reps W H l vs->Reps W (vis H P) l vs
 | [],[],_,_=>by simp only[Reps]
 | [],_::_,_,h=>by simp only[Reps]at h
 | _::_,[],_,h=>by simp only[Reps]at h
 | d::l,v::vs,q,h=>by
   simp only[immL,Bool.and_eq_true]at q;simp only[Reps]at h ⊢;exact⟨Rep.imm S q.1 h.1,Reps.imm S q.2 h.2⟩
end
noncomputable def Res(W:Wd)(P:Addr->Prop)(lk:Bool)(H H':Hp)(w:Bool)(d:D)(v:V):Prop :=
 if w=true then ∃a,v=.ref a/\H a=none/\OwnAt W H' (vis H' fun b=>P b\/b=a) a d
 else if lk=true then RepT W H' (vis H' P) d v else Rep W (vis H' P) d v
noncomputable def EW(X:Cx)(W:Wd)(σ:L2.St)(H:Hp)(c:Nat):Prop:=False
noncomputable def tD(X:Cx)(W:Wd)(lk:Bool)(f:Dst->R (Bool×D)):TE:=fun σ H Q=>∃me B δ,SR X W me B H σ δ/\match f δ with
 | .ok r=>∀v H',Same H H'->Res W (Hid B σ δ) lk H H' r.1 r.2 v->Q v H'
 | .exc c=>EW X W σ H c
 | .stuck=>False
theorem PE.imp{X:Cx}{e:Expr}{t t':TE}(h:PE X e t)(i:∀σ H Q,t' σ H Q->t σ H Q):PE X e t':=fun pins s σ H Q I hw=>h pins s σ H Q I (i σ H Q hw)
theorem PT.imp{X:Cx}{e:Expr}{t t':TT}(h:PT X e t)(i:∀σ H Q,t' σ H Q->t σ H Q):PT X e t':=fun pins s σ H Q I hw=>h pins s σ H Q I (i σ H Q hw)
theorem PA.imp{X:Cx}{es:List Expr}{t t':TA}(h:PA X es t)(i:∀σ H Q,t' σ H Q->t σ H Q):PA X es t':=fun pos pins s σ H Q I hw=>h pos pins s σ H Q I (i σ H Q hw)
theorem PS.imp{X:Cx}{e:Stmt}{t t':TS}(h:PS X e t)(i:∀D σ H,t' D σ H->t D σ H):PS X e t':=fun pins s σ H D I hw=>h pins s σ H D I (i D σ H hw)
theorem EW.mono{X:Cx}{W:Wd}{σ:L2.St}{H H':Hp}{c:Nat}(h:EW X W σ H c)(e:Same H H'):EW X W σ H' c:=h.elim
theorem Same.upd{H:Hp}{p:Addr}{o:HO}(h:H p=none):Same H (upd H p o):=fun b u e=>by rw[aM (bJ e h)];exact e
theorem Res.look{W:Wd}{P:Addr->Prop}{lk:Bool}{H H':Hp}{w:Bool}{d:D}{v:V}(h:Res W P lk H H' w d v):RepT W H' (vis H' P) d v:=by
 unfold Res at h;split at h
 ·obtain⟨a,rfl,_,h⟩:=h
  exact(h.mono (fun _ q=>q) (aC fun b z=>.inl z)).top
 ·split at h
  ·exact h
  ·exact h.top aY
theorem Res.keep{W:Wd}{P:Addr->Prop}{H H':Hp}{w:Bool}{d:D}{v:V}(h:Res W P false H H' w d v)(hp:∀a,P a->∃o,H a=some o):Rep W (vis H' P) d v:=by
 unfold Res at h;split at h
 ·obtain⟨a,rfl,h0,h⟩:=h
  have na:¬P a:=fun z=>by
   obtain⟨o,q⟩:=hp a z;rw[h0]at q;cases q
  exact(h.mono (fun _ q=>q) (aC fun b z=>.inl z)).rep fun o q=>bN q na
 ·exact h
theorem Res.shared{W:Wd}{P:Addr->Prop}{lk:Bool}{H H':Hp}{d:D}{v:V}(h:Rep W (vis H' P) d v):Res W P lk H H' false d v:=by
 unfold Res;rw[if_neg (by simp)];split
 ·exact h.top aY
 ·exact h
end Z
namespace Z
open PySem PySem.Spec PyProof.Rows L2
section
variable{X:Cx}{W:Wd}{lk lk':Bool}{σ:L2.St}{H H1 H':Hp}{me:Option Addr}{B:Addr->Prop}{δ:Dst}{Q Q':VK}
noncomputable def After(X:Cx)(W:Wd)(lk:Bool)(σ:L2.St)(H:Hp)(P:Addr->Prop)(r:R (Bool×D))(Q:VK):Prop:=match r with
 | .ok r=>∀v H',Same H H'->Res W P lk H H' r.1 r.2 v->Q v H'
 | .exc c=>EW X W σ H c
 | .stuck=>False
theorem tD_iff{f:Dst->R (Bool×D)}:tD X W lk f σ H Q↔∃me B δ,SR X W me B H σ δ/\After X W lk σ H (Hid B σ δ) (f δ) Q:=by
 unfold tD After;exact Iff.rfl
theorem Res.from{P:Addr->Prop}{w:Bool}{d:D}{v:V}(h:Res W P lk H1 H' w d v)(e:Same H H1):Res W P lk H H' w d v:=by
 unfold Res at h ⊢;split at h
 ·rename_i hw
  rw[if_pos hw];obtain⟨a,h1,h2,h3⟩:=h;exact⟨a,h1,e.free h2,h3⟩
 ·rename_i hw
  rw[if_neg hw];exact h
theorem After.mono{P:Addr->Prop}{r:R (Bool×D)}(h:After X W lk σ H P r Q)(e:Same H H1):After X W lk σ H1 P r Q:=by
 unfold After at h ⊢
 cases r with
 | ok r=>exact fun v H' s q=>h v H' (e.trans s) (q.from e)
 | exc c=>exact h.mono e
 | stuck=>exact h
theorem tD.mono{f:Dst->R (Bool×D)}(h:tD X W lk f σ H Q)(k:∀v H',Q v H'->Q' v H'):tD X W lk f σ H Q':=by
 obtain⟨me,B,δ,S,h⟩:=tD_iff.mp h;refine tD_iff.mpr ⟨me,B,δ,S,?_⟩;unfold After at h ⊢
 cases e:f δ with
 | ok r=>rw[e]at h;exact fun v H' s q=>k _ _ (h v H' s q)
 | exc c=>rw[e]at h;exact h
 | stuck=>rw[e]at h;exact h
theorem part{fa:Dst->R (Bool×D)}{g:Bool×D->R (Bool×D)}(S:SR X W me B H σ δ)(h:After X W lk σ H (Hid B σ δ) ((fa δ).bind g) Q) :
 tD X W lk' fa σ H fun v H1=>∃r,fa δ=.ok r/\SR X W me B H1 σ δ/\Same H H1/\RepT W H1 (vis H1 (Hid B σ δ)) r.2 v/\Res W (Hid B σ δ) lk' H H1 r.1 r.2 v/\After X W lk σ H1 (Hid B σ δ) (g r) Q:=by
 refine tD_iff.mpr ⟨me,B,δ,S,?_⟩
 cases e:fa δ with
 | ok r=>
   rw[e]at h;intro v H1 s q;exact⟨r,rfl,S.mono s,s,q.look,q,After.mono h s⟩
 | exc c=>rw[e]at h;exact h
 | stuck=>rw[e]at h;exact h
theorem Soft.mono{P:Addr->Prop}(s:Soft H P)(g:∀a,P a->∃o,H a=some o)(e:Same H H1):Soft H1 P:=fun a ha o ho=>by
 obtain⟨o',h'⟩:=g a ha;have:=e a o' h';rw[ho]at this;cases this;exact s a ha _ h'
theorem SR.know(S:SR X W me B H σ δ):∀a,Hid B σ δ a->∃o,H a=some o:=fun _ h=>S.hidH h
noncomputable def Sem2(W:Wd)(r:R2)(g:D->D->R (Bool×D)):Prop :=
 ∀(lk:Bool) (P:Addr->Prop) (H:Hp) (x y:V) (dx dy:D) (Q:VK) (w:Bool) (d:D),Soft H P->(∀a,P a->∃o,H a=some o)->RepT W H (vis H P) dx x->RepT W H (vis H P) dy y->g dx dy=.ok (w,d) ->
  (∀v H',Same H H'->Res W P lk H H' w d v->Q v H')->r x y H Q
noncomputable def eY(g:D->D->R (Bool×D)):Prop:=∀x y c,g x y≠.exc c
theorem nJ{r:R2}{g:D->D->R (Bool×D)}{fa fb:Dst->R (Bool×D)}(hs:Sem2 W r g)(hn:eY g){σ:L2.St}{H:Hp}{Q:VK}
 (h:tD X W lk (fun δ=>(fa δ).bind fun x=>(fb δ).bind fun y=>g x.2 y.2) σ H Q):tOp r (tD X W true fa) (tD X W true fb) σ H Q:=by
 obtain⟨me,B,δ,S,h⟩:=tD_iff.mp h
 refine tD.mono (part S h) fun v H1 ⟨r1,e1,S1,s1,t1,_,h1⟩=>?_
 refine tD.mono (part (g:=fun y=>g r1.2 y.2) S1 h1) fun u H2 ⟨r2,e2,S2,s2,t2,_,h2⟩=>?_
 cases e:g r1.2 r2.2 with
 | ok r=>
   rw[e]at h2;exact hs lk (Hid B σ δ) H2 v u r1.2 r2.2 Q r.1 r.2 S2.softH S2.know (t1.mono s2 (au s2)) t2 e h2
 | exc c=>exact absurd e (hn _ _ _)
 | stuck=>rw[e]at h2;exact h2.elim
variable{a b:Expr}{pos:Pos}{fa fb:Dst->R (Bool×D)}
theorem M8{op:Operator}{r:R2}{g:D->D->R (Bool×D)}(ho:OpR X (binaryOp op) r)(hs:Sem2 W r g)(hn:eY g)(ha:PE X a (tD X W true fa))(hb:PE X b (tD X W true fb)) :
 PE X (.BinOp a op b pos) (tD X W lk fun δ=>(fa δ).bind fun x=>(fb δ).bind fun y=>g x.2 y.2) :=
 PE.imp (Mu ho ha hb) fun _ _ _ h=>nJ hs hn h
theorem Nm{op:CmpOp}{r:R2}{g:D->D->R (Bool×D)}(ho:OpR X (compareOp op) r)(hs:Sem2 W r g)(hn:eY g)(ha:PE X a (tD X W true fa))(hb:PE X b (tD X W true fb))(hm:behindInMarks op b=false) :
 PE X (.Compare a [op] [b] pos) (tD X W lk fun δ=>(fa δ).bind fun x=>(fb δ).bind fun y=>g x.2 y.2) :=
 PE.imp (iY ho ha hb hm) fun _ _ _ h=>nJ hs hn h
theorem Mh{i:Nat}{x:Str}(hN:X.N[i]?=some x)(hv:Vis X.env.scope x)(hd:(x==("__debug__":Str))=false)(hcd:(x==("__classdict__":Str))=false)(o:Orc):PE X (.Name x pos) (tD X W lk fun δ=>ev o δ lk (.var i)):=by
 refine PE.imp (jt hN hv hd hcd) fun σ H Q h=>?_
 obtain⟨me,B,δ,S,h⟩:=tD_iff.mp h;unfold After at h;simp only[ev]at h
 cases e:δ[i]? with
 | none=>simp only[e]at h
 | some q=>
   cases q with
   | none=>simp only[e]at h
   | some q=>
     obtain⟨w,d⟩:=q
     cases w with
     | sh=>
       simp only[e]at h;obtain⟨v,h1,h2⟩:=S.sh i d e;exact⟨v,h1,h v H (Same.refl H) (.shared h2)⟩
     | ow=>
       simp only[e]at h;obtain⟨a,h1,h2,_⟩:=S.ow i d e;refine⟨_,h1,?_⟩
       cases lk with
       | false=>exact h.elim
       | true=>exact h _ H (Same.refl H) h2.top
     | me=>
       simp only[e]at h;obtain⟨_,a,_,h1,h2,_⟩:=S.mi i d e;refine⟨_,h1,?_⟩
       cases lk with
       | false=>exact h.elim
       | true=>exact h _ H (Same.refl H) h2.top
theorem uX{e:Expr}{v:V}{d:D}(he:PE X e (tC v))(hr:∀G,Rep W G d v)(o:Orc):PE X e (tD X W lk fun δ=>ev o δ lk (.cst d)):=by
 refine PE.imp he fun σ H Q h=>?_
 obtain⟨me,B,δ,S,h⟩:=tD_iff.mp h;unfold After at h;simp only[ev]at h;exact h v H (Same.refl H) (.shared (hr _))
theorem aO{P G:Hp}{i:Int}{x:V}(h:RepT W P G (.int i) x):x=.int i:=by simpa only[RepT,Rep]using h
theorem dg{P:Addr->Prop}{i:Int}:Res W P lk H H' false (.int i) (.int i):=.shared (by simp only[Rep])
theorem cH{P:Addr->Prop}{i:Bool}:Res W P lk H H' false (.bl i) (.bl i):=.shared (by simp only[Rep])
theorem p7{P:Addr->Prop}{i:List Nat}(h:i.length<=16777216):Res W P lk H H' false (.str i) (.str (strV i)):=.shared (by simp only[Rep];exact⟨trivial,h⟩)
theorem aV{P G:Hp}{i:List Nat}{x:V}(h:RepT W P G (.str i) x):x=.str (strV i)/\i.length<=16777216:=by simpa only[RepT,Rep]using h
theorem DX(i:Int):bits i=Builtin.Int.intBits i:=by
 unfold bits Builtin.Int.intBits
 by_cases h:i=0
 all_goals(simp[h])
theorem zf{a b:Int}(h:fX a b=true):IntMulOk a b:=by
 unfold fX at h;simp only[Bool.or_eq_true,decide_eq_true_eq,DX]at h;rcases h with(h | h) | h
 ·exact .of_left h
 ·exact .of_right h
 ·unfold IntMulOk Builtin.Int.intTooBig
  intro z;simp only[Bool.and_eq_true,decide_eq_true_eq]at z;have:bitsLine=134217728:=rfl;omega
theorem gH{α:Type}{b:Bool}{x:R α}{y:α}(h:R.chk b x=.ok y):b=true/\x=.ok y:=by
 unfold R.chk at h
 cases b with
 | true=>exact⟨rfl,by simpa using h⟩
 | false=>simp at h
theorem of_ok{α:Type}{x:Option α}{y:α}(h:R.of x=.ok y):x=some y:=by
 cases x with
 | none=>simp[R.of]at h
 | some z=>simp[R.of]at h;rw[h]
theorem dJ{α:Type}{x:Option α}{c:Nat}:R.of x≠.exc c:=by cases x<;>simp[R.of]
theorem iC{α:Type}{b:Bool}{x:R α}{c:Nat}(h:x≠.exc c):R.chk b x≠.exc c:=by unfold R.chk;cases b<;>simp[h]
theorem oN(p:O2)(a b:Int)(c:Nat):arith p a b≠.exc c:=by
 cases p<;>simp[arith,R.chk]<;>split<;>simp
theorem kY(p:O2):eY (o2 p):=by
 intro x y c
 cases p<;>simp only[o2]<;>first
  | exact dJ
  | (split
     ·exact oN _ _ _ _
     ·first | exact iC (by simp) | simp
     ·first | exact iC (by simp) | simp
     ·first | exact iC (by simp) | simp
     ·simp)
  | (split
     ·split<;>simp
     ·split<;>simp
     ·simp)
theorem lr{p:O2}{C:Int->Int->Prop}{g:Int->Int->V}(h1:∀x y r,o2 p x y=.ok r->∃i j,x=.int i/\y=.int j/\arith p i j=.ok r)
 (h2:∀i j r,arith p i j=.ok r->C i j/\r.1=false/\∀G,Rep W G r.2 (g i j)):Sem2 W (rI C g) (o2 p):=by
 intro lk P H x y dx dy Q w d hS hK hx hy e k;obtain⟨i,j,rfl,rfl,e'⟩:=h1 _ _ _ e;obtain⟨hc,hw,hr⟩:=h2 _ _ _ e';have hw:w=false:=hw;subst hw;exact⟨i,j,aO hx,aO hy,hc,k _ H (Same.refl H) (.shared (hr _))⟩
theorem qw{p:O2}{g:Int->Int->V}(h1:∀x y r,o2 p x y=.ok r->∃i j,x=.int i/\y=.int j/\arith p i j=.ok r)
 (h2:∀i j r,arith p i j=.ok r->r.1=false/\∀G,Rep W G r.2 (g i j)):Sem2 W (rI0 g) (o2 p):=by
 intro lk P H x y dx dy Q w d hS hK hx hy e k;obtain⟨i,j,rfl,rfl,e'⟩:=h1 _ _ _ e;obtain⟨hw,hr⟩:=h2 _ _ _ e';have hw:w=false:=hw;subst hw;exact⟨i,j,aO hx,aO hy,k _ H (Same.refl H) (.shared (hr _))⟩
theorem dD{p:O2}(hp:p=.sub\/p=.mul\/p=.fdiv\/p=.mod\/p=.pow\/p=.gt\/p=.ge):∀x y r,o2 p x y=.ok r->∃i j,x=.int i/\y=.int j/\arith p i j=.ok r:=by
 intro x y r h
 rcases hp with rfl | rfl | rfl | rfl | rfl | rfl | rfl<;>simp only[o2]at h<;>
  (split at h<;>first
   | exact⟨_,_,rfl,rfl,h⟩
   | cases h)
theorem GQ:Sem2 W (rI0 fun i j=>.int (i-j)) (o2 .sub):=qw (dD (by simp)) fun i j r h=>by
 simp only[arith]at h;cases h;exact⟨rfl,fun G=>by simp only[Rep]⟩
theorem DQ:Sem2 W (rI IntMulOk fun i j=>.int (i*j)) (o2 .mul):=lr (dD (by simp)) fun i j r h=>by
 simp only[arith]at h;obtain⟨h1,h⟩:=gH h;cases h;exact⟨zf h1,rfl,fun G=>by simp only[Rep]⟩
theorem Hi:OpR X (binaryOp .Mult) (rI IntMulOk fun i j=>.int (i*j)):=opI fun _ _ _ _ _ _ _ hc q=>PyProof.Rows.mul_int q hc
noncomputable def J6(_ j:Int):Prop:=j≠0/\j.natAbs.log2<9000
theorem yH:Sem2 W (rI J6 fun i j=>.int (i.fdiv j)) (o2 .fdiv):=lr (dD (by simp)) fun i j r h=>by
 simp only[arith]at h;obtain⟨h1,h⟩:=gH h;cases h;simp only[Bool.and_eq_true,decide_eq_true_eq]at h1;exact⟨h1,rfl,fun G=>by simp only[Rep]⟩
theorem zM:OpR X (binaryOp .FloorDiv) (rI J6 fun i j=>.int (i.fdiv j)):=opI fun _ _ _ _ _ _ _ hc q=>floordiv_int hc.1 q (.inl (PyProof.noPylong_of_log2 hc.2))
theorem Ht:Sem2 W (rI (fun _ j=>j≠0) fun i j=>.int (i.fmod j)) (o2 .mod):=lr (dD (by simp)) fun i j r h=>by
 simp only[arith]at h;obtain⟨h1,h⟩:=gH h;cases h;simp only[decide_eq_true_eq]at h1;exact⟨h1,rfl,fun G=>by simp only[Rep]⟩
theorem Gi:Sem2 W (rI CPow fun i j=>.int (i ^ j.toNat)) (o2 .pow):=lr (dD (by simp)) fun i j r h=>by
 simp only[arith]at h;obtain⟨h1,h⟩:=gH h;cases h;simp only[Bool.and_eq_true,decide_eq_true_eq]at h1;refine⟨⟨h1.1.1,by omega,by have:=h1.2;omega⟩,rfl,fun G=>by simp only[Rep]⟩
theorem HY:Sem2 W (rI0 fun i j=>.bl (decide (j<i))) (o2 .gt):=qw (dD (by simp)) fun i j r h=>by
 simp only[arith]at h;cases h;exact⟨rfl,fun G=>by simp only[Rep]⟩
theorem zr(b:Bool):truth (.bl b)=some b:=rfl
noncomputable def tT(X:Cx)(W:Wd)(f:Dst->R (Bool×D)):TT:=fun σ H Q=>∃me B δ,SR X W me B H σ δ/\match(f δ).bind (fun x=>R.of (truth x.2))with
 | .ok b=>∀H',Same H H'->Q b H'
 | .exc c=>EW X W σ H c
 | .stuck=>False
theorem truV{H G:Hp}{d:D}{v:V}{b:Bool}(g:Same G H)(e:truth d=some b)(h:RepT W H G d v):TruV W.K v H b:=by
 cases d with
 | non=>simp only[RepT,Rep]at h;subst h;simp only[truth,Option.some.injEq]at e;exact e.symm
 | bl x=>simp only[RepT,Rep]at h;subst h;simp only[truth,Option.some.injEq]at e;exact e.symm
 | int i=>
   simp only[RepT,Rep]at h;subst h;simp only[truth,Option.some.injEq]at e;show b=(i !=0);rw[<-e];by_cases hi:i=0<;>simp[hi]
 | str x=>
   obtain⟨rfl,hl⟩:=aV h;simp only[truth,Option.some.injEq]at e;refine⟨by simpa[strV,Str.length,sizeLine_eq]using hl,?_⟩;rw[<-e];cases x<;>simp[strV,Str.length]<;>omega
 | tup l=>
   simp only[RepT,Rep]at h;obtain⟨a,xs,rfl,h1,h2⟩:=h;simp only[truth,Option.some.injEq]at e;refine .inr (.inl ⟨xs,aL g h1,?_⟩);have:=h2.length;rw[<-e];cases l<;>cases xs<;>simp at this ⊢
 | lst l=>
   obtain⟨a,xs,rfl,h1,h2⟩:=h;simp only[truth,Option.some.injEq]at e;refine .inl ⟨xs,h1,?_⟩;have:=h2.length;rw[<-e];cases l<;>cases xs<;>simp at this ⊢
 | dct ks vs=>
   obtain⟨a,kvs,rfl,⟨ep,h1⟩,h2,h3,h4⟩:=h;simp only[truth,Option.some.injEq]at e;refine .inr (.inr ⟨kvs,ep,h1,?_⟩);have:=congrArg List.length h2;rw[<-e];cases ks<;>cases kvs<;>simp at this ⊢
 | obj c ns vs=>simp[truth]at e
 | err c=>simp[truth]at e
theorem Ku{e:Expr}{f:Dst->R (Bool×D)}(h:PE X e (tD X W true f))(he:∀whole,isTrue e X.env whole=(do let v <-whole;standAt e.pos;holding [v] (truthy v))):PT X e (tT X W f):=by
 refine PT.imp (Aj h he) fun σ H Q h=>?_
 obtain⟨me,B,δ,S,h⟩:=h;refine tD_iff.mpr ⟨me,B,δ,S,?_⟩;unfold After
 cases e:f δ with
 | ok r=>
   simp only[e,R.bind]at h
   cases e2:truth r.2 with
   | none=>simp only[e2,R.of]at h
   | some b=>
     simp only[e2,R.of]at h;intro v H' s q;exact⟨b,S.kf▸truV aY e2 q.look,h H' s⟩
 | exc c=>simp only[e,R.bind]at h;exact h
 | stuck=>simp only[e,R.bind]at h
theorem Dm{f:Dst->R (Bool×D)}{σ:L2.St}{H:Hp}{Q:Bool->Hp->Prop}(hb:∀δ r,f δ=.ok r->∃b,r=(false,.bl b))(h:tT X W f σ H Q):tD X W true f σ H fun x H'=>∃k,x=.bl k/\Q k H':=by
 obtain⟨me,B,δ,S,h⟩:=h;refine tD_iff.mpr ⟨me,B,δ,S,?_⟩;unfold After
 cases e:f δ with
 | ok r=>
   obtain⟨b,rfl⟩:=hb δ r e;simp only[e,R.bind,truth,R.of]at h;intro v H' s q;have:=q.look;simp only[RepT,Rep]at this;exact⟨b,this,h H' s⟩
 | exc c=>simp only[e,R.bind]at h;exact h
 | stuck=>simp only[e,R.bind]at h
theorem fY{x:R (Bool×D)}{g:Bool×D->R (Bool×D)}{r:Bool×D}(h:x.bind g=.ok r):∃y,x=.ok y/\g y=.ok r:=by
 cases x with
 | ok y=>exact⟨y,rfl,h⟩
 | exc c=>cases h
 | stuck=>cases h
theorem Je{op:CmpOp}{r:R2}{g:D->D->R (Bool×D)}(ho:OpR X (compareOp op) r)(hs:Sem2 W r g)(hn:eY g)(hbl:∀x y r,g x y=.ok r->∃b,r=(false,.bl b))(ha:PE X a (tD X W true fa))(hb:PE X b (tD X W true fb))(hm:behindInMarks op b=false) :
 PT X (.Compare a [op] [b] pos) (tT X W fun δ=>(fa δ).bind fun x=>(fb δ).bind fun y=>g x.2 y.2):=by
 refine PT.imp (jf ho ha hb hm) fun σ H Q h=>?_
 refine nJ (lk:=true) hs hn (Dm (fun δ r e=>?_) h);obtain⟨y,_,e⟩:=fY e;obtain⟨z,_,e⟩:=fY e;exact hbl _ _ _ e
theorem tT.mono{f:Dst->R (Bool×D)}{σ:L2.St}{H:Hp}{Q Q':Bool->Hp->Prop}(h:tT X W f σ H Q)(k:∀b H',Q b H'->Q' b H'):tT X W f σ H Q':=by
 obtain⟨me,B,δ,S,h⟩:=h;refine⟨me,B,δ,S,?_⟩
 cases e:(f δ).bind (fun x=>R.of (truth x.2))with
 | ok b=>rw[e]at h;exact fun H' s=>k _ _ (h H' s)
 | exc c=>rw[e]at h;exact h
 | stuck=>rw[e]at h;exact h
theorem Kr(ha:PT X a (tT X W fa)):PT X (.UnaryOp .Not a pos) (tT X W fun δ=>(fa δ).bind fun x=>(R.of (truth x.2)).bind fun b=>.ok (false,.bl !b)):=by
 refine PT.imp (Jm ha) fun σ H Q h=>?_
 obtain⟨me,B,δ,S,h⟩:=h;refine⟨me,B,δ,S,?_⟩
 cases e:fa δ with
 | ok r=>
   simp only[e,R.bind]at h ⊢
   cases e2:truth r.2 with
   | none=>simp only[e2,R.of]at h
   | some b=>
     simp only[e2,R.of,zr]at h ⊢;exact h
 | exc c=>simp only[e,R.bind]at h ⊢;exact h
 | stuck=>simp only[e,R.bind]at h
theorem MP{f:Dst->R (Bool×D)}(ha:PE X a (tD X W true f)):PE X (.UnaryOp .Not a pos) (tD X W lk fun δ=>(f δ).bind fun x=>(R.of (truth x.2)).bind fun b=>.ok (false,.bl !b)):=by
 intro pins s σ H Q I h;obtain⟨me,B,δ,S,h⟩:=tD_iff.mp h;refine UnaryOp_ (thn (ha pins s σ H _ I (part S h)) fun v s1 ⟨x,H1,I1,r1,r,e,S1,s1',t1,_,h1⟩=>?_)
 cases e2:truth r.2 with
 | none=>simp only[e2,R.of,R.bind,After]at h1
 | some b=>
   simp only[e2,R.of,R.bind,After]at h1;refine not_of (thn (Br pins s1 σ H1 x v (fun k H'=>k=b/\H'=H1) I1 r1 ⟨b,S.kf▸truV aY e2 t1,rfl,rfl⟩) fun k s2 ⟨H2,I2,hk,hH⟩=>?_);subst hk hH;exact⟨.bl (!k),H2,I2,rfl,h1 _ H2 (Same.refl _) cH⟩
end
end Z
namespace Z
open PySem PySem.Spec PyProof.Rows L2
theorem jx(o:Obj)(f:Array Value->Array Value):(o.mapFields f).dict=o.dict:=by
 cases o with
 | mk c d dt sl=>cases dt<;>rfl
noncomputable def ExcAt(h h0:Heap)(H':Hp)(a:Addr)(cls:Value)(tr:Bool):Prop:=∃oe vs,h.get? a=some oe/\(oe.cls=cls/\oe.dict=none)/\oe.data=.fields vs/\1<vs.size /\
 ((tr=false/\vs[1]?=some .none)\/∃T oT ts,vs[1]?=some (.ref T)/\T≠a/\h0.get? T=none/\H' T=none/\h.get? T=some oT/\oT.data=.fields ts/\3<ts.size)
structure Fly(X:Cx)(H:Hp)(s:Shared)(cls:Value)(a:Addr)(H':Hp)(s':Shared)(tr:Bool):Prop where
 os:s'.os=s.os
 bare:AllBare s'.gens
 un:Un (frs X.stack) [] H H' s.heap s'.heap
 hok:HOk X.prog X.w H' s'.heap
 newE:s.heap.get? a=none
 freeE:H' a=none
 ff:s'.heap.FunFrames X.base X.stack
 fr:∀b∈frs X.stack,H' b=none
 exc:ExcAt s'.heap s.heap H' a cls tr
section
variable{X:Cx}{H H':Hp}{s s':Shared}{cls:Value}{a:Addr}{tr tr':Bool}{h':Heap}
theorem Fly.step(F:Fly X H s cls a H' s' tr)(T:Addr->Prop)(hT:∀b,T b->s.heap.get? b=none/\H' b=none)
 (keep:∀b o,b≠a->¬T b->b∉frs X.stack->s'.heap.get? b=some o->h'.get? b=some o) (slot:∀b o,b∈frs X.stack->s'.heap.get? b=some o->∃sl,h'.get? b=some { o with slots:=sl })
 (ex:ExcAt h' s.heap H' a cls tr'):Fly X H s cls a H' { s' with heap:=h' } tr':=by
 have old:∀b o,s.heap.get? b=some o->b≠a/\¬T b:=fun b o e=>⟨fun z=>(by rw[z,F.newE]at e;cases e),fun z=>(by rw[(hT b z).1]at e;cases e)⟩
 have all:∀b o,s.heap.get? b=some o->∀o',s'.heap.get? b=some o'->∃o'',h'.get? b=some o'':=fun b o e o' e'=>by
  by_cases hb:b∈frs X.stack
  ·obtain⟨sl,q⟩:=slot b o' hb e';exact⟨_,q⟩
  ·exact⟨_,keep b o' (old b o e).1 (old b o e).2 hb e'⟩
 refine⟨F.os,F.bare,⟨fun b o e n hb hx=>?_,fun b o e n hb hx=>?_,F.un.free,fun b o e hx=>?_,F.un.tups,F.un.frzs,F.un.tbls⟩,fun b o e=>?_,F.newE,F.freeE,?_,F.fr,ex⟩
 ·exact keep b o (old b o e).1 (old b o e).2 hb (F.un.keep b o e n hb hx)
 ·obtain⟨sl,q⟩:=F.un.slot b o e n hb hx
  obtain⟨sl',q'⟩:=slot b _ hb q;exact⟨sl',q'⟩
 ·obtain⟨o',q⟩:=F.un.there b o e hx
  exact all b o e o' q
 ·refine(F.hok b o e).stay (fun c u hc q=>keep c u ?_ ?_ ?_ q) (fun _ q=>q) fun _ _ q=>q
  ·intro z
   rcases hc with rfl | hc
   ·rw[z,F.freeE]at e;cases e
   ·rw[z,F.freeE]at hc;cases hc
  ·intro z
   have:=(hT c z).2;rcases hc with rfl | hc
   ·rw[this]at e;cases e
   ·rw[this]at hc;cases hc
  ·intro z
   have:=F.fr c z;rcases hc with rfl | hc
   ·rw[this]at e;cases e
   ·rw[this]at hc;cases hc
 ·have go:∀l:List Env,(∀b∈frs l,b∈frs X.stack)->s'.heap.FunFrames X.base l->h'.FunFrames X.base l:=by
   intro l
   induction l with
   | nil=>intro _ _;trivial
   | cons env r ih=>
     intro hs ⟨hk,⟨L,o,hf,hn,ho,hd⟩,hr⟩
     have e:frs (env::r)=L::frs r:=by unfold frs;rw[List.filterMap_cons,hf]
     rw[e]at hs;obtain⟨sl,q⟩:=slot L o (hs L List.mem_cons_self) ho;exact⟨hk,⟨L,_,hf,hn,q,hd⟩,ih (fun b hb=>hs b (List.mem_cons_of_mem _ hb)) hr⟩
  exact go X.stack (fun _ z=>z) F.ff
variable{M:Model}{E:Value->Shared->Prop}{Q:Unit->Shared->Prop}
structure Top(X:Cx)(L:Addr):Prop where
 stk:X.stack=X.env::X.outer
 fr:X.env.frame=some L
 frames:X.A.frames=some X.stack
theorem qL{L:Addr}{head:Value}{hn:Bool}{vs:Array Value}{oe:Obj}(hX:Top X L)(F:Fly X H s cls a H' s' tr)(he:s'.heap.get? a=some oe)(hc:oe.cls=cls/\oe.dict=none)(hd:oe.data=.fields vs)(hsz:1<vs.size)
 (hQ:∀h',Fly X H s cls a H' { s' with heap:=h' } true->Q () { s' with heap:=h' }) :
 wpAny M X.A (do setField (.ref a) 1 (<-EntryCells.newEntry head (<-frameOf X.env) .none (rawInt L) .none (<-entryPlaceOf L hn))) Q E s':=by
 have hfr:=hX.frames;rw[hX.stk]at hfr;have hff:=F.ff;rw[hX.stk]at hff
 have hmem:(X.env::X.outer).filterMap (·.frame)=frs X.stack:=by rw[hX.stk];rfl
 have haf:a∉frs X.stack:=fun z=>by
  obtain⟨_,o,ho,hnf⟩:=F.ff.mem z;rw[he]at ho;cases ho;exact hnf vs hd
 refine wpAny_bind (wpAny_frameOf_fun hfr hff hX.fr fun h1 hs1=>?_);rw[hmem]at hs1;refine wpAny_bind (wpAny_entryPlaceOf fun pl hpl=>?_);unfold EntryCells.newEntry newFields;refine wpAny_bind (wpAny_newObj_type ?_ (hpl.sizeOk5 _ _ _ _ _))
 have he1:h1.get? a=some oe:=by rw[hs1.2.1 a haf];exact he
 generalize hnob:({ cls:=.type "traceback",dict:=none,data:=.fields ([head,.ref L,.none,rawInt L,.none]++(if pl.isEmpty then List.replicate 6 Value.none else pl)).toArray }:Obj)=nob
 have hnd:∃ts,nob.data=.fields ts/\3<ts.size:=by rw[<-hnob];exact⟨_,rfl,by simp⟩
 have hnew:s'.heap.get? h1.objs.size=none:=Heap.get?_none_of_le (by rw[hs1.1];exact Nat.le_refl _)
 have hTa:h1.objs.size≠a:=fun z=>by rw[z,he]at hnew;cases hnew
 have he2:(h1.push nob).get? a=some oe:=Heap.get?_push_of_some _ he1;refine wpAny_setField he2 hd hsz (hQ _ (F.step (fun b=>b=h1.objs.size) (fun b z=>?_) (fun b o h1' h2 h3 q=>?_) (fun b o hb q=>?_) ?_))
 ·subst z
  refine⟨?_,F.hok.fresh (by rw[hs1.1];exact Nat.le_refl _)⟩
  cases e:s.heap.get? h1.objs.size with
  | none=>rfl
  | some o=>obtain⟨o',q⟩:=F.un.there _ o e (by simp);rw[hnew]at q;cases q
 ·rw[Heap.get?_update_other _ _ (Ne.symm h1')]
  exact Heap.get?_push_of_some _ (by rw[hs1.2.1 b h3];exact q)
 ·obtain⟨sl,q'⟩:=hs1.2.2 b o q
  have hba:b≠a:=fun z=>haf (z▸hb)
  exact⟨sl,by rw[Heap.get?_update_other _ _ (Ne.symm hba)];exact Heap.get?_push_of_some _ q'⟩
 ·obtain⟨ts,hts,h3⟩:=hnd
  have hd3:=Obj.data_mapFields hd (·.setIfInBounds 1 (Value.ref h1.objs.size));refine⟨_,_,Heap.get?_update_self _ he2 (Obj.isFreed_of_fields hd3),⟨by rw[Obj.cls_mapFields];exact hc.1,by rw[jx];exact hc.2⟩,hd3,by simpa using hsz,.inr ⟨h1.objs.size,nob,ts,by simp[hsz],hTa,?_,F.hok.fresh (by rw[hs1.1];exact Nat.le_refl _),?_,hts,h3⟩⟩
  ·cases e:s.heap.get? h1.objs.size with
   | none=>rfl
   | some o=>obtain⟨o',q⟩:=F.un.there _ o e (by simp);rw[hnew]at q;cases q
  ·rw[Heap.get?_update_other _ _ (Ne.symm hTa)]
   exact Heap.get?_push_size _ (by rw[<-hnob];rfl)
theorem u5{L:Addr}(hX:Top X L)(F:Fly X H s cls a H' s' tr)(hQ:∀h',Fly X H s cls a H' { s' with heap:=h' } true->Q () { s' with heap:=h' }):wpAny M X.A (noteFrame (.ref a) X.env) Q E s':=by
 obtain⟨oe,vs,he,hc,hd,hsz,hx⟩:=F.exc;unfold noteFrame;simp only[hX.fr];rcases hx with⟨_,h1⟩ | ⟨T,oT,ts,h1,hTa,hTn,hTf,hT,hTd,h3⟩
 ·refine wpAny_bind (wpAny_field he hd h1 ?_)
  rw[if_neg (by decide)];exact qL hX F he hc hd hsz hQ
 ·have h3':ts[3]?=some ts[3]:=Array.getElem?_eq_getElem h3
  refine wpAny_bind (wpAny_field he hd h1 ?_);rw[if_pos (by simp:(Value.ref T !=Value.none)=true)];refine wpAny_bind (wpAny_field hT hTd h3' ?_)
  by_cases hq:(ts[3]==rawInt L)=true
  ·rw[if_pos hq]
   refine wpAny_pure ?_
   have F':Fly X H s cls a H' s' true:=⟨F.os,F.bare,F.un,F.hok,F.newE,F.freeE,F.ff,F.fr,oe,vs,he,hc,hd,hsz,.inr ⟨T,oT,ts,h1,hTa,hTn,hTf,hT,hTd,h3⟩⟩
   exact hQ s'.heap F'
  ·rw[if_neg hq]
   refine wpAny_bind (wpAny_setField hT hTd h3 ?_)
   have oth:∀b,b≠T->(s'.heap.update T (Obj.mapFields (·.setIfInBounds 3 Value.none))).get? b=s'.heap.get? b:=fun b hb=>Heap.get?_update_other _ _ (Ne.symm hb)
   have hTfr:T∉frs X.stack:=fun z=>by
    obtain⟨_,o,ho,hnf⟩:=F.ff.mem z;rw[hT]at ho;cases ho;exact hnf ts hTd
   have he':(s'.heap.update T (Obj.mapFields (·.setIfInBounds 3 Value.none))).get? a=some oe:=by rw[oth a (Ne.symm hTa)];exact he
   have F':Fly X H s cls a H' { s' with heap:=s'.heap.update T (Obj.mapFields (·.setIfInBounds 3 Value.none)) } true:=by
    refine F.step (fun b=>b=T) (fun b z=>by subst z;exact⟨hTn,hTf⟩) (fun b o _ h2 _ q=>by rw[oth b h2];exact q) (fun b o hb q=>⟨o.slots,by rw[oth b (fun z=>hTfr (z▸hb))];exact q⟩) ?_;have hd3:=Obj.data_mapFields hTd (·.setIfInBounds 3 Value.none);exact⟨oe,vs,he',hc,hd,hsz,.inr ⟨T,_,_,h1,hTa,hTn,hTf,Heap.get?_update_self _ hT (Obj.isFreed_of_fields hd3),hd3,by simpa using h3⟩⟩
   exact qL hX F' he' hc hd hsz hQ
theorem mR{f:Option Addr}(F:Fly X H s cls a H' s' true)(hQ:∀h',Fly X H s cls a H' { s' with heap:=h' } true->Q () { s' with heap:=h' }):wpAny M X.A (setFlight (.ref a) f) Q E s':=by
 obtain⟨oe,vs,he,hc,hd,hsz,hx⟩:=F.exc;rcases hx with⟨h0,_⟩ | ⟨T,oT,ts,h1,hTa,hTn,hTf,hT,hTd,h3⟩
 ·cases h0
 ·unfold setFlight
  refine wpAny_bind (wpAny_field he hd h1 ?_);rw[if_pos (by simp:(Value.ref T !=Value.none)=true)];refine wpAny_setField hT hTd h3 (hQ _ ?_);generalize (f.elim Value.none fun f=>rawInt f)=z
  have oth:∀b,b≠T->(s'.heap.update T (Obj.mapFields (·.setIfInBounds 3 z))).get? b=s'.heap.get? b:=fun b hb=>Heap.get?_update_other _ _ (Ne.symm hb)
  have hTfr:T∉frs X.stack:=fun z=>by
   obtain⟨_,o,ho,hnf⟩:=F.ff.mem z;rw[hT]at ho;cases ho;exact hnf ts hTd
  refine F.step (fun b=>b=T) (fun b z=>by subst z;exact⟨hTn,hTf⟩) (fun b o _ h2 _ q=>by rw[oth b h2];exact q) (fun b o hb q=>⟨o.slots,by rw[oth b (fun z=>hTfr (z▸hb))];exact q⟩) ?_;have hd3:=Obj.data_mapFields hTd (·.setIfInBounds 3 z);exact⟨oe,vs,by rw[oth a (Ne.symm hTa)];exact he,hc,hd,hsz,.inr ⟨T,_,_,h1,hTa,hTn,hTf,Heap.get?_update_self _ hT (Obj.isFreed_of_fields hd3),hd3,by simpa using h3⟩⟩
theorem Fb{P:Value->Shared->Prop}(F:Fly X H s cls a H' s' true)(hQ:∀h',Fly X H s cls a H' { s' with heap:=h' } true->P (.ref a) { s' with heap:=h' }):cameBackBy M X.A X.env P (.ref a) s':=by
 obtain⟨oe,vs,he,hc,hd,hsz,hx⟩:=F.exc;rcases hx with⟨h0,_⟩ | ⟨T,oT,ts,h1,hTa,hTn,hTf,hT,hTd,h3⟩
 ·cases h0
 ·unfold cameBackBy
  refine wpAny_bind (wpAny_field he hd h1 ?_);rw[if_neg (by simp:¬(Value.ref T==Value.none)=true)];exact mR F hQ
theorem wD{P:Value->Shared->Prop}{L:Addr}(hX:Top X L)(h1:∀e s',P e s'->∃H s cls a H' tr,e=.ref a/\Fly X H s cls a H' s' tr/\∀h',Fly X H s cls a H' { s' with heap:=h' } true->P e { s' with heap:=h' }):PassesOwn M X.A X.env P:=by
 intro e s' hp;obtain⟨H,s,cls,a,H',tr,rfl,F,k⟩:=h1 e s' hp;unfold notedBy
 refine u5 hX F fun h' F'=>?_
 exact Fb F' fun h'' F''=>k h'' F''
theorem tK{L:Addr}(hX:Top X L)(F:Fly X H s cls a H' s' tr)(hQ:∀h',Fly X H s cls a H' { s' with heap:=h' } true->Q () { s' with heap:=h' }):wpAny M X.A (leaving X.env (.ref a)) Q E s':=by
 unfold leaving;exact wpAny_bind (u5 hX F fun h' F'=>mR F' hQ)
end
end Z
namespace Z
open PySem PySem.Spec PyProof.Rows L2
section
variable{X:Cx}{W:Wd}{σ:L2.St}{H H1:Hp}{me:Option Addr}{B:Addr->Prop}{δ:Dst}
theorem SR.weaken{δ':Dst}{σ':L2.St}(hs:∀b,Hid B σ' δ' b->Hid B σ δ b){d:D}{v:V}(h:Rep W (vis H (Hid B σ δ)) d v):Rep W (vis H (Hid B σ' δ')) d v:=h.mono (aC hs)
theorem dF{i j:Nat}:(share1 δ i)[j]?=if j=i then(match δ[i]? with | some (some (.ow,d))=>some (some (.sh,d)) | x=>x)else δ[j]?:=by
 unfold share1
 cases e:δ[i]? with
 | none=>
   by_cases hj:j=i
   ·subst hj;simp[e]
   ·simp[hj]
 | some q=>
   have hi:i<δ.length:=(List.getElem?_eq_some_iff.mp e).1
   cases q with
   | none=>
     by_cases hj:j=i
     ·subst hj;simp[e]
     ·simp[hj]
   | some q=>
     obtain⟨w,d⟩:=q
     cases w with
     | ow=>
       by_cases hj:j=i
       ·subst hj;simp[hi]
       ·simp only[if_neg hj];rw[List.getElem?_set_ne (Ne.symm hj)]
     | sh=>
       by_cases hj:j=i
       ·subst hj;simp[e]
       ·simp[hj]
     | me=>
       by_cases hj:j=i
       ·subst hj;simp[e]
       ·simp[hj]
theorem cB{i j:Nat}{a:Addr}(h:dO σ (share1 δ i) j a):dO σ δ j a/\(j=i->∀d,δ[i]?≠some (some (.ow,d))):=by
 obtain⟨⟨w,d,h1,h2⟩,h3⟩:=h;rw[dF]at h1
 by_cases hj:j=i
 ·subst hj
  rw[if_pos rfl]at h1;split at h1
  ·cases h1;exact absurd rfl h2
  ·rename_i hne
   exact⟨⟨⟨w,d,h1,h2⟩,h3⟩,fun _ d' e=>hne d' e⟩
 ·rw[if_neg hj]at h1
  exact⟨⟨⟨w,d,h1,h2⟩,h3⟩,fun e=>absurd e hj⟩
theorem SR.share1(S:SR X W me B H σ δ)(i:Nat):SR X W me B H σ (share1 δ i):=by
 have sub:∀b,Hid B σ (Z.share1 δ i) b->Hid B σ δ b:=fun b hb=>by
  rcases hb with hb | ⟨j,hb⟩
  ·exact .inl hb
  ·exact .inr ⟨j,(cB hb).1⟩
 refine⟨S.kf,?_,fun j d h=>?_,fun j d h=>?_,fun j d h=>?_,fun j k a h1 h2=>S.apart j k a (cB h1).1 (cB h2).1,S.same,S.soft,S.gone,S.live⟩
 ·rw[S.len]
  unfold Z.share1;split<;>simp
 ·rw[dF]at h
  by_cases hj:j=i
  ·subst hj
   rw[if_pos rfl]at h;split at h
   ·rename_i d' e
    cases h;obtain⟨a,h1,h2,h3,h4,h5⟩:=S.ow j d e;refine⟨.ref a,h1,(h2.mono (fun _ q=>q) (aC sub)).rep fun o q=>bN q ?_⟩;intro z;rcases z with z | ⟨k,z⟩
    ·exact h4 z
    ·have hk:=cB z
     have:=S.apart k j a hk.1 ⟨⟨.ow,d,e,by decide⟩,h1⟩;subst this;exact hk.2 rfl d e
   ·obtain⟨v,h1,h2⟩:=S.sh j d h
    exact⟨v,h1,h2.mono (aC sub)⟩
  ·rw[if_neg hj]at h
   obtain⟨v,h1,h2⟩:=S.sh j d h;exact⟨v,h1,h2.mono (aC sub)⟩
 ·have h':δ[j]?=some (some (.ow,d)):=by
   rw[dF]at h
   by_cases hj:j=i
   ·subst hj
    rw[if_pos rfl]at h;split at h
    ·cases h
    ·exact h
   ·rw[if_neg hj]at h;exact h
  obtain⟨a,h1,h2,h3⟩:=S.ow j d h';exact⟨a,h1,h2.mono (fun _ q=>q) (aC sub),h3⟩
 ·have h':δ[j]?=some (some (.me,d)):=by
   rw[dF]at h
   by_cases hj:j=i
   ·subst hj
    rw[if_pos rfl]at h;split at h
    ·cases h
    ·exact h
   ·rw[if_neg hj]at h;exact h
  obtain⟨h0,a,h1,h2,h3,h4⟩:=S.mi j d h';exact⟨h0,a,h1,h2,h3.mono (fun _ q=>q) (aC sub),h4⟩
theorem SR.share(is:List Nat):∀{δ:Dst},SR X W me B H σ δ->SR X W me B H σ (share δ is):=by
 induction is with
 | nil=>intro δ S;exact S
 | cons i l ih=>intro δ S;exact ih (S.share1 i)
theorem SR.evF(S:SR X W me B H σ δ)(o:Orc)(t:T):SR X W me B H σ (Z.evF o δ t).1/\(Z.evF o δ t).2=ev o (Z.evF o δ t).1 false t:=by
 unfold Z.evF;split
 ·exact⟨S.share _,rfl⟩
 ·exact⟨S,rfl⟩
theorem SR.store{i:Nat}{w:Bool}{d:D}{v:V}(S:SR X W me B H σ δ)(s:Same H H1)(r:Res W (Hid B σ δ) false H H1 w d v)(hi:i<δ.length) :
 SR X W me B H1 (σ.set i (some v)) (δ.set i (some (if w then .ow else .sh,d)))/\Same (vis H (Hid B σ δ)) (vis H1 (Hid B (σ.set i (some v)) (δ.set i (some (if w then .ow else .sh,d))))):=by
 have hiσ:i<σ.length:=by rw[S.len];exact hi
 have S1:=S.mono s
 have sub:∀b,Hid B (σ.set i (some v)) (δ.set i (some (if w then .ow else .sh,d))) b->Hid B σ δ b\/(w=true/\v=.ref b):=fun b hb=>by
  rcases hb with hb | ⟨j,⟨w',d',h1,h2⟩,h3⟩
  ·exact .inl (.inl hb)
  ·by_cases hj:j=i
   ·subst hj
    rw[List.getElem?_set_self hi]at h1;rw[List.getElem?_set_self hiσ]at h3;cases h1;cases h3
    cases w with
    | true=>exact .inr ⟨rfl,rfl⟩
    | false=>exact absurd rfl h2
   ·rw[List.getElem?_set_ne (Ne.symm hj)]at h1 h3
    exact .inl (.inr ⟨j,⟨w',d',h1,h2⟩,h3⟩)
 have new:∀b,w=true->v=.ref b->H b=none:=fun b hw hv=>by
  unfold Res at r;rw[if_pos hw]at r;obtain⟨a,e,h0,_⟩:=r;rw[hv]at e;cases e;exact h0
 have up:Same (vis H (Hid B σ δ)) (vis H1 (Hid B (σ.set i (some v)) (δ.set i (some (if w then .ow else .sh,d))))):=fun b o h=>by
  obtain⟨h1,h2⟩:=bD h
  refine bN (s b o h1) fun z=>?_
  rcases sub b z with z | ⟨z1,z2⟩
  ·exact h2 z
  ·rw[new b z1 z2]at h1;cases h1
 have old:∀j a,j≠i->dO (σ.set i (some v)) (δ.set i (some (if w then .ow else .sh,d))) j a->dO σ δ j a:=fun j a hj ⟨⟨w',d',h1,h2⟩,h3⟩=>by
  rw[List.getElem?_set_ne (Ne.symm hj)]at h1 h3;exact⟨⟨w',d',h1,h2⟩,h3⟩
 have here:∀a,dO (σ.set i (some v)) (δ.set i (some (if w then .ow else .sh,d))) i a->H a=none:=fun a ⟨⟨w',d',h1,h2⟩,h3⟩=>by
  rw[List.getElem?_set_self hi]at h1;rw[List.getElem?_set_self hiσ]at h3;cases h1;cases h3
  cases w with
  | true=>exact new _ rfl rfl
  | false=>exact absurd rfl h2
 refine⟨⟨S.kf,by simp[S.len],fun j d' h=>?_,fun j d' h=>?_,fun j d' h=>?_,fun j k a h1 h2=>?_,S1.same,S1.soft,S1.gone,S1.live⟩,up⟩
 ·by_cases hj:j=i
  ·subst hj
   rw[List.getElem?_set_self hi]at h
   cases w with
   | true=>cases h
   | false=>
     cases h;refine⟨v,by rw[List.getElem?_set_self hiσ],?_⟩
     have q:Rep W (vis H1 (Hid B σ δ)) d v:=by simpa[Res]using r
     refine q.mono (aC fun b hb=>?_);rcases sub b hb with z | ⟨z,_⟩
     ·exact z
     ·cases z
  ·rw[List.getElem?_set_ne (Ne.symm hj)]at h
   obtain⟨u,h1,h2⟩:=S.sh j d' h;exact⟨u,by rw[List.getElem?_set_ne (Ne.symm hj)];exact h1,h2.mono up⟩
 ·by_cases hj:j=i
  ·subst hj
   rw[List.getElem?_set_self hi]at h
   cases w with
   | false=>cases h
   | true=>
     cases h;have q:=r;unfold Res at q;rw[if_pos rfl]at q;obtain⟨a,rfl,h0,h1⟩:=q;refine⟨a,by rw[List.getElem?_set_self hiσ],h1.mono (fun _ q=>q) (aC fun b hb=>?_),?_,fun z=>?_,fun z=>?_⟩
     ·rcases sub b hb with z | ⟨_,z⟩
      ·exact .inl z
      ·cases z;exact .inr rfl
     ·cases e:X.H₀ a with
      | none=>rfl
      | some o=>
        by_cases hme:some a=me
        ·obtain⟨o',q⟩:=S.live a hme.symm
         rw[h0]at q;cases q
        ·rw[S.same a o e hme]at h0;cases h0
     ·obtain⟨o,q⟩:=S.gone a z
      rw[h0]at q;cases q
     ·obtain⟨o',q⟩:=S.live a z.symm
      rw[h0]at q;cases q
  ·rw[List.getElem?_set_ne (Ne.symm hj)]at h
   obtain⟨a,h1,h2,h3⟩:=S.ow j d' h;exact⟨a,by rw[List.getElem?_set_ne (Ne.symm hj)];exact h1,h2.mono (fun o q=>s a o q) up,h3⟩
 ·by_cases hj:j=i
  ·subst hj
   rw[List.getElem?_set_self hi]at h;cases w<;>cases h
  ·rw[List.getElem?_set_ne (Ne.symm hj)]at h
   obtain⟨h0,a,h1,h2,h3,h4⟩:=S.mi j d' h;exact⟨h0,a,h1,by rw[List.getElem?_set_ne (Ne.symm hj)];exact h2,h3.mono (fun o q=>s a o q) up,h4⟩
 ·by_cases hj:j=i
  ·by_cases hk:k=i
   ·rw[hj,hk]
   ·subst hj
    have q1:=here a h1;obtain⟨o,q2⟩:=S.hidH (.inr ⟨k,old k a hk h2⟩);rw[q1]at q2;cases q2
  ·by_cases hk:k=i
   ·subst hk
    have q1:=here a h2;obtain⟨o,q2⟩:=S.hidH (.inr ⟨j,old j a hj h1⟩);rw[q1]at q2;cases q2
   ·exact S.apart j k a (old j a hj h1) (old k a hk h2)
theorem jC(i:Nat):∀b,Hid B σ (Z.share1 δ i) b->Hid B σ δ b:=fun b hb=>by
 rcases hb with hb | ⟨j,hb⟩
 ·exact .inl hb
 ·exact .inr ⟨j,(cB hb).1⟩
theorem mz(is:List Nat):∀{δ:Dst} (b:Addr),Hid B σ (Z.share δ is) b->Hid B σ δ b:=by
 induction is with
 | nil=>intro δ b h;exact h
 | cons i l ih=>intro δ b h;exact jC i b (ih b h)
theorem dX(o:Orc)(t:T):∀b,Hid B σ (Z.evF o δ t).1 b->Hid B σ δ b:=fun b hb=>by
 unfold Z.evF at hb;split at hb
 ·exact mz _ b hb
 ·exact hb
noncomputable def AfterS(X:Cx)(W:Wd)(me:Option Addr)(B:Addr->Prop)(G:Hp)(r:SO)(D:Ends):Prop:=match r with
 | .nx δ=>∀σ H,SR X W me B H σ δ->Same G (vis H (Hid B σ δ))->D.nx σ H
 | .bk δ=>∀σ H,SR X W me B H σ δ->Same G (vis H (Hid B σ δ))->D.bk σ H
 | .ct δ=>∀σ H,SR X W me B H σ δ->Same G (vis H (Hid B σ δ))->D.ct σ H
 | .rt w d δ=>∀v σ H,SR X W me B H σ δ->Same G (vis H (Hid B σ δ))->Res W B false X.H₀ H w d v->D.rt v H
 | .ex c δ=>∀pins σ H s,Inv X pins σ H s->SR X W me B H σ δ->Same G (vis H (Hid B σ δ))->∀a H' s' tr,Fly X H s (.ref (W.CT c)) a H' s' tr->Same H H'->X.xe (.ref a) s'
 | .stuck=>False
theorem AfterS.mono{G G':Hp}{r:SO}{D:Ends}(h:AfterS X W me B G r D)(e:Same G G'):AfterS X W me B G' r D:=by
 cases r with
 | nx δ=>exact fun σ H S s=>h σ H S (e.trans s)
 | bk δ=>exact fun σ H S s=>h σ H S (e.trans s)
 | ct δ=>exact fun σ H S s=>h σ H S (e.trans s)
 | rt w d δ=>exact fun v σ H S s=>h v σ H S (e.trans s)
 | ex c δ=>exact fun pins σ H s I S z=>h pins σ H s I S (e.trans z)
 | stuck=>exact h
noncomputable def tS(X:Cx)(W:Wd)(g:Dst->SO):TS:=fun D σ H=>∃me B δ,SR X W me B H σ δ/\AfterS X W me B (vis H (Hid B σ δ)) (g δ) D
theorem PSs.imp{X:Cx}{e:List Stmt}{t t':TS}(h:PSs X e t)(i:∀D σ H,t' D σ H->t D σ H):PSs X e t':=fun pins s σ H D I hw=>h pins s σ H D I (i D σ H hw)
theorem Jw(o:Orc):PSs X [] (tS X W (evSs o .nil)):=PSs.imp Gh fun D σ H ⟨me,B,δ,S,h⟩=>by
 simp only[evSs,AfterS]at h;exact h σ H S (Same.refl _)
theorem Ef{st:Stmt}{rest:List Stmt}{o:Orc}{s:S}{l:SL}(h1:PS X st (tS X W (evS o s)))(h2:PSs X rest (tS X W (evSs o l))):PSs X (st::rest) (tS X W (evSs o (.cons s l))):=by
 refine PSs.imp (yM h1 h2) fun D σ H ⟨me,B,δ,S,h⟩=>⟨me,B,δ,S,?_⟩
 simp only[evSs]at h
 cases e:evS o s δ with
 | nx δ1=>
   rw[e]at h
   exact fun σ' H' S' s'=>⟨me,B,δ1,S',AfterS.mono h s'⟩
 | rt w d δ1=>rw[e]at h;exact h
 | bk δ1=>rw[e]at h;exact h
 | ct δ1=>rw[e]at h;exact h
 | ex c δ1=>rw[e]at h;exact h
 | stuck=>rw[e]at h;exact h
theorem SO.of_ok{G:Hp}{α:Type}{δ:Dst}{r:R α}{k:α->SO}{D:Ends}(h:AfterS X W me B G (SO.of δ r k) D):∃a,r=.ok a/\AfterS X W me B G (k a) D:=by
 cases r with
 | ok a=>exact⟨a,rfl,h⟩
 | exc c=>exact h.elim
 | stuck=>exact h.elim
theorem cj{G:Hp}{x:Option SO}{D:Ends}(h:AfterS X W me B G (az x) D):∃r,x=some r/\AfterS X W me B G r D:=by
 cases x with
 | some a=>exact⟨a,rfl,h⟩
 | none=>exact h.elim
theorem gk{δ δ':Dst}{i:Nat}{w:Bool}{d:D}(h:setSlot δ i w d=some δ'):i<δ.length/\δ'=δ.set i (some (if w then .ow else .sh,d)):=by
 unfold setSlot at h;split at h
 ·exact⟨by assumption,(Option.some.inj h).symm⟩
 ·cases h
theorem Kh{i:Nat}{x:Str}{e:Expr}{o:Orc}{t:T}{pos pos':Pos}(hN:X.N.Nodup)(hi:X.N[i]?=some x)(hx:Loc X.env.scope x)(he:PE X e (tD X W false fun δ=>ev o δ false t))(hs:swapsWith e (some (.Name x pos')) pos.line X.env=pure false)
 (hf:X.fn x=true\/X.env.scope.names.lookup x=some .local):PS X (.Assign [.Name x pos'] e pos) (tS X W (evS o (.set i t))):=by
 refine PS.imp (JG hN hi hx he hs hf) fun D σ H ⟨me,B,δ,S,h⟩=>?_
 simp only[evS]at h;obtain⟨S1,e1⟩:=S.evF o t;obtain⟨r,e2,h⟩:=SO.of_ok h;obtain⟨q,e3,h⟩:=cj h
 cases e4:setSlot (evF o δ t).1 i r.1 r.2 with
 | none=>rw[e4]at e3;cases e3
 | some δ'=>
   rw[e4]at e3;cases e3;obtain⟨h1,rfl⟩:=gk e4;refine tD_iff.mpr ⟨me,B,_,S1,?_⟩;rw[<-e1,e2];intro v H' s q;obtain⟨S2,s2⟩:=S1.store s q h1;exact h _ _ S2 ((aC (dX o t)).trans s2)
theorem NK{c:Expr}{a b:List Stmt}{o:Orc}{t:T}{sa sb:SL}{pos:Pos}(hc:PT X c (tT X W fun δ=>ev o δ true t))(ha:PSs X a (tS X W (evSs o sa)))(hb:PSs X b (tS X W (evSs o sb))) :
 PS X (.If c a b pos) (tS X W (evS o (.ifs t sa sb))):=by
 refine PS.imp (Ij hc ha hb) fun D σ H ⟨me,B,δ,S,h⟩=>?_
 simp only[evS]at h;obtain⟨k,e,h⟩:=SO.of_ok h;refine⟨me,B,δ,S,?_⟩;rw[e];intro H' s
 cases k with
 | true=>exact⟨me,B,δ,S.mono s,AfterS.mono h (au s)⟩
 | false=>exact⟨me,B,δ,S.mono s,AfterS.mono h (au s)⟩
theorem KC{c:Expr}{a b:List Stmt}{o:Orc}{t:T}{sa sb:SL}{pos:Pos}(hc:PT X c (tT X W fun δ=>ev o δ true t))(ha:PSs X a (tS X W (evSs o sa)))(hb:PSs X b (tS X W (evSs o sb))):PS X (.If c a b pos) (tS X W (evS o (.ifq t sa sb))):=by
 refine PS.imp (Ij hc ha hb) fun D σ H ⟨me,B,δ,S,h⟩=>?_
 simp only[evS]at h;obtain⟨k,e,h⟩:=SO.of_ok h;have S1:=S.share (aP t);refine⟨me,B,_,S1,?_⟩;rw[e];intro H' s;have s1:=(aC (H:=H) (mz (B:=B) (σ:=σ) (δ:=δ) (aP t))).trans (au s)
 cases k with
 | true=>exact⟨me,B,_,S1.mono s,AfterS.mono h s1⟩
 | false=>exact⟨me,B,_,S1.mono s,AfterS.mono h s1⟩
theorem JX{e:Expr}{o:Orc}{t:T}{pos:Pos}(hv:∀i,t≠.var i)(he:PE X e (tD X W false fun δ=>ev o δ false t)):PS X (.Return (some e) pos) (tS X W (evS o (.ret t))):=by
 refine PS.imp (BP he) fun D σ H ⟨me,B,δ,S,h⟩=>?_
 have h':AfterS X W me B (vis H (Hid B σ δ)) (SO.of (evF o δ t).1 (evF o δ t).2 fun r=>.rt r.1 r.2 (evF o δ t).1) D:=by
  cases t<;>first | exact h | exact absurd rfl (hv _)
 obtain⟨S1,e1⟩:=S.evF o t;obtain⟨r,e2,h⟩:=SO.of_ok h';refine tD_iff.mpr ⟨me,B,_,S1,?_⟩;rw[<-e1,e2];intro v H' s q;refine h v σ H' (S1.mono s) ((aC (dX o t)).trans (au s)) ?_;unfold Res at q ⊢
 by_cases hw:r.1=true
 ·rw[if_pos hw]at q ⊢
  obtain⟨a,rfl,h0,q⟩:=q;refine⟨a,rfl,?_,q.mono (fun _ z=>z) (aC fun b hb=>hb.imp .inl id)⟩
  cases e:X.H₀ a with
  | none=>rfl
  | some o'=>
    by_cases hme:some a=me
    ·obtain⟨o',q⟩:=S.live a hme.symm
     rw[h0]at q;cases q
    ·rw[S.same a o' e hme]at h0;cases h0
 ·rw[if_neg hw]at q ⊢
  simp only[Bool.false_eq_true,if_false]at q ⊢;exact q.mono (aC fun b hb=>.inl hb)
theorem Ez{i:Nat}{x:Str}{o:Orc}{pos pos':Pos}(hN:X.N[i]?=some x)(hv:Vis X.env.scope x)(hd:(x==("__debug__":Str))=false)(hcd:(x==("__classdict__":Str))=false):PS X (.Return (some (.Name x pos')) pos) (tS X W (evS o (.ret (.var i)))):=by
 refine PS.imp (BP (jt hN hv hd hcd)) fun D σ H ⟨me,B,δ,S,h⟩=>?_
 simp only[evS]at h
 cases e:δ[i]? with
 | none=>simp only[e,AfterS]at h
 | some q=>
   cases q with
   | none=>simp only[e,AfterS]at h
   | some q=>
     obtain⟨w,d⟩:=q
     cases w with
     | sh=>
       simp only[e,AfterS]at h;obtain⟨v,h1,h2⟩:=S.sh i d e;exact⟨v,h1,h v σ H S (Same.refl _) (.shared (h2.mono (aC fun b hb=>.inl hb)))⟩
     | ow=>
       simp only[e,AfterS]at h;obtain⟨a,h1,h2,h3,h4⟩:=S.ow i d e;refine⟨_,h1,h _ σ H S (Same.refl _) ?_⟩;unfold Res;rw[if_pos rfl];refine⟨a,rfl,h3,h2.mono (fun _ z=>z) (aC fun b hb=>?_)⟩;rcases hb with hb | hb
       ·exact .inl hb
       ·rw[hb];exact .inr ⟨i,⟨.ow,d,e,by decide⟩,h1⟩
     | me=>simp only[e,AfterS]at h
end
end Z
namespace Z
open PySem PySem.Spec PyProof.Rows L2
section
variable{X:Cx}{W:Wd}{lk lk':Bool}{σ:L2.St}{H H1 H':Hp}{me:Option Addr}{B:Addr->Prop}{δ:Dst}{Q Q':VK}
theorem Ew{α:Type}{fa:Dst->R (Bool×D)}{g:Bool×D->R α}{C:R α->Hp->Prop}(S:SR X W me B H σ δ)(h:C ((fa δ).bind g) H)(mono:∀r H1,Same H H1->C r H->C r H1)(hx:∀c,C (.exc c) H->EW X W σ H c)(hs:¬C .stuck H) :
 tD X W lk' fa σ H fun v H1=>∃r,fa δ=.ok r/\SR X W me B H1 σ δ/\Same H H1/\RepT W H1 (vis H1 (Hid B σ δ)) r.2 v/\Res W (Hid B σ δ) lk' H H1 r.1 r.2 v/\C (g r) H1:=by
 refine tD_iff.mpr ⟨me,B,δ,S,?_⟩
 cases e:fa δ with
 | ok r=>
   rw[e]at h;intro v H1 s q;exact⟨r,rfl,S.mono s,s,q.look,q,mono _ _ s h⟩
 | exc c=>rw[e]at h;exact hx c h
 | stuck=>rw[e]at h;exact hs h
theorem PE.or{e:Expr}{t t':TE}(h:PE X e t)(h':PE X e t'):PE X e (fun σ H Q=>t σ H Q\/t' σ H Q):=by
 intro pins s σ H Q I q;rcases q with q | q
 ·exact h pins s σ H Q I q
 ·exact h' pins s σ H Q I q
noncomputable def RepTs(W:Wd)(H G:Hp):List D->List V->Prop
 | [],[]=>True
 | d::l,v::vs=>RepT W H G d v/\RepTs W H G l vs
 | _,_=>False
theorem RepTs.length{H G:Hp}:∀{l:List D} {vs:List V},RepTs W H G l vs->l.length=vs.length
 | [],[],_=>rfl
 | [],_::_,h=>by simp only[RepTs]at h
 | _::_,[],h=>by simp only[RepTs]at h
 | d::l,v::vs,h=>by
   simp only[RepTs]at h;simp[RepTs.length h.2]
noncomputable def AfterL(X:Cx)(W:Wd)(σ:L2.St)(H:Hp)(P:Addr->Prop)(r:R (Bool×List D))(Q:List V->Hp->Prop):Prop:=match r with
 | .ok r=>∀vs H',Same H H'->RepTs W H' (vis H' P) r.2 vs->(r.1=false->Reps W (vis H' P) r.2 vs)->Q vs H'
 | .exc c=>EW X W σ H c
 | .stuck=>False
noncomputable def tL(X:Cx)(W:Wd)(f:Dst->R (Bool×List D)):TA:=fun σ H Q=>∃me B δ,SR X W me B H σ δ/\AfterL X W σ H (Hid B σ δ) (f δ) Q
theorem AfterL.mono{P:Addr->Prop}{r:R (Bool×List D)}{Q:List V->Hp->Prop}(h:AfterL X W σ H P r Q)(e:Same H H1):AfterL X W σ H1 P r Q:=by
 unfold AfterL at h ⊢
 cases r with
 | ok r=>exact fun v H' s q=>h v H' (e.trans s) q
 | exc c=>exact h.mono e
 | stuck=>exact h
theorem tL.mono{f:Dst->R (Bool×List D)}{Q Q':List V->Hp->Prop}(h:tL X W f σ H Q)(k:∀v H',Q v H'->Q' v H'):tL X W f σ H Q':=by
 obtain⟨me,B,δ,S,h⟩:=h;refine⟨me,B,δ,S,?_⟩;unfold AfterL at h ⊢
 cases e:f δ with
 | ok r=>rw[e]at h;exact fun v H' s q q'=>k _ _ (h v H' s q q')
 | exc c=>rw[e]at h;exact h
 | stuck=>rw[e]at h;exact h
theorem pX{α:Type}{fa:Dst->R (Bool×List D)}{g:Bool×List D->R α}{C:R α->Hp->Prop}(S:SR X W me B H σ δ)(h:C ((fa δ).bind g) H)(mono:∀r H1,Same H H1->C r H->C r H1)(hx:∀c,C (.exc c) H->EW X W σ H c)(hs:¬C .stuck H) :
 tL X W fa σ H fun vs H1=>∃r,fa δ=.ok r/\SR X W me B H1 σ δ/\Same H H1/\RepTs W H1 (vis H1 (Hid B σ δ)) r.2 vs/\(r.1=false->Reps W (vis H1 (Hid B σ δ)) r.2 vs)/\C (g r) H1:=by
 refine⟨me,B,δ,S,?_⟩
 cases e:fa δ with
 | ok r=>
   rw[e]at h;intro vs H1 s q q';exact⟨r,rfl,S.mono s,s,q,q',mono _ _ s h⟩
 | exc c=>rw[e]at h;exact hx c h
 | stuck=>rw[e]at h;exact hs h
theorem Jl(o:Orc):PA X [] (tL X W fun δ=>evL o δ .nil):=PA.imp dw fun σ H Q ⟨me,B,δ,S,h⟩=>by
 simp only[evL,AfterL]at h
 exact h [] H (Same.refl H) (by simp only[RepTs]) fun _=>by simp only[Reps]
theorem Gz{e:Expr}{es:List Expr}{o:Orc}{t:T}{l:TL}(ha:∀lk,PE X e (tD X W lk fun δ=>ev o δ lk t))(hr:PA X es (tL X W fun δ=>evL o δ l))(hs:starEach (e::es) X.env=(false,eval e X.env)::starEach es X.env) :
 PA X (e::es) (tL X W fun δ=>evL o δ (.cons t l)):=by
 refine PA.imp (bQ (PE.or (ha true) (ha false)) hr hs) fun σ H Q ⟨me,B,δ,S,h⟩=>?_
 simp only[evL]at h
 have go:∀lk,bM δ t=lk->tD X W lk (fun δ=>ev o δ lk t) σ H fun x H1=>tL X W (fun δ=>evL o δ l) σ H1 fun xs H2=>Q (x::xs) H2:=by
  intro lk hlk;rw[hlk]at h
  refine tD.mono (Ew (fa:=fun δ=>ev o δ lk t) (C:=fun r H=>AfterL X W σ H (Hid B σ δ) r Q) S h (fun r H1 s q=>q.mono s) (fun c q=>q) (fun q=>q)) fun v H1 ⟨r1,e1,S1,s1,t1,q1,h1⟩=>?_
  refine tL.mono (pX (fa:=fun δ=>evL o δ l) (C:=fun r H=>AfterL X W σ H (Hid B σ δ) r Q) S1 h1 (fun r H1 s q=>q.mono s) (fun c q=>q) (fun q=>q)) fun vs H2 ⟨r2,e2,S2,s2,t2,q2,h2⟩=>?_
  refine h2 (v::vs) H2 (Same.refl _) ?_ fun hf=>?_
  ·simp only[RepTs]
   exact⟨t1.mono s2 (au s2),t2⟩
  ·simp only[Bool.or_eq_false_iff]at hf
   simp only[Reps];refine⟨?_,q2 hf.2⟩;rw[hf.1]at q1;exact(q1.keep S.know).mono (au s2)
 cases hlk:bM δ t with
 | true=>exact .inl (go true hlk)
 | false=>exact .inr (go false hlk)
noncomputable def spFn(W:Wd)(g:List D->R (Bool×D))(np:Nat):Sp:=fun vs H Q _=>vs.length=np/\∃B ds,Soft H B/\(∀b,B b->∃o,H b=some o)/\Reps W (vis H B) ds vs/\∃r,g ds=.ok r/\∀v H',Same H H'->Res W B false H H' r.1 r.2 v->Q v H'
theorem RepTs.lend{P:Addr->Prop}:∀{l:List D} {vs:List V} (us:List V),(∀v∈vs,v∈us)->RepTs W H (vis H P) l vs->Reps W (vis H fun b=>P b/\V.ref b∉us) l vs
 | [],[],_,_,_=>by simp only[Reps]
 | [],_::_,_,_,h=>by simp only[RepTs]at h
 | _::_,[],_,_,h=>by simp only[RepTs]at h
 | d::l,v::vs,us,hu,h=>by
   simp only[RepTs]at h;simp only[Reps];refine⟨?_,RepTs.lend us (fun v hv=>hu v (List.mem_cons_of_mem _ hv)) h.2⟩
   have up:Same (vis H P) (vis H fun b=>P b/\V.ref b∉us):=aC fun b hb=>hb.1
   have hv:v∈us:=hu v List.mem_cons_self
   have see:∀a o,v=.ref a->H a=some o->vis H (fun b=>P b/\V.ref b∉us) a=some o:=fun a o e h=>bN h fun z=>z.2 (e▸hv)
   cases d with
   | lst l=>
     obtain⟨a,xs,rfl,h1,h2⟩:=h.1;simp only[Rep];refine⟨a,xs,rfl,?_,h2.mono up⟩;rcases h1 with(h1 | ⟨o,h1⟩) | h1
     ·exact .inl (.inl (see a _ rfl h1))
     ·exact .inl (.inr ⟨o,see a _ rfl h1⟩)
     ·exact .inr h1
   | dct ks vs=>
     obtain⟨a,kvs,rfl,h1,h2,h3,h4⟩:=h.1;simp only[Rep];exact⟨a,kvs,rfl,h1.imp fun _ z=>see a _ rfl z,h2,h3,h4.mono up⟩
   | obj c ns vs=>
     obtain⟨a,dx,fs,rfl,h1,h2,h3⟩:=h.1;simp only[Rep];exact⟨a,dx,fs,rfl,see a _ rfl h1,h2,h3.mono up⟩
   | non=>exact Rep.mono up h.1
   | bl b=>exact Rep.mono up h.1
   | int i=>exact Rep.mono up h.1
   | str x=>exact Rep.mono up h.1
   | tup l=>exact Rep.mono up h.1
   | err c=>exact Rep.mono up h.1
theorem OwnAt.notImm{H G:Hp}{a:Addr}{d:D}(h:OwnAt W H G a d):d.imm=false:=by
 cases d<;>first | rfl | exact h.elim
theorem Hf{o:Orc}{f np:Nat}{vs:List V}{ds:List D}{br:Bool}{E:XK}(S:SR X W me B H σ δ)(hn:ds.length=np)(t:RepTs W H (vis H (Hid B σ δ)) ds vs)(q:br=false->Reps W (vis H (Hid B σ δ)) ds vs)
 (h:After X W lk σ H (Hid B σ δ) ((o.fn f ds).bind (lent br)) Q):spFn W (o.fn f) np vs H Q E:=by
 refine⟨by rw[<-t.length];exact hn,?_⟩
 cases e:o.fn f ds with
 | stuck=>rw[e]at h;exact h.elim
 | exc c=>rw[e]at h;exact h.elim
 | ok r=>
   rw[e]at h
   cases br with
   | false=>
     refine⟨Hid B σ δ,ds,S.softH,S.know,q rfl,r,e,fun v H' s z=>h v H' s ?_⟩;unfold Res at z ⊢
     by_cases hw:r.1=true
     ·rw[if_pos hw]at z ⊢;exact z
     ·rw[if_neg hw]at z ⊢
      simp only[Bool.false_eq_true,if_false]at z;split
      ·exact z.top aY
      ·exact z
   | true=>
     have h':After X W lk σ H (Hid B σ δ) (if r.2.imm then .ok r else .stuck) Q:=h
     by_cases him:r.2.imm=true
     ·rw[if_pos him]at h'
      refine⟨fun b=>Hid B σ δ b/\V.ref b∉vs,ds,fun a ha=>S.softH a ha.1,fun b hb=>S.know b hb.1,t.lend vs (fun v hv=>hv),r,e,fun v H' s z=>h' v H' s ?_⟩;unfold Res at z ⊢
      by_cases hw:r.1=true
      ·rw[if_pos hw]at z
       obtain⟨a,_,_,z⟩:=z;rw[z.notImm]at him;cases him
      ·rw[if_neg hw]at z ⊢
       simp only[Bool.false_eq_true,if_false]at z;have z':Rep W (vis H' (Hid B σ δ)) r.2 v:=(z.mono aY).imm (S.softH.mono S.know s) him;split
       ·exact z'.top aY
       ·exact z'
     ·rw[if_neg him]at h';exact h'.elim
theorem Kq{o:Orc}{f np k:Nat}{x:Str}{fa:Addr}{fd:FuncData}{ps:List Str}{e:Expr}{es:List Expr}{l:TL}{p pos:Pos}(hn:∀δ r,evL o δ l=.ok r->r.2.length=np)
 (F:FnOk X.prog X.w X.K X.mg X.base CX0 k fa fd ps (spFn W (o.fn f) np)) (hr:Room k X.A) (hg:Gl X x) (hm:X.mg x=some (.ref fa)) (hk:PySem.W.keepIn X.K (.ref fa)=true) (hb:Binds X.K fd ps [])
 (ha:PA X (e::es) (tL X W fun δ=>evL o δ l)) (hdb:(x==("__debug__":Str))=false) (he:starEach (e::es) X.env=(false,eval e X.env)::starEach es X.env) (hpl:(backTo pos (starEach es X.env)).any (·.1)=false) :
 PE X (.Call (.Name x p) (e::es) [] pos) (tD X W lk fun δ=>ev o δ lk (.call f l)):=by
 refine PE.imp (Gf F hr hg hm hk hb .nil xg ha hdb he hpl) fun σ H Q h=>?_
 obtain⟨me,B,δ,S,h⟩:=tD_iff.mp h;simp only[ev]at h
 refine tL.mono (pX (fa:=fun δ=>evL o δ l) (C:=fun r H=>After X W lk σ H (Hid B σ δ) r Q) S h (fun r H1 s q=>q.mono s) (fun c q=>q) (fun q=>q)) fun vs H1 ⟨r,e1,S1,s1,t1,q1,h1⟩=>?_
 rw[List.append_nil];exact Hf S1 (hn δ r e1) t1 q1 h1
variable{a b:Expr}{rest:List Expr}{pos:Pos}{fa fb:Dst->R (Bool×D)}
noncomputable def andD(x:D)(y:R (Bool×D)):R (Bool×D):=match x with
 | .bl true=>y.bind fun y=>bT y.2
 | .bl false=>.ok (false,.bl false)
 | _=>.stuck
noncomputable def orD(x:D)(y:R (Bool×D)):R (Bool×D):=match x with
 | .bl true=>.ok (false,.bl true)
 | .bl false=>y.bind fun y=>bT y.2
 | _=>.stuck
theorem yE{d:D}{r:Bool×D}(h:bT d=.ok r):∃b,d=.bl b/\r=(false,.bl b):=by
 cases d<;>simp only[bT]at h<;>first | (cases h;exact⟨_,rfl,rfl⟩) | cases h
theorem oF{G:Hp}{i:Bool}{x:V}(h:RepT W H G (.bl i) x):x=.bl i:=by simpa only[RepT,Rep]using h
theorem nY(S:SR X W me B H σ δ)(h:After X W lk σ H (Hid B σ δ) ((fb δ).bind fun y=>bT y.2) Q):tD X W true fb σ H Q:=by
 refine tD_iff.mpr ⟨me,B,δ,S,?_⟩
 cases e:fb δ with
 | ok r=>
   rw[e]at h;have h:After X W lk σ H (Hid B σ δ) (bT r.2) Q:=h
   cases e2:bT r.2 with
   | ok r'=>
     rw[e2]at h;obtain⟨b,e3,rfl⟩:=yE e2;intro v H' s q;have q':=q.look;rw[e3]at q';rw[oF q'];exact h _ H' s cH
   | exc c=>rw[e2]at h;exact False.elim h
   | stuck=>rw[e2]at h;exact False.elim h
 | exc c=>rw[e]at h;exact h
 | stuck=>rw[e]at h;exact h
theorem Nk(ha:PE X a (tD X W true fa))(hb:PE X (.BoolOp .And (b::rest) pos) (tD X W true fb)):PE X (.BoolOp .And (a::b::rest) pos) (tD X W lk fun δ=>(fa δ).bind fun x=>andD x.2 (fb δ)):=by
 refine PE.imp (Kw ha hb) fun σ H Q h=>?_
 obtain⟨me,B,δ,S,h⟩:=tD_iff.mp h
 refine tD.mono (part S h) fun v H1 ⟨r,e,S1,s1,t1,_,h1⟩=>?_
 cases e2:r.2 with
 | bl c=>
   rw[e2]at t1 h1;refine⟨c,oF t1,?_⟩
   cases c with
   | true=>exact nY S1 h1
   | false=>exact h1 _ H1 (Same.refl _) cH
 | _=>rw[e2]at h1;exact h1.elim
theorem d_or(ha:PE X a (tD X W true fa))(hb:PE X (.BoolOp .Or (b::rest) pos) (tD X W true fb)):PE X (.BoolOp .Or (a::b::rest) pos) (tD X W lk fun δ=>(fa δ).bind fun x=>orD x.2 (fb δ)):=by
 refine PE.imp (Nu ha hb) fun σ H Q h=>?_
 obtain⟨me,B,δ,S,h⟩:=tD_iff.mp h
 refine tD.mono (part S h) fun v H1 ⟨r,e,S1,s1,t1,_,h1⟩=>?_
 cases e2:r.2 with
 | bl c=>
   rw[e2]at t1 h1;refine⟨c,oF t1,?_⟩
   cases c with
   | false=>exact nY S1 h1
   | true=>exact h1 _ H1 (Same.refl _) cH
 | _=>rw[e2]at h1;exact h1.elim
theorem KR{op:BoolOp}(ha:PE X a (tD X W lk fa)):PE X (.BoolOp op [a] pos) (tD X W lk fa):=JL ha
theorem PW.imp{e:Expr}{t t':TT}(h:PW X e t)(i:∀σ H Q,t' σ H Q->t σ H Q):PW X e t':=fun w pins s σ H Q I hw=>h w pins s σ H Q I (i σ H Q hw)
theorem oM{d:D}{b:Bool}(h:(bT d).bind (fun x=>R.of (truth x.2))=.ok b):truth d=some b:=by
 cases d<;>simp only[bT,R.bind,truth,R.of]at h<;>first | (cases h;rfl) | cases h
theorem pL{d:D}{c:Nat}:(bT d).bind (fun x=>R.of (truth x.2))≠.exc c:=by
 cases d<;>simp[bT,R.bind,truth,R.of]
theorem jF{Q:Bool->Hp->Prop}(S:SR X W me B H σ δ)
 (h:match((fb δ).bind fun y=>bT y.2).bind (fun x=>R.of (truth x.2))with | .ok b=>∀H',Same H H'->Q b H' | .exc c=>EW X W σ H c | .stuck=>False):tT X W fb σ H Q:=by
 refine⟨me,B,δ,S,?_⟩
 cases e:fb δ with
 | ok r=>
   rw[e]at h;have h:(match(bT r.2).bind (fun x=>R.of (truth x.2))with | .ok b=>∀H',Same H H'->Q b H' | .exc c=>EW X W σ H c | .stuck=>False):=h;show(match R.of (truth r.2)with | .ok b=>∀H',Same H H'->Q b H' | .exc c=>EW X W σ H c | .stuck=>False)
   cases e2:(bT r.2).bind (fun x=>R.of (truth x.2))with
   | ok b=>rw[e2]at h;rw[oM e2];exact h
   | exc c=>exact absurd e2 pL
   | stuck=>rw[e2]at h;exact h.elim
 | exc c=>rw[e]at h;exact h
 | stuck=>rw[e]at h;exact h
theorem Jt(ha:PT X a (tT X W fa))(hb:PW X (.BoolOp .And (b::rest) pos) (tT X W fb)):PW X (.BoolOp .And (a::b::rest) pos) (tT X W fun δ=>(fa δ).bind fun x=>andD x.2 (fb δ)):=by
 refine PW.imp (Kd ha hb) fun σ H Q ⟨me,B,δ,S,h⟩=>⟨me,B,δ,S,?_⟩
 dsimp only at h
 cases e:fa δ with
 | ok r=>
   rw[e]at h;have h:(match(andD r.2 (fb δ)).bind (fun x=>R.of (truth x.2))with | .ok b=>∀H',Same H H'->Q b H' | .exc c=>EW X W σ H c | .stuck=>False):=h;show(match R.of (truth r.2)with | .ok b=>∀H',Same H H'->if b=true then tT X W fb σ H' Q else Q false H' | .exc c=>EW X W σ H c | .stuck=>False)
   cases e2:r.2 with
   | bl c=>
     rw[e2]at h
     cases c with
     | true=>
       intro H' s;refine jF (S.mono s) ?_;have h:(match((fb δ).bind fun y=>bT y.2).bind (fun x=>R.of (truth x.2))with | .ok b=>∀H',Same H H'->Q b H' | .exc c=>EW X W σ H c | .stuck=>False):=h
       cases e3:((fb δ).bind fun y=>bT y.2).bind (fun x=>R.of (truth x.2))with
       | ok b=>rw[e3]at h;exact fun H2 s2=>h H2 (s.trans s2)
       | exc c=>rw[e3]at h;exact h.elim
       | stuck=>rw[e3]at h;exact h
     | false=>exact fun H' s=>h H' s
   | _=>rw[e2]at h;exact h.elim
 | exc c=>rw[e]at h;exact h
 | stuck=>rw[e]at h;exact h
theorem Ls(ha:PT X a (tT X W fa))(hb:PW X (.BoolOp .Or (b::rest) pos) (tT X W fb)):PW X (.BoolOp .Or (a::b::rest) pos) (tT X W fun δ=>(fa δ).bind fun x=>orD x.2 (fb δ)):=by
 refine PW.imp (M4 ha hb) fun σ H Q ⟨me,B,δ,S,h⟩=>⟨me,B,δ,S,?_⟩
 dsimp only at h
 cases e:fa δ with
 | ok r=>
   rw[e]at h;have h:(match(orD r.2 (fb δ)).bind (fun x=>R.of (truth x.2))with | .ok b=>∀H',Same H H'->Q b H' | .exc c=>EW X W σ H c | .stuck=>False):=h;show(match R.of (truth r.2)with | .ok b=>∀H',Same H H'->if b=true then Q true H' else tT X W fb σ H' Q | .exc c=>EW X W σ H c | .stuck=>False)
   cases e2:r.2 with
   | bl c=>
     rw[e2]at h
     cases c with
     | false=>
       intro H' s;refine jF (S.mono s) ?_;have h:(match((fb δ).bind fun y=>bT y.2).bind (fun x=>R.of (truth x.2))with | .ok b=>∀H',Same H H'->Q b H' | .exc c=>EW X W σ H c | .stuck=>False):=h
       cases e3:((fb δ).bind fun y=>bT y.2).bind (fun x=>R.of (truth x.2))with
       | ok b=>rw[e3]at h;exact fun H2 s2=>h H2 (s.trans s2)
       | exc c=>rw[e3]at h;exact h.elim
       | stuck=>rw[e3]at h;exact h
     | true=>exact fun H' s=>h H' s
   | _=>rw[e2]at h;exact h.elim
 | exc c=>rw[e]at h;exact h
 | stuck=>rw[e]at h;exact h
theorem Ci{op:BoolOp}(ha:PT X a (tT X W fa)):PW X (.BoolOp op [a] pos) (tT X W fa):=by
 cases op with
 | And=>exact Gw ha
 | Or=>exact JT ha
end
end Z
namespace Z
open PySem PySem.Spec PyProof.Rows L2
section
variable{X:Cx}{W:Wd}{lk lk':Bool}{σ:L2.St}{H H1 H':Hp}{me:Option Addr}{B:Addr->Prop}{δ:Dst}{Q Q':VK}{a b:Expr}{pos p:Pos}{fa fb fc:Dst->R (Bool×D)}
noncomputable def Sem1(W:Wd)(r:List V->Hp->VK->Prop)(g:D->R (Bool×D)):Prop :=
 ∀(lk:Bool) (P:Addr->Prop) (H:Hp) (x:V) (dx:D) (Q:VK) (w:Bool) (d:D),Soft H P->(∀a,P a->∃o,H a=some o)->RepT W H (vis H P) dx x->g dx=.ok (w,d) ->
  (∀v H',Same H H'->Res W P lk H H' w d v->Q v H')->r [x] H Q
noncomputable def rC(g:D->R (Bool×D)):Prop:=∀x c,g x≠.exc c
theorem vH{r:List V->Hp->VK->Prop}{g:D->R (Bool×D)}(hs:Sem1 W r g)(hn:rC g){σ:L2.St}{H:Hp}{Q:VK}(h:tD X W lk (fun δ=>(fa δ).bind fun x=>g x.2) σ H Q) :
 tCB r (IW (tD X W true fa) tNil) σ H Q:=by
 obtain⟨me,B,δ,S,h⟩:=tD_iff.mp h
 refine tD.mono (part S h) fun v H1 ⟨r1,e1,S1,s1,t1,_,h1⟩=>?_
 show r [v] H1 Q
 cases e:g r1.2 with
 | ok r'=>
   rw[e]at h1;exact hs lk (Hid B σ δ) H1 v r1.2 Q r'.1 r'.2 S1.softH S1.know t1 e h1
 | exc c=>exact absurd e (hn _ _)
 | stuck=>rw[e]at h1;exact h1.elim
theorem d_b1{id:String}{x:Str}{r:List V->Hp->VK->Prop}{g:D->R (Bool×D)}(hc:CallR X (.builtin id) r)(hs:Sem1 W r g)(hn:rC g)(hg:Gl X x)(hm:X.mg x=none)(hv:bootBuiltins x=some (.builtin id))(ha:PE X a (tD X W true fa))
 (hx:x≠"__name__") (hdb:(x==("__debug__":Str))=false) (he:starEach [a] X.env=[(false,eval a X.env)]):PE X (.Call (.Name x p) [a] [] pos) (tD X W lk fun δ=>(fa δ).bind fun x=>g x.2) :=
 PE.imp (ik hc hg hm hv (bQ ha dw he) hx hdb he rfl) fun _ _ _ h=>vH hs hn h
theorem Nb{id:String}{x:Str}{r:List V->Hp->VK->Prop}{g:D->R (Bool×D)}(hc:CallR X (.type id) r)(hs:Sem1 W r g)(hn:rC g)(hg:Gl X x)(hm:X.mg x=none)(hv:bootBuiltins x=some (.type id))(ha:PE X a (tD X W true fa))
 (hx:x≠"__name__") (hdb:(x==("__debug__":Str))=false) (he:starEach [a] X.env=[(false,eval a X.env)]):PE X (.Call (.Name x p) [a] [] pos) (tD X W lk fun δ=>(fa δ).bind fun x=>g x.2) :=
 PE.imp (n6 hc hg hm hv (bQ ha dw he) hx hdb he rfl) fun _ _ _ h=>vH hs hn h
theorem gY(b:B1):rC (b1D b):=by
 intro x c
 cases b<;>simp only[b1D]<;>first
  | exact dJ
  | (cases x<;>simp[R.chk]<;>first | exact dJ | (split<;>simp) | skip)
theorem FW:Sem1 W (fun xs H Q=>∃i,xs=[.int i]/\Q (.int (if i<0 then -i else i)) H) (b1D .abs):=by
 intro lk P H x dx Q w d hS hK hx e k;cases dx<;>simp only[b1D]at e<;>cases e;exact⟨_,by rw[aO hx],k _ H (Same.refl H) dg⟩
theorem Gy(hk:W.K=X.K):Sem1 W (fun xs H Q=>((∃p ys,xs=[.ref p]/\(SqL X.K H p ys\/SqT X.K H p ys)/\Q (.int ys.length) H)\/(∃z,xs=[.str z]/\z.length<=sizeLine/\Q (.int z.length) H))\/(∃a kvs ep,xs=[V.ref a]/\H a=some (.dK kvs ep)/\Q (.int kvs.length) H)) (b1D .len):=by
 intro lk P H x dx Q w d hS hK hx e k;cases dx<;>simp only[b1D]at e<;>cases e
 ·obtain⟨rfl,hl⟩:=aV hx
  rename_i s;refine .inl (.inr ⟨_,rfl,by simpa[strV,Str.length,sizeLine_eq]using hl,?_⟩)
  have e1:((strV s).length:Int)=(s.length:Int):=by simp[strV,Str.length]
  rw[e1];exact k _ H (Same.refl H) dg
 ·simp only[RepT,Rep]at hx
  obtain⟨a,xs,rfl,h1,h2⟩:=hx;refine .inl (.inl ⟨a,xs,rfl,.inr (hk▸aL aY h1),?_⟩);rw[<-h2.length];exact k _ H (Same.refl H) dg
 ·obtain⟨a,xs,rfl,h1,h2⟩:=hx
  refine .inl (.inl ⟨a,xs,rfl,.inl (hk▸h1),?_⟩);rw[<-h2.length];exact k _ H (Same.refl H) dg
 ·obtain⟨a,kvs,rfl,⟨ep,h1⟩,h2,h3,h4⟩:=hx
  refine .inr ⟨a,kvs,ep,rfl,h1,?_⟩;have:=congrArg List.length h2;simp only[List.length_map]at this;rw[this];exact k _ H (Same.refl H) dg
theorem ig{α:Type}{n:Nat}{i:Int}{j:Nat}(h:place n i=some j):ixN n i=some j:=by
 unfold place at h;unfold ixN
 by_cases h0:0<=i
 ·rw[if_pos h0]at h ⊢;exact h
 ·rw[if_neg h0]at h ⊢
  by_cases h1:0<=i+n
  ·rw[if_pos h1]at h;rw[if_pos (by omega)];exact h
  ·rw[if_neg h1]at h;cases h
theorem tV:eY idxD:=by
 intro x y c
 cases x<;>cases y<;>simp only[idxD]<;>first | exact dJ | simp
theorem cZ{α β:Type}{x:Option Nat}{f:Nat->Option α}{g:α->β}{y:β}(h:(x.bind fun n=>(f n).map g)=some y):∃n z,x=some n/\f n=some z/\g z=y:=by
 cases x with
 | none=>cases h
 | some n=>
   cases e:f n with
   | none=>simp[e]at h
   | some z=>simp[e]at h;exact⟨n,z,rfl,e,h⟩
noncomputable def rIx(K:PySem.W.Frag):R2:=fun x y H Q=>(rIxL K x y H Q\/rIxT K x y H Q)\/rIxS x y H Q
theorem JN:IxR X (rIx X.K):=IxR.or (IxR.or CG JR) uC
noncomputable def jz(a i:D):R (Bool×D):=match a with
 | .dct _ _=>.stuck
 | _=>idxD a i
theorem Fe(hk:W.K=X.K):Sem2 W (rIx X.K) jz:=by
 intro lk P H x y dx dy Q w d hS hK hx hy e k
 cases dx<;>cases dy<;>first | exact nope e | exact eN e | simp only[jz,idxD]at e
 ·obtain⟨n,z,h1,h2,h3⟩:=cZ (of_ok e)
  cases h3;obtain⟨rfl,hl⟩:=aV hx;rename_i s j;refine .inr ⟨strV s,j,z,rfl,aO hy,by simpa[strV,Str.length,sizeLine_eq]using hl,?_,?_⟩
  ·unfold atI
   rw[ig (α:=Nat) (n:=(strV s).cps.toList.length) (by simpa[strV]using h1)];simpa[strV]using h2
  ·exact k _ H (Same.refl H) (p7 (i:=[z]) (by simp))
 ·obtain⟨n,z,h1,h2,h3⟩:=cZ (of_ok e)
  cases h3;simp only[RepT,Rep]at hx;obtain⟨a,xs,rfl,q1,q2⟩:=hx;obtain⟨v,e1,e2⟩:=q2.get h2;refine .inl (.inr ⟨a,xs,_,v,rfl,aO hy,hk▸aL aY q1,?_,k v H (Same.refl H) (.shared e2)⟩);unfold atI;rw[ig (α:=V) (by rw[<-q2.length];exact h1)];exact e1
 ·obtain⟨n,z,h1,h2,h3⟩:=cZ (of_ok e)
  cases h3;obtain⟨a,xs,rfl,q1,q2⟩:=hx;obtain⟨v,e1,e2⟩:=q2.get h2;refine .inl (.inl ⟨a,xs,_,v,rfl,aO hy,hk▸q1,?_,k v H (Same.refl H) (.shared e2)⟩);unfold atI;rw[ig (α:=V) (by rw[<-q2.length];exact h1)];exact e1
theorem ue(n:Nat)(d:Nat)(i:Int):HT.sIx n d (some i)=clip n i:=by
 unfold clip;show(if i<0 then(i+(n:Int)).toNat else min i.toNat n)=_
 by_cases h:0<=i
 ·rw[if_neg (by omega),if_pos h]
 ·rw[if_pos (by omega),if_neg h]
theorem By{α:Type}(l:List α)(p q:Nat):cut l p q=(l.drop p).take (q-p):=by
 unfold cut;rw[List.drop_take]
noncomputable def IsO(t:T)(e:Option Expr)(X:Cx)(W:Wd)(o:Orc):Prop:=(e=none/\t=.cst .non)\/∃e',e=some e'/\t≠.cst .non/\∀lk,PE X e' (tD X W lk fun δ=>ev o δ lk t)
noncomputable def tO(X:Cx)(W:Wd)(o:Orc)(t:T):TO:=fun σ H C=>∃me B δ,SR X W me B H σ δ/\match(ev o δ true t).bind (fun y=>R.of (bnd t y.2))with
 | .ok oi=>∀H',Same H H'->C oi H'
 | .exc c=>EW X W σ H c
 | .stuck=>False
theorem PO.imp{e:Option Expr}{t t':TO}(h:PO X e t)(i:∀σ H Q,t' σ H Q->t σ H Q):PO X e t':=fun pins s σ H Q I hw=>h pins s σ H Q I (i σ H Q hw)
theorem G9{t:T}{d:D}{oi:Option Int}(ht:t≠.cst .non)(h:bnd t d=some oi):∃i,d=.int i/\oi=some i:=by
 unfold bnd at h;split at h
 ·exact absurd rfl ht
 ·cases d<;>simp at h
  exact⟨_,rfl,h.symm⟩
theorem d_po{t:T}{e:Option Expr}{o:Orc}(h:IsO t e X W o):PO X e (tO X W o t):=by
 rcases h with⟨rfl,rfl⟩ | ⟨e',rfl,ht,h⟩
 ·refine PO.imp G7 fun σ H C ⟨me,B,δ,S,h⟩=>?_
  simp only[ev,R.bind,bnd,R.of]at h;exact h H (Same.refl H)
 ·refine PO.imp (Fy (h true)) fun σ H C ⟨me,B,δ,S,h⟩=>?_
  refine tD_iff.mpr ⟨me,B,δ,S,?_⟩
  cases e:ev o δ true t with
  | ok r=>
    rw[e]at h;have h:(match R.of (bnd t r.2)with | .ok oi=>∀H',Same H H'->C oi H' | .exc c=>EW X W σ H c | .stuck=>False):=h
    cases e2:bnd t r.2 with
    | none=>rw[e2]at h;exact h.elim
    | some oi=>
      rw[e2]at h;obtain⟨i,h1,rfl⟩:=G9 ht e2;intro v H' s q;have q':=q.look;rw[h1]at q';exact⟨i,aO q',h H' s⟩
  | exc c=>rw[e]at h;exact h
  | stuck=>rw[e]at h;exact h
theorem tO.mono{o:Orc}{t:T}{C C':Option Int->Hp->Prop}(h:tO X W o t σ H C)(k:∀oi H',C oi H'->C' oi H'):tO X W o t σ H C':=by
 obtain⟨me,B,δ,S,h⟩:=h;refine⟨me,B,δ,S,?_⟩
 cases e:(ev o δ true t).bind (fun y=>R.of (bnd t y.2))with
 | ok oi=>rw[e]at h;exact fun H' s=>k _ _ (h H' s)
 | exc c=>rw[e]at h;exact h
 | stuck=>rw[e]at h;exact h
theorem Mp{o:Orc}{t:T}{g:Bool×D->R (Bool×D)}{g':Option Int->R (Bool×D)}(hg:∀r,g r=(R.of (bnd t r.2)).bind g')(S:SR X W me B H σ δ)(h:After X W lk σ H (Hid B σ δ) ((ev o δ true t).bind g) Q) :
 tO X W o t σ H fun oi H1=>SR X W me B H1 σ δ/\Same H H1/\After X W lk σ H1 (Hid B σ δ) (g' oi) Q:=by
 refine⟨me,B,δ,S,?_⟩
 cases e:ev o δ true t with
 | ok r=>
   rw[e]at h;have h:After X W lk σ H (Hid B σ δ) (g r) Q:=h;rw[hg]at h;show(match R.of (bnd t r.2)with | .ok oi=>∀H',Same H H'->SR X W me B H' σ δ/\Same H H'/\After X W lk σ H' (Hid B σ δ) (g' oi) Q | .exc c=>EW X W σ H c | .stuck=>False)
   cases e2:bnd t r.2 with
   | none=>rw[e2]at h;exact h.elim
   | some oi=>rw[e2]at h;exact fun H' s=>⟨S.mono s,s,After.mono h s⟩
 | exc c=>rw[e]at h;exact h
 | stuck=>rw[e]at h;exact h
theorem Reps.cut{G:Hp}{l:List D}{vs:List V}(h:Reps W G l vs)(p q:Nat):Reps W G (cut l p q) (cut vs p q):=(h.take q).drop p
theorem gC{P:Addr->Prop}{q:Addr}{l:List D}{xs:List V}(hn:H q=none)(h:Reps W (vis H P) l xs)(hP:∀a,P a->∃o,H a=some o):Res W P lk H (upd H q (.lst xs)) true (.lst l) (.ref q):=by
 unfold Res;rw[if_pos rfl];refine⟨q,rfl,hn,xs,aW,h.mono fun b o e=>?_⟩;obtain⟨e1,e2⟩:=bD e;have hb:b≠q:=bJ e1 hn
 refine bN (by rw[aM hb];exact e1) fun z=>?_
 rcases z with z | z
 ·exact e2 z
 ·exact hb z
theorem il{P:Addr->Prop}{q:Addr}{l:List D}{xs:List V}(hn:H q=none)(h:Reps W (vis H P) l xs)(hP:∀a,P a->∃o,H a=some o):Res W P lk H (upd H q (.tup xs)) false (.tup l) (.ref q):=by
 refine .shared ?_;simp only[Rep]
 have nP:¬P q:=fun z=>by obtain⟨o,e⟩:=hP q z;rw[hn]at e;cases e
 refine⟨q,xs,rfl,.inl (.inl (bN aW nP)),h.mono fun b o e=>?_⟩;obtain⟨e1,e2⟩:=bD e;exact bN (by rw[aM (bJ e1 hn)];exact e1) e2
noncomputable def SemS(W:Wd)(r:V->Option Int->Option Int->Hp->VK->Prop)(g:D->Option Int->Option Int->Option (Bool×D)):Prop :=
 ∀(lk:Bool) (P:Addr->Prop) (H:Hp) (x:V) (dx:D) (lo hi:Option Int) (Q:VK) (w:Bool) (d:D),Soft H P->(∀a,P a->∃o,H a=some o)->RepT W H (vis H P) dx x->g dx lo hi=some (w,d) ->
  (∀v H',Same H H'->Res W P lk H H' w d v->Q v H')->r x lo hi H Q
theorem Ey{α β:Type}(x:Option α)(f:α->Option β):R.of (x.bind f)=(R.of x).bind fun a=>R.of (f a):=by cases x<;>rfl
theorem NQ{o:Orc}{tl th:T}{lo hi:Option Expr}{p2:Pos}{r:V->Option Int->Option Int->Hp->VK->Prop}{g:D->Option Int->Option Int->Option (Bool×D)}(hr:SlR X r)(hs:SemS W r g)(ha:PE X a (tD X W true fa))(hl:IsO tl lo X W o)(hh:IsO th hi X W o) :
 PE X (.Subscript a (.Slice lo hi none p2) pos) (tD X W lk fun δ=>(fa δ).bind fun x=>(ev o δ true tl).bind fun y=>(ev o δ true th).bind fun z=>.of ((bnd tl y.2).bind fun l=>(bnd th z.2).bind fun h=>g x.2 l h)):=by
 refine PE.imp (yG hr ha (d_po hl) (d_po hh)) fun σ H Q h=>?_
 obtain⟨me,B,δ,S,h⟩:=tD_iff.mp h
 refine tD.mono (part S h) fun v H1 ⟨r1,e1,S1,s1,t1,_,h1⟩=>?_
 refine⟨me,B,δ,S1,?_⟩
 cases e2:ev o δ true tl with
 | ok y=>
   rw[e2]at h1;have h1:After X W lk σ H1 (Hid B σ δ) ((ev o δ true th).bind fun z=>.of ((bnd tl y.2).bind fun l=>(bnd th z.2).bind fun h=>g r1.2 l h)) Q:=h1;show(match R.of (bnd tl y.2)with | .ok oi=>∀H',Same H1 H'->tO X W o th σ H' fun u H3=>r v oi u H3 Q | .exc c=>EW X W σ H1 c | .stuck=>False)
   cases e3:bnd tl y.2 with
   | none=>
     rw[e3]at h1
     cases e4:ev o δ true th with
     | ok z=>rw[e4]at h1;exact h1.elim
     | exc c=>rw[e4]at h1;exact h1.elim
     | stuck=>rw[e4]at h1;exact h1.elim
   | some l=>
     rw[e3]at h1;intro H2 s2;have h2:After X W lk σ H2 (Hid B σ δ) ((ev o δ true th).bind fun z=>.of ((bnd th z.2).bind fun h=>g r1.2 l h)) Q:=After.mono h1 s2
     refine tO.mono (Mp (g':=fun h=>R.of (g r1.2 l h)) (fun r=>Ey _ _) (S1.mono s2) h2) fun u H3 ⟨S3,s3,h3⟩=>?_
     cases e5:g r1.2 l u with
     | none=>rw[e5]at h3;exact h3.elim
     | some q=>
       rw[e5]at h3;exact hs lk (Hid B σ δ) H3 v r1.2 l u Q q.1 q.2 S3.softH S3.know (t1.mono (s2.trans s3) (au (s2.trans s3))) e5 h3
 | exc c=>rw[e2]at h1;exact h1.elim
 | stuck=>rw[e2]at h1;exact h1.elim
noncomputable def rSlS:V->Option Int->Option Int->Hp->VK->Prop:=fun x lo hi H Q=>∃z:Str,x=.str z/\z.length<=sizeLine/\Q (.str (PySem.Txt.slice z lo hi)) H
theorem K8:SlR X rSlS:=by
 intro pins s σ H x v vl vu lo hi sl Q I rx hs pl pu h;obtain⟨z,rfl,hz,q⟩:=h;obtain⟨t,rfl⟩:=rx;refine⟨"str",_,PySem.F.slot_str_getitem.lookup,typeIs_str _ _ _,?_⟩
 cases pl with
 | none=>
   cases pu with
   | none=>exact wpAny_getItem_str_slice (l:=none) (u:=none) (st:=none) hs rfl (post_val_or_str ⟨Nat.le_trans (PySem.Txt.slice_le z none none) hz,fun t' k=>⟨.str (PySem.Txt.slice z none none),H,I.tok _,⟨t',rfl⟩,q⟩⟩)
   | int j tj=>exact wpAny_getItem_str_slice (l:=none) (u:=some (j,tj)) (st:=none) hs rfl (post_val_or_str ⟨Nat.le_trans (PySem.Txt.slice_le z none (some j)) hz,fun t' k=>⟨.str (PySem.Txt.slice z none (some j)),H,I.tok _,⟨t',rfl⟩,q⟩⟩)
 | int i ti=>
   cases pu with
   | none=>exact wpAny_getItem_str_slice (l:=some (i,ti)) (u:=none) (st:=none) hs rfl (post_val_or_str ⟨Nat.le_trans (PySem.Txt.slice_le z (some i) none) hz,fun t' k=>⟨.str (PySem.Txt.slice z (some i) none),H,I.tok _,⟨t',rfl⟩,q⟩⟩)
   | int j tj=>exact wpAny_getItem_str_slice (l:=some (i,ti)) (u:=some (j,tj)) (st:=none) hs rfl (post_val_or_str ⟨Nat.le_trans (PySem.Txt.slice_le z (some i) (some j)) hz,fun t' k=>⟨.str (PySem.Txt.slice z (some i) (some j)),H,I.tok _,⟨t',rfl⟩,q⟩⟩)
theorem uC(l u:Option Int)(n:Nat):Builtin.Str.strSliceIndices l u 1 n=(List.range (bW n u-dM n l)).map fun k=>dM n l+k:=by
 have cl:∀i:Int,max 0 (min (if i<0 then i+(n:Int)else i) (n:Int))=((clip n i:Nat):Int):=fun i=>by
  unfold clip
  by_cases h:i<0
  ·rw[if_pos h,if_neg (by omega)];omega
  ·rw[if_neg h,if_pos (by omega)];omega
 have e:Builtin.Str.strSliceIndices l u 1 n=sliceRange (dM n l:Int) (bW n u:Int) 1:=by
  unfold Builtin.Str.strSliceIndices;cases l<;>cases u<;>simp only[show(1:Int)>0 by decide,if_true,cl,dM,bW]<;>rfl
 rw[e];generalize dM n l=p;generalize bW n u=q;unfold sliceRange;simp only[show(1:Int)>0 by decide,if_true]
 by_cases h:(p:Int)<q
 ·have:(((q:Int)-p+1-1)/1).toNat=q-p:=by rw[Int.ediv_one];omega
  rw[if_pos h,this]
  exact List.map_congr_left fun k _=>by omega
 ·rw[if_neg h,show q-p=0 by omega];rfl
theorem xj(x:List Nat)(l u:Option Int):PySem.Txt.slice (strV x) l u=strV (cut x (dM x.length l) (bW x.length u)):=by
 have hn:(strV x).length=x.length:=by simp[strV,Str.length]
 have hh:bW x.length u<=x.length:=by
  cases u with
  | none=>exact Nat.le_refl _
  | some i=>show clip x.length i<=x.length;unfold clip;split<;>omega
 unfold PySem.Txt.slice;rw[uC,hn,By];generalize dM x.length l=p;generalize bW x.length u=q at hh;split
 ·rename_i h
  simp only[BEq.rfl,Bool.true_and,beq_iff_eq,List.length_map,List.length_range]at h
  have hx:x.length=0\/(p=0/\q=x.length):=by omega
  rcases hx with hx | ⟨rfl,rfl⟩
  ·have:x=[]:=List.length_eq_zero_iff.mp hx
   subst this;simp
  ·simp
 ·congr 1
  by_cases hp:p<=q
  ·have:=PySem.StrLaws.picks x (q-p) p (by omega)
   simpa[strV]using congrArg List.toArray this
  ·rw[show q-p=0 by omega];simp
noncomputable def rSl(K:PySem.W.Frag):V->Option Int->Option Int->Hp->VK->Prop:=fun x lo hi H Q=>(rSlL K x lo hi H Q\/rSlT K x lo hi H Q)\/rSlS x lo hi H Q
theorem Hy:SlR X (rSl X.K):=SlR.or (SlR.or Gn Jb) K8
theorem Cm(n:Nat)(o:Option Int):HT.sIx n 0 o=dM n o:=by cases o with | none=>rfl | some i=>exact ue n 0 i
theorem xr(n:Nat)(o:Option Int):HT.sIx n n o=bW n o:=by cases o with | none=>rfl | some i=>exact ue n n i
theorem vA(xs:List V)(lo hi:Option Int):cutV xs lo hi=cut xs (dM xs.length lo) (bW xs.length hi):=by
 unfold cutV;rw[Cm,xr,By]
theorem CJ(hk:W.K=X.K):SemS W (rSl X.K) slcD:=by
 intro lk P H x dx lo hi Q w d hS hK hx e k
 cases dx<;>first | exact nope e | exact eN e | simp only[slcD]at e
 ·cases e
  obtain⟨rfl,hl⟩:=aV hx;refine .inr ⟨strV _,rfl,by simpa[strV,Str.length,sizeLine_eq]using hl,?_⟩;rw[xj];exact k _ _ (Same.refl _) (.shared (by simp only[Rep];exact⟨trivial,Nat.le_trans (by unfold cut;simp;omega) hl⟩))
 ·split at e
  ·cases e
  ·rename_i hne
   cases e;simp only[RepT,Rep]at hx;obtain⟨a,xs,rfl,q1,q2⟩:=hx;refine .inl (.inr ⟨a,xs,rfl,hk▸aL aY q1,?_,fun p hp=>?_⟩)
   ·rw[Cm,xr,<-q2.length];exact hne
   ·rw[vA,<-q2.length]
    exact k _ _ (Same.upd hp) (il hp (q2.cut _ _) hK)
 ·cases e
  obtain⟨a,xs,rfl,q1,q2⟩:=hx;refine .inl (.inl ⟨a,xs,rfl,hk▸q1,fun p hp=>?_⟩);rw[vA,<-q2.length];exact k _ _ (Same.upd hp) (gC hp (q2.cut _ _) hK)
noncomputable def cG:Ty->Option String
 | .int=>some "int"
 | .bool=>some "bool"
 | .str=>some "str"
 | .tup=>some "tuple"
 | .lst=>some "list"
 | .dct=>some "dict"
 | _=>none
end
end Z
namespace Z
open PySem PySem.Spec PyProof.Rows L2
section
variable{X:Cx}{W:Wd}{lk lk':Bool}{σ:L2.St}{H H1 H':Hp}{me:Option Addr}{B:Addr->Prop}{δ:Dst}{Q Q':VK}{a b:Expr}{pos p:Pos}{fa fb fc:Dst->R (Bool×D)}
noncomputable def TyS(K:PySem.W.Frag)(H:Hp)(x:V)(t:String):Prop:=match x with
 | .non=>t="NoneType"
 | .bl _=>t="bool"
 | .int _=>t="int"
 | .str _=>t="str"
 | .ref a=>(t="list"/\∃xs,SqL K H a xs)\/(t="tuple"/\∃xs,SqT K H a xs)\/(t="dict"/\∃kvs,IsK H a kvs)
 | _=>False
theorem Ha:CallR X (.builtin "isinstance") (fun xs H Q=>∃x T t b,xs=[x,.ty T]/\TyS X.K H x t/\PySem.W.kitOne X.K (.type t) (.type T)=some b/\Q (.bl b) H):=by
 intro pins s σ H xs us Q I r h;obtain⟨x,T,t,b,rfl,ty,e,q⟩:=h
 cases r with
 | cons rx r2=>
   cases r2 with
   | cons rT r3=>
     cases r3;cases (show _=Value.type T from rT)
     have fin:∀tk,EP X pins σ Q (.bool b) { s with toks:=tk }:=fun tk=>⟨.bl b,H,I.tok _,rfl,q⟩
     cases x with
     | non=>cases (show _=Value.none from rx);cases (show t="NoneType" from ty);exact PySem.W.kia_one PySem.W.kitx_none I.kIn True.intro e (fun z=>nomatch z) fin
     | bl y=>cases (show _=Value.bool y from rx);cases (show t="bool" from ty);exact PySem.W.kia_one PySem.W.kitx_bool I.kIn True.intro e (fun z=>nomatch z) fin
     | int i=>obtain⟨tk,q⟩:=(show ∃t,_=Value.int i t from rx);cases q;cases (show t="int" from ty);exact PySem.W.kia_one PySem.W.kitx_int I.kIn True.intro e (fun z=>nomatch z) fin
     | str y=>obtain⟨tk,q⟩:=(show ∃t,_=Value.str y t from rx);cases q;cases (show t="str" from ty);exact PySem.W.kia_one PySem.W.kitx_str I.kIn True.intro e (fun z=>nomatch z) fin
     | ref a=>
       cases (show _=Value.ref a from rx);rcases(show(t="list"/\∃xs,SqL X.K H a xs)\/(t="tuple"/\∃xs,SqT X.K H a xs)\/(t="dict"/\∃kvs,IsK H a kvs)from ty)with⟨rfl,xs,h⟩ | ⟨rfl,xs,h⟩ | ⟨rfl,kvs,ep,h⟩
       ·obtain⟨its,_,pl,_⟩:=I.list h
        obtain⟨o,ho,hc,_⟩:=pl.isList;exact PySem.W.kia_one PySem.W.kitx_list I.kIn ⟨o,ho,hc⟩ e (fun z=>nomatch z) fin
       ·obtain⟨its,_,pl,_⟩:=I.tuple h
        obtain⟨o,ho,hc,_⟩:=pl;exact PySem.W.kia_one PySem.W.kitx_tuple I.kIn ⟨o,ho,hc⟩ e (fun z=>nomatch z) fin
       ·obtain⟨_,_,vs,_,p⟩:=(show ObjOk X.prog X.w H s.heap a (.dK kvs ep)from I.hok a _ h)
        obtain⟨o,es,h1,h2,_⟩:=p;exact PySem.W.kia_one PySem.W.kitx_dict I.kIn ⟨o,h1,h2.1⟩ e (fun z=>nomatch z) fin
     | _=>exact(show False from ty).elim
noncomputable def subB(t T:String):Bool:=t==T||(t=="bool"&&T=="int")
theorem Dp(K:PySem.W.Frag):∀t∈["NoneType","bool","int","str","list","tuple","dict"],∀T∈["int","bool","str","tuple","list","dict"],PySem.W.kitOne K (.type t) (.type T)=some (subB t T):=by
 intro t ht T hT;simp only[List.mem_cons,List.not_mem_nil,or_false]at ht hT;rcases ht with rfl | rfl | rfl | rfl | rfl | rfl | rfl<;>rcases hT with rfl | rfl | rfl | rfl | rfl | rfl<;>(with_unfolding_all rfl)
theorem JW{ty:Ty}{T:String}(h:cG ty=some T):T∈["int","bool","str","tuple","list","dict"]:=by
 cases ty<;>simp[cG]at h<;>subst h<;>simp
theorem Jd{o:Orc}{ty:Ty}{T:String}{d:D}{b:Bool}{v:V}(hk:W.K=X.K)(hT:cG ty=some T)(h:RepT W H (vis H B) d v)(e:isD o ty d=some b):∃t,TyS X.K H v t/\t∈["NoneType","bool","int","str","list","tuple","dict"]/\subB t T=b:=by
 cases d with
 | non=>
   simp only[RepT,Rep]at h;subst h;refine⟨"NoneType",rfl,by simp,?_⟩;cases ty<;>simp[cG]at hT<;>subst hT<;>simp[isD]at e<;>subst e<;>rfl
 | bl x=>
   simp only[RepT,Rep]at h;subst h;refine⟨"bool",rfl,by simp,?_⟩;cases ty<;>simp[cG]at hT<;>subst hT<;>simp[isD]at e<;>subst e<;>rfl
 | int x=>
   simp only[RepT,Rep]at h;subst h;refine⟨"int",rfl,by simp,?_⟩;cases ty<;>simp[cG]at hT<;>subst hT<;>simp[isD]at e<;>subst e<;>rfl
 | str x=>
   obtain⟨rfl,_⟩:=aV h;refine⟨"str",rfl,by simp,?_⟩;cases ty<;>simp[cG]at hT<;>subst hT<;>simp[isD]at e<;>subst e<;>rfl
 | tup l=>
   simp only[RepT,Rep]at h;obtain⟨a,xs,rfl,h1,h2⟩:=h;refine⟨"tuple",.inr (.inl ⟨rfl,xs,hk▸aL aY h1⟩),by simp,?_⟩;cases ty<;>simp[cG]at hT<;>subst hT<;>simp[isD]at e<;>subst e<;>rfl
 | lst l=>
   obtain⟨a,xs,rfl,h1,h2⟩:=h;refine⟨"list",.inl ⟨rfl,xs,hk▸h1⟩,by simp,?_⟩;cases ty<;>simp[cG]at hT<;>subst hT<;>simp[isD]at e<;>subst e<;>rfl
 | dct ks vs=>
   obtain⟨a,kvs,rfl,h1,h2⟩:=h;refine⟨"dict",.inr (.inr ⟨rfl,kvs,h1⟩),by simp,?_⟩;cases ty<;>simp[cG]at hT<;>subst hT<;>simp[isD]at e<;>subst e<;>rfl
 | obj c ns vs=>cases ty<;>simp[cG]at hT<;>simp[isD]at e
 | err c=>cases ty<;>simp[cG]at hT<;>simp[isD]at e
theorem Ia{o:Orc}{ty:Ty}{T:String}{tn:Str}{p2:Pos}(hk:W.K=X.K)(hT:cG ty=some T)(hg:Gl X "isinstance")(hm:X.mg "isinstance"=none)(hg2:Gl X tn)(hm2:X.mg tn=none)(hv2:bootBuiltins tn=some (.type T))(hx2:tn≠"__name__")(hd2:(tn==("__debug__":Str))=false)
 (ha:PE X a (tD X W true fa)) (he:starEach [a,.Name tn p2] X.env=(false,eval a X.env)::starEach [.Name tn p2] X.env) :
 PE X (.Call (.Name "isinstance" p) [a,.Name tn p2] [] pos) (tD X W lk fun δ=>(fa δ).bind fun x=>.of ((isD o ty x.2).map fun t=>(false,.bl t))):=by
 refine PE.imp (ik Ha hg hm PyProof.Rows.boot_isinstance (bQ ha (bQ (Cu (v:=.ty T) hg2 hm2 hv2 rfl hx2 hd2) dw) he) (by decide) (by decide) he rfl) fun σ H Q h=>?_
 obtain⟨me,B,δ,S,h⟩:=tD_iff.mp h
 refine tD.mono (part S h) fun v H1 ⟨r1,e1,S1,s1,t1,_,h1⟩=>?_
 cases e:isD o ty r1.2 with
 | none=>rw[e]at h1;exact h1.elim
 | some b=>
   rw[e]at h1;obtain⟨t,h2,h3,h4⟩:=Jd hk hT t1 e;exact⟨v,T,t,b,rfl,h2,by rw[Dp _ t h3 T (JW hT),h4],h1 _ H1 (Same.refl _) cH⟩
noncomputable def TgOk(X:Cx)(W:Wd)(tg:Expr)(is:List Nat)(tup:Bool)(g:TG):Prop:=PG X tg g /\
 ∀{me:Option Addr} {B:Addr->Prop} {σ:L2.St} {H:Hp} {δ δ1:Dst} {d:D} {ds:List D} {v:V} {C:L2.St->Hp->Prop},SR X W me B H σ δ->Rep W (vis H (Hid B σ δ)) d v->takes is.length tup d=some ds->aJ δ is ds=some δ1 ->
  (∀σ1,SR X W me B H σ1 δ1->Same (vis H (Hid B σ δ)) (vis H (Hid B σ1 δ1))->C σ1 H)->g v σ H C
theorem xJ{i:Nat}{d:D}{v:V}{δ1:Dst}(S:SR X W me B H σ δ)(r:Rep W (vis H (Hid B σ δ)) d v)(e:setSlot δ i false d=some δ1):SR X W me B H (σ.set i (some v)) δ1/\Same (vis H (Hid B σ δ)) (vis H (Hid B (σ.set i (some v)) δ1)):=by
 obtain⟨h1,rfl⟩:=gk e;exact S.store (w:=false) (Same.refl H) (.shared r) h1
theorem CW{i:Nat}{x:Str}{pos:Pos}(hN:X.N.Nodup)(hi:X.N[i]?=some x)(hx:Loc X.env.scope x)(hf:X.fn x=true\/X.env.scope.names.lookup x=some .local):TgOk X W (.Name x pos) [i] false (tG i):=by
 refine⟨lB hN hi hx hf,fun{me B σ H δ δ1 d ds v C} S r e1 e2 k=>?_⟩;simp only[takes,Bool.false_eq_true,if_false,Option.some.injEq]at e1;subst e1;simp only[aJ]at e2
 cases e3:setSlot δ i false d with
 | none=>rw[e3]at e2;cases e2
 | some δ'=>
   rw[e3]at e2;cases e2;obtain⟨S1,s1⟩:=xJ S r e3;exact k _ S1 s1
noncomputable def dR:List Nat->TGs
 | []=>gNil
 | i::l=>Jj (tG i) (dR l)
theorem dW{C:L2.St->Hp->Prop}:∀{is:List Nat} {ds:List D} {vs:List V} {σ:L2.St} {δ δ1:Dst},SR X W me B H σ δ->Reps W (vis H (Hid B σ δ)) ds vs->aJ δ is ds=some δ1 ->
 (∀σ1,SR X W me B H σ1 δ1->Same (vis H (Hid B σ δ)) (vis H (Hid B σ1 δ1))->C σ1 H)->dR is vs σ H C
 | [],[],[],σ,δ,δ1,S,r,e,k=>by
   simp only[aJ,Option.some.injEq]at e;subst e;exact⟨rfl,k σ S (Same.refl _)⟩
 | [],[],_::_,_,_,_,_,r,_,_=>by simp only[Reps]at r
 | [],_::_,_,_,_,_,_,_,e,_=>by simp[aJ]at e
 | _::_,[],_,_,_,_,_,_,e,_=>by simp[aJ]at e
 | _::_,_::_,[],_,_,_,_,r,_,_=>by simp only[Reps]at r
 | i::is,d::ds,v::vs,σ,δ,δ1,S,r,e,k=>by
   simp only[Reps]at r;simp only[aJ]at e
   cases e3:setSlot δ i false d with
   | none=>rw[e3]at e;cases e
   | some δ'=>
     rw[e3]at e;obtain⟨S1,s1⟩:=xJ S r.1 e3;exact⟨v,vs,rfl,dW S1 (r.2.mono s1) e fun σ1 S2 s2=>k σ1 S2 (s1.trans s2)⟩
theorem Ip{es:List Expr}{is:List Nat}{kk:Nat}{pos:Pos}(hk:W.K=X.K)(hc:X.calm=true)(h:PGs X es (dR is))(hn:(assignEach es X.env).length=is.length)(hst:(assignEach es X.env).findIdx? (·.1)=none):TgOk X W (.Tuple es kk pos) is true (gTup X.K is.length (dR is)):=by
 refine⟨Cd hc h hn hst,fun{me B σ H δ δ1 d ds v C} S r e1 e2 k=>?_⟩;simp only[takes,if_true]at e1
 cases d with
 | tup l=>
   simp only at e1;split at e1
   ·rename_i hl
    cases e1;simp only[Rep]at r;obtain⟨a,xs,rfl,r1,r2⟩:=r;exact⟨a,xs,rfl,hk▸aL aY r1,by rw[<-r2.length];exact hl,dW S r2 e2 k⟩
   ·cases e1
 | _=>simp at e1
theorem PI.or{tg e:Expr}{t t':L2.TI}(h:PI X tg e t)(h':PI X tg e t'):PI X tg e (fun σ H R=>t σ H R\/t' σ H R):=by
 intro pins s σ H R I q;rcases q with q | q
 ·exact h pins s σ H R I q
 ·exact h' pins s σ H R I q
theorem PI.imp{tg e:Expr}{t t':L2.TI}(h:PI X tg e t)(i:∀σ H R,t' σ H R->t σ H R):PI X tg e t':=fun pins s σ H R I hw=>h pins s σ H R I (i σ H R hw)
noncomputable def cQ(ds:List D)(n:Nat):Dst:=ds.map (fun d=>some (Own.sh,d))++List.replicate n none
theorem cg{ds:List D}{n i:Nat}{w:Own}{d:D}(h:(cQ ds n)[i]?=some (some (w,d))):w=.sh/\ds[i]?=some d:=by
 unfold cQ at h
 by_cases hi:i<ds.length
 ·rw[List.getElem?_append_left (by simpa using hi),List.getElem?_map]at h
  cases e:ds[i]? with
  | none=>rw[e]at h;cases h
  | some x=>rw[e]at h;cases h;exact⟨rfl,rfl⟩
 ·rw[List.getElem?_append_right (by simpa using hi),List.getElem?_replicate]at h
  split at h<;>cases h
theorem jr{N:List Str}{vs:List V}{i:Nat}{v:V}(h:vs[i]?=some v):(L2.start N vs)[i]?=some (some v):=by
 unfold L2.start;have hi:i<vs.length:=(List.getElem?_eq_some_iff.mp h).1;rw[List.getElem?_append_left (by simpa using hi),List.getElem?_map,h]
 rfl
theorem SR.start{N:List Str}{ds:List D}{vs:List V}(hk:W.K=X.K)(h0:X.H₀=H)(hb:Soft H B)(hg:∀b,B b->∃o,H b=some o)(hr:Reps W (vis H B) ds vs)(hl:vs.length<=N.length) :
 SR X W none B H (L2.start N vs) (cQ ds (N.length-vs.length)):=by
 have hid:∀b,Hid B (L2.start N vs) (cQ ds (N.length-vs.length)) b->B b:=fun b hb=>by
  rcases hb with hb | ⟨i,⟨w,d,h1,h2⟩,_⟩
  ·exact hb
  ·exact absurd (cg h1).1 h2
 refine⟨hk,?_,fun i d h=>?_,fun i d h=>?_,fun i d h=>?_,fun i j a h1 _=>?_,fun b o h _=>by rw[<-h0];exact h,hb,hg,fun x h=>nomatch h⟩
 ·unfold L2.start cQ
  simp[hr.length]
 ·obtain⟨v,e1,e2⟩:=hr.get (cg h).2
  exact⟨v,jr e1,e2.mono (aC hid)⟩
 ·exact absurd (cg h).1 (by decide)
 ·exact absurd (cg h).1 (by decide)
 ·obtain⟨⟨w,d,h1,h2⟩,_⟩:=h1
  exact absurd (cg h1).1 h2
end
end Z
namespace Z
open PySem PySem.Spec PyProof.Rows L2
section
variable{X:Cx}{W:Wd}{me:Option Addr}{B:Addr->Prop}{H H':Hp}{σ:L2.St}{δ:Dst}{E:Value->Shared->Prop}{s s':Shared}{cls:Value}{a:Addr}{tr:Bool}
theorem SR.wish(S:SR X W me B H σ δ):SR (X.wish E) W me B H σ δ:=⟨S.kf,S.len,S.sh,S.ow,S.mi,S.apart,S.same,S.soft,S.gone,S.live⟩
theorem SR.unwish(S:SR (X.wish E) W me B H σ δ):SR X W me B H σ δ:=⟨S.kf,S.len,S.sh,S.ow,S.mi,S.apart,S.same,S.soft,S.gone,S.live⟩
theorem Fly.wish(F:Fly X H s cls a H' s' tr):Fly (X.wish E) H s cls a H' s' tr:=⟨F.os,F.bare,F.un,F.hok,F.newE,F.freeE,F.ff,F.fr,F.exc⟩
theorem Fly.unwish(F:Fly (X.wish E) H s cls a H' s' tr):Fly X H s cls a H' s' tr:=⟨F.os,F.bare,F.un,F.hok,F.newE,F.freeE,F.ff,F.fr,F.exc⟩
theorem PE.lift{e:Expr}{lk:Bool}{f:Dst->R (Bool×D)}(h:PE X.nox e (tD X.nox W lk f)):PE X e (tD X W lk f):=PE.imp (PE.nox h) fun σ H Q q=>by
 obtain⟨me,B,δ,S,q⟩:=tD_iff.mp q;exact tD_iff.mpr ⟨me,B,δ,S.wish,q⟩
theorem PT.lift{e:Expr}{f:Dst->R (Bool×D)}(h:PT X.nox e (tT X.nox W f)):PT X e (tT X W f):=PT.imp (PT.nox h) fun σ H Q ⟨me,B,δ,S,q⟩=>⟨me,B,δ,S.wish,q⟩
theorem PS.lift{st:Stmt}{g:Dst->SO}(h:PS X.nox st (tS X.nox W g))(hn:∀δ c δ',g δ≠.ex c δ'):PS X st (tS X W g):=by
 intro pins s σ H D I ⟨me,B,δ,S,q⟩
 refine wpAny_mono (h pins s σ H D (I.wish _) ⟨me,B,δ,S.wish,?_⟩) (fun _ _ q=>q.unwish) fun _ _ z=>False.elim z
 cases e:g δ with
 | nx δ1=>rw[e]at q;exact fun σ H S z=>q σ H S.unwish z
 | bk δ1=>rw[e]at q;exact fun σ H S z=>q σ H S.unwish z
 | ct δ1=>rw[e]at q;exact fun σ H S z=>q σ H S.unwish z
 | rt w d δ1=>rw[e]at q;exact fun v σ H S z=>q v σ H S.unwish z
 | ex c δ1=>exact absurd e (hn δ c δ1)
 | stuck=>rw[e]at q;exact q
theorem PSs.unw{st:List Stmt}{t:TS}(h:PSs (X.wish E) st t)(k:∀e s,E e s->X.xe e s):PSs X st t:=fun pins s σ H D I hw=>
 wpAny_mono (h pins s σ H D (I.wish _) hw) (fun _ _ q=>q.unwish) fun e s' z=>k e s' z
end
noncomputable def CXZ(P:Program)(w:World)(base:Heap)(W:Wd):CXT:=fun outer H s E e s'=>∃a c H',e=.ref a/\s'.os=s.os/\AllBare s'.gens/\Un (frs outer) [] H H' s.heap s'.heap/\HOk P w H' s'.heap/\s.heap.get? a=none/\H' a=none /\
 ExcAt s'.heap s.heap H' a (.ref (W.CT c)) true/\Same H H'/\E (.ref (W.CT c)) (some a) H'
noncomputable def spEx(W:Wd)(g:List D->R (Bool×D))(np:Nat):Sp:=fun vs H _ E=>vs.length=np/\∃B ds,Soft H B/\(∀b,B b->∃o,H b=some o)/\Reps W (vis H B) ds vs/\∃c,g ds=.exc c/\∀a H',Same H H'->E (.ref (W.CT c)) a H'
noncomputable def spB(W:Wd)(g:List D->R (Bool×D))(np:Nat):Sp:=fun vs H Q E=>spFn W g np vs H Q E\/spEx W g np vs H Q E
section
variable{P:Program}{w:World}{K:PySem.W.Frag}{mg:Str->Option Value}{base:Heap}{k:Nat}{f:Addr}{fd:FuncData}{ps:List Str}{W:Wd}{g:List D->R (Bool×D)}{np:Nat}
theorem ok0(F:FnOk P w K mg base (CXZ P w base W) k f fd ps (spB W g np)):FnOk P w K mg base CX0 k f fd ps (spFn W g np):=by
 refine⟨fun vs H Q E q=>F.len vs H Q E (.inl q),fun A outer s H args us vs Q E hr he hb hv hs=>?_⟩
 refine codeAny_mono (F.run A outer s H args us vs Q E0 hr he hb hv (.inl hs)) fun r s' q=>?_
 cases r with
 | ok fl=>cases fl<;>exact q
 | error e=>obtain⟨_,_,_,_,_,_,_,_,_,_,_,_,z⟩:=q;exact z.elim
end
section
variable{X:Cx}{W:Wd}{pins:List (Addr×Obj)}{σ:L2.St}{H H':Hp}{s s':Shared}
theorem Fly.of{a:Addr}{cls:Value}{tr:Bool}(I:Inv X pins σ H s)(os:s'.os=s.os)(bare:AllBare s'.gens)(un:Un (frs X.stack) [] H H' s.heap s'.heap)(hok:HOk X.prog X.w H' s'.heap)(n1:s.heap.get? a=none)(n2:H' a=none)(ex:ExcAt s'.heap s.heap H' a cls tr) :
 Fly X H s cls a H' s' tr:=by
 have fr0:=I.stkFree;have ff0:=I.stack;refine⟨os,bare,un,hok,n1,n2,?_,fun b hb=>?_,ex⟩
 ·have go:∀l:List Env,(∀b∈frs l,b∈frs X.stack)->s.heap.FunFrames X.base l->s'.heap.FunFrames X.base l:=by
   intro l
   induction l with
   | nil=>intro _ _;trivial
   | cons env r ih=>
     intro hs ⟨hk,⟨L,o,hf,hn,ho,hd⟩,hr⟩
     have e:frs (env::r)=L::frs r:=by unfold frs;rw[List.filterMap_cons,hf]
     rw[e]at hs;obtain⟨sl,q⟩:=un.slot L o ho (fr0 L (hs L List.mem_cons_self)) (hs L List.mem_cons_self) (by simp);exact⟨hk,⟨L,_,hf,hn,q,hd⟩,ih (fun b hb=>hs b (List.mem_cons_of_mem _ hb)) hr⟩
  exact go X.stack (fun _ z=>z) ff0
 ·obtain⟨_,o,ho,_⟩:=ff0.mem hb
  exact un.free b o ho (fr0 b hb) (by simp)
noncomputable def XEf(X:Cx)(W:Wd)(E:XK):Value->Shared->Prop:=fun e s'=>∃pins σ H1 s1 c a H' tr,e=.ref a/\Inv X pins σ H1 s1/\Same X.H₀ H1/\Fly X H1 s1 (.ref (W.CT c)) a H' s' tr/\Same H1 H'/\∀a' H'',Same X.H₀ H''->E (.ref (W.CT c)) a' H''
end
section
variable{P:Program}{w:World}{K:PySem.W.Frag}{mg:Str->Option Value}{base:Heap}{x qual:Str}{st:Stmt}{f:Addr}{fd:FuncData}{N ps:List Str}{k:Nat}{o:Orc}{W:Wd}{np ns:Nat}{body:SL}
noncomputable abbrev cxB(P:Program)(w:World)(K:PySem.W.Frag)(mg:Str->Option Value)(base:Heap)(W:Wd)(N:List Str)(qual:Str)(st:Stmt)(f:Addr)(cdv:Value)(A:Around)(outer:List Env)(s:Shared)(H:Hp)(E:XK):Cx:=cxOf (CXZ P w base W) P w K mg base N qual (ak st) f cdv A outer s H E
noncomputable abbrev cxX(P:Program)(w:World)(K:PySem.W.Frag)(mg:Str->Option Value)(base:Heap)(W:Wd)(N:List Str)(qual:Str)(st:Stmt)(f:Addr)(cdv:Value)(A:Around)(outer:List Env)(s:Shared)(H:Hp)(E:XK):Cx:=(cxB P w K mg base W N qual st f cdv A outer s H E).wish (XEf (cxB P w K mg base W N qual st f cdv A outer s H E) W E)
theorem qM{cdv:Value}{A:Around}{outer:List Env}{s:Shared}{H:Hp}{E:XK}{e:Value}{s':Shared}(h:XEf (cxB P w K mg base W N qual st f cdv A outer s H E) W E e s'):(cxB P w K mg base W N qual st f cdv A outer s H E).xe e s':=by
 obtain⟨pins,σ,H1,s1,c,a,H',tr,rfl,I,sm,F,sm',k⟩:=h
 have hX:Top (cxB P w K mg base W N qual st f cdv A outer s H E) s.heap.objs.size:=⟨rfl,rfl,I.ok.frames⟩
 refine tK (X:=cxB P w K mg base W N qual st f cdv A outer s H E) hX F fun h' F'=>?_
 have new:∀b,s1.heap.get? b=none->s.heap.get? b=none:=fun b hb=>by
  cases e:s.heap.get? b with
  | none=>rfl
  | some ob=>obtain⟨o',q⟩:=I.base.there b ob e (by exact List.not_mem_nil);rw[hb]at q;cases q
 have hfs:∀b o,s.heap.get? b=some o->b∉frs outer->b∉frs (cxB P w K mg base W N qual st f cdv A outer s H E).stack:=fun b ob e hb z=>by
  have z:b∈s.heap.objs.size::frs outer:=z;rcases List.mem_cons.mp z with z | z
  ·have:=Heap.lt_size e;rw[z]at this;exact absurd this (Nat.lt_irrefl _)
  ·exact hb z
 have un:Un (frs outer) [] H H' s.heap h':=by
  refine⟨fun b ob e n hb hx=>?_,fun b ob e n hb hx=>?_,fun b ob e n hx=>?_,fun b ob e hx=>?_,fun b xs e=>F'.un.tups b xs (I.base.tups b xs e),fun b ob u e=>F'.un.frzs b ob u (I.base.frzs b ob u e),fun b pq e=>?_⟩
  ·exact F'.un.keep b ob (I.base.keep b ob e n hb hx) (I.base.free b ob e n hx) (hfs b ob e hb) hx
  ·obtain⟨sl,q⟩:=I.base.slot b ob e n hb hx
   obtain⟨sl',q'⟩:=F'.un.slot b _ q (I.base.free b ob e n hx) (show b∈s.heap.objs.size::frs outer from List.mem_cons_of_mem _ hb) hx;exact⟨sl',q'⟩
  ·obtain⟨o',q⟩:=I.base.there b ob e hx
   exact F'.un.free b o' q (I.base.free b ob e n hx) hx
  ·obtain⟨o',q⟩:=I.base.there b ob e hx
   exact F'.un.there b o' q hx
  ·obtain⟨m1,q1⟩:=I.base.tbls b pq e
   obtain⟨m2,q2⟩:=F'.un.tbls b _ q1;exact⟨m1++m2,by rw[q2,Array.append_assoc]⟩
 obtain⟨oe,vs,x1,x2,x3,x4,x5⟩:=F'.exc;refine⟨a,c,H',rfl,F'.os.trans I.os,F'.bare,un,F'.hok,new a F'.newE,F'.freeE,⟨oe,vs,x1,x2,x3,x4,?_⟩,sm.trans sm',k (some a) H' (sm.trans sm')⟩;rcases x5 with⟨z,_⟩ | ⟨T,oT,ts,y1,y2,y3,y4⟩
 ·cases z
 ·exact .inr ⟨T,oT,ts,y1,y2,new T y3,y4⟩
theorem uG(F:Fun K x qual st f fd)(Sc:FnScope N ps (ak st))(hp:ps.length=np)(hn:N.length=ns)
 (hb:∀(cdv:Value) (A:Around) (outer:List Env) (s:Shared) (H:Hp) (E:XK),Room k (A.deeper (envOfC qual (ak st) s.heap.objs.size f cdv)) ->
  PSs (cxX P w K mg base W N qual st f cdv A outer s H E) (aH st) (tS (cxX P w K mg base W N qual st f cdv A outer s H E) W (evSs o body))) (hk:W.K=K) :
 FnOk P w K mg base (CXZ P w base W) (k+1) f fd ps (spB W (bG o ⟨np,ns,body⟩) np):=by
 obtain⟨oc,od,kV,doc,pm,an,cdv,ct,osl,rfl,lk,hcd⟩:=F.ex
 have hlen:∀vs H Q E,spB W (bG o ⟨np,ns,body⟩) np vs H Q E->vs.length=np:=fun vs H Q E q=>q.elim (·.1) (·.1)
 refine Ks lk hcd Sc (fun vs H Q E q=>by rw[hp];exact hlen vs H Q E q) fun A outer s H vs Q E hr hsp=>⟨tS (cxX P w K mg base W N qual st f cdv A outer s H E) W (evSs o body),PSs.unw (hb cdv A outer s H E hr) (fun e s' z=>qM z),?_⟩
 have hl:vs.length=np:=hlen vs H Q E hsp
 have hle:vs.length<=N.length:=by
  have:=congrArg List.length Sc.pre;rw[List.length_take]at this;omega
 have run:∀ds:List D,ds.length=vs.length->bG o ⟨np,ns,body⟩ ds=(match evSs o body (cQ ds (N.length-vs.length))with | .rt w d _=>R.ok (w,d) | .nx _=>.ok (false,.non) | .ex c _=>.exc c | _=>.stuck):=fun ds hd=>by
  unfold bG cQ;rw[if_pos (by rw[hd];exact hl),hn,hl]
  try rfl
 have same:∀{σ':L2.St} {H':Hp} {δ':Dst} {B:Addr->Prop},SR (cxX P w K mg base W N qual st f cdv A outer s H E) W none B H' σ' δ'->Same H H':=fun S' b o h=>S'.same b o h (by simp)
 rcases hsp with⟨_,B,ds,b1,b2,b3,r,e,k1⟩ | ⟨_,B,ds,b1,b2,b3,c,e,k1⟩
 ·refine⟨none,B,_,SR.start (N:=N) (by exact hk) rfl b1 b2 b3 hle,?_⟩
  rw[run ds b3.length]at e
  cases e2:evSs o body (cQ ds (N.length-vs.length))with
  | rt w d δ'=>
    rw[e2]at e;cases e
    exact fun v σ' H' S' _ q=>k1 v H' (same S') q
  | nx δ'=>
    rw[e2]at e;cases e
    exact fun σ' H' S' _=>k1 .non H' (same S') (.shared (by simp only[Rep]))
  | bk δ'=>rw[e2]at e;cases e
  | ct δ'=>rw[e2]at e;cases e
  | ex c δ'=>rw[e2]at e;cases e
  | stuck=>rw[e2]at e;cases e
 ·refine⟨none,B,_,SR.start (N:=N) (by exact hk) rfl b1 b2 b3 hle,?_⟩
  rw[run ds b3.length]at e
  cases e2:evSs o body (cQ ds (N.length-vs.length))with
  | rt w d δ'=>rw[e2]at e;cases e
  | nx δ'=>rw[e2]at e;cases e
  | bk δ'=>rw[e2]at e;cases e
  | ct δ'=>rw[e2]at e;cases e
  | stuck=>rw[e2]at e;cases e
  | ex c' δ'=>
    rw[e2]at e;cases e;intro pins σ' H1 s1 I S _ a H' s' tr Fl sm;exact⟨pins,σ',H1,s1,c,a,H',tr,rfl,I.unwish,same S,Fl.unwish,sm,k1⟩
theorem xN{cdv:Value}{A:Around}{outer:List Env}{s:Shared}{H:Hp}{E:XK}:PassesOwn (model P w) (cxX P w K mg base W N qual st f cdv A outer s H E).A (cxX P w K mg base W N qual st f cdv A outer s H E).env (cxX P w K mg base W N qual st f cdv A outer s H E).xe:=by
 intro e s' h;obtain⟨pins,σ,H1,s1,c,a,H',tr,rfl,I,sm,F,sm',k⟩:=id h
 have hX:Top (cxB P w K mg base W N qual st f cdv A outer s H E) s.heap.objs.size:=⟨rfl,rfl,I.ok.frames⟩
 refine wD (M:=model P w) (X:=cxB P w K mg base W N qual st f cdv A outer s H E) (P:=XEf (cxB P w K mg base W N qual st f cdv A outer s H E) W E) hX (fun e2 s2 h2=>?_) (.ref a) s' h;obtain⟨pins,σ,H1,s1,c,a,H',tr,rfl,I,sm,F,sm',k⟩:=h2;exact⟨H1,s1,_,a,H',tr,rfl,F,fun h' F'=>⟨pins,σ,H1,s1,c,a,H',true,rfl,I,sm,F',sm',k⟩⟩
end
section
variable{X:Cx}{W:Wd}{o:Orc}
end
end Z
namespace Z
open PySem PySem.Spec PyProof.Rows L2
variable{W:Wd}{X:Cx}
theorem kh{G:Hp}:∀{ks:List DK} {vs:List D} {kvs:List (Key×V)} {x:DK} {d:D},kvs.map (·.1)=ks.map keyV->Reps W G vs (kvs.map (·.2))->look ks vs x=some d->∃v,valV kvs (keyV x)=some v/\Rep W G d v
 | [],_,_,_,_,_,_,h=>by simp[look]at h
 | _::_,[],_,_,_,_,_,h=>by simp[look]at h
 | k::ks,d'::vs,[],_,_,e,_,_=>by simp at e
 | k::ks,d'::vs,(k',v')::kvs,x,d,e,r,h=>by
   simp only[List.map_cons,List.cons.injEq]at e;simp only[List.map_cons,Reps]at r;obtain⟨e1,e2⟩:=e;subst e1;simp only[look]at h
   by_cases hk:k=x
   ·subst hk
    rw[if_pos rfl]at h;cases h;exact⟨v',by simp[valV],r.1⟩
   ·rw[if_neg hk]at h
    obtain⟨v,h1,h2⟩:=kh e2 r.2 h;refine⟨v,?_,h2⟩
    have:¬keyV k=keyV x:=fun z=>hk (gZ z)
    simp only[valV]at h1 ⊢;rw[List.find?_cons_of_neg (by simp[this])];exact h1
theorem iW{G:Hp}:∀{ks:List DK} {vs:List D} {kvs:List (Key×V)} {x:DK},kvs.map (·.1)=ks.map keyV->Reps W G vs (kvs.map (·.2))->look ks vs x=none->valV kvs (keyV x)=none
 | [],_,[],_,_,_,_=>rfl
 | [],_,_::_,_,e,_,_=>by simp at e
 | _::_,_,[],_,e,_,_=>by simp at e
 | _::_,[],_::_,_,_,r,_=>by simp only[List.map_cons,Reps]at r
 | k::ks,d'::vs,(k',v')::kvs,x,e,r,h=>by
   simp only[List.map_cons,List.cons.injEq]at e;simp only[List.map_cons,Reps]at r;obtain⟨e1,e2⟩:=e;subst e1;simp only[look]at h
   by_cases hk:k=x
   ·subst hk;rw[if_pos rfl]at h;cases h
   ·rw[if_neg hk]at h
    have:=iW e2 r.2 h
    have hne:¬keyV k=keyV x:=fun z=>hk (gZ z)
    simp only[valV]at this ⊢;rw[List.find?_cons_of_neg (by simp[hne])];exact this
end Z
namespace Z
open PySem PySem.Spec PyProof.Rows L2
section
variable{X:Cx}{W:Wd}{lk lk':Bool}{σ:L2.St}{H H1 H':Hp}{me:Option Addr}{B:Addr->Prop}{δ:Dst}{Q Q':VK}{a b:Expr}{pos p:Pos}{fa fb fc:Dst->R (Bool×D)}
section
open PySem.SeqAt
open PySem.AutoSeq1 (wpAny_loadPart')
open MeetsSeq
theorem list_addW(l b:Addr)(items items2:Array Value)(n n2:Nat)(dd dd2:Option Addr)(sl sl2:Array (Option Value))(hc0:items.size+items2.size<=sizeLine) :
 Meets (Builtin.«list.__add__» ⟨[.ref l,.ref b],[]⟩) (fun _ R s=>s.heap.get? l=some { cls:=.type "list",dict:=dd,data:=.seq items n,slots:=sl }/\s.heap.get? b=some { cls:=.type "list",dict:=dd2,data:=.seq items2 n2,slots:=sl2 } /\
  R (.ok (.ret (Value.ref s.heap.objs.size))) { s with heap:=s.heap.push { cls:=Value.type "list",data:=Data.seq (items++items2) } }) :=
 .of_wp fun prog w A R s h=>by
  obtain⟨hp,g,d,tk,os⟩:=s;obtain⟨hl,hb,h⟩:=h;have f1:=PySem.AutoSeq1.idx_int;have f2:=PySem.AutoSeq1.sub_tuple_tuple;have f3:=PySem.AutoSeq1.sub_list_list;have f4:=PySem.AutoSeq1.sub_tuple_list;have f5:=PySem.AutoSeq1.sub_list_tuple
  wp_walk using wpAny_loadPart' hl,wpAny_loadPart' hb;exact⟨_,rfl,h⟩
end
noncomputable def HN(K:PySem.W.Frag):R2:=fun x y H Q=>∃l b xs zs,x=.ref l/\y=.ref b/\SqL K H l xs/\SqL K H b zs/\xs.length+zs.length<=sizeLine/\∀p,H p=none->Q (.ref p) (upd H p (.lst (xs++zs)))
theorem Hq:OpR X (binaryOp .Add) (HN X.K):=by
 intro pins s σ H x y v u Q I rx ry h;obtain⟨l,b,xs,zs,rfl,rfl,hH,hB,hz,q⟩:=h;cases rx;cases ry;obtain⟨its,r,⟨⟨cls,dd,data,sl⟩,n,ho,hc,_,hd⟩,z⟩:=I.list hH;obtain⟨its2,r2,⟨⟨cls2,dd2,data2,sl2⟩,n2,ho2,hc2,_,hd2⟩,z2⟩:=I.list hB;simp only at hc hd hc2 hd2;subst hc hd hc2 hd2;have l1:=r.length;have l2:=r2.length
 have ea:its.toArray++its2.toArray=(its++its2).toArray:=by simp
 refine concat_meets ⟨_,ho,rfl⟩ ⟨_,ho2,rfl⟩ noFill_list_add seq_list_add PySem.F.slot_list_add PySem.F.entry_list_add (PySem.F.args_list_add_2 _ _) (list_addW l b its.toArray its2.toArray n n2 dd dd2 sl sl2 (by rw[List.size_toArray,List.size_toArray];omega)) ⟨ho,ho2,?_⟩;rw[ea];exact⟨.ref _,_,I.lnew (t':=s.toks) (r.append r2) (by rw[List.length_append];omega),rfl,q _ I.fresh⟩
noncomputable def Bg(K:PySem.W.Frag):R2:=fun x y H Q=>∃a b ys,x=.ref a/\y=.ref b/\SqT K H a []/\SqT K H b ys/\Q (.ref b) H
theorem yh:OpR X (binaryOp .Add) (Bg X.K):=by
 intro pins s σ H x y v u Q I rx ry h;obtain⟨a,b,ys,rfl,rfl,ha,hb,q⟩:=h;cases rx;cases ry;obtain⟨its,r1,p1,_⟩:=I.tuple ha;obtain⟨its2,r2,p2,_⟩:=I.tuple hb;cases r1;obtain⟨⟨cls,dd,data,sl⟩,ho,hc,n,hd⟩:=id p1;obtain⟨⟨cls2,dd2,data2,sl2⟩,ho2,hc2,n2,hd2⟩:=id p2;simp only at hc hd hc2 hd2;subst hc hd hc2 hd2
 exact concat_meets ⟨_,ho,rfl⟩ ⟨_,ho2,rfl⟩ noFill_tuple_add seq_tuple_add PySem.F.slot_tuple_add PySem.F.entry_tuple_add (PySem.F.args_tuple_add_2 _ _)
  (tuple_addW0 a b _ its2.toArray n n2 dd dd2 sl sl2 (by simp)) ⟨ho,ho2,⟨.ref b,H,I,rfl,q⟩⟩
noncomputable def uf(K:PySem.W.Frag):R2:=fun x y H Q=>(((rI0 (fun i j=>.int (i+j)) x y H Q\/(∃i j,x=.str i/\y=.str j/\i.length+j.length<=sizeLine/\Q (.str (i++j)) H))\/HN K x y H Q)\/JV K x y H Q)\/Bg K x y H Q
theorem uO:OpR X (binaryOp .Add) (uf X.K):=OpR.or (OpR.or (OpR.or (OpR.or Jk sG) Hq) Hc) yh
theorem dj{n:Nat}(h:size n=true):n<=sizeLine:=by rw[sizeLine_eq];simpa[size]using h
theorem dZ(x y:List Nat):strV x++strV y=strV (x++y):=by
 show(⟨(strV x).cps++(strV y).cps⟩:Str)=_;simp[strV]
theorem ie(x:List Nat):(strV x).length=x.length:=by simp[strV,Str.length]
theorem GR(hk:W.K=X.K):Sem2 W (uf X.K) (o2 .add):=by
 intro lk P H x y dx dy Q w d hS hK hx hy e k
 cases dx<;>cases dy<;>first | exact nope e | exact eN e | simp only[o2]at e
 ·simp only[arith]at e
  cases e;exact .inl (.inl (.inl (.inl ⟨_,_,aO hx,aO hy,k _ H (Same.refl H) dg⟩)))
 ·obtain⟨h1,e⟩:=gH e
  cases e;obtain⟨rfl,l1⟩:=aV hx;obtain⟨rfl,l2⟩:=aV hy;refine .inl (.inl (.inl (.inr ⟨_,_,rfl,rfl,by rw[ie,ie];exact dj h1,?_⟩)));rw[dZ];exact k _ H (Same.refl H) (p7 (by rw[List.length_append];simpa[size]using h1))
 ·obtain⟨h1,e⟩:=gH e
  cases e;simp only[RepT,Rep]at hx hy;obtain⟨a,xs,rfl,q1,q2⟩:=hx;obtain⟨b,ys,rfl,p1,p2⟩:=hy
  have hz:xs.length+ys.length<=sizeLine:=by rw[<-q2.length,<-p2.length];exact dj h1
  by_cases hx:xs=[]
  ·subst hx
   have hl:_=[]:=List.eq_nil_of_length_eq_zero q2.length;refine .inr ⟨a,b,ys,rfl,rfl,hk▸aL aY q1,hk▸aL aY p1,k _ H (Same.refl H) (.shared ?_)⟩;simp only[Rep];rw[hl];exact⟨b,ys,rfl,p1,p2⟩
  ·refine .inl (.inr ⟨a,b,xs,ys,rfl,rfl,hk▸aL aY q1,hk▸aL aY p1,hx,hz,fun hy=>?_,fun _ p hp=>?_⟩)
   ·subst hy
    have hl:_=[]:=List.eq_nil_of_length_eq_zero p2.length;refine k _ H (Same.refl H) (.shared ?_);simp only[Rep];rw[hl,List.append_nil];exact⟨a,xs,rfl,q1,q2⟩
   ·exact k _ _ (Same.upd hp) (il hp (q2.append p2) hK)
 ·obtain⟨h1,e⟩:=gH e
  cases e;obtain⟨a,xs,rfl,q1,q2⟩:=hx;obtain⟨b,ys,rfl,p1,p2⟩:=hy;refine .inl (.inl (.inr ⟨a,b,xs,ys,rfl,rfl,hk▸q1,hk▸p1,by rw[<-q2.length,<-p2.length];exact dj h1,fun p hp=>?_⟩));exact k _ _ (Same.upd hp) (gC hp (q2.append p2) hK)
theorem u9{dx dy:D}{x y:V}{G:Hp}{t:Bool}(hx:RepT W H G dx x)(hy:RepT W H G dy y)(e:eqS dx dy=some t):scal x y=true/\decide (x=y)=t:=by
 cases dx<;>cases dy<;>first | exact nope e | exact eN e | simp only[eqS]at e
 all_goals simp only[Option.some.injEq]at e
 all_goals (first | (have hx:=(aV hx).1) | (simp only[RepT,Rep]at hx))
 all_goals (first | (have hy:=(aV hy).1) | (simp only[RepT,Rep]at hy))
 all_goals subst hx
 all_goals subst hy
 all_goals (refine⟨rfl,?_⟩;rw[<-e])
 all_goals first
  | simp
  | skip
 all_goals exact⟨fun h=>cW h,fun h=>by rw[h]⟩
theorem Ka:Sem2 W rEq (o2 .eq):=by
 intro lk P H x y dx dy Q w d hS hK hx hy e k;simp only[o2,eqA]at e
 cases e1:eqS dx dy with
 | none=>rw[e1]at e;cases e
 | some t=>
   rw[e1]at e;cases e;obtain⟨h1,h2⟩:=u9 hx hy e1;exact⟨h1,by rw[h2];exact k _ H (Same.refl H) cH⟩
theorem K4:Sem2 W rNe (o2 .ne):=by
 intro lk P H x y dx dy Q w d hS hK hx hy e k;simp only[o2,eqA]at e
 cases e1:eqS dx dy with
 | none=>rw[e1]at e;cases e
 | some t=>
   rw[e1]at e;cases e;obtain⟨h1,h2⟩:=u9 hx hy e1;exact⟨h1,by rw[h2];exact k _ H (Same.refl H) cH⟩
noncomputable def An:R2:=fun x y H Q=>rI0 (fun i j=>.bl (decide (i<j))) x y H Q\/(∃i j,x=.str i/\y=.str j/\Q (.bl (decide (i.cps.toList<j.cps.toList))) H)
theorem yP:OpR X (compareOp .Lt) An:=OpR.or M6 wk
theorem uQ:∀x y:List Nat,ltS x y=decide (x<y)
 | [],[]=>by simp[ltS]
 | [],b::y=>by simp[ltS]
 | a::x,[]=>by simp[ltS]
 | a::x,b::y=>by
   simp only[ltS,uQ x y,List.cons_lt_cons_iff]
   by_cases h1:a<b
   ·simp[h1]
   ·by_cases h2:b<a
    ·have:a≠b:=by omega
     simp[h1,h2,this]
    ·have:a=b:=by omega
     simp[this]
theorem J0:Sem2 W An (o2 .lt):=by
 intro lk P H x y dx dy Q w d hS hK hx hy e k
 cases dx<;>cases dy<;>first | exact nope e | exact eN e | simp only[o2]at e
 ·simp only[arith]at e
  cases e;exact .inl ⟨_,_,aO hx,aO hy,k _ H (Same.refl H) cH⟩
 ·cases e
  obtain⟨rfl,l1⟩:=aV hx;obtain⟨rfl,l2⟩:=aV hy;refine .inr ⟨_,_,rfl,rfl,?_⟩;rename_i sx sy
  have:decide ((strV sx).cps.toList<(strV sy).cps.toList)=ltS sx sy:=by rw[uQ];rfl
  rw[this];exact k _ H (Same.refl H) cH
end
end Z
namespace L2
open PySem PySem.Spec PyProof.Rows
theorem j8{α β:Type}{f:α->β->Sem (ForInStep β)}(step:α->β->β):∀(l:List α) (c:β),(∀x∈l,∀c,f x c=pure (.yield (step x c)))->forIn l c f=pure (l.foldl (fun c x=>step x c) c)
 | [],c,_=>rfl
 | x::l,c,h=>by
   rw[List.forIn_cons,h x List.mem_cons_self,pure_bind]
   exact j8 step l (step x c) fun y hy=>h y (List.mem_cons_of_mem _ hy)
noncomputable def bU(env:Env)(x:Str×NameKind)(c:List (Str×Addr)):List (Str×Addr):=if x.2=.free then(x.1,(env.cells.lookup x.1).getD 0)::c else c
noncomputable def cO(env:Env)(names:List (Str×NameKind)):List (Str×Addr):=names.foldl (fun c x=>bU env x c) []
theorem uw{scope:Scope}{env:Env}(h:∀y∈scope.names,y.2=.free->∃c,env.cells.lookup y.1=some c):closureFor scope env=pure (cO env scope.names):=by
 simp only[closureFor];rw[j8 (bU env) scope.names [] (fun x hx c=>?_)]
 ·rfl
 ·obtain⟨n,kind⟩:=x
  by_cases hk:kind=.free
  ·subst hk
   obtain⟨a,e⟩:=h _ hx rfl;simp only at e;simp[bU,cellOf,e]
  ·have hb:(kind==NameKind.free)=false:=by simpa using hk
   simp[bU,hb,hk]
theorem rK{env:Env}{p:Str×Addr}:∀(names:List (Str×NameKind)) (acc:List (Str×Addr)),p∈names.foldl (fun c x=>bU env x c) acc->p∈acc\/((p.1,NameKind.free)∈names/\p.2=(env.cells.lookup p.1).getD 0)
 | [],acc,h=>.inl h
 | (n,k)::r,acc,h=>by
   rcases rK r _ h with h | ⟨h1,h2⟩
   ·simp only[bU]at h
    split at h
    ·rename_i hk
     rcases List.mem_cons.mp h with e | h
     ·subst e
      exact .inr ⟨by subst hk;exact List.mem_cons_self,rfl⟩
     ·exact .inl h
    ·exact .inl h
   ·exact .inr ⟨List.mem_cons_of_mem _ h1,h2⟩
theorem rm{env:Env}{p:Str×Addr}:∀(names:List (Str×NameKind)) (acc:List (Str×Addr)),p∈acc->p∈names.foldl (fun c x=>bU env x c) acc
 | [],_,h=>h
 | (n,k)::r,acc,h=>by
   refine rm r _ ?_;simp only[bU];split
   ·exact List.mem_cons_of_mem _ h
   ·exact h
theorem qR{env:Env}{x:Str}:∀(names:List (Str×NameKind)) (acc:List (Str×Addr)),(x,NameKind.free)∈names->(x,(env.cells.lookup x).getD 0)∈names.foldl (fun c x=>bU env x c) acc
 | [],_,h=>by simp at h
 | (n,k)::r,acc,h=>by
   rcases List.mem_cons.mp h with e | h
   ·cases e
    refine rm r _ ?_;simp[bU]
   ·exact qR r _ h
theorem jK{α:Type}{x:Str}{c:α}:∀{l:List (Str×α)},(x,c)∈l->∃c',l.lookup x=some c'
 | [],h=>by simp at h
 | (y,d)::l,h=>by
   simp only[List.lookup_cons]
   cases e:(x==y)with
   | true=>exact⟨d,rfl⟩
   | false=>
     rcases List.mem_cons.mp h with z | z
     ·cases z;simp at e
     ·exact jK z
theorem cV{env:Env}{names:List (Str×NameKind)}(h:∀y∈names,y.2=.free->∃c,env.cells.lookup y.1=some c){x:Str}{c:Addr}(e:(cO env names).lookup x=some c):env.cells.lookup x=some c:=by
 have hm:=PySem.mem_of_lookup e;rcases rK names [] hm with z | ⟨h1,h2⟩
 ·simp at z
 ·obtain⟨a,e'⟩:=h _ h1 rfl
  simp only at e' h2;rw[e']at h2 ⊢;rw[h2];rfl
theorem rJ{env:Env}{names:List (Str×NameKind)}{x:Str}(h:(x,NameKind.free)∈names):∃c,(cO env names).lookup x=some c:=jK (qR names [] h)
theorem dU{scope:Scope}{env:Env}{x:Str}:(relabel scope env).names.lookup x=(scope.names.lookup x).map fun k=>if(k==.free&&env.scope.kind==.function&&env.kindOf x==some .cell)then .cell else k:=by
 show List.lookup x (scope.names.map fun(n,k)=>if(k==NameKind.free&&env.scope.kind==.function&&env.kindOf n==some .cell)then(n,NameKind.cell)else(n,k))=_
 induction scope.names with
 | nil=>rfl
 | cons p r ih=>
   obtain⟨n,k⟩:=p;rw[List.map_cons]
   by_cases hx:x=n
   ·subst hx
    by_cases hc:(k==NameKind.free&&env.scope.kind==.function&&env.kindOf x==some .cell)=true
    ·simp only[hc,if_true,List.lookup_cons,beq_self_eq_true,Option.map_some]
    ·simp only[hc,if_false,List.lookup_cons,beq_self_eq_true,Option.map_some,Bool.false_eq_true]
   ·have hb:(x==n)=false:=by simpa using hx
    have e:List.lookup x ((if(k==NameKind.free&&env.scope.kind==.function&&env.kindOf n==some .cell)=true then(n,NameKind.cell)else(n,k))::(r.map fun(n,k)=>if(k==NameKind.free&&env.scope.kind==.function&&env.kindOf n==some .cell)then(n,NameKind.cell)else(n,k))) =
     List.lookup x (r.map fun(n,k)=>if(k==NameKind.free&&env.scope.kind==.function&&env.kindOf n==some .cell)then(n,NameKind.cell)else(n,k)):=by
     split<;>simp only[List.lookup_cons,hb]
    simp only[List.lookup_cons,hb];exact e.trans ih
noncomputable def cxC(X:Cx)(scope:Scope)(N:List Str)(fp:List Addr)(pins:List (Addr×Obj))(s:Shared)(H:Hp):Cx :=
 { X with N:=N,s₀:=s,H₀:=H,env:=compEnvC scope (cO X.env scope.names) s.heap.objs.size X.env,outer:=X.stack,ex:=fp,fn:=fun _=>false,pn:=X.pn++pins }
structure Blk(scope:Scope):Prop where
 kind:scope.kind=.function
 nocell:∀y∈scope.names,y.2≠.cell
 loc:∀y∈scope.names,y.2=.local->scope.names.lookup y.1=some .local
 fre:∀y∈scope.names,y.2=.free->scope.names.lookup y.1=some .free
section
variable{X:Cx}{pins:List (Addr×Obj)}{σ:St}{H:Hp}{s:Shared}{scope:Scope}{N:List Str}{fp:List Addr}
theorem yc{σ':St}{h₁:Heap}{tk:Nat}(I:Inv X pins σ H s)(B:Blk scope)(hfr:∀y∈scope.names,y.2=.free->∃c,X.env.cells.lookup y.1=some c)(hf:∀b∈fp,FpOk X pins H b)(hob:∀b∈fp,∃o,s.heap.get? b=some o)
 (hns:∃m,h₁.Ns s.heap.objs.size m) (hkeep:∀b o,s.heap.get? b=some o->h₁.get? b=some o) (hl:σ'.length=N.length)
 (hσ:∀(i:Nat) (x:Str) (v:V),N[i]?=some x->σ'[i]?=some (some v)->scope.names.lookup x=some .free/\(X.env.scope.names.lookup x=some .cell\/X.env.scope.names.lookup x=some .free)/\∃j:Nat,X.N[j]?=some x/\σ[j]?=some (some v)) :
 Inv (cxC X scope N fp pins s H) [] σ' H { s with heap:=h₁,toks:=tk }:=by
 have lt:∀{b:Addr} {o:Obj},s.heap.get? b=some o->b≠s.heap.objs.size:=fun e=>Nat.ne_of_lt (Heap.lt_size e)
 have kd:∀x,((relabel scope X.env).names.lookup x=some .cell\/(relabel scope X.env).names.lookup x=some .free)->(x,NameKind.free)∈scope.names:=fun x hx=>by
  rw[dU]at hx
  cases e:scope.names.lookup x with
  | none=>rw[e]at hx;simp at hx
  | some k=>
    have hm:=PySem.mem_of_lookup e;rw[e]at hx;simp only[Option.map_some,Option.some.injEq]at hx
    cases k with
    | free=>exact hm
    | cell=>exact absurd rfl (B.nocell _ hm)
    | _=>simp at hx
 refine⟨⟨I.ok.mod,?_,I.ok.glob,I.ok.blt,Nat.le_refl _,fun x y c h1 h2=>I.ok.inj x y c (cV hfr h1) (cV hfr h2),fun x hx=>rJ (kd x hx),fun x c h=>(nomatch h),I.ok.hd,I.ok.frames,.inl rfl,fun b hb=>⟨?_,fun x c e=>?_⟩,I.bs,Nat.le_trans I.ok.bsz I.sz,fun b o e hb=>?_,fun b hb z=>?_,I.stack,I.stkFree⟩,
  rfl,I.bare,Un.kept hkeep,?_,fun x c e=>?_,I.hok.fresh (Nat.le_refl _),fun x c e=>I.freeC x c (cV hfr e),fun p hp=>?_,I.hok.kept hkeep,hl⟩
 ·exact B.kind
 ·obtain⟨o,e⟩:=hob b hb
  exact lt e
 ·exact(hf b hb).2.2.2.2.1 x c (cV hfr e)
 ·rcases(hf b hb).2.2.2.1 with z | z
  ·exact I.ok.noex b o e z
  ·exact absurd (Nat.lt_of_lt_of_le (Heap.lt_size (I.ok.bs b o e).1) z) (Nat.lt_irrefl _)
 ·obtain⟨_,f1,f2,_⟩:=hf b hb
  rcases List.mem_cons.mp (I.stkSub b z)with e | e
  ·exact f1 e
  ·exact f2 e
 ·obtain⟨m,hm⟩:=hns
  refine⟨m,hm,fun i x v h1 h2 h3=>?_⟩;obtain⟨k1,k2,j,j1,j2⟩:=hσ i x v h1 h2;obtain⟨m0,_,hl0⟩:=I.loc;obtain⟨u,r,q⟩:=hl0 j x v j1 j2 (k2.elim (fun z=>.inr (.inl z)) fun z=>.inr (.inr z));refine⟨u,r,.inr ⟨?_,?_⟩⟩
  ·show(relabel scope X.env).names.lookup x=some .cell\/(relabel scope X.env).names.lookup x=some .free
   rw[dU,k1];simp only[Option.map_some,Option.some.injEq];split
   ·exact .inl rfl
   ·exact .inr rfl
  ·rcases q with⟨q,_⟩ | ⟨_,c,e,z⟩
   ·have q:X.env.scope.names.lookup x=some .local:=q
    rcases k2 with k2 | k2<;>(rw[q]at k2;cases k2)
   ·obtain⟨c',e'⟩:=rJ (env:=X.env) (PySem.mem_of_lookup k1)
    have:=cV hfr e';rw[e]at this;cases this;obtain⟨o,ho,hd⟩:=z;exact⟨c,e',o,hkeep c o ho,hd⟩
 ·obtain⟨v,o,ho,hd⟩:=I.cell x c (cV hfr e)
  exact⟨v,o,hkeep c o ho,hd⟩
 ·have hp:p∈X.pn++pins:=by
   have hp:p∈(X.pn++pins)++[]:=hp
   rwa [List.append_nil]at hp
  obtain⟨e,n,ne,nf,d⟩:=I.pin p hp;exact⟨hkeep _ _ e,n,lt e,fun z=>(List.mem_cons.mp (I.stkSub _ z)).elim ne nf,d⟩
theorem yF{pins':List (Addr×Obj)}{σ':St}{H':Hp}{s':Shared}{h2:Heap}(I:Inv X pins σ H s)(hf:∀b∈fp,FpOk X pins H b)(J:Inv (cxC X scope N fp pins s H) pins' σ' H' s')(sb:Heap.SameBut s.heap.objs.size s'.heap h2):Inv X pins σ H' { s' with heap:=h2 }:=by
 have lt:∀{b:Addr} {o:Obj},s.heap.get? b=some o->b≠s.heap.objs.size:=fun e=>Nat.ne_of_lt (Heap.lt_size e)
 have U:Un (frs X.stack) fp H H' s.heap s'.heap:=J.base
 have U2:Un (frs X.stack) fp H H' s.heap h2:=by
  refine⟨fun b o e n hb hx=>(sb.2 b (lt e)).trans (U.keep b o e n hb hx),fun b o e n hb hx=>?_,U.free,fun b o e hx=>?_,U.tups,U.frzs,U.tbls⟩
  ·obtain⟨sl,q⟩:=U.slot b o e n hb hx
   exact⟨sl,(sb.2 b (lt e)).trans q⟩
  ·obtain⟨o',q⟩:=U.there b o e hx
   exact⟨o',(sb.2 b (lt e)).trans q⟩
 have hC:H' s.heap.objs.size=none:=J.free
 have hok:HOk X.prog X.w H' h2:=fun b ob e=>(J.hok b ob e).stay (fun c u hc q=>(sb.2 c (fun z=>by
  subst z;rcases hc with z | z
  ·rw[<-z,hC]at e;cases e
  ·rw[hC]at z;cases z)).trans q) (fun _ q=>q) fun _ _ q=>q
 have os:s'.os=s.os:=J.os
 have e:({ s' with heap:=h2 }:Shared)={ s with heap:=h2,gens:=s'.gens,drawn:=s'.drawn,toks:=s'.toks }:=by
  cases s';cases s;simp only at os;subst os
  rfl
 rw[e]
 exact I.call U2 hok J.bare fun b hb=>⟨(hf b hb).2.2.2.1,(hf b hb).2.1,(hf b hb).2.2.2.2.1,(hf b hb).2.2.2.2.2⟩
noncomputable abbrev tests(ifs:List Expr)(env:Env):Sem Bool:=forIn ifs true fun c r=>if r=true then do let ok <-isTrue c env (eval c env);pure (ForInStep.yield ok)else pure (ForInStep.yield r)
noncomputable abbrev fH:Value->Shared->Prop:=fun _ _=>False
theorem never{α:Type}{t:Sem α}{Q Q':α->Shared->Prop}{M:Model}{A:Around}{E:Value->Shared->Prop}{s:Shared}(h:wpAny M A t Q fH s)(hQ:∀a s,Q a s->Q' a s):wpAny M A t Q' E s:=wpAny_mono h hQ fun _ _ z=>z.elim
theorem xM{prog:Program}{w:World}{A:Around}{elt tg iter:Expr}{ifs:List Expr}{pos:Pos}{it acc:Value}{env:Env}{R:Result->Shared->Prop}(Iv:Nat->Shared->Prop)
 (turn:∀n s,Iv n s->wpAny (model prog w) A (pyNext it) (fun r s1=>match r with
  | none=>R (.ok .next) s1
  | some v=>wpAny (model prog w) A (letOwnedTupleGo tg it v) (fun _ s2=>wpAny (model prog w) A (assign tg env v) (fun _ s3=>wpAny (model prog w) A (tests ifs env) (fun ok s4=>
   if ok=true then wpAny (model prog w) A (eval elt env) (fun x s5=>wpAny (model prog w) A (call (.builtin "list.append") [acc,x]) (fun _ s6=>∃m,m<n/\Iv m s6) fH s5) fH s4
   else ∃m,m<n/\Iv m s4) fH s3) fH s2) fH s1) fH s)
 (n:Nat) (h:Iv n s):codeAny (model prog w) A (.compLoop (.ListComp elt [⟨tg,iter,ifs,0⟩] scope pos) 0 it acc env) R s:=by
 refine codeAny_loop rfl Iv (fun n s hI=>?_) n h;show wpAny _ A ((compTurn (.ListComp elt [⟨tg,iter,ifs,0⟩] scope pos) 0 it acc env).onRaise (fun e=>do noteFrame e env;theTreesLotGoes e)) _ _ s;refine wpAny_noted ?_;rw[compTurn_list];refine wpAny_bind (wpAny_standAt (wpAny_bind (never (turn n s hI) fun r s1 h1=>?_)))
 cases r with
 | none=>exact wpAny_pure h1
 | some v=>
   refine wpAny_bind (never h1 fun _ s2 h2=>wpAny_bind (never h2 fun _ s3 h3=>wpAny_bind (never h3 fun ok s4 h4=>?_)))
   cases ok with
   | false=>exact wpAny_pure ⟨rfl,h4⟩
   | true=>exact wpAny_bind (wpAny_bind (never h4 fun x s5 h5=>wpAny_bind (never h5 fun _ s6 h6=>wpAny_pure (wpAny_pure ⟨rfl,h6⟩))))
noncomputable def dh(σ:St)(m:Nat)(caps:List Nat):St:=List.replicate m none++caps.map fun i=>(σ[i]?).join
noncomputable def zP(wi:TI)(m:Nat)(caps:List Nat)(g:TG)(tc:Hp->TT)(te:Hp->TE):TE:=fun σ H Q=>wi σ H fun J H1=>∀D,H1 D=none->∃W:Nat->Nat->List V->St->Hp->Prop,(∃k,W 0 k [] (dh σ m caps) (upd H1 D (.lst []))) /\
 ∀i k ys σ' H',W i k ys σ' H'->(J.stop i H'/\Q (.ref D) H')\/(J.go i H'/\∀x H2,J.yld i H' x H2->g x σ' H2 fun σ3 H3=>tc (upd H1 D (.lst [])) σ3 H3 fun b H4=>
  if b=true then te (upd H1 D (.lst [])) σ3 H4 fun y H5=>H5 D=some (.lst ys)/\ys.length<sizeLine/\∃k',k'<k/\W (i+1) k' (ys++[y]) σ3 (upd H5 D (.lst (ys++[y])))else ∃k',k'<k/\W (i+1) k' ys σ3 H4)
noncomputable def PIf(X:Cx)(ifs:List Expr)(t:TT):Prop:=∀(pins:List (Addr×Obj)) (s:Shared) (σ:St) (H:Hp) (Q:Bool->Hp->Prop),Inv X pins σ H s->t σ H Q->wpAny (model X.prog X.w) X.A (tests ifs X.env) (TP X pins σ Q) X.xe s
theorem GZ:PIf X [] (fun _ H Q=>Q true H):=fun pins s σ H Q I h=>wpAny_pure ⟨H,I,h⟩
theorem Fg{c:Expr}{t:TT}(h:PT X c t):PIf X [c] t:=fun pins s σ H Q I q=>by
 unfold tests;simp only[List.forIn_cons,List.forIn_nil,if_true];exact wpAny_bind (wpAny_bind (thn (h pins s σ H Q I q) fun b s' hb=>wpAny_pure (wpAny_pure hb)))
theorem zL{σ:St}{i:Nat}{v:V}(h:(σ[i]?).join=some v):σ[i]?=some (some v):=by
 cases e:σ[i]? with
 | none=>rw[e]at h;cases h
 | some o=>rw[e]at h;simp at h;rw[h]
theorem Eh{m:Nat}{caps:List Nat}{i:Nat}{v:V}(h:(dh σ m caps)[i]?=some (some v)):∃j k:Nat,i=m+j/\caps[j]?=some k/\σ[k]?=some (some v):=by
 unfold dh at h
 by_cases hi:i<m
 ·rw[List.getElem?_append_left (by simpa using hi),List.getElem?_replicate]at h
  split at h<;>cases h
 ·rw[List.getElem?_append_right (by simpa using hi),List.length_replicate,List.getElem?_map]at h
  cases e:caps[i-m]? with
  | none=>rw[e]at h;cases h
  | some k=>
    rw[e]at h;exact⟨i-m,k,by omega,e,zL (Option.some.inj h)⟩
structure Caps(X:Cx)(scope:Scope)(N:List Str)(m:Nat)(caps:List Nat):Prop where
 len:N.length=m+caps.length
 see:∀(j k:Nat) (x:Str),caps[j]?=some k->N[m+j]?=some x->X.N[k]?=some x/\scope.names.lookup x=some .free/\(X.env.scope.names.lookup x=some .cell\/X.env.scope.names.lookup x=some .free)
 fre:∀y∈scope.names,y.2=.free->X.env.scope.names.lookup y.1=some .cell\/X.env.scope.names.lookup y.1=some .free
section
variable{elt tg iter:Expr}{ifs:List Expr}{pos:Pos}{wi:TI}{m:Nat}{caps:List Nat}{g:TG}{tc:Hp->TT}{te:Hp->TE}
theorem nG{use:Option (Value->Sem Unit)}{Q:VK}{Q':Value->Shared->Prop}(hx:X.xe=fH)(hc:X.calm=true)(B:Blk scope)(C:Caps X scope N m caps)(hi:PI X tg iter wi)
 (hg:∀fp pins s H,PG (cxC X scope N fp pins s H) tg g) (ht:∀fp pins s H,PIf (cxC X scope N fp pins s H) ifs (tc H)) (he:∀fp pins s H,PE (cxC X scope N fp pins s H) elt (te H))
 (hs:∀x,foldedSetIterable iter X.env x=pure x) (I:Inv X pins σ H s) (h:zP wi m caps g tc te σ H Q)
 (fin:∀(Cx':Addr) (D:Addr) (H':Hp) (s':Shared),(∃mm,s'.heap.Ns Cx' mm)->(∀h2,Heap.SameBut Cx' s'.heap h2->Inv X pins σ H' { s' with heap:=h2 })->FpOk X pins H' Cx'->Q (.ref D) H' ->
  compPost (model X.prog X.w) X.A X.xe use Q' (.ref D) Cx' (.ok .next) s') :
 wpAny (model X.prog X.w) X.A (comprehension (.ListComp elt [⟨tg,iter,ifs,0⟩] scope pos) scope X.env (firstIterPos [⟨tg,iter,ifs,0⟩] pos) (newList []) false (eval iter X.env) use) Q' X.xe s:=by
 have hfr:∀y∈scope.names,y.2=.free->∃c,X.env.cells.lookup y.1=some c:=fun y hy hk=>I.ok.has y.1 (C.fre y hy hk)
 refine wpAny_comprehension_free rfl hs (uw hfr) B.kind B.loc (thn (hi pins s σ H _ I h) fun v s1 h1=>thn h1 fun itv s2 h2=>?_);obtain⟨it,fp,tn,J,H2,rfl,I2,T,st2,f2,R⟩:=h2;refine wpAny_newObj_type ?_;have hD:H2 s2.heap.objs.size=none:=I2.fresh;have I3:=I2.lnew (its:=[]) (ys:=[]) (t':=s2.toks) .nil (Nat.zero_le _)
 have keep2:∀b o,s2.heap.get? b=some o->(s2.heap.push { cls:=.type "list",data:=.seq ([]:List Value).toArray }).get? b=some o:=fun b o e=>Heap.get?_push_of_some _ e
 have st3:=T.keep 0 _ _ st2 fun b _ o e=>keep2 b o e
 have nD:∀b∈fp,b≠s2.heap.objs.size:=fun b hb=>by
  obtain⟨o,e,_⟩:=T.obj 0 _ st2 b hb;exact Nat.ne_of_lt (Heap.lt_size e)
 have f3:∀b∈fp,FpOk X pins (upd H2 s2.heap.objs.size (.lst [])) b:=fun b hb=>⟨by rw[aM (nD b hb)];exact(f2 b hb).1,(f2 b hb).2⟩
 obtain⟨W,⟨k0,w0⟩,turn⟩:=R _ hD;generalize hD':s2.heap.objs.size=D at *;have e3:({ s2 with heap:=s2.heap.push { cls:=.type "list",data:=.seq ([]:List Value).toArray } }:Shared)={ s2 with heap:=s2.heap.push { cls:=.type "list",data:=.seq ([]:List Value).toArray },toks:=s2.toks }:=rfl;generalize hs3:({ s2 with heap:=s2.heap.push { cls:=.type "list",data:=.seq ([]:List Value).toArray },toks:=s2.toks }:Shared)=s3 at *
 have st3':tn 0 s3.heap:=by rw[<-hs3];exact st3
 show wpAny _ X.A (newFunctionEnv scope X.env.globals (cO X.env scope.names) [] X.env.qual none .none (some X.env)) _ _ _;rw[e3];refine wpAny_newFunctionEnv B.nocell (by intro y hy;simp at hy) (fun h₁ hns hsb=>?_) B.kind
 have hkeep:∀b o,s3.heap.get? b=some o->h₁.get? b=some o:=fun b o e=>hsb.extBut b o (Nat.ne_of_lt (Heap.lt_size e)) (Heap.get?_push_of_some _ e)
 have hob:∀b∈fp,∃o,s3.heap.get? b=some o:=fun b hb=>let⟨o,e,_⟩:=T.obj 0 _ st3' b hb;⟨o,e⟩
 have IC:Inv (cxC X scope N fp pins s3 (upd H2 D (.lst []))) [] (dh σ m caps) (upd H2 D (.lst [])) { s3 with heap:=h₁,toks:=s3.toks+([]:List (Str×Value)).length }:=by
  refine yc I3 B hfr f3 hob ⟨_,hns⟩ hkeep ?_ fun i x v h1 h2=>?_
  ·unfold dh
   rw[List.length_append,List.length_replicate,List.length_map,C.len]
  ·obtain⟨j,k,rfl,e1,e2⟩:=Eh h2
   obtain⟨q1,q2,q3⟩:=C.see j k x e1 h1;exact⟨q2,q3,k,q1,e2⟩
 have st4:tn 0 h₁:=T.keep 0 _ _ st3' fun b _ o e=>hkeep b o e
 have stat:∀{H':Hp},(∀b∈fp,H' b=none)->∀b∈fp,FpOk (cxC X scope N fp pins s3 (upd H2 D (.lst []))) [] H' b:=fun{H'} hn b hb=>by
  obtain⟨o,e⟩:=hob b hb;obtain⟨_,f1,f2,_,f4,f5⟩:=f3 b hb;refine⟨hn b hb,Nat.ne_of_lt (Heap.lt_size e),fun z=>?_,.inl hb,fun x c q=>f4 x c (cV hfr q),fun p hp=>f5 p ?_⟩
  ·exact(List.mem_cons.mp (I3.stkSub b z)).elim f1 f2
  ·have hp:p∈(X.pn++pins)++[]:=hp
   rwa [List.append_nil]at hp
 have Dfp:∀b∈fp,b≠D:=nD
 have loop:codeAny (model X.prog X.w) X.A (.compLoop (.ListComp elt [⟨tg,iter,ifs,0⟩] scope pos) 0 (.ref it) (.ref D) (compEnvC scope (cO X.env scope.names) s3.heap.objs.size X.env)) (compPost (model X.prog X.w) X.A X.xe use Q' (.ref D) s3.heap.objs.size) { s3 with heap:=h₁,toks:=s3.toks+([]:List (Str×Value)).length }:=by
  refine xM (fun n s'=>∃i ys σ' H',Inv (cxC X scope N fp pins s3 (upd H2 D (.lst []))) [] σ' H' s'/\tn i s'.heap/\(∀b∈fp,H' b=none)/\W i n ys σ' H') ?_ k0 ⟨0,[],_,_,IC,st4,fun b hb=>(f3 b hb).1,w0⟩
  rintro n s4 ⟨i,ys,σ4,H4,I4,st4,fr4,w4⟩
  rcases turn i n ys σ4 H4 w4 with⟨stop,qn⟩ | ⟨go,step⟩
  ·refine thn (T.done (cxC X scope N fp pins s3 (upd H2 D (.lst []))) rfl rfl rfl hc i [] s4 σ4 H4 fH I4 (stat fr4) st4 stop) fun r s5 ⟨hr,I5⟩=>?_
   subst hr;exact fin _ D H4 s5 (let⟨mm,hm,_⟩:=I5.loc;⟨mm,hm⟩) (fun h2 sb=>yF I3 f3 I5 sb) (I3.fpOk (Nat.le_refl _) I5.free) qn
  ·refine thn (T.item (cxC X scope N fp pins s3 (upd H2 D (.lst []))) rfl rfl rfl hc i [] s4 σ4 H4 fH I4 (stat fr4) st4 go) fun r s5 ⟨u,hr,h5⟩=>?_
   subst hr
   refine thn h5 fun _ s6 ⟨x,H6,I6,r6,y6,st6,fr6⟩=>?_
   have I6':=I6.pinned (stat fr6) (T.obj _ _ st6)
   have xn:∀{α:Type} {t:Sem α} {Q1:α->Shared->Prop} {s:Shared},wpAny (model X.prog X.w) X.A t Q1 X.xe s->wpAny (model X.prog X.w) X.A t Q1 fH s:=fun h=>by rw[hx]at h;exact h
   refine thn (xn (hg fp pins s3 _ _ s6 σ4 H6 x u _ I6' r6 (step x H6 y6))) fun _ s7 ⟨σ7,H7,I7,q7⟩=>?_
   refine thn (xn (ht fp pins s3 _ _ s7 σ7 H7 _ I7 q7)) fun ok s8 ⟨H8,I8,q8⟩=>?_
   have again:∀{H9:Hp} {s9:Shared} {ys':List V},Inv (cxC X scope N fp pins s3 (upd H2 D (.lst []))) ([]++lX fp s6.heap) σ7 H9 s9->(∃k',k'<n/\W (i+1) k' ys' σ7 H9) ->
    ∃k',k'<n/\∃i ys σ' H',Inv (cxC X scope N fp pins s3 (upd H2 D (.lst []))) [] σ' H' s9/\tn i s9.heap/\(∀b∈fp,H' b=none)/\W i k' ys σ' H':=fun{H9 s9 ys'} I9 w9=>by
    obtain⟨k',hk',w9⟩:=w9;refine⟨k',hk',i+1,ys',σ7,H9,I9.unpinned,T.keep _ _ _ st6 fun b hb o e=>(I9.pin (b,o) (List.mem_append_right _ (List.mem_append_right _ (dG hb e)))).1,fun b hb=>?_,w9⟩;obtain⟨o,e,d⟩:=T.obj _ _ st6 b hb;exact(I9.pin (b,o) (List.mem_append_right _ (List.mem_append_right _ (dG hb e)))).2.1
   cases ok with
   | false=>exact again I8 q8
   | true=>
     refine thn (xn (he fp pins s3 _ _ s8 σ7 H8 _ I8 q8)) fun yv s9 ⟨y,H9,I9,r9,hD9,hz9,q9⟩=>?_
     refine thn (xn (oh (X:=cxC X scope N fp pins s3 (upd H2 D (.lst []))) _ s9 σ7 H9 (.ref D) [y] (.ref D) [yv] (fun _ H'=>H'=upd H9 D (.lst (ys++[y]))) I9 rfl (.cons r9 .nil) ⟨D,ys,y,rfl,rfl,hD9,hz9,rfl⟩)) fun _ s10 ⟨_,H10,I10,_,e10⟩=>?_
     subst e10;exact again I10 q9
 exact codeAny_compStart_list loop (T.self _ 0 _ _ _ st4 loop)
theorem Gd(hx:X.xe=fH)(hc:X.calm=true)(B:Blk scope)(C:Caps X scope N m caps)(hi:PI X tg iter wi)(hg:∀fp pins s H,PG (cxC X scope N fp pins s H) tg g)(ht:∀fp pins s H,PIf (cxC X scope N fp pins s H) ifs (tc H))(he:∀fp pins s H,PE (cxC X scope N fp pins s H) elt (te H))
 (hs:∀x,foldedSetIterable iter X.env x=pure x):PE X (.ListComp elt [⟨tg,iter,ifs,0⟩] scope pos) (zP wi m caps g tc te):=by
 intro pins s σ H Q I h;rw[eval_ListComp]
 refine nG (use:=none) hx hc B C hi hg ht he hs I h fun C' D H' s' hn hb _ q=>?_
 obtain⟨mm,hm⟩:=hn;exact⟨mm,hm,fun h2 sb=>⟨.ref D,H',hb h2 sb,rfl,q⟩⟩
theorem t6{i:Nat}{x:Str}{px spos:Pos}(hx:X.xe=fH)(hc:X.calm=true)(B:Blk scope)(C:Caps X scope N m caps)(hi:PI X tg iter wi)(hg:∀fp pins s H,PG (cxC X scope N fp pins s H) tg g)(ht:∀fp pins s H,PIf (cxC X scope N fp pins s H) ifs (tc H))(he:∀fp pins s H,PE (cxC X scope N fp pins s H) elt (te H))
 (hs:∀x,foldedSetIterable iter X.env x=pure x) (hN:X.N.Nodup) (hix:X.N[i]?=some x) (hl:X.env.scope.names.lookup x=some .local) (hsw:swapsWith (.ListComp elt [⟨tg,iter,ifs,0⟩] scope pos) (some (.Name x px)) spos.line X.env=pure true) :
 PS X (.Assign [.Name x px] (.ListComp elt [⟨tg,iter,ifs,0⟩] scope pos) spos) (fun D σ H=>zP wi m caps g tc te σ H fun v H'=>D.nx (σ.set i (some v)) H'):=by
 intro pins s σ H D I h;rw[exec_Assign_Name_used _ _ _ _ hsw];refine wpAny_bind (wpAny_standAt (wpAny_bind ?_));show wpAny _ X.A (do let _ <-comprehension (.ListComp elt [⟨tg,iter,ifs,0⟩] scope pos) scope X.env (firstIterPos [⟨tg,iter,ifs,0⟩] pos) (newList []) false (eval iter X.env) (some (assign (.Name x px) X.env))) _ _ s;refine wpAny_bind (thn (nG (use:=some (assign (.Name x px) X.env)) (Q:=fun v H'=>D.nx (σ.set i (some v)) H') (Q':=fun _ s'=>SP X pins D .next s') hx hc B C hi hg ht he hs I h fun C' Da H' s' hn hb hf q=>?_) fun _ s' hq=>wpAny_pure (wpAny_pure hq));obtain⟨mm,hm⟩:=hn;obtain⟨f0,f1,f2,f3,f4,f5⟩:=hf;have I':Inv X pins σ H' s':=hb s'.heap (Heap.SameBut.refl _ _);show wpAny _ X.A (assign (.Name x px) X.env (.ref Da)) _ _ s';refine wpAny_assign_Name (lQ I' hN hix (.inl hl) (v:=.ref Da) rfl (fun s'' I'' ⟨a,sb,ha⟩=>?_) (.inr hl))
 have hca:C'≠a:=by
  rcases ha with e | e
  ·rw[e];exact f1
  ·exact fun z=>f4 x a e z.symm
 refine⟨mm,hm.sameBut sb hca,fun h2 sb2=>⟨_,H',?_,q⟩⟩;have:=I''.turned (it:=C') (h':=h2) (t':=s''.toks) (fun b o hb e=>(sb2.2 b hb).trans e) f0 f1 f3 f4 f5;exact this
end
end
end L2
namespace Z
open PySem PySem.Spec PyProof.Rows L2
section
variable{X:Cx}{W:Wd}{lk lk':Bool}{σ:L2.St}{H H1 H':Hp}{me:Option Addr}{B:Addr->Prop}{δ:Dst}{Q Q':VK}{a b:Expr}{pos p:Pos}{o:Orc}
theorem dm{P:Addr->Prop}{t:Bool}{x:R (Bool×D)}(h:After X W lk σ H P (R.chk t x) Q):t=true/\After X W lk σ H P x Q:=by
 cases t with
 | true=>exact⟨rfl,h⟩
 | false=>exact h.elim
theorem Lp{es:List Expr}{l:TL}{x1:Nat}(ha:PA X es (tL X W fun δ=>evL o δ l)):PE X (.Tuple es x1 pos) (tD X W lk fun δ=>ev o δ lk (.tup l)):=by
 refine PE.imp (JC ha) fun σ H Q h=>?_
 obtain⟨me,B,δ,S,h⟩:=tD_iff.mp h;simp only[ev]at h
 refine tL.mono (pX (fa:=fun δ=>evL o δ l) (C:=fun r H=>After X W lk σ H (Hid B σ δ) r Q) S h (fun r H1 s q=>q.mono s) (fun c q=>q) (fun q=>q)) fun vs H1 ⟨r,e1,S1,s1,t1,q1,h1⟩=>?_
 obtain⟨hc,h1⟩:=dm h1;simp only[Bool.and_eq_true,Bool.not_eq_true']at hc;have hr:=q1 hc.1;exact⟨by rw[<-hr.length];exact dj hc.2,fun p hp=>h1 _ _ (Same.upd hp) (il hp hr S1.know)⟩
theorem Mv{es:List Expr}{l:TL}(ha:PA X es (tL X W fun δ=>evL o δ l)):PE X (.List es pos) (tD X W lk fun δ=>ev o δ lk (.lst l)):=by
 refine PE.imp (Ir ha) fun σ H Q h=>?_
 obtain⟨me,B,δ,S,h⟩:=tD_iff.mp h;simp only[ev]at h
 refine tL.mono (pX (fa:=fun δ=>evL o δ l) (C:=fun r H=>After X W lk σ H (Hid B σ δ) r Q) S h (fun r H1 s q=>q.mono s) (fun c q=>q) (fun q=>q)) fun vs H1 ⟨r,e1,S1,s1,t1,q1,h1⟩=>?_
 obtain⟨hc,h1⟩:=dm h1;simp only[Bool.and_eq_true,Bool.not_eq_true']at hc;have hr:=q1 hc.1;exact⟨by rw[<-hr.length];exact dj hc.2,fun p hp=>h1 _ _ (Same.upd hp) (gC hp hr S1.know)⟩
theorem Mz{t:T}(ha:PE X a (tD X W true fun δ=>ev o δ true t)):PE X (.UnaryOp .USub a pos) (tD X W lk fun δ=>ev o δ lk (.neg t)):=by
 refine PE.imp (N7 Jg ha) fun σ H Q h=>?_
 obtain⟨me,B,δ,S,h⟩:=tD_iff.mp h;simp only[ev]at h
 refine tD.mono (part (fa:=fun δ=>ev o δ true t) S h) fun v H1 ⟨r,e,S1,s1,t1,_,h1⟩=>?_
 cases e2:r.2 with
 | int i=>
   rw[e2]at t1 h1;exact⟨i,aO t1,h1 _ H1 (Same.refl _) dg⟩
 | _=>rw[e2]at h1;exact h1.elim
theorem SR.plain(hk:W.K=X.K)(hl:σ.length=δ.length)(hsh:∀(i:Nat) (w:Own) (d:D),δ[i]?=some (some (w,d))->w=.sh/\∃v,σ[i]?=some (some v)/\Rep W (vis H B) d v)
 (same:∀b o,X.H₀ b=some o->some b≠me->H b=some o) (soft:Soft H B) (gone:∀b,B b->∃o,H b=some o) (live:∀x,me=some x->∃o,H x=some o):SR X W me B H σ δ:=by
 have hid:∀b,Hid B σ δ b->B b:=fun b hb=>by
  rcases hb with hb | ⟨i,⟨w,d,h1,h2⟩,_⟩
  ·exact hb
  ·exact absurd (hsh i w d h1).1 h2
 refine⟨hk,hl,fun i d h=>?_,fun i d h=>?_,fun i d h=>?_,fun i j a h1 _=>?_,same,soft,gone,live⟩
 ·obtain⟨_,v,e1,e2⟩:=hsh i _ d h
  exact⟨v,e1,e2.mono (aC hid)⟩
 ·exact absurd (hsh i _ d h).1 (by decide)
 ·exact absurd (hsh i _ d h).1 (by decide)
 ·obtain⟨⟨w,d,h1,h2⟩,_⟩:=h1
  exact absurd (hsh i w d h1).1 h2
theorem wM(hsh:∀(i:Nat) (w:Own) (d:D),δ[i]?=some (some (w,d))->w=.sh){b:Addr}:Hid B σ δ b↔B b:=by
 refine⟨fun hb=>?_,.inl⟩;rcases hb with hb | ⟨i,⟨w,d,h1,h2⟩,_⟩
 ·exact hb
 ·exact absurd (hsh i w d h1) h2
theorem je(hsh:∀(i:Nat) (w:Own) (d:D),δ[i]?=some (some (w,d))->w=.sh):vis H (Hid B σ δ)=vis H B:=by
 have:Hid B σ δ=B:=funext fun b=>propext (wM hsh)
 rw[this]
theorem mH(S:SR X W me B H σ δ):∀{caps:List Nat} {cs:List D},cA δ caps=some cs->∃vs:List V,caps.map (fun i=>(σ[i]?).join)=vs.map some/\RepTs W H (vis H (Hid B σ δ)) cs vs/\((caps.all fun i=>!isOwn δ i)=true->Reps W (vis H (Hid B σ δ)) cs vs)
 | [],cs,h=>by
   simp only[cA,Option.some.injEq]at h;subst h;exact⟨[],rfl,by simp only[RepTs],fun _=>by simp only[Reps]⟩
 | i::caps,cs,h=>by
   simp only[cA]at h
   cases e:sI δ i with
   | none=>rw[e]at h;cases h
   | some d=>
     rw[e]at h
     cases e2:cA δ caps with
     | none=>rw[e2]at h;cases h
     | some cs'=>
       rw[e2]at h;cases h;obtain⟨vs,h1,h2,h3⟩:=mH S e2
       have key:∃v,σ[i]?=some (some v)/\RepT W H (vis H (Hid B σ δ)) d v/\(isOwn δ i=false->Rep W (vis H (Hid B σ δ)) d v):=by
        unfold sI at e;split at e
        ·rename_i w d' ed
         cases e
         cases w with
         | sh=>obtain⟨v,q1,q2⟩:=S.sh i _ ed;exact⟨v,q1,q2.top aY,fun _=>q2⟩
         | ow=>obtain⟨a,q1,q2,_⟩:=S.ow i _ ed;exact⟨_,q1,q2.top,fun z=>by simp[isOwn,ed]at z⟩
         | me=>obtain⟨_,a,_,q1,q2,_⟩:=S.mi i _ ed;exact⟨_,q1,q2.top,fun z=>by simp[isOwn,ed]at z⟩
        ·cases e
       obtain⟨v,k1,k2,k3⟩:=key;refine⟨v::vs,by simp[k1,h1],?_,fun hall=>?_⟩
       ·simp only[RepTs];exact⟨k2,h2⟩
       ·simp only[List.all_cons,Bool.and_eq_true,Bool.not_eq_true']at hall
        simp only[Reps];exact⟨k3 hall.1,h3 hall.2⟩
structure Yields(J:It)(H2:Hp)(xs:List V):Prop where
 go:∀i H',Same H2 H'->i<xs.length->J.go i H'
 yld:∀i H' x H'',Same H2 H'->i<xs.length->J.yld i H' x H''->H''=H'/\xs[i]?=some x
 stop:∀H',Same H2 H'->J.stop xs.length H'
theorem p6{K:PySem.W.Frag}{H2:Hp}{c:Addr}{xs:List V}(h:SqL K H2 c xs):Yields (Itl K c) H2 xs where
 go:=fun i H' s hi=>⟨xs,xs[i],s.seq h,by simp[hi]⟩
 yld:=fun i H' x H'' s _ ⟨e,y⟩=>⟨e,y xs (s.seq h)⟩
 stop:=fun H' s=>⟨xs,s.seq h,Nat.le_refl _⟩
theorem tU{K:PySem.W.Frag}{H2:Hp}{c:Addr}{xs:List V}(h:SqT K H2 c xs):Yields (Itt K c) H2 xs where
 go:=fun i H' s hi=>⟨xs,xs[i],aL s h,by simp[hi]⟩
 yld:=fun i H' x H'' s _ ⟨e,y⟩=>⟨e,y xs (aL s h)⟩
 stop:=fun H' s=>⟨xs,aL s h,Nat.le_refl _⟩
theorem ni{H2:Hp}(lo:Int)(n:Nat):Yields (Itr lo n) H2 ((List.range n).map fun(k:Nat)=>V.int (lo+(k:Int)))where
 go:=fun i H' s hi=>by simpa[Itr]using hi
 yld:=fun i H' x H'' s hi ⟨e,y⟩=>by
  refine⟨e,?_⟩
  have hi:i<n:=by simpa using hi
  rw[List.getElem?_map,List.getElem?_range hi,y]
  rfl
 stop:=fun H' s=>by simp[Itr]
noncomputable def Yl(W:Wd)(G0:Hp)(d:D)(x:V)(H' H'':Hp):Prop:=(H''=H'/\Rep W G0 d x)\/∃(p:Addr) (d1 d2:D) (v1 v2:V),d=.tup [d1,d2]/\x=.ref p/\H' p=none/\H''=upd H' p (.tup [v1,v2])/\Rep W G0 d1 v1/\Rep W G0 d2 v2
theorem Yl.rep{G0:Hp}{d:D}{x:V}{H' H'':Hp}{P:Addr->Prop}(h:Yl W G0 d x H' H'')(g:Same G0 (vis H' P))(gone:∀b,P b->∃u,H' b=some u):Same H' H''/\Rep W (vis H'' P) d x:=by
 rcases h with⟨rfl,r⟩ | ⟨p,d1,d2,v1,v2,rfl,rfl,hp,rfl,r1,r2⟩
 ·exact⟨Same.refl _,r.mono g⟩
 ·refine⟨Same.upd hp,?_⟩
  have up:=g.trans (au (P:=P) (Same.upd (o:=.tup [v1,v2]) hp));simp only[Rep];refine⟨p,[v1,v2],rfl,.inl (.inl (bN aW fun z=>?_)),?_⟩
  ·obtain⟨u,e⟩:=gone p z
   rw[hp]at e;cases e
  ·simp only[Reps]
   exact⟨r1.mono up,r2.mono up,trivial⟩
structure Ylds(W:Wd)(J:It)(G G0:Hp)(l:List D):Prop where
 go:∀i H',Same G H'->i<l.length->J.go i H'
 yld:∀i H' x H'' d,Same G H'->l[i]?=some d->J.yld i H' x H''->Yl W G0 d x H' H''
 stop:∀H',Same G H'->J.stop l.length H'
theorem Ylds.of{J:It}{G G0:Hp}{l:List D}{xs:List V}(y:Yields J G xs)(r:Reps W G0 l xs):Ylds W J G G0 l where
 go:=fun i H' s hi=>y.go i H' s (by rw[<-r.length];exact hi)
 yld:=fun i H' x H'' d s e z=>by
  have hi:i<xs.length:=by rw[<-r.length];exact(List.getElem?_eq_some_iff.mp e).1
  obtain⟨h1,h2⟩:=y.yld i H' x H'' s hi z;obtain⟨v,h3,h4⟩:=r.get e;rw[h2]at h3;cases h3;exact .inl ⟨h1,h4⟩
 stop:=fun H' s=>by rw[r.length];exact y.stop H' s
theorem SR.cx{X':Cx}(S:SR X W me B H σ δ)(h1:X'.K=X.K)(h2:X'.H₀=X.H₀):SR X' W me B H σ δ :=
 ⟨by rw[h1];exact S.kf,S.len,S.sh,fun i d h=>let⟨a,q1,q2,q3,q4⟩:=S.ow i d h;⟨a,q1,q2,by rw[h2];exact q3,q4⟩,S.mi,S.apart,fun b o h=>S.same b o (by rw[<-h2];exact h),S.soft,S.gone,S.live⟩
theorem tD.cx{X':Cx}{f:Dst->R (Bool×D)}(h1:X'.K=X.K)(h2:X'.H₀=X.H₀)(h:tD X W lk f σ H Q):tD X' W lk f σ H Q:=by
 obtain⟨me,B,δ,S,h⟩:=h;exact⟨me,B,δ,S.cx h1 h2,h⟩
theorem tT.cx{X':Cx}{f:Dst->R (Bool×D)}{C:Bool->Hp->Prop}(h1:X'.K=X.K)(h2:X'.H₀=X.H₀)(h:tT X W f σ H C):tT X' W f σ H C:=by
 obtain⟨me,B,δ,S,h⟩:=h;exact⟨me,B,δ,S.cx h1 h2,h⟩
noncomputable def TgR(X:Cx)(W:Wd)(is:List Nat)(tup:Bool)(g:TG):Prop :=
 ∀{me:Option Addr} {B:Addr->Prop} {σ:L2.St} {H:Hp} {δ δ1:Dst} {d:D} {ds:List D} {v:V} {C:L2.St->Hp->Prop},SR X W me B H σ δ->Rep W (vis H (Hid B σ δ)) d v->takes is.length tup d=some ds->aJ δ is ds=some δ1 ->
  (∀σ1,SR X W me B H σ1 δ1->Same (vis H (Hid B σ δ)) (vis H (Hid B σ1 δ1))->C σ1 H)->g v σ H C
theorem yw{i:Nat}:TgR X W [i] false (tG i):=by
 intro me B σ H δ δ1 d ds v C S r e1 e2 k;simp only[takes,Bool.false_eq_true,if_false,Option.some.injEq]at e1;subst e1;simp only[aJ]at e2
 cases e3:setSlot δ i false d with
 | none=>rw[e3]at e2;cases e2
 | some δ'=>
   rw[e3]at e2;cases e2;obtain⟨S1,s1⟩:=xJ S r e3;exact k _ S1 s1
theorem Hm{is:List Nat}(hk:W.K=X.K):TgR X W is true (gTup X.K is.length (dR is)):=by
 intro me B σ H δ δ1 d ds v C S r e1 e2 k;simp only[takes,if_true]at e1
 cases d with
 | tup l=>
   simp only at e1;split at e1
   ·rename_i hl
    cases e1;simp only[Rep]at r;obtain⟨a,xs,rfl,r1,r2⟩:=r;exact⟨a,xs,rfl,hk▸aL aY r1,by rw[<-r2.length];exact hl,dW S r2 e2 k⟩
   ·cases e1
 | _=>simp at e1
noncomputable def bR(l:List D):Dst:=l.map fun d=>some (Own.sh,d)
theorem oA{l:List D}{i:Nat}{w:Own}{d:D}(h:(bR l)[i]?=some (some (w,d))):w=.sh/\l[i]?=some d:=by
 unfold bR at h;rw[List.getElem?_map]at h
 cases e:l[i]? with
 | none=>rw[e]at h;cases h
 | some x=>rw[e]at h;cases h;exact⟨rfl,rfl⟩
theorem iT:∀(ds:List D) (pre post:Dst) (mid:Dst),mid.length=ds.length->aJ (pre++mid++post) (List.range' pre.length ds.length) ds=some (pre++bR ds++post)
 | [],pre,post,mid,h=>by
   have:mid=[]:=List.eq_nil_of_length_eq_zero h;subst this;simp[aJ,bR]
 | d::ds,pre,post,[],h=>by simp at h
 | d::ds,pre,post,x::mid,h=>by
   simp only[List.length_cons,Nat.add_right_cancel_iff]at h;rw[List.length_cons,List.range'_succ];simp only[aJ]
   have e1:setSlot (pre++x::mid++post) pre.length false d=some ((pre++[some (Own.sh,d)])++mid++post):=by
    unfold setSlot;rw[if_pos (by simp)];simp[List.set_append]
   rw[e1];simp only[Option.bind_some];have:=iT ds (pre++[some (Own.sh,d)]) post mid h;rw[List.length_append,List.length_singleton]at this;rw[this];simp[bR]
theorem mV(ds:List D)(mid post:Dst)(h:mid.length=ds.length):aJ (mid++post) (List.range ds.length) ds=some (bR ds++post):=by
 have:=iT ds [] post mid h;simpa[List.range_eq_range']using this
theorem ux{m:Nat}{tup:Bool}{d:D}{ds:List D}(hm:tup=false->m=1)(h:takes m tup d=some ds):ds.length=m:=by
 unfold takes at h;split at h
 ·split at h
  ·split at h
   ·cases h;assumption
   ·cases h
  ·cases h
 ·rename_i ht
  cases h;rw[hm (by simpa using ht)];rfl
theorem o9{wi:L2.TI}{g:TG}{m:Nat}{caps:List Nat}{tup:Bool}{tc te:T}{it:TI}(hk:W.K=X.K)(hm:tup=false->m=1)
 (hwi:∀σ H (K:It->Hp->Prop),(∃me B δ l,SR X W me B H σ δ/\evI o δ true it=.ok l/\∀J H2,Same H H2->Ylds W J H2 (vis H2 (Hid B σ δ)) l->K J H2)->wi σ H K)
 (hg:∀H0,TgR { X with H₀:=H0 } W (List.range m) tup g) (h:tD X W lk (fun δ=>ev o δ lk (.comp caps m tup it tc te)) σ H Q) :
 zP wi m caps g (fun H0=>tT { X with H₀:=H0 } W fun δ=>ev o δ true tc) (fun H0=>tD { X with H₀:=H0 } W false fun δ=>ev o δ false te) σ H Q:=by
 obtain⟨me,B,δ,S,h⟩:=tD_iff.mp h;simp only[ev]at h
 cases e1:evI o δ true it with
 | exc c=>rw[e1]at h;exact h.elim
 | stuck=>rw[e1]at h;exact h.elim
 | ok l=>
 rw[e1]at h
 cases e2:cA δ caps with
 | none=>rw[e2]at h;exact h.elim
 | some cs=>
 rw[e2]at h
 have h:After X W lk σ H (Hid B σ δ) ((bA (fun x=>ev o ((x++cs).map fun d=>some (.sh,d)) false te) (fun x=>ev o ((x++cs).map fun d=>some (.sh,d)) true tc) m tup l).bind fun r=>
  R.chk (size r.length&&(immL r||caps.all fun i=>!isOwn δ i)) (.ok (true,.lst r))) Q:=h
 refine hwi σ H _ ⟨me,B,δ,l,S,e1,fun J H2 s yl=>?_⟩;intro Da hD;obtain⟨vs,c1,c2,c3⟩:=mH S e2;generalize hown:(caps.all fun i=>!isOwn δ i)=own at h c3;generalize hP:Hid B σ δ=P at *
 have softP:Soft H2 P:=by subst hP;exact S.softH.mono S.know s
 have goneP:∀b,P b->∃u,H2 b=some u:=fun b hb=>by
  subst hP;obtain⟨u,e⟩:=S.know b hb;exact⟨u,s b u e⟩
 let Bq:Addr->Prop:=fun b=>(P b/\(own=true\/V.ref b∉vs))\/b=Da
 have nD:∀{b:Addr} {u:HO},H2 b=some u->b≠Da:=fun e z=>by rw[z,hD]at e;cases e
 have upv:∀{H':Hp},Same H2 H'->Same (vis H2 Bq) (vis H' Bq):=fun s'=>au s'
 have inP:Same (vis H2 P) (vis H2 Bq):=fun b u e=>by
  obtain⟨e1,e2⟩:=bD e
  refine bN e1 fun z=>?_
  rcases z with⟨z,_⟩ | z
  ·exact e2 z
  ·exact nD e1 z
 have capR:Reps W (vis H2 Bq) cs vs:=by
  cases own with
  | true=>exact((c3 rfl).mono (au s)).mono inP
  | false=>
    have q:=c2.lend vs (fun v hv=>hv)
    refine(q.mono (au s)).mono fun b u e=>?_
    obtain⟨e1,e2⟩:=bD e
    refine bN e1 fun z=>?_
    rcases z with⟨z1,z2⟩ | z
    ·rcases z2 with z2 | z2
     ·cases z2
     ·exact e2 ⟨z1,z2⟩
    ·exact nD e1 z
 let δ0:Dst:=List.replicate m none++bR cs
 have δ0sh:∀(i:Nat) (w:Own) (d:D),δ0[i]?=some (some (w,d))->w=.sh/\m<=i/\cs[i-m]?=some d:=fun i w d e=>by
  by_cases hi:i<m
  ·have e:(List.replicate m none++bR cs)[i]?=some (some (w,d)):=e
   rw[List.getElem?_append_left (by simpa using hi),List.getElem?_replicate]at e;split at e<;>cases e
  ·have e:(List.replicate m none++bR cs)[i]?=some (some (w,d)):=e
   rw[List.getElem?_append_right (by simpa using hi),List.length_replicate]at e;obtain⟨e1,e2⟩:=oA e;exact⟨e1,by omega,e2⟩
 have softQ:∀{H':Hp} {ys:List V},Same H2 H'->H' Da=some (.lst ys)->Soft H' Bq:=fun{H' ys} s' hd b hb u e=>by
  rcases hb with⟨hb,_⟩ | hb
  ·obtain⟨u',e'⟩:=goneP b hb
   have:=s' b u' e';rw[e]at this;cases this;exact softP b hb u e'
  ·rw[hb,hd]at e;cases e
   exact⟨(by intro _ z;cases z),(by intro _ _ z;cases z)⟩
 have goneQ:∀{H':Hp} {ys:List V},Same H2 H'->H' Da=some (.lst ys)->∀b,Bq b->∃u,H' b=some u:=fun{H' ys} s' hd b hb=>by
  rcases hb with⟨hb,_⟩ | hb
  ·obtain⟨u',e'⟩:=goneP b hb
   exact⟨u',s' b u' e'⟩
  ·exact⟨_,by rw[hb];exact hd⟩
 let X0:Cx:={ X with H₀:=upd H2 Da (.lst []) }
 have mkS:∀{H':Hp} {σ':L2.St} {ys:List V},σ'.length=m+cs.length->(∀(j:Nat) (d:D),cs[j]?=some d->∃v,σ'[m+j]?=some (some v)/\Rep W (vis H' Bq) d v)->Same H2 H'->H' Da=some (.lst ys)->SR X0 W (some Da) Bq H' σ' δ0:=fun{H' σ' ys} hl hc s' hd=>by
  refine SR.plain hk (by rw[hl];simp[δ0,bR]) (fun i w d e=>?_) (fun b u e hb=>?_) (softQ s' hd) (goneQ s' hd) (fun x hx=>by cases hx;exact⟨_,hd⟩)
  ·obtain⟨h1,h2,h3⟩:=δ0sh i w d e
   obtain⟨v,q1,q2⟩:=hc _ d h3;exact⟨h1,v,by rw[<-q1];congr 1;omega,q2⟩
  ·have hb':b≠Da:=fun z=>hb (by rw[z])
   have e:upd H2 Da (.lst []) b=some u:=e;rw[aM hb']at e;exact s' b u e
 generalize hT:((bA (fun x=>ev o ((x++cs).map fun d=>some (.sh,d)) false te) (fun x=>ev o ((x++cs).map fun d=>some (.sh,d)) true tc) m tup l).bind fun r=>
  R.chk (size r.length&&(immL r||own)) (R.ok (true,D.lst r)))=Tt at h
 refine⟨fun i k ys σ' H'=>∃rs,i<=l.length/\k=l.length-i/\σ'.length=m+cs.length/\(∀(j:Nat) (d:D),cs[j]?=some d->∃v,σ'[m+j]?=some (some v)/\Rep W (vis H' Bq) d v)/\Same H2 H'/\H' Da=some (.lst ys)/\Reps W (vis H' Bq) rs ys /\
  ((bA (fun x=>ev o ((x++cs).map fun d=>some (.sh,d)) false te) (fun x=>ev o ((x++cs).map fun d=>some (.sh,d)) true tc) m tup (l.drop i)).bind fun r=>R.chk (size (rs++r).length&&(immL (rs++r)||own)) (R.ok (true,D.lst (rs++r))))=Tt,⟨l.length,[],Nat.zero_le _,by simp,?_,?_,Same.upd hD,aW,by simp only[Reps],by simpa using hT⟩,?_⟩
 ·unfold dh
  rw[c1,List.length_append,List.length_replicate,List.length_map,capR.length]
 ·intro j d e
  obtain⟨v,q1,q2⟩:=capR.get e;refine⟨v,?_,q2.mono (upv (Same.upd hD))⟩;unfold dh;rw[c1,List.getElem?_append_right (by simp),List.length_replicate,Nat.add_sub_cancel_left,List.getElem?_map,q1]
  rfl
 ·rintro i k ys σ' H' ⟨rs,hi,rfl,hl,hc,s',hd,hr,hTi⟩
  by_cases hlt:i<l.length
  ·
   refine .inr ⟨yl.go i H' s' (by omega),fun x H'' y=>?_⟩
   obtain⟨d,ed⟩:∃d,l[i]?=some d:=⟨_,List.getElem?_eq_getElem hlt⟩
   obtain⟨sy,rd⟩:=(yl.yld i H' x H'' d s' ed y).rep (inP.trans (upv s')) (goneQ s' hd)
   replace hc:∀(j:Nat) (d:D),cs[j]?=some d->∃v,σ'[m+j]?=some (some v)/\Rep W (vis H'' Bq) d v:=fun j d e=>
    let⟨v,q1,q2⟩:=hc j d e
    ⟨v,q1,q2.mono (au sy)⟩
   replace hd:=sy Da _ hd
   replace hr:=hr.mono (au (P:=Bq) sy)
   replace s':=s'.trans sy
   have hdr:l.drop i=d::l.drop (i+1):=by
    obtain⟨h1,h2⟩:=List.getElem?_eq_some_iff.mp ed;rw[List.drop_eq_getElem_cons h1,h2]
   rw[hdr,bA]at hTi
   cases e3:takes m tup d with
   | none=>rw[e3]at hTi;subst hTi;exact h.elim
   | some ds=>
   rw[e3]at hTi;have lds:=ux hm e3;have S0:=mkS hl hc s' hd
   have hset:aJ δ0 (List.range m) ds=some (bR ds++bR cs):=by
    have:=mV ds (List.replicate m none) (bR cs) (by simp[lds]);rw[lds]at this;exact this
   have δ1sh:∀(i:Nat) (w:Own) (d:D),(bR ds++bR cs)[i]?=some (some (w,d))->w=.sh:=fun i w d e=>by
    have:bR ds++bR cs=bR (ds++cs):=by simp[bR]
    rw[this]at e;exact(oA e).1
   have hap:(bR ds++bR cs)=(ds++cs).map fun d=>some (Own.sh,d):=by simp[bR]
   have vp0:vis H'' (Hid Bq σ' δ0)=vis H'' Bq:=je fun i w d e=>(δ0sh i w d e).1
   refine hg (upd H2 Da (.lst [])) S0 (by rw[vp0];exact rd) (by rw[List.length_range];exact e3) hset fun σ1 S1 s1=>?_
   have capS:∀{H4:Hp},Same H'' H4->∀(j:Nat) (d:D),cs[j]?=some d->∃v,σ1[m+j]?=some (some v)/\Rep W (vis H4 Bq) d v:=fun{H4} s4 j d e=>by
    obtain⟨v,q1,q2⟩:=S1.sh (m+j) d (by
     rw[List.getElem?_append_right (by simp[bR,lds])]
     simp[bR,lds,e])
    rw[je δ1sh]at q2;exact⟨v,q1,q2.mono (au s4)⟩
   have len1:σ1.length=m+cs.length:=by rw[S1.len];simp[bR,lds]
   have hTi:((ev o ((ds++cs).map fun d=>some (.sh,d)) true tc).bind fun t=>(R.of (truth t.2)).bind fun b=>if b then(ev o ((ds++cs).map fun d=>some (.sh,d)) false te).bind fun y=>(bA (fun x=>ev o ((x++cs).map fun d=>some (.sh,d)) false te) (fun x=>ev o ((x++cs).map fun d=>some (.sh,d)) true tc) m tup (l.drop (i+1))).bind fun r=>.ok (y.2::r)
    else bA (fun x=>ev o ((x++cs).map fun d=>some (.sh,d)) false te) (fun x=>ev o ((x++cs).map fun d=>some (.sh,d)) true tc) m tup (l.drop (i+1))).bind (fun r=>R.chk (size (rs++r).length&&(immL (rs++r)||own)) (R.ok (true,D.lst (rs++r))))=Tt:=hTi
   refine⟨some Da,Bq,_,S1,?_⟩;show(match(ev o (bR ds++bR cs) true tc).bind (fun x=>R.of (truth x.2))with | .ok b=>_ | .exc c=>_ | .stuck=>_);rw[hap]
   cases e4:ev o ((ds++cs).map fun d=>some (Own.sh,d)) true tc with
   | exc c=>rw[e4]at hTi;subst hTi;exact h.elim
   | stuck=>rw[e4]at hTi;subst hTi;exact h.elim
   | ok t=>
   rw[e4]at hTi;show(match R.of (truth t.2)with | .ok b=>_ | .exc c=>_ | .stuck=>_)
   cases e5:truth t.2 with
   | none=>simp only[R.bind,e5,R.of]at hTi;subst hTi;exact h.elim
   | some bb=>
   simp only[R.bind,e5,R.of]at hTi;intro H4 s4;have hd4:H4 Da=some (.lst ys):=s4 Da _ hd
   cases bb with
   | false=>
     simp only[Bool.false_eq_true,if_false]at hTi ⊢;exact⟨l.length-(i+1),by omega,rs,by omega,rfl,len1,capS s4,s'.trans s4,hd4,hr.mono (au s4),hTi⟩
   | true=>
     simp only[if_true]at hTi ⊢;refine tD_iff.mpr ⟨some Da,Bq,_,S1.mono s4,?_⟩;rw[hap]
     cases e6:ev o ((ds++cs).map fun d=>some (Own.sh,d)) false te with
     | exc c=>rw[e6]at hTi;subst hTi;exact h.elim
     | stuck=>rw[e6]at hTi;subst hTi;exact h.elim
     | ok y6=>
     rw[e6]at hTi
     cases e7:bA (fun x=>ev o ((x++cs).map fun d=>some (.sh,d)) false te) (fun x=>ev o ((x++cs).map fun d=>some (.sh,d)) true tc) m tup (l.drop (i+1))with
     | exc c=>simp only[e7]at hTi;subst hTi;exact h.elim
     | stuck=>simp only[e7]at hTi;subst hTi;exact h.elim
     | ok rr=>
     simp only[e7]at hTi;intro v H5 s5 q;rw[<-hap]at q;have q':=q.keep (S1.mono s4).know;rw[je δ1sh]at q';have hd5:H5 Da=some (.lst ys):=s5 Da _ hd4
     have hsz:size (rs++y6.2::rr).length=true:=by
      subst hTi;have:=(dm h).1;simp only[Bool.and_eq_true]at this;exact this.1
     have hlen:ys.length<sizeLine:=by
      have:=dj hsz;rw[List.length_append,List.length_cons,hr.length]at this;omega
     have up6:Same (vis H5 Bq) (vis (upd H5 Da (.lst (ys++[v]))) Bq):=fun b u e=>by
      obtain⟨z1,z2⟩:=bD e
      have hb:b≠Da:=fun z=>z2 (.inr z)
      exact bN (by rw[aM hb];exact z1) z2
     have s6:Same H2 (upd H5 Da (.lst (ys++[v]))):=fun b u e=>by
      rw[aM (nD e)];exact s5 b u (s4 b u (s' b u e))
     refine⟨hd5,hlen,l.length-(i+1),by omega,rs++[y6.2],by omega,rfl,len1,fun j d e=>?_,s6,aW,?_,?_⟩
     ·obtain⟨w,q1,q2⟩:=capS (s4.trans s5) j d e
      exact⟨w,q1,q2.mono up6⟩
     ·refine Reps.append ((hr.mono (au (s4.trans s5))).mono up6) ?_
      simp only[Reps];exact⟨q'.mono up6,trivial⟩
     ·show R.chk _ _=_
      rw[<-hTi];simp only[R.bind,List.append_assoc,List.singleton_append]
  ·
   have hil:i=l.length:=by omega
   subst hil;refine .inl ⟨yl.stop H' s',?_⟩;rw[List.drop_length,bA]at hTi;simp only[R.bind,List.append_nil]at hTi;subst hTi;obtain⟨hc1,h⟩:=dm h;simp only[Bool.and_eq_true,Bool.or_eq_true]at hc1;refine h (.ref Da) H' (s.trans s') ?_;unfold Res;rw[if_pos rfl];refine⟨Da,rfl,s.free hD,ys,hd,?_⟩;rcases hc1.2 with him | ho
   ·refine(Reps.imm (H:=H') (P:=fun b=>P b\/b=Da) (fun b hb u e=>?_) him (hr.mono aY))
    rcases hb with hb | hb
    ·obtain⟨u',e'⟩:=goneP b hb
     have:=s' b u' e';rw[e]at this;cases this;exact softP b hb u e'
    ·rw[hb,hd]at e;cases e
     exact⟨(by intro _ z;cases z),(by intro _ _ z;cases z)⟩
   ·refine hr.mono (aC fun b hb=>?_)
    rcases hb with hb | hb
    ·exact .inl ⟨hb,.inl ho⟩
    ·exact .inr hb
end
end Z
namespace Z
open PySem PySem.Spec PyProof.Rows L2
theorem Kp{k k':Key}(h:kV k=kV k'):k=k':=by
 cases k<;>cases k'<;>simp[kV]at h<;>simp[h]
theorem xY{H H':Hp}{a:Addr}{kvs:List (Key×V)}{k:Key}{v:V}{ep:Nat}(e:H a=some (.dK kvs ep))(g:DPut H a (kV k) v H'):∃ep',H'=upd H a (.dK (putK kvs k v) ep'):=by
 rcases g with⟨kvs',k',e1,e2,h1,h2,_,h3⟩ | ⟨kvs',k',b,h1,h2,_⟩
 ·rw[e]at h1
  cases h1;rw[Kp h2];exact⟨e2,h3⟩
 ·rw[e]at h1;cases h1
section
variable{X:Cx}{W:Wd}{lk lk':Bool}{σ:L2.St}{H H1 H':Hp}{me:Option Addr}{B:Addr->Prop}{δ:Dst}{Q Q':VK}{a b:Expr}{pos p pos':Pos}{o:Orc}
theorem get_set{i j:Nat}{w w':Own}{d d' x:D}(hi:δ[i]?=some (some (w,d)))(h:(δ.set i (some (w,d')))[j]?=some (some (w',x))):(j=i/\w'=w/\x=d')\/(j≠i/\δ[j]?=some (some (w',x))):=by
 have hl:i<δ.length:=(List.getElem?_eq_some_iff.mp hi).1
 by_cases hj:j=i
 ·subst hj
  rw[List.getElem?_set_self hl]at h;cases h;exact .inl ⟨rfl,rfl,rfl⟩
 ·rw[List.getElem?_set_ne (Ne.symm hj)]at h
  exact .inr ⟨hj,h⟩
theorem cL{i:Nat}{w:Own}{d d':D}(hi:δ[i]?=some (some (w,d))){j:Nat}{c:Addr}:dO σ (δ.set i (some (w,d'))) j c↔dO σ δ j c:=by
 have hl:i<δ.length:=(List.getElem?_eq_some_iff.mp hi).1
 constructor
 ·rintro⟨⟨w',x,h1,h2⟩,h3⟩
  rcases get_set hi h1 with⟨rfl,rfl,rfl⟩ | ⟨_,h⟩
  ·exact⟨⟨_,_,hi,h2⟩,h3⟩
  ·exact⟨⟨w',x,h,h2⟩,h3⟩
 ·rintro⟨⟨w',x,h1,h2⟩,h3⟩
  by_cases hj:j=i
  ·subst hj
   rw[hi]at h1;cases h1;exact⟨⟨w,d',by rw[List.getElem?_set_self hl],h2⟩,h3⟩
  ·exact⟨⟨w',x,by rw[List.getElem?_set_ne (Ne.symm hj)];exact h1,h2⟩,h3⟩
theorem dq{i:Nat}{w:Own}{d d':D}(hi:δ[i]?=some (some (w,d))):Hid B σ (δ.set i (some (w,d')))=Hid B σ δ:=by
 funext c
 apply propext
 unfold Hid
 constructor
 ·rintro(h | ⟨j,h⟩)
  ·exact .inl h
  ·exact .inr ⟨j,(cL hi).mp h⟩
 ·rintro(h | ⟨j,h⟩)
  ·exact .inl h
  ·exact .inr ⟨j,(cL hi).mpr h⟩
theorem SR.own(S:SR X W me B H σ δ){i:Nat}{w:Own}{d:D}(hi:ownD δ i=some (w,d)):δ[i]?=some (some (w,d))/\w≠.sh/\∃c,σ[i]?=some (some (V.ref c))/\OwnAt W H (vis H (Hid B σ δ)) c d/\¬B c/\(∀u,X.H₀ c=some u->some c=me):=by
 unfold ownD at hi;split at hi
 ·rename_i d' e
  cases hi;obtain⟨c,h1,h2,h3,h4,h5⟩:=S.ow i _ e;exact⟨e,by decide,c,h1,h2,h4,fun u z=>by rw[h3]at z;cases z⟩
 ·rename_i d' e
  cases hi;obtain⟨_,c,h0,h1,h2,h4⟩:=S.mi i _ e;exact⟨e,by decide,c,h1,h2,h4,fun u _=>h0.symm⟩
 ·cases hi
theorem SR.write(S:SR X W me B H σ δ){i:Nat}{w:Own}{d d':D}{c:Addr}{u:HO}(hi:δ[i]?=some (some (w,d)))(hw:w≠.sh)(hc:σ[i]?=some (some (V.ref c)))(hB:¬B c)(hX:∀u,X.H₀ c=some u->some c=me)
 (new:OwnAt W (upd H c u) (vis H (Hid B σ δ)) c d'):SR X W me B (upd H c u) σ (δ.set i (some (w,d')))/\Same (vis H (Hid B σ δ)) (vis (upd H c u) (Hid B σ (δ.set i (some (w,d'))))):=by
 have hid:Hid B σ δ c:=.inr ⟨i,⟨w,d,hi,hw⟩,hc⟩
 have up:Same (vis H (Hid B σ δ)) (vis (upd H c u) (Hid B σ δ)):=fun b v e=>by
  obtain⟨e1,e2⟩:=bD e
  have hb:b≠c:=fun z=>e2 (z▸hid)
  exact bN (by rw[aM hb];exact e1) e2
 have other:∀{j:Nat} {x:Own} {y:D},j≠i->δ[j]?=some (some (x,y))->x≠.sh->∀{e:Addr},σ[j]?=some (some (V.ref e))->e≠c:=fun hj h1 h2 e h3 z=>by
  subst z;exact hj (S.apart _ _ _ ⟨⟨_,_,h1,h2⟩,h3⟩ ⟨⟨_,_,hi,hw⟩,hc⟩)
 refine⟨?_,by rw[dq hi];exact up⟩;refine⟨S.kf,by simp[S.len],fun j y h=>?_,fun j y h=>?_,fun j y h=>?_,fun j k e h1 h2=>S.apart j k e ((cL hi).mp h1) ((cL hi).mp h2),fun b v e hb=>?_,fun b hb v e=>?_,fun b hb=>?_,fun x hx=>?_⟩
 ·rw[dq hi]
  rcases get_set hi h with⟨_,rfl,_⟩ | ⟨_,h⟩
  ·exact absurd rfl hw
  ·obtain⟨v,h1,h2⟩:=S.sh j y h
   exact⟨v,h1,h2.mono up⟩
 ·rw[dq hi]
  rcases get_set hi h with⟨rfl,rfl,rfl⟩ | ⟨hj,h⟩
  ·obtain⟨e,h1,h2,h3,h4,h5⟩:=S.ow j d hi
   rw[hc]at h1;cases h1;exact⟨c,hc,new.mono (fun _ q=>q) up,h3,h4,h5⟩
  ·obtain⟨e,h1,h2,h3⟩:=S.ow j y h
   exact⟨e,h1,h2.mono (fun v q=>by rw[aM (other hj h (by decide) h1)];exact q) up,h3⟩
 ·rw[dq hi]
  rcases get_set hi h with⟨rfl,rfl,rfl⟩ | ⟨hj,h⟩
  ·obtain⟨h0,e,h1,h2,h3,h4⟩:=S.mi j d hi
   rw[hc]at h2;cases h2;exact⟨h0,c,h1,hc,new.mono (fun _ q=>q) up,h4⟩
  ·obtain⟨h0,e,h1,h2,h3,h4⟩:=S.mi j y h
   exact⟨h0,e,h1,h2,h3.mono (fun v q=>by rw[aM (other hj h (by decide) h2)];exact q) up,h4⟩
 ·have hbc:b≠c:=fun z=>hb (by subst z;exact hX v e)
  rw[aM hbc];exact S.same b v e hb
 ·have hbc:b≠c:=fun z=>hB (z▸hb)
  rw[aM hbc]at e;exact S.soft b hb v e
 ·have hbc:b≠c:=fun z=>hB (z▸hb)
  rw[aM hbc];exact S.gone b hb
 ·by_cases hxc:x=c
  ·subst hxc;exact⟨u,aW⟩
  ·rw[aM hxc];exact S.live x hx
theorem PS.or{st:Stmt}{t t':TS}(h:PS X st t)(h':PS X st t'):PS X st (fun D σ H=>t D σ H\/t' D σ H):=by
 intro pins s σ H D I q;rcases q with q | q
 ·exact h pins s σ H D I q
 ·exact h' pins s σ H D I q
theorem jU{H G:Hp}{d:D}{x:DK}{y:V}(h:keyOf d=some x)(r:RepT W H G d y):y=kV (keyV x):=by
 cases d<;>first | exact nope h | simp only[keyOf]at h
 ·cases h;exact aO r
 ·cases h;exact(aV r).1
theorem Fo{H G:Hp}{d:D}{x:DK}{y:V}{z:List Nat}(h:keyOf d=some x)(r:RepT W H G d y)(e:DK.s z=x):z.length<=16777216:=by
 subst e
 cases d<;>simp only[keyOf]at h<;>first | (cases h;done) | skip
 cases h;exact(aV r).2
theorem Ea{q:Key×V}{r:List (Key×V)}{k:Key}{v:V}(h:q.1≠k):putK (q::r) k v=q::putK r k v:=by
 unfold putK;rw[List.any_cons,decide_eq_false h,Bool.false_or];split
 ·rw[List.map_cons,if_neg h]
 ·rfl
theorem Gu{q:Key×V}{r:List (Key×V)}{k:Key}{v:V}(h:q.1=k)(hn:k∉r.map (·.1)):putK (q::r) k v=(q.1,v)::r:=by
 unfold putK;rw[List.any_cons,decide_eq_true h,Bool.true_or,if_pos rfl,List.map_cons,if_pos h]
 congr 1
 rw[List.map_congr_left (g:=id) (fun p hp=>?_),List.map_id]
 have:p.1≠k:=fun z=>hn (z▸List.mem_map_of_mem hp)
 simp[this]
theorem zA{ks:List DK}{x:DK}:keyV x∈ks.map keyV↔x∈ks:=by
 constructor
 ·intro h
  obtain⟨y,hy,e⟩:=List.mem_map.mp h;rw[<-gZ e];exact hy
 ·exact fun h=>List.mem_map_of_mem h
theorem rB{G:Hp}{x:DK}{d:D}{v:V}(rd:Rep W G d v):∀{ks:List DK} {vs:List D} {kvs:List (Key×V)},kvs.map (·.1)=ks.map keyV->ks.Nodup->Reps W G vs (kvs.map (·.2)) ->
 (putK kvs (keyV x) v).map (·.1)=(bI ks x).map keyV/\Reps W G (putV ks vs x d) ((putK kvs (keyV x) v).map (·.2))
 | [],[],[],_,_,_=>by
   refine⟨rfl,?_⟩;simp only[putV,putK,List.any_nil,Bool.false_eq_true,if_false,List.nil_append,List.map_cons,List.map_nil,Reps];exact⟨rd,trivial⟩
 | [],_::_,[],_,_,r=>by simp only[List.map_nil,Reps]at r
 | [],_,_::_,e,_,_=>by simp at e
 | _::_,_,[],e,_,_=>by simp at e
 | _::_,[],_::_,_,_,r=>by simp only[List.map_cons,Reps]at r
 | k0::ks,d0::vs,q::kvs,e,nd,r=>by
   simp only[List.map_cons,List.cons.injEq]at e;simp only[List.map_cons,Reps]at r;obtain⟨nd1,nd2⟩:=List.nodup_cons.mp nd
   by_cases hx:k0=x
   ·subst hx
    rw[Gu e.1 (by rw[e.2,zA];exact nd1)];simp only[bI,putV,if_true,List.map_cons,e.1,e.2,Reps];exact⟨trivial,rd,r.2⟩
   ·have hk:q.1≠keyV x:=fun z=>hx (gZ (e.1.symm.trans z))
    obtain⟨h1,h2⟩:=rB rd e.2 nd2 r.2;rw[Ea hk];simp only[bI,putV,if_neg hx,List.map_cons,e.1,Reps];exact⟨by rw[h1],r.1,h2⟩
theorem putKs_mem{x y:DK}:∀{ks:List DK},y∈bI ks x↔y∈ks\/y=x
 | []=>by simp[bI]
 | k::ks=>by
   simp only[bI];split
   ·rename_i h
    subst h
    constructor
    ·exact .inl
    ·rintro(h | h)
     ·exact h
     ·rw[h];exact List.mem_cons_self
   ·rw[List.mem_cons,putKs_mem,List.mem_cons,or_assoc]
theorem jo{x:DK}:∀{ks:List DK},ks.Nodup->(bI ks x).Nodup
 | [],_=>by simp[bI]
 | k::ks,h=>by
   obtain⟨h1,h2⟩:=List.nodup_cons.mp h;simp only[bI];split
   ·exact h
   ·rename_i hk
    refine List.nodup_cons.mpr ⟨fun z=>?_,jo h2⟩;rcases putKs_mem.mp z with z | z
    ·exact h1 z
    ·exact hk z
theorem Ab{e o' i':Expr}{pp:Pos}{l:Nat}{env:Env}:swapsWith e (some (.Subscript o' i' pp)) l env=pure false:=by
 cases e<;>rfl
theorem EY{i:Nat}{x:Str}{k e:Expr}{tk te:T}(hk:W.K=X.K)(hu:X.A.units+1<cLine)(hv:PE X (.Name x p) (tVar i))(hK:PE X k (tD X W true fun δ=>ev o δ true tk))(he:PE X e (tD X W false fun δ=>ev o δ false te))
 (ha:∀v,assign (.Subscript (.Name x p) k pos') X.env v=(do
  let ov <-holding [v] (eval (.Name x p) X.env)
  let iv <-holding [v,ov] (eval k X.env)
  standAt pos'
  holding [v,ov,iv] (setItem ov iv v)
  release [v,ov,iv] []))
 (hs1:swapsWithSole [.Subscript (.Name x p) k pos'] e pos.line X.env=pure false) (hs2:swappedStores [.Subscript (.Name x p) k pos'] e X.env=pure none) (h1:(assignEach [.Subscript (.Name x p) k pos'] X.env).map (·.2)=[assign (.Subscript (.Name x p) k pos') X.env]) :
 PS X (.Assign [.Subscript (.Name x p) k pos'] e pos) (tS X W (evS o (.seti i tk te))):=by
 refine PS.imp (PS.or (Ff hu hv hK he Ab) (KD he (Ja hv hK set_list ha) hs1 hs2 h1)) fun En σ H ⟨me,B,δ,S,h⟩=>?_
 simp only[evS]at h;obtain⟨S1,e1⟩:=S.evF o te;have sub1:=dX (B:=B) (σ:=σ) (δ:=δ) o te;generalize (evF o δ te).1=δ1 at *;generalize (evF o δ te).2=r1 at *;obtain⟨r,e2,h⟩:=SO.of_ok h;obtain⟨y,e3,h⟩:=SO.of_ok h;obtain⟨q,e4,h⟩:=cj h
 cases e5:ownD δ1 i with
 | none=>rw[e5]at e4;cases e4
 | some c=>
 obtain⟨w,d⟩:=c;rw[e5]at e4;simp only[Option.bind_some]at e4
 cases e6:putItem d y.2 r.2 with
 | none=>rw[e6]at e4;cases e4
 | some d'=>
 rw[e6]at e4;cases e4
 have go:∀{K1:V->V->V->Hp->Prop},(∀(ad:Addr) (v u:V) (H2:Hp),SR X W me B H2 σ δ1->Same H H2->σ[i]?=some (some (V.ref ad))->Rep W (vis H2 (Hid B σ δ1)) r.2 v->RepT W H2 (vis H2 (Hid B σ δ1)) y.2 u->K1 (.ref ad) u v H2) ->
  tD X W false (fun δ=>ev o δ false te) σ H fun v H1=>tVar i σ H1 fun x H2=>tD X W true (fun δ=>ev o δ true tk) σ H2 fun u H3=>K1 x u v H3:=fun{K1} k1=>by
  refine tD_iff.mpr ⟨me,B,δ1,S1,?_⟩;rw[<-e1,e2];intro v H1 s1 q1;obtain⟨_,_,ad,o3,_⟩:=S1.own e5;refine⟨_,o3,tD_iff.mpr ⟨me,B,δ1,S1.mono s1,?_⟩⟩;rw[e3];intro u H2 s2 q2;exact k1 ad v u H2 ((S1.mono s1).mono s2) (s1.trans s2) o3 ((q1.keep S1.know).mono (au s2)) q2.look
 have last:∀{ad:Addr} {v u:V} {H2:Hp} {ob:HO},SR X W me B H2 σ δ1->Same H H2->σ[i]?=some (some (V.ref ad))->OwnAt W (upd H2 ad ob) (vis H2 (Hid B σ δ1)) ad d'->En.nx σ (upd H2 ad ob):=fun{ad v u H2 ob} S2 s2 o3 new=>by
  obtain⟨o1,o2,ad',o3',o4,o5,o6⟩:=S2.own e5;rw[o3]at o3';cases o3';obtain⟨S3,s3⟩:=S2.write o1 o2 o3 o5 o6 new;exact h _ _ S3 (((aC sub1).trans (au s2)).trans s3)
 cases d with
 | dct ks vs=>
   simp only[putItem]at e6
   cases e7:keyOf y.2 with
   | none=>rw[e7]at e6;cases e6
   | some kx=>
   rw[e7]at e6;simp only[Option.bind_some]at e6;split at e6
   ·rename_i hsz
    cases e6;refine .inl (go fun ad v u H2 S2 s2 o3 rv tu=>?_);obtain⟨_,_,ad',o3',o4,_⟩:=S2.own e5;rw[o3]at o3';cases o3';obtain⟨kvs,⟨ep,q1⟩,q2,q3,q4⟩:=o4
    have hl:kvs.length=ks.length:=by simpa using congrArg List.length q2
    refine⟨ad,rfl,⟨upd H2 ad (.dK (putK kvs (keyV kx) v) 0),?_⟩,fun H4 g4=>?_⟩
    ·rw[jU e7 tu]
     exact DPut.k q1 (by rw[hl,sizeLine_eq];omega)
    ·rw[jU e7 tu]at g4
     obtain⟨ep',rfl⟩:=xY q1 g4;refine last (v:=v) (u:=u) S2 s2 o3 ?_;obtain⟨p1,p2⟩:=rB rv q2 q3.1 q4;exact⟨_,⟨ep',aW⟩,p1,⟨jo q3.1,fun z hz=>(putKs_mem.mp hz).elim (q3.2 z) fun hz=>Fo e7 tu hz⟩,p2⟩
   ·cases e6
 | lst l=>
   cases e7:y.2 with
   | int j=>
     rw[e7]at e6;simp only[putItem]at e6
     cases e8:place l.length j with
     | none=>rw[e8]at e6;cases e6
     | some n=>
     rw[e8]at e6;cases e6;refine .inr (go fun ad v u H2 S2 s2 o3 rv tu=>?_);rw[e7]at tu;obtain⟨_,_,ad',o3',o4,_⟩:=S2.own e5;rw[o3]at o3';cases o3';obtain⟨xs,q1,q2⟩:=o4;refine⟨ad,xs,j,n,rfl,aO tu,q1,ig (α:=V) (by rw[<-q2.length];exact e8),last (v:=v) (u:=u) S2 s2 o3 ⟨_,aW,q2.set rv n⟩⟩
   | _=>rw[e7]at e6;cases e6
 | _=>cases e6
end
end Z
namespace Z
open PySem PySem.Spec PyProof.Rows L2
section
variable{X:Cx}{W:Wd}{lk lk':Bool}{σ:L2.St}{H H1 H':Hp}{me:Option Addr}{B:Addr->Prop}{δ:Dst}{Q Q':VK}{a b:Expr}{pos p pos' apos cpos:Pos}{o:Orc}
noncomputable def aA:Expr->Bool
 | .Starred _ _=>true
 | _=>false
theorem bV{e:Expr}{es:List Expr}{env:Env}(h:aA e=false):starEach (e::es) env=(false,eval e env)::starEach es env:=by
 cases e<;>first | rfl | (simp[aA]at h)
theorem few1{e:Expr}{env:Env}(h:aA e=false):((backTo cpos (starEach [e] env)).all (fun x=>!x.1)&&(backToKw cpos (keywordEach [] env)).all (fun x=>x.1.isSome)
 && decide (([e]:List Expr).length+([]:List Keyword).length+(if([]:List Keyword).isEmpty then 0 else 1)<30))=true:=by
 rw[bV h];rfl
noncomputable def plainBase:Expr->Bool
 | .Call (.Name _ _) [] [] _=>false
 | _=>true
theorem cT{e:Expr}{m:Str}{env:Env}{w:Sem Value}(h:plainBase e=true):attributeBase e m env w=w:=by
 unfold attributeBase;split
 ·simp[plainBase]at h
 ·rfl
theorem iK{f:Expr}{args:List Expr}{kws:List Keyword}{pp:Pos}{l:Nat}{env:Env}:swapsWith (.Call f args kws pp) none l env=pure false:=rfl
theorem uL{i:Nat}{x:Str}{e:Expr}{te:T}(hv:PE X (.Name x p) (tVar i))(he:PE X e (tD X W false fun δ=>ev o δ false te))(hst:aA e=false)(hline:(apos.endLine==cpos.line)=true) :
 PS X (.Expr (.Call (.Attribute (.Name x p) "append" apos) [e] [] cpos) pos) (tS X W (evS o (.append i te))):=by
 refine PS.imp (pN (DR PySem.F.plainAttrs_list PySem.F.slot_list_append PySem.F.type_list_append oh hv (bQ he dw (bV hst)) (cT rfl) (few1 hst) hline (bV hst) rfl) iK) fun En σ H ⟨me,B,δ,S,h⟩=>?_
 simp only[evS]at h;obtain⟨S1,e1⟩:=S.evF o te;have sub1:=dX (B:=B) (σ:=σ) (δ:=δ) o te;generalize (evF o δ te).1=δ1 at *;generalize (evF o δ te).2=r1 at *;obtain⟨r,e2,h⟩:=SO.of_ok h;obtain⟨q,e4,h⟩:=cj h
 cases e5:ownD δ1 i with
 | none=>rw[e5]at e4;cases e4
 | some c=>
 obtain⟨w,d⟩:=c;rw[e5]at e4;simp only[Option.bind_some]at e4
 cases d with
 | lst l=>
   simp only at e4;split at e4
   ·rename_i hsz
    cases e4;obtain⟨_,_,ad,o3,⟨xs0,q0,_⟩,_⟩:=S1.own e5;refine⟨_,o3,.inl ⟨rfl,xs0,SqL.of q0⟩,tD_iff.mpr ⟨me,B,δ1,S1,?_⟩⟩;rw[<-e1,e2];intro v H1 s1 q1;obtain⟨o1,o2,ad',o3',⟨xs,q2,q3⟩,o5,o6⟩:=(S1.mono s1).own e5;rw[o3]at o3';cases o3';have hz:=dj hsz;have hl:=q3.length;refine⟨ad,xs,v,rfl,rfl,q2,by omega,?_⟩;have rv:=q1.keep S1.know;obtain⟨S3,s3⟩:=(S1.mono s1).write (u:=.lst (xs++[v])) (d':=.lst (l++[r.2])) o1 o2 o3 o5 o6 ⟨_,aW,q3.append (by simp only[Reps];exact⟨rv,trivial⟩)⟩;exact h _ _ S3 (((aC sub1).trans (au s1)).trans s3)
   ·cases e4
 | _=>cases e4
theorem Ek:PS X (.Pass pos) (tS X W (evS o .pass)):=by
 refine PS.imp GK fun En σ H ⟨me,B,δ,S,h⟩=>?_
 simp only[evS]at h;exact h _ _ S (Same.refl _)
theorem J2:PS X (.Break pos) (tS X W (evS o .brk)):=by
 refine PS.imp zm fun En σ H ⟨me,B,δ,S,h⟩=>?_
 simp only[evS]at h;exact h _ _ S (Same.refl _)
theorem Eg:PS X (.Continue pos) (tS X W (evS o .cont)):=by
 refine PS.imp oH fun En σ H ⟨me,B,δ,S,h⟩=>?_
 simp only[evS]at h;exact h _ _ S (Same.refl _)
theorem Ep:PS X (.Return none pos) (tS X W (evS o .retn)):=by
 refine PS.imp Ds fun En σ H ⟨me,B,δ,S,h⟩=>?_
 simp only[evS]at h;refine h _ _ _ S (Same.refl _) ?_;exact .shared (by simp only[Rep])
theorem yC{G:Hp}(lo:Int)(n:Nat):Reps W G ((List.range n).map fun(k:Nat)=>D.int (lo+(k:Int))) ((List.range n).map fun(k:Nat)=>V.int (lo+(k:Int))):=by
 induction List.range n with
 | nil=>simp only[List.map_nil,Reps]
 | cons k l ih=>simp only[List.map_cons,Reps,Rep];exact⟨trivial,ih⟩
theorem Ju{i:Int}(h:inR i=true):-1000000<=i/\i<=1000000:=by
 unfold inR at h;simpa using h
end
end Z
namespace Z
open PySem PySem.Spec PyProof.Rows L2
section
variable{X:Cx}{W:Wd}{o:Orc}{p pos apos cpos:Pos}
theorem wH{i:Nat}{x:Str}{e:Expr}{te:T}(hv:PE X (.Name x p) (tVar i))(he:PE X e (tD X W false fun δ=>ev o δ false te))(hst:aA e=false)(hline:(apos.endLine==cpos.line)=true) :
 PS X (.Expr (.Call (.Attribute (.Name x p) "extend" apos) [e] [] cpos) pos) (tS X W (evS o (.extend i te))):=by
 refine PS.imp (pN (DR PySem.F.plainAttrs_list PySem.F.slot_list_extend PySem.F.type_list_extend vf hv (bQ he dw (bV hst)) (cT rfl) (few1 hst) hline (bV hst) rfl) iK) fun En σ H ⟨me,B,δ,S,h⟩=>?_
 simp only[evS]at h;obtain⟨S1,e1⟩:=S.evF o te;have sub1:=dX (B:=B) (σ:=σ) (δ:=δ) o te;generalize (evF o δ te).1=δ1 at *;generalize (evF o δ te).2=r1 at *;obtain⟨⟨rw,rd⟩,e2,h0⟩:=SO.of_ok h;obtain⟨q,e4,h9⟩:=cj h0;clear h0 h
 cases e5:ownD δ1 i with
 | none=>rw[e5]at e4;cases e4
 | some c=>
 obtain⟨w,d⟩:=c;rw[e5]at e4;simp only[Option.bind_some]at e4
 cases d<;>first | exact nope e4 | skip
 rename_i l
 cases rd<;>first | exact nope e4 | skip
 rename_i l';simp only at e4;split at e4
 ·rename_i hc
  cases e4;obtain⟨hsz,hw⟩:=Bool.and_eq_true_iff.mp hc;have hw:rw=true:=hw;subst hw;obtain⟨_,_,ad,o3,⟨xs0,q0,_⟩,_⟩:=S1.own e5;refine⟨_,o3,.inl ⟨rfl,xs0,SqL.of q0⟩,tD_iff.mpr ⟨me,B,δ1,S1,?_⟩⟩;rw[<-e1,e2];intro v H1 s1 q1;obtain⟨o1,o2,ad',o3',⟨xs,q2,q3⟩,o5,o6⟩:=(S1.mono s1).own e5;rw[o3]at o3';cases o3';unfold Res at q1;rw[if_pos rfl]at q1;obtain⟨b,rfl,hb,zs,z1,z2⟩:=q1;have hz:=dj hsz;have hl:=q3.length;have hl':=z2.length;refine⟨ad,b,xs,zs,rfl,rfl,q2,z1,by omega,?_⟩
  have rv:Reps W (vis H1 (Hid B σ δ1)) l' zs:=z2.mono fun c oc ec=>by
   obtain⟨g1,g2⟩:=bD ec
   exact bN g1 fun z=>g2 (.inl z)
  obtain⟨S3,s3⟩:=(S1.mono s1).write (u:=.lst (xs++zs)) (d':=.lst (l++l')) o1 o2 o3 o5 o6 ⟨_,aW,q3.append rv⟩;exact h9 _ _ S3 (((aC sub1).trans (au s1)).trans s3)
 ·cases e4
end
end Z
namespace Z
open PySem PySem.Spec PyProof.Rows L2
noncomputable def veB:List Value:=[.type "ValueError",.type "Exception",.type "BaseException",.type "object"]
structure XObj(h:Heap)(C:Addr)(bm:List Value):Prop where
 ob:∃N nm qn bs hd sn sb ab col dd k0 k1 k2 k3 k5 mN,h.get? C=some (excClassObj nm qn C N bs bm hd sn sb ab col dd k0 k1 k2 k3 k5 "ValueError.__new__")/\h.Ns N mN/\mN "__init__"=none
 tl:OwnTail h veB bm
noncomputable def xIn(K:PySem.W.Frag)(C:Addr):Option (List Value):=match K.lookup C with
 | some ⟨.type "type",_,.cls cd,sl⟩=>(match cd.mro,sl.toList with
   | .ref C'::bm,[_,_,_,_,some (.builtin n),_]=>if C'=C/\n="ValueError.__new__"/\cd.hasDel=false/\PySem.W.tailIn K veB bm=true/\PySem.W.nsOkIn K cd.ns=true/\PySem.W.nsIn K cd.ns "__init__"=some none then some bm else none
   | _,_=>none)
 | _=>none
section
variable{M:Model}{A:Around}{E:Value->Shared->Prop}{s:Shared}
end
section
variable{X:Cx}{W:Wd}{o:Orc}{me:Option Addr}{B:Addr->Prop}{H:Hp}{σ:L2.St}{δ:Dst}
section
variable{pins:List (Addr×Obj)}{s:Shared}{E:Value->Shared->Prop}{v:Value}
end
end
end Z
namespace Z
open PySem PySem.Spec PyProof.Rows L2 PySem.W
structure XK1(K:Frag)(D:Addr):Prop where
 ga:findIn K (.ref D) "__getattribute__"=some (some (.builtin "BaseException.__getattribute__"))
 gt:findIn K (.ref D) "__getattr__"=some none
 fo:findObj K D none "__class__"=some (.bind (.builtin "getset_descriptor.__get__") (.builtin "object.__class__"))
 mo:mroIn K D (.type "object")=some true
 mb:mroIn K D (.type "BaseException")=some true
 cl:(clsIn K D).isSome=true
section
variable{prog:Program}{w:World}{A:Around}{E:Value->Shared->Prop}{s:Shared}{K:Frag}{x D:Addr}{ox:Obj}
noncomputable def xNot(K:Frag)(D C:Addr):Bool:=decide (D≠C)&&(clsIn K C).isSome&&typeIn K (.ref C)==some (.type "type")&&subIn K (.ref D) (.ref C)==some false
end
end Z
namespace Z
open PySem PySem.Spec PyProof.Rows L2
structure XFacts(K:PySem.W.Frag)(mg:Str->Option Value)(W:Wd)(sub:Nat->Nat->Bool)(cl:Str->Option Nat):Prop where
 gc:∀x c,cl x=some c->mg x=some (.ref (W.CT c))/\∃bm,xIn K (W.CT c)=some bm
 gx:∀c,sub c c=true->XK1 K (W.CT c)/\PySem.W.subIn K (.ref (W.CT c)) (.type "ValueError")=some true
 gp:∀x c c',cl x=some c'->sub c c=true->(if sub c c' then PySem.W.isIn K (.ref (W.CT c)) (W.CT c')else xNot K (W.CT c) (W.CT c'))=true
 gh:∀x c c',cl x=some c'->sub c c'=true->∃bC,xIn K (W.CT c)=some bC/\(Value.ref (W.CT c)::bC).contains (.ref (W.CT c'))=true
section
variable{X:Cx}{W:Wd}{lk:Bool}{o:Orc}{a:Expr}{fa:Dst->R (Bool×D)}{p pos:Pos}
end
end Z
namespace L2
open PySem PySem.Spec PyProof.Rows
section
variable{X:Cx}
theorem sE{ys:List Bool}:∀{us:List Value},Vals (ys.map V.bl) us->us=ys.map Value.bool:=by
 induction ys with
 | nil=>intro us h;cases h;rfl
 | cons y ys ih=>
   intro us h;rw[List.map_cons]at h
   cases h with
   | cons r t=>cases r;rw[ih t];rfl
theorem old_kept{s:Shared}{h':Heap}{ob:Obj}(hk:∀b x,b∉[s.heap.objs.size]->(s.heap.push ob).get? b=some x->h'.get? b=some x):∀b x,s.heap.get? b=some x->h'.get? b=some x :=
 fun b x e=>hk b x (fun z=>absurd (Heap.lt_size e) (by rw[List.mem_singleton.mp z];exact Nat.lt_irrefl _)) (Heap.get?_push_of_some _ e)
theorem ul(hc:X.calm=true):CallR X (.builtin "all") (fun xs H Q=>∃(c:Addr) (bs:List Bool),xs=[.ref c]/\SqL X.K H c (bs.map V.bl)/\Q (.bl (bs.all id)) H):=by
 intro pins s σ H xs us Q I r h;obtain⟨c,bs,rfl,hq,q⟩:=h;obtain⟨u,rfl,rx⟩:=vals1 r;cases rx;obtain⟨its,rv,pl,hz⟩:=I.list hq;have eits:=sE rv;subst eits;have hl:s.heap.IsList c (bs.map Value.bool).toArray:=pl.isList
 have hlt:c<s.heap.objs.size:=by obtain⟨_,e,_⟩:=hl;exact Heap.lt_size e
 refine call_all_walk (wpAny_pyIter_list hl ?_)
 refine⟨s.heap.objs.size,[s.heap.objs.size,c],[s.heap.objs.size],(bs.map Value.bool).toArray.size,_,_,fun i=>(bs[i]?).getD true,rfl,Walks.list (A:=X.A.in1) (I.ok.hd hc) _ c (Nat.ne_of_lt hlt) _,
  ⟨⟨_,Heap.get?_push_size _ rfl,rfl,rfl⟩,hl.push _⟩,fun i v s' Q' E' hP hQ=>?_,fun h' tk hk=>?_⟩
 ·have hP:(bs.map Value.bool)[i]?=some v:=by simpa using hP
  rw[List.getElem?_map]at hP
  cases e:bs[i]? with
  | none=>rw[e]at hP;cases hP
  | some b=>
    rw[e]at hP;cases hP;simp only[e,Option.getD_some]at hQ;exact wpAny_truthy_bool hQ
 ·have e:((List.range (bs.map Value.bool).toArray.size).all fun i=>(bs[i]?).getD true)=bs.all id:=by
   rw[List.size_toArray,List.length_map,Bool.eq_iff_iff,List.all_eq_true,List.all_eq_true]
   constructor
   ·intro h b hb
    obtain⟨i,hi,rfl⟩:=List.getElem_of_mem hb;have:=h i (List.mem_range.mpr hi);simpa[List.getElem?_eq_getElem hi]using this
   ·intro h i hi
    have hi:=List.mem_range.mp hi;simpa[List.getElem?_eq_getElem hi]using h _ (List.getElem_mem hi)
  rw[e];exact⟨.bl (bs.all id),H,I.kept (old_kept hk),rfl,q⟩
theorem oY:CallR X (.type "dict") (fun xs H Q=>∃(c:Addr) (kvs:List (Key×V)),xs=[.ref c]/\(∃ep,H c=some (.dK kvs ep))/\∀l ep,H l=none->Q (.ref l) (upd H l (.dK kvs ep))):=by
 intro pins s σ H xs us Q I r h;obtain⟨c,kvs,rfl,hq,q⟩:=h;obtain⟨u,rfl,rx⟩:=vals1 r;cases rx
 exact zG I (hq.imp fun _ z=>.inl z) fun l ep s' hl I'=>⟨.ref l,_,I',rfl,q l ep hl⟩
section
variable{prog:Program}{w:World}{A:Around}{E:Value->Shared->Prop}{s:Shared}
theorem oR{T:String}{r d:Addr}{n:Nat}{P:Nat->Value->Prop}{OK:Heap->Prop}{Q:List Value->Shared->Prop}(K:PySem.W.KdlSrc prog w T r d n P OK)(hh:A.handled=none)(hok:OK s.heap)(hn:n<=sizeLine)
 (h:∀h' tk acc,(∀b o,s.heap.get? b=some o->h'.get? b=some o)->ItemsOf P acc n->Q acc.toList { s with heap:=h',toks:=tk }):wpAny (model prog w) A (collect (.ref r)) Q E s:=by
 have hlt:=K.there _ hok;unfold collect;refine wpAny_bind (wpAny_runValue (codeAny_builtin PySem.F.entry_proto_collect ?_));rw[Around.under_plainId PySem.F.plain_proto_collect _];show wpAny _ A.in1 (newList [] >>= fun acc=>again (.builtin "list.__iadd__" ⟨[acc,.ref r],[]⟩)) _ _ s;refine wpAny_bind (wpAny_newObj_type ?_);refine wpAny_pure ⟨plainId_quiet PySem.F.plain_list_iadd _,codeAny_builtin PySem.F.entry_list_iadd ?_⟩;rw[Around.under_plainId PySem.F.plain_list_iadd _];show wpAny _ A.in1 (Builtin.List.listExtendWith (.ref s.heap.objs.size) (.ref r) (.ref s.heap.objs.size)) _ _ _;have hS0:(s.heap.push { cls:=.type "list",data:=.seq ([]:List Value).toArray }).get? s.heap.objs.size=some { cls:=.type "list",data:=.seq #[] 0 }:=Heap.get?_push_size _ rfl
 have hok0:OK (s.heap.push { cls:=.type "list",data:=.seq ([]:List Value).toArray }):=K.keep _ _ hok fun b _ o e=>Heap.get?_push_of_some _ e
 have fin:∀r' s',(∃h' tk acc c',r'=Except.ok (Flow.ret (.ref s.heap.objs.size))/\s'=({ s with heap:=h',toks:=tk }:Shared)/\(∀b o,s.heap.get? b=some o->h'.get? b=some o)/\h'.get? s.heap.objs.size=some { cls:=.type "list",dict:=none,data:=.seq acc c',slots:=#[] }/\ItemsOf P acc n) ->
  (match r' with
   | Except.ok (Flow.ret v)=>wpAny (model prog w) A (match v with
     | Value.ref a=>(do
       let ob <-load a
       match ob.data with
       | Data.seq xs _=>pure xs.toList
       | _=>unsupported "internal:collect")
     | _=>unsupported "internal:collect") Q E s'
   | Except.ok _=>False
   | Except.error e=>E e s'):=by
  rintro r' s' ⟨h',tk,acc,c',rfl,rfl,hk,hS,hacc⟩
  show wpAny _ A (load s.heap.objs.size >>= _) _ _ _;refine wpAny_bind (wpAny_load hS ?_);exact wpAny_pure (h h' tk acc hk hacc)
 refine wpAny_mono (PySem.W.kdl_extend (A:=A) (s:={ s with heap:=s.heap.push { cls:=.type "list",data:=.seq ([]:List Value).toArray } }) (R:=fun r' s'=>∃h' tk acc c',r'=Except.ok (Flow.ret (.ref s.heap.objs.size))/\s'=({ s with heap:=h',toks:=tk }:Shared)/\(∀b o,s.heap.get? b=some o->h'.get? b=some o)/\h'.get? s.heap.objs.size=some { cls:=.type "list",dict:=none,data:=.seq acc c',slots:=#[] }/\ItemsOf P acc n)
  K hh hok0 s.heap.objs.size (Nat.ne_of_gt hlt.1) (Nat.ne_of_gt hlt.2) (.ref s.heap.objs.size) 0 hS0 (fun h' tk acc c' hk hS hacc=>⟨h',tk,acc,c',rfl,rfl,fun b o e=>hk b o (Nat.ne_of_lt (Heap.lt_size e)) (Heap.get?_push_of_some _ e),hS,hacc⟩) hn) (fun f s' hf=>?_) fun e s' he=>?_
 ·cases f with
  | done f=>exact fin _ _ hf
  | again c'=>exact⟨hf.1,codeAny_mono hf.2 fun r' s' q=>fin r' s' q⟩
 ·obtain⟨_,_,_,_,z,_⟩:=he
  cases z
theorem sorted_by{κ:PyProof.Rows.KeyKind}(hO:κ.OneLt){x:Value}{Q:Value->Shared->Prop}
 (hc:∀E',wpAny (model prog w) A.in1 (collect x) (fun vs s1=>KeysOf κ (pairsOf vs)/\(∀v₁ v₂ rest,vs=v₁::v₂::rest->keyKind' (v₁::v₂::rest).toArray=pure oneType')/\vs.length<64 /\
  ∀(h':Heap) (st:SortSt),(∀b o,s1.heap.get? b=some o->h'.get? b=some o)->(arrOf st).Perm (pairsOf vs)->SortedToK κ (arrOf st) (pairsOf vs).size->(∃e,h'.get? s1.heap.objs.size=some (seqObj "list" ((arrOf st).map (·.2)) e)) ->
   Q (.ref s1.heap.objs.size) { s1 with heap:=h' }) E' s):wpAny (model prog w) A (call (.builtin "sorted") [x]) Q E s:=by
 refine Calls.call_function_entry kind_sorted plain_sorted entry_sorted (args_sorted1 _) ?_;unfold Builtin.«sorted»;refine wpAny_bind (m:=checkCount "sorted" 1 1 _) (wpAny_pure ?_);refine wpAny_bind (wpAny_mono (hc _) (fun vs s1 h1=>?_) fun _ _ e=>e);obtain⟨h0,hkk,h64,hQ⟩:=h1;refine wpAny_bind (wpAny_newList ?_);have hoL:(s1.heap.push (seqObj "list" vs.toArray 0)).get? s1.heap.objs.size=some (seqObj "list" vs.toArray 0):=Heap.get?_push_size _ rfl;refine wpAny_bind (wpAny_holding (wpAny_call_entry slot_list_sort ⟨_,hoL,rfl⟩ entry_list_sort (list_sort_treeK hO hoL h0 hkk h64 fun st' a1 a2=>⟨_,rfl,?_⟩) (args_list_sort _)));refine wpAny_pure ⟨_,rfl,hQ _ st' (fun b o e=>?_) a1 a2 (sortedHeap_at hoL)⟩;have hlt:=Heap.lt_size e;rw[sortedHeap_old (Nat.ne_of_lt hlt) (by rw[size_push'];exact Nat.lt_succ_of_lt hlt)];exact Heap.get?_push_of_some _ e
end
theorem ji:∀{ss:List Str} {its:List Value},Vals (ss.map V.str) its->StrsAre its ss
 | [],its,h=>by cases h;exact .nil
 | x::ss,its,h=>by
   rw[List.map_cons]at h
   cases h with
   | cons r t=>
     obtain⟨tk,rfl⟩:=r;exact .cons x tk (ji t)
theorem iU:∀{ss:List Str} {its:List Value},StrsAre its ss->Vals (ss.map V.str) its
 | _,_,.nil=>.nil
 | _,_,.cons x tk t=>by rw[List.map_cons];exact .cons ⟨tk,rfl⟩ (iU t)
theorem vq{vs:List (Key×Value)}:∀{ss:List Str} {its:List Value},vs.map (·.1)=ss.map Sum.inr->its.length=vs.length->(∀(i:Nat) v,its[i]?=some v->∃k x,vs[i]?=some (k,x)/\mJ k v=true)->StrsAre its ss:=by
 induction vs with
 | nil=>
   intro ss its e hl h
   cases ss with
   | nil=>
     have:its=[]:=List.eq_nil_of_length_eq_zero hl;subst this;exact .nil
   | cons _ _=>simp at e
 | cons q vs ih=>
   intro ss its e hl h
   cases ss with
   | nil=>simp at e
   | cons x ss=>
     cases its with
     | nil=>simp at hl
     | cons v its=>
       simp only[List.map_cons,List.cons.injEq]at e;obtain⟨k,y,e1,e2⟩:=h 0 v rfl;simp at e1
       have e3:k=Sum.inr x:=by rw[<-e.1,e1]
       rw[e3]at e2;rcases aR e2 with⟨i,t,z,_⟩ | ⟨x',t,z,rfl⟩
       ·cases z
       ·cases z
        exact .cons x t (ih e.2 (by simpa using hl) fun i u hu=>by simpa using h (i+1) u (by simpa using hu))
theorem nq(hc:X.calm=true):CallR X (.builtin "sorted") (fun xs H Q=>∃(c:Addr) (ss:List Str),xs=[.ref c]/\(SqL X.K H c (ss.map V.str)\/∃kvs:List (Key×V),(∃ep,H c=some (.dK kvs ep))/\kvs.map (·.1)=ss.map Sum.inr)/\ss.length<64 /\
 ∀(l:Addr) (ss':List Str),ss'.Perm ss->PyProof.Rows.sortedS ss'=true->H l=none->Q (.ref l) (upd H l (.lst (ss'.map V.str)))):=by
 intro pins s σ H xs us Q I r h;obtain⟨c,ss,rfl,hq,h64,q⟩:=h;obtain⟨u,rfl,rx⟩:=vals1 r;cases rx
 have key:∀(vs:List Value) (s1:Shared),Inv X pins σ H s1->StrsAre vs ss->vs.length=ss.length->KeysOf PyProof.Rows.strKind (pairsOf vs)/\(∀v₁ v₂ rest,vs=v₁::v₂::rest->keyKind' (v₁::v₂::rest).toArray=pure oneType')/\vs.length<64 /\
  ∀(h':Heap) (st:SortSt),(∀b o,s1.heap.get? b=some o->h'.get? b=some o)->(arrOf st).Perm (pairsOf vs)->SortedToK PyProof.Rows.strKind (arrOf st) (pairsOf vs).size->(∃e,h'.get? s1.heap.objs.size=some (seqObj "list" ((arrOf st).map (·.2)) e)) ->
   EP X pins σ Q (.ref s1.heap.objs.size) { s1 with heap:=h' }:=fun vs s1 I1 hS hlen=>by
  refine⟨hS.keysOf,fun v₁ v₂ rest e=>keyKind_strs (by rw[<-e];exact hS),by omega,fun h' st hk hp hs ho=>?_⟩;obtain⟨ss',a1,a2,a3⟩:=sorted_out_str hS hp hs;obtain⟨e,ho⟩:=ho;have hl:=a2.length_eq;refine⟨.ref s1.heap.objs.size,_,I1.laid (a:=s1.heap.objs.size) (o:=.lst (ss'.map V.str)) (t':=s1.toks) hk (Nat.le_refl _) ?_,rfl,q _ ss' a2 a3 I1.fresh⟩;refine⟨by rw[List.length_map,sizeLine_eq];omega,((arrOf st).map (·.2)).toList,e,iU a1,?_⟩;rw[ho]
 refine sorted_by PyProof.Rows.strKind_oneLt fun E'=>?_
 rcases hq with hq | ⟨kvs,hd,hks⟩
 ·obtain⟨its,rv,pl,hz⟩:=I.list hq
  have hS:=ji rv
  have hlen:its.length=ss.length:=by have:=rv.length;rw[List.length_map]at this;omega
  refine collect_list (vs:=its) pl.isList ?_ (by rw[hlen,sizeLine_eq];omega);refine key its _ (I.kept (t':=s.toks) fun b o e=>?_) hS hlen;rw[Heap.get?_update_ne _ _ _ _ (Nat.ne_of_lt (Heap.lt_size e))];exact Heap.get?_push_of_some _ e
 ·obtain⟨z,lo,vs,rel,dd⟩:=mq I.hok (hd.imp fun _ z=>.inl z)
  have hkeys:vs.map (·.1)=ss.map Sum.inr:=by rw[<-hks];exact rel.keys.symm
  have hlen:vs.length=ss.length:=by simpa using congrArg List.length hkeys
  obtain⟨ep,dd⟩:=dd.dictAt
  refine oR (A:=X.A.in1) (PySem.W.kdl_dict (knd:=bB X.prog X.w) (kvs:=vs) (ep:=ep) lo) (I.ok.hd hc) dd (by rw[hlen,sizeLine_eq];omega) fun h' tk acc hk hacc=>?_
  have hal:acc.toList.length=vs.length:=by rw[Array.length_toList];exact hacc.1
  exact key acc.toList _ (I.kept hk) (vq hkeys hal fun i v e=>hacc.2 i v (by rw[<-Array.getElem?_toList];exact e)) (by omega)
end
end L2
namespace Z
open PySem PySem.Spec PyProof.Rows L2
section
variable{X:Cx}{W:Wd}{lk lk':Bool}{σ:L2.St}{H H1 H':Hp}{me:Option Addr}{B:Addr->Prop}{δ:Dst}{Q Q':VK}{a b c:Expr}{pos p pos' apos cpos:Pos}{o:Orc}{fa fb fc:Dst->R (Bool×D)}
theorem Em{T id:String}{name:Str}{r:V->List V->Hp->VK->Prop}{g:D->D->R (Bool×D)}(pa:PlainAttrs T)(slot:PySem.Slot T name id)(hty:typeOf (.builtin id)=pure (.type "method_descriptor"))(hm:MtR X id r)
 (hs:Sem2 W (fun x y H Q=>r x [y] H Q) g) (hn:eY g) (hk:∀dx,(∀dy,g dx dy=.stuck)\/∀(H G:Hp) (x:V),Same G H->RepT W H G dx x->tyV X.K T x H)
 (ha:PE X a (tD X W true fa)) (hb:PE X b (tD X W true fb)) (hbase:plainBase a=true) (hst:aA b=false) (hline:(apos.endLine==cpos.line)=true) :
 PE X (.Call (.Attribute a name apos) [b] [] cpos) (tD X W lk fun δ=>(fa δ).bind fun x=>(fb δ).bind fun y=>g x.2 y.2):=by
 refine PE.imp (DR pa slot hty hm ha (bQ hb dw (bV hst)) (cT hbase) (few1 hst) hline (bV hst) rfl) fun σ H Q h=>?_
 obtain⟨me,B,δ,S,h⟩:=tD_iff.mp h
 refine tD.mono (part S h) fun v H1 ⟨r1,e1,S1,s1,t1,_,h1⟩=>?_
 rcases hk r1.2 with hk | hk
 ·refine absurd h1 fun h1=>?_
  cases e2:fb δ with
  | ok r2=>rw[e2]at h1;simp only[R.bind,hk]at h1;exact h1.elim
  | exc c=>rw[e2]at h1;exact h1.elim
  | stuck=>rw[e2]at h1;exact h1.elim
 ·refine⟨hk H1 _ v aY t1,?_⟩
  refine tD.mono (part (g:=fun y=>g r1.2 y.2) S1 h1) fun u H2 ⟨r2,e2,S2,s2,t2,_,h2⟩=>?_
  cases e:g r1.2 r2.2 with
  | ok r=>
    rw[e]at h2;exact hs lk (Hid B σ δ) H2 v u r1.2 r2.2 Q r.1 r.2 S2.softH S2.know (t1.mono s2 (au s2)) t2 e h2
  | exc c=>exact absurd e (hn _ _ _)
  | stuck=>rw[e]at h2;exact h2.elim
theorem fK{G:Hp}:∀{l:List D} {x:List (List Nat)} {vs:List V},strsOf l=some x->Reps W G l vs->vs=x.map fun y=>V.str (strV y)
 | [],x,vs,h,r=>by
   simp only[strsOf,Option.some.injEq]at h;subst h
   cases vs with
   | nil=>rfl
   | cons _ _=>simp only[Reps]at r
 | d::l,x,[],h,r=>by simp only[Reps]at r
 | d::l,x,v::vs,h,r=>by
   cases d with
   | str y=>
     simp only[strsOf]at h
     cases e:strsOf l with
     | none=>rw[e]at h;cases h
     | some x'=>
       rw[e]at h;cases h;simp only[Reps,Rep]at r;rw[r.1.1,fK e r.2]
       rfl
   | _=>simp[strsOf]at h
noncomputable def rJoin(K:PySem.W.Frag):V->List V->Hp->VK->Prop:=fun x vs H Q=>∃(z:Str) (c:Addr) (ys:List Str),x=.str z/\vs=[.ref c]/\SqL K H c (ys.map V.str)/\(ys.map (·.length)).sum+ys.length*z.length<=16777216/\Q (.str (PySem.Txt.join z ys)) H
theorem Hl:MtR X "str.join" (rJoin X.K):=by
 intro pins s σ H x vs v us Q I rx rv h;obtain⟨z,c,ys,rfl,rfl,hq,hz,q⟩:=h;obtain⟨t,rfl⟩:=rx;obtain⟨u,rfl,ru⟩:=rv.one;cases ru;obtain⟨its,r,pl,_⟩:=I.list hq
 refine PyProof.Rows.join_list pl.isList (by simpa using ji r) hz fun t' k=>?_
 exact⟨.str (PySem.Txt.join z ys),H,I.tok k,⟨t',rfl⟩,q⟩
theorem o7(sep:List Nat):∀x:List (List Nat),Str.join (strV sep) (x.map strV)=strV (iM sep x)
 | []=>rfl
 | [_]=>rfl
 | y::z::l=>by
   show strV y++strV sep++Str.join (strV sep) ((z::l).map strV)=_;rw[o7 sep (z::l),dZ,dZ]
   rfl
theorem sr(sep:List Nat)(x:List (List Nat)):PySem.Txt.join (strV sep) (x.map strV)=strV (iM sep x):=by
 have e0:PySem.Txt.join (strV sep) (x.map strV)=Str.join (strV sep) (x.map strV):=PySem.StrLaws.glued_eq_join _ _;rw[e0,o7]
theorem lV(sep:List Nat):∀x:List (List Nat),(iM sep x).length<=(x.map List.length).sum+x.length*sep.length
 | []=>by simp[iM]
 | [y]=>by simp[iM]
 | y::z::l=>by
   have:=lV sep (z::l);simp only[iM,List.length_append,List.map_cons,List.sum_cons,List.length_cons]at this ⊢;rw[Nat.add_mul,Nat.one_mul];omega
theorem Ad(hk:W.K=X.K):Sem2 W (fun x y H Q=>rJoin X.K x [y] H Q) (m1D .join):=by
 intro lk P H x y dx dy Q w d hS hK hx hy e k
 cases dx<;>cases dy<;>first | exact nope e | exact eN e | simp only[m1D]at e
 rename_i sep l
 cases e1:strsOf l with
 | none=>rw[e1]at e;cases e
 | some xs=>
   rw[e1]at e;simp only[Option.bind_some]at e;split at e
   ·rename_i hz
    cases e;obtain⟨rfl,hl⟩:=aV hx;obtain⟨c,vs,rfl,q1,q2⟩:=hy;have ev:=fK e1 q2;subst ev
    have hz':(xs.map List.length).sum+xs.length*sep.length<=16777216:=by simpa[size]using hz
    refine⟨strV sep,c,xs.map strV,rfl,rfl,?_,?_,?_⟩
    ·rw[List.map_map];exact hk▸q1
    ·rw[List.map_map,List.length_map,ie]
     have:((fun z:Str=>z.length)∘strV)=List.length:=funext fun z=>ie z
     rw[this];exact hz'
    ·rw[sr]
     exact k _ H (Same.refl H) (p7 (Nat.le_trans (lV sep xs) hz'))
   ·cases e
theorem sY:eY (m1D .join):=by
 intro x y c;show(match x,y with | .str sep,.lst l=>R.of ((strsOf l).bind fun x=>if size ((x.map List.length).sum+x.length*sep.length)then some (false,D.str (iM sep x))else none) | _,_=>R.stuck)≠.exc c;split
 ·exact dJ
 ·intro z;cases z
theorem xX(dx:D):(∀dy,m1D .join dx dy=.stuck)\/∀(H G:Hp) (x:V),Same G H->RepT W H G dx x->tyV X.K "str" x H:=by
 cases dx with
 | str s=>exact .inr fun H G x _ h=>by rw[(aV h).1];rfl
 | _=>exact .inl fun dy=>by simp only[m1D]
theorem Ly{e f ob:Expr}{m:Str}(hb:plainBase ob=true)(h1:aA e=false)(h2:aA f=false)(hl:(apos.endLine==cpos.line)=true):M2 X ob m apos e f cpos:=by
 have e2:starEach [f] X.env=[(false,eval f X.env)]:=bV h2
 have e1:starEach [e,f] X.env=[(false,eval e X.env),(false,eval f X.env)]:=by rw[bV h1,e2]
 refine⟨cT hb,?_,hl,?_⟩
 all_goals(rw[e1];rfl)
theorem lG{G:Hp}{d:D}{x:V}(h:fL d=true)(r:RepT W H G d x):ju x=true:=by
 cases d with
 | str s=>rw[(aV r).1];rfl
 | non=>simp only[RepT,Rep]at r;subst r;rfl
 | bl b=>simp only[RepT,Rep]at r;subst r;rfl
 | int i=>simp only[RepT,Rep]at r;subst r;rfl
 | _=>simp[fL]at h
theorem zK{y x:D}{t:Bool}(h:eqS y x=some t):fL y=true/\fL x=true:=by
 cases y<;>cases x<;>simp[eqS]at h<;>exact⟨rfl,rfl⟩
theorem Ej{G G':Hp}{dy dx:D}{y x:V}{t:Bool}(h:eqS dy dx=some t)(ry:RepT W H G dy y)(rx:RepT W H G' dx x):eqV y x=t:=by
 cases dy<;>cases dx<;>first | exact nope h | exact eN h | simp only[eqS]at h
 all_goals simp only[Option.some.injEq]at h
 all_goals (first | (have ry:=(aV ry).1) | (simp only[RepT,Rep]at ry))
 all_goals (first | (have rx:=(aV rx).1) | (simp only[RepT,Rep]at rx))
 all_goals subst ry
 all_goals subst rx
 all_goals (rw[<-h])
 all_goals first
  | rfl
  | simp[eqV]
 all_goals (rw[Bool.eq_iff_iff];simp only[beq_iff_eq,decide_eq_true_eq];exact⟨fun z=>cW z,fun z=>by rw[z]⟩)
theorem vM{G G':Hp}{dx:D}{x:V}(rx:RepT W G G' dx x):∀{l:List D} {vs:List V} {t:Bool},inS dx l=some t->Reps W G l vs->vs.all ju=true/\inV x vs=t
 | [],[],t,h,_=>by
   simp only[inS,Option.some.injEq]at h;subst h;exact⟨rfl,rfl⟩
 | [],_::_,_,_,r=>by simp only[Reps]at r
 | _::_,[],_,_,r=>by simp only[Reps]at r
 | d::l,v::vs,t,h,r=>by
   simp only[Reps]at r;simp only[inS]at h
   cases e1:eqS d dx with
   | none=>rw[e1]at h;cases h
   | some s1=>
     cases e2:inS dx l with
     | none=>rw[e1,e2]at h;cases h
     | some s2=>
       rw[e1,e2]at h;cases h;obtain⟨k1,k2⟩:=vM rx e2 r.2;have rt:RepT W G G d v:=r.1.top (Same.refl _);refine⟨?_,?_⟩
       ·rw[List.all_cons,k1,Bool.and_true]
        exact lG (zK e1).1 rt
       ·show(eqV v x||inV x vs)=_
        rw[k2,Ej e1 rt rx]
theorem ql{G G' H':Hp}{d:D}{x:V}(h:fL d=true)(r:RepT W H G d x):RepT W H' G' d x:=by
 cases d with
 | str s=>simpa only[RepT,Rep]using r
 | non=>simpa only[RepT,Rep]using r
 | bl b=>simpa only[RepT,Rep]using r
 | int i=>simpa only[RepT,Rep]using r
 | _=>simp[fL]at h
noncomputable def jV(neg:Bool)(x y:D):R (Bool×D):=match y with
 | .lst l=>.of ((if fL x then inS x l else none).map fun t=>(false,.bl (if neg then !t else t)))
 | .tup l=>.of ((if fL x then inS x l else none).map fun t=>(false,.bl (if neg then !t else t)))
 | _=>.stuck
theorem vo(neg:Bool)(hk:W.K=X.K):Sem2 W (rIn X.K neg) (jV neg):=by
 intro lk P H x y dx dy Q w d hS hK hx hy e k
 cases dy<;>first | exact nope e | exact eN e | simp only[jV]at e
 ·rename_i l
  by_cases hf:fL dx=true
  ·rw[if_pos hf]at e
   cases e1:inS dx l with
   | none=>rw[e1]at e;cases e
   | some t=>
     rw[e1]at e;cases e;simp only[RepT,Rep]at hy;obtain⟨c,vs,rfl,q1,q2⟩:=hy;obtain⟨k1,k2⟩:=vM (ql (G':=H) hf hx) e1 q2;refine⟨c,vs,rfl,.inr (hk▸aL aY q1),lG hf hx,k1,?_⟩;rw[k2];exact k _ H (Same.refl H) cH
  ·rw[if_neg hf]at e;cases e
 ·rename_i l
  by_cases hf:fL dx=true
  ·rw[if_pos hf]at e
   cases e1:inS dx l with
   | none=>rw[e1]at e;cases e
   | some t=>
     rw[e1]at e;cases e;obtain⟨c,vs,rfl,q1,q2⟩:=hy;obtain⟨k1,k2⟩:=vM (ql (G':=H) hf hx) e1 q2;refine⟨c,vs,rfl,.inl (hk▸q1),lG hf hx,k1,?_⟩;rw[k2];exact k _ H (Same.refl H) cH
  ·rw[if_neg hf]at e;cases e
theorem fC:∀{ks:List DK} {vs:List D} {x:DK},ks.length=vs.length->((look ks vs x).isSome=decide (x∈ks))
 | [],[],_,_=>by simp[look]
 | [],_::_,_,h=>by simp at h
 | _::_,[],_,h=>by simp at h
 | k::ks,v::vs,x,h=>by
   simp only[look]
   by_cases hk:k=x
   ·subst hk;simp
   ·rw[if_neg hk,fC (by simpa using h)]
    simp[Ne.symm hk]
theorem oV(neg:Bool):eY (jV neg):=by
 intro x y c
 cases y<;>simp only[jV]<;>first | exact dJ | (intro z;cases z)
noncomputable def opIn(neg:Bool):O2:=if neg then .notin else .in
theorem Ak(neg:Bool)(x y:D)(h:∀ks vs,y≠.dct ks vs)(h':∀t,y≠.str t):o2 (opIn neg) x y=jV neg x y:=by
 cases neg<;>cases y<;>simp only[opIn,if_true,Bool.false_eq_true,if_false,o2,isIn,jV]<;>first | rfl | (exact absurd rfl (h _ _)) | (exact absurd rfl (h' _)) | skip
noncomputable def rInS(neg:Bool):R2:=fun x y H Q=>∃i j,x=.str i/\y=.str j/\Q (.bl (if neg then !(!(Builtin.Str.occurrences j i 0 j.length 1).isEmpty)else !(Builtin.Str.occurrences j i 0 j.length 1).isEmpty)) H
theorem jT(neg:Bool)(hk:W.K=X.K)(h:tD X W lk (fun δ=>(fa δ).bind fun x=>(fb δ).bind fun y=>o2 (opIn neg) x.2 y.2) σ H Q) :
 tOp (rIn X.K neg) (tD X W true fa) (tD X W true fb) σ H Q\/(fun σ H Q=>tD X W true fa σ H fun y H1=>tD X W true fb σ H1 fun x H2=>∃a o,x=.ref a/\DGet H2 a y o/\Q (.bl (if neg then !o.isSome else o.isSome)) H2) σ H Q\/tOp (rInS neg) (tD X W true fa) (tD X W true fb) σ H Q:=by
 obtain⟨me,B,δ,S,h⟩:=tD_iff.mp h
 by_cases hs:∃r t,fb δ=.ok r/\r.2=.str t
 ·obtain⟨r,t,e,e2⟩:=hs
  refine .inr (.inr ?_)
  refine tD.mono (part S h) fun v H1 ⟨r1,e1,S1,s1,t1,_,h1⟩=>?_
  refine tD.mono (part (g:=fun y=>o2 (opIn neg) r1.2 y.2) S1 h1) fun u H2 ⟨r2,e3,S2,s2,t2,_,h2⟩=>?_
  have:r2=r:=by rw[e]at e3;cases e3;rfl
  subst this;rw[e2]at t2 h2
  have hc:∃c,r1.2=.str [c]:=by
   cases e4:r1.2 with
   | str z=>
     cases z with
     | nil=>rw[e4]at h2;cases neg<;>exact h2.elim
     | cons c z=>
       cases z with
       | nil=>exact⟨c,rfl⟩
       | cons _ _=>rw[e4]at h2;cases neg<;>exact h2.elim
   | _=>rw[e4]at h2;cases neg<;>exact h2.elim
  obtain⟨c,e4⟩:=hc;rw[e4]at h2;have t1:=t1.mono s2 (au s2);rw[e4]at t1;simp only[RepT,Rep]at t1 t2;refine⟨strV [c],strV t,t1.1,t2.1,?_⟩
  have ef:(!(Builtin.Str.occurrences (strV t) (strV [c]) 0 (strV t).length 1).isEmpty)=decide (c∈t):=by
   rw[show strV [c]=⟨#[c]⟩from rfl,PySem.StrLaws.found_one];rfl
  rw[ef]
  have h2:After X W lk σ H2 (Hid B σ δ) (.ok (false,.bl (if neg then !decide (c∈t)else decide (c∈t)))) Q:=by
   cases neg<;>exact h2
  exact h2 _ H2 (Same.refl _) cH
 by_cases hd:∃r ks vs,fb δ=.ok r/\r.2=.dct ks vs
 ·obtain⟨r,ks,vs,e,e2⟩:=hd
  refine .inr (.inl ?_)
  refine tD.mono (part S h) fun v H1 ⟨r1,e1,S1,s1,t1,_,h1⟩=>?_
  refine tD.mono (part (g:=fun y=>o2 (opIn neg) r1.2 y.2) S1 h1) fun u H2 ⟨r2,e3,S2,s2,t2,_,h2⟩=>?_
  have:r2=r:=by rw[e]at e3;cases e3;rfl
  subst this;rw[e2]at t2 h2;obtain⟨ad,kvs,rfl,q1,q2,q3,q4⟩:=t2
  cases e4:keyOf r1.2 with
  | none=>
    refine absurd h2 fun h2=>?_
    cases neg<;>simp only[opIn,if_true,Bool.false_eq_true,if_false,o2,isIn,e4]at h2<;>exact h2.elim
  | some kx=>
    have h2:After X W lk σ H2 (Hid B σ δ) (.ok (false,.bl (if neg then !decide (kx∈ks)else decide (kx∈ks)))) Q:=by
     cases neg<;>simpa only[opIn,if_true,Bool.false_eq_true,if_false,o2,isIn,e4,Option.map_some,R.of]using h2
    have hl:ks.length=vs.length:=by
     have h1:=congrArg List.length q2;simp only[List.length_map]at h1;have h3:=q4.length;simp only[List.length_map]at h3;omega
    have hv:(valV kvs (keyV kx)).isSome=decide (kx∈ks):=by
     rw[<-fC (x:=kx) hl]
     cases e5:look ks vs kx with
     | some d=>obtain⟨w,p1,_⟩:=kh q2 q4 e5;rw[p1];rfl
     | none=>rw[iW q2 q4 e5];rfl
    refine⟨ad,valV kvs (keyV kx),rfl,?_,?_⟩
    ·rw[jU e4 (t1.mono s2 (au s2))]
     obtain⟨ep,q1⟩:=q1;exact DGet.k q1
    ·rw[hv]
     exact h2 _ H2 (Same.refl _) cH
 ·refine .inl (nJ (lk:=lk) (vo neg hk) (oV neg) ?_)
  refine tD_iff.mpr ⟨me,B,δ,S,?_⟩
  have e:((fa δ).bind fun x=>(fb δ).bind fun y=>jV neg x.2 y.2)=((fa δ).bind fun x=>(fb δ).bind fun y=>o2 (opIn neg) x.2 y.2):=by
   congr 1
   funext x
   cases e3:fb δ with
   | ok r=>
     show jV neg x.2 r.2=o2 (opIn neg) x.2 r.2;rw[Ak neg x.2 r.2 (fun ks vs z=>hd ⟨r,ks,vs,e3,z⟩) fun t z=>hs ⟨r,t,e3,z⟩]
   | exc c=>rfl
   | stuck=>rfl
  show After X W lk σ H (Hid B σ δ) ((fa δ).bind fun x=>(fb δ).bind fun y=>jV neg x.2 y.2) Q;rw[e];exact h
theorem PT.or{e:Expr}{t t':TT}(h:PT X e t)(h':PT X e t'):PT X e (fun σ H Q=>t σ H Q\/t' σ H Q):=by
 intro pins s σ H Q I q;rcases q with q | q
 ·exact h pins s σ H Q I q
 ·exact h' pins s σ H Q I q
theorem HF(neg:Bool):∀x y r,o2 (opIn neg) x y=.ok r->∃b,r=(false,.bl b):=by
 intro x y r h
 cases neg with
 | false=>
   simp only[opIn,Bool.false_eq_true,if_false,o2]at h
   cases e:isIn x y with
   | none=>rw[e]at h;cases h
   | some b=>rw[e]at h;cases h;exact⟨_,rfl⟩
 | true=>
   simp only[opIn,if_true,o2]at h
   cases e:isIn x y with
   | none=>rw[e]at h;cases h
   | some b=>rw[e]at h;cases h;exact⟨_,rfl⟩
theorem d_in(hk:W.K=X.K)(hu:X.A.units+1<cLine)(ha:PE X a (tD X W true fa))(hb:PE X b (tD X W true fb))(hm:behindInMarks .In b=false) :
 (∀lk,PE X (.Compare a [.In] [b] pos) (tD X W lk fun δ=>(fa δ).bind fun x=>(fb δ).bind fun y=>o2 .in x.2 y.2))/\PT X (.Compare a [.In] [b] pos) (tT X W fun δ=>(fa δ).bind fun x=>(fb δ).bind fun y=>o2 .in x.2 y.2):=by
 refine⟨fun lk=>PE.imp (PE.or (iY nj ha hb hm) (PE.or (Ay (Al hu ha hb) hm) (iY mW ha hb hm))) fun σ H Q h=>jT false hk h,PT.imp (PT.or (jf nj ha hb hm) (PT.or (Ax (Al hu ha hb) hm) (jf mW ha hb hm))) fun σ H Q h=>?_⟩
 exact jT (lk:=true) false hk (Dm (fun δ r e=>by
  obtain⟨y,_,e⟩:=fY e;obtain⟨z,_,e⟩:=fY e
  exact HF false _ _ _ e) h)
theorem Ft(hk:W.K=X.K)(hu:X.A.units+1<cLine)(ha:PE X a (tD X W true fa))(hb:PE X b (tD X W true fb))(hm:behindInMarks .NotIn b=false) :
 (∀lk,PE X (.Compare a [.NotIn] [b] pos) (tD X W lk fun δ=>(fa δ).bind fun x=>(fb δ).bind fun y=>o2 .notin x.2 y.2))/\PT X (.Compare a [.NotIn] [b] pos) (tT X W fun δ=>(fa δ).bind fun x=>(fb δ).bind fun y=>o2 .notin x.2 y.2):=by
 refine⟨fun lk=>PE.imp (PE.or (iY gG ha hb hm) (PE.or (Ay (nZ hu ha hb) hm) (iY gF ha hb hm))) fun σ H Q h=>jT true hk h,PT.imp (PT.or (jf gG ha hb hm) (PT.or (Ax (nZ hu ha hb) hm) (jf gF ha hb hm))) fun σ H Q h=>?_⟩
 exact jT (lk:=true) true hk (Dm (fun δ r e=>by
  obtain⟨y,_,e⟩:=fY e;obtain⟨z,_,e⟩:=fY e
  exact HF true _ _ _ e) h)
end
end Z
namespace Z
open PySem PySem.Spec PyProof.Rows L2
section
variable{X:Cx}{W:Wd}
end
end Z
namespace Z
open PySem PySem.Spec PyProof.Rows L2
section
variable{X:Cx}{pins:List (Addr×Obj)}{σ:L2.St}{H:Hp}{s:Shared}{a:Addr}{kvs:List (Key×V)}{k:Key}{u:Value}{A:Around}{E:Value->Shared->Prop}
end
section
variable{X:Cx}{o e:Expr}{apos cpos:Pos}{td ty:TE}
end
section
variable{W:Wd}
end
section
variable{X:Cx}{W:Wd}{o:Orc}{p apos cpos pos pos':Pos}
end
end Z
namespace Z
open PySem PySem.Spec PyProof.Rows L2
theorem insS_perm(x:List Nat):∀l,(insS x l).Perm (x::l)
 | []=>.refl _
 | y::l=>by
   simp only[insS];split
   ·exact .refl _
   ·exact((insS_perm x l).cons y).trans (.swap x y l)
theorem sortS_perm:∀l,(cC l).Perm l
 | []=>.refl _
 | x::l=>(insS_perm x (cC l)).trans ((sortS_perm l).cons x)
theorem jh(x:List Nat):∀{l:List (List Nat)},l.Pairwise (·<=·)->(insS x l).Pairwise (·<=·)
 | [],_=>by simp[insS]
 | y::l,h=>by
   obtain⟨h1,h2⟩:=List.pairwise_cons.mp h;simp only[insS,uQ];split
   ·rename_i hx
    have hx:x<y:=of_decide_eq_true hx;refine List.pairwise_cons.mpr ⟨fun z hz=>?_,h⟩;rcases List.mem_cons.mp hz with e | hz
    ·subst e;exact List.le_of_lt hx
    ·exact List.le_trans (List.le_of_lt hx) (h1 z hz)
   ·rename_i hx
    have hx:¬x<y:=fun z=>hx (decide_eq_true z)
    refine List.pairwise_cons.mpr ⟨fun z hz=>?_,jh x h2⟩;rcases List.mem_cons.mp ((insS_perm x l).mem_iff.mp hz)with e | hz
    ·subst e;exact List.not_lt.mp hx
    ·exact h1 z hz
theorem gQ:∀l,(cC l).Pairwise (·<=·)
 | []=>.nil
 | x::l=>jh x (gQ l)
theorem du:∀(p:Str) (l:List Str),PyProof.Rows.risingS p l=true->(p::l).Pairwise (fun a b=>a.cps.toList<=b.cps.toList)
 | p,[],_=>by simp
 | p,x::r,h=>by
   simp only[PyProof.Rows.risingS,Bool.and_eq_true,Bool.not_eq_true',ltCps_eq,decide_eq_false_iff_not]at h;have ih:=du x r h.2;have hp:p.cps.toList<=x.cps.toList:=List.not_lt.mp h.1;refine List.pairwise_cons.mpr ⟨fun z hz=>?_,ih⟩;rcases List.mem_cons.mp hz with e | hz
   ·subst e;exact hp
   ·exact List.le_trans hp ((List.pairwise_cons.mp ih).1 z hz)
theorem jy(s:Str):strV s.cps.toList=s:=by
 cases s;simp[strV]
theorem eQ{x:List (List Nat)}{ss:List Str}(hp:ss.Perm (x.map strV))(hs:PyProof.Rows.sortedS ss=true):ss=(cC x).map strV:=by
 have hpw:ss.Pairwise (fun a b=>a.cps.toList<=b.cps.toList):=by
  cases ss with
  | nil=>exact .nil
  | cons p l=>exact du p l hs
 have hpw2:((cC x).map strV).Pairwise (fun a b:Str=>a.cps.toList<=b.cps.toList):=by
  rw[List.pairwise_map]
  refine(gQ x).imp fun{a b} h=>?_
  simpa[strV]using h
 refine List.Perm.eq_of_pairwise (le:=fun a b:Str=>a.cps.toList<=b.cps.toList) (fun a b _ _ h1 h2=>?_) hpw hpw2 (hp.trans ((sortS_perm x).map strV).symm);have:=List.le_antisymm h1 h2;rw[<-jy a,<-jy b,this]
section
variable{X:Cx}{W:Wd}{lk lk':Bool}{σ:L2.St}{H H1 H':Hp}{me:Option Addr}{B:Addr->Prop}{δ:Dst}{Q Q':VK}{a b c:Expr}{pos p pos' apos cpos:Pos}{o:Orc}{fa fb fc:Dst->R (Bool×D)}
theorem jO{G:Hp}:∀{l:List D} {x:List Bool} {vs:List V},boolsOf l=some x->Reps W G l vs->vs=x.map V.bl
 | [],x,vs,h,r=>by
   simp only[boolsOf,Option.some.injEq]at h;subst h
   cases vs with
   | nil=>rfl
   | cons _ _=>simp only[Reps]at r
 | d::l,x,[],h,r=>by simp only[Reps]at r
 | d::l,x,v::vs,h,r=>by
   cases d with
   | bl y=>
     simp only[boolsOf]at h
     cases e:boolsOf l with
     | none=>rw[e]at h;cases h
     | some x'=>
       rw[e]at h;cases h;simp only[Reps,Rep]at r;rw[r.1,jO e r.2]
       rfl
   | _=>simp[boolsOf]at h
theorem Fz(hk:W.K=X.K):Sem1 W (fun xs H Q=>∃(c:Addr) (bs:List Bool),xs=[.ref c]/\SqL X.K H c (bs.map V.bl)/\Q (.bl (bs.all id)) H) (b1D .all):=by
 intro lk P H x dx Q w d hS hK hx e k
 cases dx<;>first | exact nope e | exact eN e | simp only[b1D]at e
 rename_i l
 cases e1:boolsOf l with
 | none=>rw[e1]at e;cases e
 | some bs=>
   rw[e1]at e;cases e;obtain⟨c,vs,rfl,q1,q2⟩:=hx;have:=jO e1 q2;subst this;exact⟨c,bs,rfl,hk▸q1,k _ H (Same.refl H) cH⟩
theorem xG(hk:W.K=X.K):Sem1 W (fun xs H Q=>∃p ys,xs=[.ref p]/\((SqL X.K H p ys/\∀l,H l=none->Q (.ref l) (upd H l (.tup ys)))\/(SqT X.K H p ys/\Q (.ref p) H))) (b1D .tuple):=by
 intro lk P H x dx Q w d hS hK hx e k
 cases dx<;>first | exact nope e | exact eN e | simp only[b1D]at e
 ·cases e
  have hx':=hx;simp only[RepT,Rep]at hx;obtain⟨c,vs,rfl,q1,q2⟩:=hx;exact⟨c,vs,rfl,.inr ⟨hk▸aL aY q1,k _ H (Same.refl H) (.shared hx')⟩⟩
 ·cases e
  obtain⟨c,vs,rfl,q1,q2⟩:=hx;exact⟨c,vs,rfl,.inl ⟨hk▸q1,fun l hl=>k _ _ (Same.upd hl) (il hl q2 hK)⟩⟩
theorem qu{P:Addr->Prop}{q:Addr}{ks:List DK}{vs:List D}{kvs:List (Key×V)}{ep:Nat}(hn:H q=none)(h1:kvs.map (·.1)=ks.map keyV)(h2:KsOk ks)(h:Reps W (vis H P) vs (kvs.map (·.2))):Res W P lk H (upd H q (.dK kvs ep)) true (.dct ks vs) (.ref q):=by
 unfold Res;rw[if_pos rfl];refine⟨q,rfl,hn,kvs,⟨ep,aW⟩,h1,h2,h.mono fun b o e=>?_⟩;obtain⟨e1,e2⟩:=bD e;have hb:b≠q:=bJ e1 hn
 refine bN (by rw[aM hb];exact e1) fun z=>?_
 rcases z with z | z
 ·exact e2 z
 ·exact hb z
theorem vy:Sem1 W (fun xs H Q=>∃(c:Addr) (kvs:List (Key×V)),xs=[.ref c]/\IsK H c kvs/\∀l ep,H l=none->Q (.ref l) (upd H l (.dK kvs ep))) (b1D .dict):=by
 intro lk P H x dx Q w d hS hK hx e k
 cases dx<;>first | exact nope e | exact eN e | simp only[b1D]at e
 cases e;obtain⟨c,kvs,rfl,q1,q2,q3,q4⟩:=hx;exact⟨c,kvs,rfl,q1,fun l ep hl=>k _ _ (Same.upd hl) (qu hl q2 q3 q4)⟩
theorem rM:∀{l:List D} {x:List (List Nat)},strsOf l=some x->l.length=x.length
 | [],x,h=>by simp only[strsOf,Option.some.injEq]at h;subst h;rfl
 | d::l,x,h=>by
   cases d with
   | str y=>
     simp only[strsOf]at h
     cases e:strsOf l with
     | none=>rw[e]at h;cases h
     | some x'=>rw[e]at h;cases h;simp[rM e]
   | _=>simp[strsOf]at h
theorem jM:∀{ks:List DK} {x:List (List Nat)},strsOf (ks.map keyD)=some x->ks=x.map DK.s
 | [],x,h=>by simp only[List.map_nil,strsOf,Option.some.injEq]at h;subst h;rfl
 | k::ks,x,h=>by
   cases k with
   | i n=>simp[keyD,strsOf]at h
   | s y=>
     simp only[List.map_cons,keyD,strsOf]at h
     cases e:strsOf (ks.map keyD)with
     | none=>rw[e]at h;cases h
     | some x'=>rw[e]at h;cases h;rw[jM e];rfl
theorem lu:∀{l:List D} {x:List (List Nat)} {vs:List V} {G:Hp},strsOf l=some x->Reps W G l vs->∀y∈x,y.length<=16777216
 | [],x,vs,G,h,_,y,hy=>by simp only[strsOf,Option.some.injEq]at h;subst h;simp at hy
 | d::l,x,[],G,h,r,y,hy=>by simp only[Reps]at r
 | d::l,x,v::vs,G,h,r,y,hy=>by
   cases d with
   | str z=>
     simp only[strsOf]at h
     cases e:strsOf l with
     | none=>rw[e]at h;cases h
     | some x'=>
       rw[e]at h;cases h;simp only[Reps,Rep]at r;rcases List.mem_cons.mp hy with q | q
       ·subst q;exact r.1.2
       ·exact lu e r.2 y q
   | _=>simp[strsOf]at h
theorem iw{G:Hp}:∀{x:List (List Nat)},(∀y∈x,y.length<=16777216)->Reps W G (x.map D.str) ((x.map strV).map V.str)
 | [],_=>by simp only[List.map_nil,Reps]
 | y::x,h=>by
   simp only[List.map_cons,Reps,Rep];exact⟨⟨trivial,h y List.mem_cons_self⟩,iw fun z hz=>h z (List.mem_cons_of_mem _ hz)⟩
theorem sH(hk:W.K=X.K):Sem1 W (fun xs H Q=>∃(c:Addr) (ss:List Str),xs=[.ref c]/\(SqL X.K H c (ss.map V.str)\/∃kvs:List (Key×V),IsK H c kvs/\kvs.map (·.1)=ss.map Sum.inr)/\ss.length<64 /\
 ∀(l:Addr) (ss':List Str),ss'.Perm ss->PyProof.Rows.sortedS ss'=true->H l=none->Q (.ref l) (upd H l (.lst (ss'.map V.str)))) (b1D .sorted):=by
 intro lk P H x dx Q w d hS hK hx e k;simp only[b1D]at e
 cases e0:rn dx with
 | none=>rw[e0]at e;cases e
 | some l=>
 rw[e0]at e;simp only[Option.bind_some]at e
 cases e1:strsOf l with
 | none=>rw[e1]at e;cases e
 | some xs=>
 rw[e1]at e;simp only[Option.bind_some]at e;split at e
 ·rename_i h64
  cases e
  have fin:(∀y∈xs,y.length<=16777216)->∀(l':Addr) (ss':List Str),ss'.Perm (xs.map strV)->PyProof.Rows.sortedS ss'=true->H l'=none->Q (.ref l') (upd H l' (.lst (ss'.map V.str))):=fun hall l' ss' hp hs hl=>by
   rw[eQ hp hs];refine k _ _ (Same.upd hl) (gC hl (iw fun y hy=>hall y ((sortS_perm xs).mem_iff.mp hy)) hK)
  cases dx<;>first | exact nope e0 | exact eN e0 | simp only[rn]at e0
  ·cases e0
   obtain⟨c,vs,rfl,q1,q2⟩:=hx;have hall:=lu e1 q2;have ev:=fK e1 q2;subst ev;refine⟨c,xs.map strV,rfl,.inl ?_,by simpa using h64,fin hall⟩;rw[List.map_map];exact hk▸q1
  ·cases e0
   obtain⟨c,kvs,rfl,q1,q2,q3,q4⟩:=hx;have hks:=jM e1;subst hks;refine⟨c,xs.map strV,rfl,.inr ⟨kvs,q1,?_⟩,by simpa using h64,fin fun y hy=>q3.2 y (List.mem_map_of_mem hy)⟩;rw[q2,List.map_map,List.map_map]
   rfl
 ·cases e
end
end Z
namespace Z
open PySem
structure Tj(led:Bool)(t:SetTable):Prop where
 led:t.led=led
 up:t.place.toList.Pairwise (·<·)
 dum:t.dummies=#[]
theorem jZ{xs:Array Nat}{j:Nat}(hp:xs.toList.Pairwise (·<·)):∀(fuel lo hi:Nat),hi-lo<=fuel->lo<=hi->hi<=xs.size->(∀i,i<lo->xs.getD i 0<j)->(∀i,hi<=i->i<xs.size->j<=xs.getD i 0) ->
 SetTable.below.go xs j fuel lo hi<=xs.size/\(∀i,i<SetTable.below.go xs j fuel lo hi->xs.getD i 0<j)/\(∀i,SetTable.below.go xs j fuel lo hi<=i->i<xs.size->j<=xs.getD i 0)
 | 0,lo,hi,h1,h2,h3,h4,h5=>by
   have:lo=hi:=by omega
   subst this;exact⟨h3,h4,h5⟩
 | n+1,lo,hi,h1,h2,h3,h4,h5=>by
   have mono:∀a b,a<=b->b<xs.size->xs.getD a 0<=xs.getD b 0:=fun a b hab hb=>by
    rcases Nat.lt_or_eq_of_le hab with hab | rfl
    ·have:=List.pairwise_iff_getElem.mp hp a b (by simpa using(by omega:a<xs.size)) (by simpa using hb) hab
     simp only[Array.getElem_toList]at this;rw[Array.getD_eq_getD_getElem?,Array.getD_eq_getD_getElem?,Array.getElem?_eq_getElem (by omega),Array.getElem?_eq_getElem hb];exact Nat.le_of_lt this
    ·exact Nat.le_refl _
   unfold SetTable.below.go
   by_cases hl:lo<hi
   ·rw[if_pos hl]
    have hm:(lo+hi)/2<xs.size:=by omega
    have hd:xs.getD ((lo+hi)/2) j=xs.getD ((lo+hi)/2) 0:=by
     rw[Array.getD_eq_getD_getElem?,Array.getD_eq_getD_getElem?,Array.getElem?_eq_getElem hm];rfl
    dsimp only;rw[hd]
    by_cases hc:xs.getD ((lo+hi)/2) 0<j
    ·rw[if_pos hc]
     refine jZ hp n ((lo+hi)/2+1) hi (by omega) (by omega) h3 (fun i hi'=>?_) h5;exact Nat.lt_of_le_of_lt (mono i ((lo+hi)/2) (by omega) hm) hc
    ·rw[if_neg hc]
     refine jZ hp n lo ((lo+hi)/2) (by omega) (by omega) (by omega) h4 fun i hi' hs=>?_
     exact Nat.le_trans (by omega) (mono ((lo+hi)/2) i hi' hs)
   ·rw[if_neg hl]
    have:lo=hi:=by omega
    subst this;exact⟨h3,h4,h5⟩
theorem below_at{xs:Array Nat}(hp:xs.toList.Pairwise (·<·))(j:Nat):SetTable.below xs j<=xs.size/\(∀i,i<SetTable.below xs j->xs.getD i 0<j)/\(∀i,SetTable.below xs j<=i->i<xs.size->j<=xs.getD i 0) :=
 jZ hp xs.size 0 xs.size (by omega) (Nat.zero_le _) (Nat.le_refl _) (fun i hi=>absurd hi (Nat.not_lt_zero _)) fun i h1 h2=>absurd h2 (by omega)
theorem qQ{xs:Array Nat}(hp:xs.toList.Pairwise (·<·)){j:Nat}(hn:xs[SetTable.below xs j]?≠some j):(SetTable.insertAt xs (SetTable.below xs j) j).toList.Pairwise (·<·):=by
 obtain⟨h1,h2,h3⟩:=below_at hp j;generalize SetTable.below xs j=p at *
 have e:(SetTable.insertAt xs p j).toList=xs.toList.take p++j::xs.toList.drop p:=by
  unfold SetTable.insertAt;simp[List.take_of_length_le]
 rw[e]
 have hat:∀i,i<xs.size->xs.getD i 0=xs.toList[i]!:=fun i hi=>by
  rw[Array.getD_eq_getD_getElem?,Array.getElem?_eq_getElem hi];simp[hi]
 refine List.pairwise_append.mpr ⟨hp.take,List.pairwise_cons.mpr ⟨fun b hb=>?_,hp.drop⟩,fun a ha b hb=>?_⟩
 ·obtain⟨i,hi,rfl⟩:=List.getElem_of_mem hb
  rw[List.length_drop,Array.length_toList]at hi;rw[List.getElem_drop]
  have hs:p+i<xs.size:=by omega
  have:=h3 (p+i) (by omega) hs;rw[Array.getD_eq_getD_getElem?,Array.getElem?_eq_getElem hs]at this;simp only[Array.getElem_toList,Option.getD_some]at this ⊢;rcases Nat.lt_or_eq_of_le this with q | q
  ·exact q
  ·exfalso
   have hps:p<xs.size:=by omega
   have h0:=h3 p (Nat.le_refl _) hps;rw[Array.getD_eq_getD_getElem?,Array.getElem?_eq_getElem hps,Option.getD_some]at h0;rcases Nat.eq_zero_or_pos i with rfl | hpos
   ·exact hn (by rw[Array.getElem?_eq_getElem hps,q];rfl)
   ·have:=List.pairwise_iff_getElem.mp hp p (p+i) (by simpa using hps) (by simpa using hs) (by omega)
    simp only[Array.getElem_toList]at this;omega
 ·obtain⟨i,hi,rfl⟩:=List.getElem_of_mem ha
  rw[List.length_take,Array.length_toList]at hi;rw[List.getElem_take]
  have hs:i<xs.size:=by omega
  have hlt:=h2 i (by omega);rw[Array.getD_eq_getD_getElem?,Array.getElem?_eq_getElem hs,Option.getD_some]at hlt;simp only[Array.getElem_toList];rcases List.mem_cons.mp hb with rfl | hb
  ·exact hlt
  ·obtain⟨k,hk,rfl⟩:=List.getElem_of_mem hb
   rw[List.length_drop,Array.length_toList]at hk;rw[List.getElem_drop]
   have hks:p+k<xs.size:=by omega
   have:=h3 (p+k) (by omega) hks;rw[Array.getD_eq_getD_getElem?,Array.getElem?_eq_getElem hks,Option.getD_some]at this;simp only[Array.getElem_toList];omega
theorem j4{t:SetTable}(hd:t.dummies=#[]){f:Nat->Int}{h:Int}:∀(n:Nat) (p:SetTable.Probe) (j:Nat) (d:Option Nat),p.dummy=none->SetTable.probe.go t f h n p=some (.empty j d)->t.place[SetTable.below t.place j]?≠some j/\d=none
 | 0,p,j,d,_,e=>by simp[SetTable.probe.go]at e
 | n+1,p,j,d,hp,e=>by
   unfold SetTable.probe.go at e
   have hs:t.slot p.j=if t.place[SetTable.below t.place p.j]?==some p.j then .live (SetTable.below t.place p.j)else .empty:=by
    unfold SetTable.slot;dsimp only;rw[hd]
    rfl
   rw[hs]at e
   by_cases hc:(t.place[SetTable.below t.place p.j]?==some p.j)=true
   ·rw[if_pos hc]at e
    dsimp only at e;split at e
    ·cases e
    ·exact j4 hd n _ j d (by unfold SetTable.advance;split<;>exact hp) e
   ·rw[if_neg hc]at e
    cases e;exact⟨fun z=>hc (by rw[z];simp),hp⟩
theorem GC{t:SetTable}(hd:t.dummies=#[]){h:Int}{j:Nat}{b:Bool}(e:t.freeSlot h=some (j,b)):t.place[SetTable.below t.place j]?≠some j:=by
 unfold SetTable.freeSlot at e;split at e
 ·rename_i j' d hp
  obtain⟨h1,rfl⟩:=j4 hd _ _ j' d rfl hp;simp only[Option.getD_none,Option.some.injEq,Prod.mk.injEq]at e;rw[<-e.1];exact h1
 ·cases e
theorem yI(n:Nat):(Array.range n).toList.Pairwise (·<·):=by
 rw[Array.toList_range];exact List.pairwise_lt_range
theorem eG{led:Bool}{t:SetTable}(h:t.led=led)(n:Nat):Tj led (t.standIn n):=⟨h,yI n,rfl⟩
theorem Ge{led:Bool}{t:SetTable}(h:Tj led t):Tj led { t with plain:=false }:=⟨h.led,h.up,h.dum⟩
theorem zW{led:Bool}{t:SetTable}(h:Tj led t)(es:Array (Int×Value))(hh:Int)(x:Value):Tj led (layNew t es hh x).2.1:=by
 unfold layNew
 cases e:t.freeSlot hh with
 | none=>exact eG h.led _
 | some q=>
   obtain⟨j,b⟩:=q;have hf:=GC h.dum e
   have hp:Tj led (t.put j).1:=⟨h.led,qQ h.up hf,by unfold SetTable.put;dsimp only;rw[h.dum];rfl⟩
   dsimp only;unfold SetTable.orStandIn;split
   ·exact hp
   ·exact eG hp.led _
theorem Dq{mask finger moves:Nat}{led plain:Bool}{hs:Array Int}{q:SetTable×Array Nat}(h:SetTable.laid mask finger moves led plain hs=some q):Tj led q.1:=by
 unfold SetTable.laid at h
 cases e:SetTable.layClean mask hs with
 | none=>rw[e]at h;cases h
 | some owner=>
   rw[e]at h;cases h;refine⟨rfl,?_,rfl⟩;dsimp only;rw[List.pairwise_map];refine List.Pairwise.filterMap _ (fun a b hab x hx y hy=>?_) List.pairwise_lt_range (R:=fun a b=>a<b);obtain⟨u,_,rfl⟩:=Option.map_eq_some_iff.mp hx;obtain⟨v,_,rfl⟩:=Option.map_eq_some_iff.mp hy;exact hab
theorem Fv{led:Bool}{t:SetTable}(h:Tj led t)(es:Array (Int×Value))(n:Nat):Tj led (relayAll t es n).2.1:=by
 unfold relayAll
 cases e:t.relaid (es.map (·.1)) n with
 | none=>exact eG h.led _
 | some q=>
   obtain⟨t',od⟩:=q;have:=Dq e;dsimp only;split
   ·exact⟨this.led.trans h.led,this.up,this.dum⟩
   ·exact eG h.led _
end Z
namespace Z
open PySem
section
variable{prog:Program}{w:World}{K:Type} [DecidableEq K](knd:KeyKind prog w K)(pj:Value->K)
noncomputable def SetL(h:Heap)(a:Addr)(led:Bool)(ks:List K):Prop:=∃o es ep t,h.get? a=some o/\o.ExactSet/\o.data=.set es ep t/\ElemsOf knd es.toList/\(es.toList.map fun e=>pj e.2).Perm ks/\es.size<scanBound/\t.fits es.size=true/\Tj led t
variable{knd pj}
variable{A:Around}{E:Value->Shared->Prop}{s:Shared}(hpj:∀v k,knd.is k v=true->pj v=k)
theorem SetL.kept{h h':Heap}{a:Addr}{led:Bool}{ks:List K}(S:SetL knd pj h a led ks)(hk:∀o,h.get? a=some o->h'.get? a=some o):SetL knd pj h' a led ks:=by
 obtain⟨o,es,ep,t,ho,r⟩:=S;exact⟨o,es,ep,t,hk o ho,r⟩
theorem Er{h:Heap}{a:Addr}{o:Obj}{es es':Array (Int×Value)}{ep:Nat}{t t':SetTable}(ho:h.get? a=some o)(hd:o.data=.set es ep t):(h.update a (Obj.putSet es' t')).get? a=some { o with data:=.set es' (ep+1) t' }:=by
 have q:=Heap.get?_update_self (Obj.putSet es' t') ho (by rw[putSet_of es' t' hd];rfl);rw[q,putSet_of es' t' hd]
include hpj
theorem uz{h:Heap}{a:Addr}{o:Obj}{es es':Array (Int×Value)}{ep:Nat}{t t':SetTable}{led:Bool}{ks:List K}(ho:h.get? a=some o)(hx:o.ExactSet)(hd:o.data=.set es ep t)(he:ElemsOf knd es'.toList)(hp:(es'.toList.map fun e=>pj e.2).Perm ks)(hb:es'.size<scanBound)(hf:t'.fits es'.size=true)(hj:Tj led t'):SetL knd pj (h.update a (Obj.putSet es' t')) a led ks :=
 ⟨_,es',ep+1,t',Er ho hd,hx,rfl,he,hp,hb,hf,hj⟩
theorem Dt{es:List (Int×Value)}(he:ElemsOf knd es)(k:K):k∈(es.map fun e=>pj e.2)↔∃e∈es,knd.is k e.2=true:=by
 rw[List.mem_map]
 constructor
 ·rintro⟨e,h1,rfl⟩
  obtain⟨⟨k',h2,_⟩,_⟩:=he e h1;exact⟨e,h1,(hpj _ _ h2)▸h2⟩
 ·rintro⟨e,h1,h2⟩
  exact⟨e,h1,hpj _ _ h2⟩
theorem Ig{a:Addr}{o:Obj}{es:Array (Int×Value)}{ep:Nat}{t:SetTable}(ho:s.heap.get? a=some o)(hx:o.ExactSet)(hd:o.data=.set es ep t){es1:Array (Int×Value)}{t1:SetTable}{led wd:Bool}{ks:List K}(he:ElemsOf knd es1.toList)(hp:(es1.toList.map fun e=>pj e.2).Perm ks)(hb:es1.size<scanBound)(hf:t1.fits es1.size=true)(hj:Tj led t1)
 {g:Bool->Sem Unit} (hg:∀(b:Bool) (s₁:Shared) (Q':Unit->Shared->Prop),Q' () s₁->wpAny (model prog w) A (g b) Q' E s₁) {R:Option Bool->Shared->Prop}
 (q:∀h',Heap.SameBut a s.heap h'->SetL knd pj h' a led ks->R (some true) { s with heap:=h' }) :
 wpAny (model prog w) A (storeSet a es1 t1 >>= fun _=>if(!wd&&t1.tooFull)=true then(g (relayAll t1 es1 (SetTable.grown es1.size)).2.2 >>= fun _=>storeSet a (relayAll t1 es1 (SetTable.grown es1.size)).1 (relayAll t1 es1 (SetTable.grown es1.size)).2.1 >>= fun _=>pure (some true))else pure (some true)) R E s:=by
 refine wpAny_bind (wpAny_storeSet_of ho hd ?_ (fits_of_scanBound hb));have u1:=Heap.SameBut.update s.heap a (Obj.putSet es1 t1)
 by_cases c:(!wd&&t1.tooFull)=true
 ·rw[if_pos c]
  have y1:=relayAll_perm t1 es1 (SetTable.grown es1.size);have y2:=relayAll_fits t1 es1 (SetTable.grown es1.size);have y3:=Fv hj es1 (SetTable.grown es1.size);generalize relayAll t1 es1 (SetTable.grown es1.size)=r at *
  have y4:r.1.size=es1.size:=by have:=y1.length_eq;simpa using this
  refine wpAny_bind (hg _ _ _ (wpAny_bind (wpAny_storeSet_of (Er ho hd) rfl ?_ (fits_of_scanBound (by omega)))));refine wpAny_pure (q _ (u1.trans (Heap.SameBut.update _ a _)) ?_);exact uz hpj (Er ho hd) hx rfl (he.perm y1) ((y1.map _).trans hp) (by omega) y2 y3
 ·rw[if_neg c]
  exact wpAny_pure (q _ u1 (uz hpj ho hx hd he hp hb hf hj))
theorem NB{a:Addr}{led:Bool}{ks:List K}{k:K}{x:Value}{Q:Bool->Shared->Prop}(hk:knd.is k x=true)(hsc:x.scannable=true)(S:SetL knd pj s.heap a led ks)(hr:ks.length+1<scanBound)
 (q:∀(b:Bool) h',Heap.SameBut a s.heap h'->SetL knd pj h' a led (if k∈ks then ks else ks++[k])->Q b { s with heap:=h' }):wpAny (model prog w) A (setAddHashed a x (knd.hash k)) Q E s:=by
 obtain⟨o,es,ep,t,ho,hx,hd,he,hp,hb,hf,hj⟩:=S;have hin:=Dt hpj he k;have hkm:k∈ks↔∃e∈es.toList,knd.is k e.2=true:=hp.mem_iff.symm.trans hin
 have hsz:es.size=ks.length:=by have:=hp.length_eq;simpa using this
 unfold setAddHashed setAddHashedIn;refine wpAny_holding (wpAny_bind (wpAny_setState_of ho hd hf ?_));simp only[byScan_of hsc hb he,↓reduceIte];unfold setAddByScan;refine wpAny_bind (wpAny_bind (wpAny_rule (wpAny_bind (wpAny_setScan_of hk ho hd hf he ?_))))
 cases c:List.findIdx? (fun e=>knd.is k e.2) es.toList with
 | some j=>
   obtain⟨c1,c2,_⟩:=List.findIdx?_eq_some_iff_getElem.mp c;have hm:k∈ks:=hkm.mpr ⟨_,List.getElem_mem c1,c2⟩;have z:=q false s.heap (Heap.SameBut.refl a s.heap) (by rw[if_pos hm];exact⟨o,es,ep,t,ho,hx,hd,he,hp,hb,hf,hj⟩);exact wpAny_pure (wpAny_pure z)
 | none=>
   have hm:k∉ks:=fun z=>by
    obtain⟨e,c1,c2⟩:=hkm.mp z;have:=List.findIdx?_eq_none_iff.mp c e c1;rw[c2]at this;cases this
   simp only[if_neg hm]at q;have y1:=layNew_perm t es (knd.hash k) x;have y2:=layNew_fits t es (knd.hash k) x;have y3:=zW hj es (knd.hash k) x;dsimp only;generalize layNew t es (knd.hash k) x=r at *;obtain⟨es1,t1,wd,gv⟩:=r;dsimp only at y1 y2 y3 ⊢;rw[Array.toList_push]at y1
   have z1:es1.size=es.size+1:=by have:=y1.length_eq;simpa using this
   have z2:ElemsOf knd es1.toList:=(he.push hk hsc).perm y1
   have z3:(es1.toList.map fun e=>pj e.2).Perm (ks++[k]):=(y1.map _).trans (by
    rw[List.map_append,List.map_cons,List.map_nil,hpj x k hk]
    exact List.Perm.append hp (List.Perm.refl _))
   have fin:∀(b:Bool) (g:Bool->Sem Unit),(∀(b:Bool) (s₁:Shared) (Q':Unit->Shared->Prop),Q' () s₁->wpAny (model prog w) A (g b) Q' E s₁)->_:=fun b g hg=>Ig (s:=s) (E:=E) (A:=A) (wd:=wd) (t1:=if b=true then t1 else{ t1 with plain:=false }) hpj ho hx hd z2 z3 (by omega) (by cases b<;>first | exact y2 | exact SetTable.fits_plain_off y2) (by cases b<;>first | exact y3 | exact Ge y3) hg (R:=fun r s'=>wpAny (model prog w) A (match r with | some added=>pure added | none=>setAddHashedIn a x (knd.hash k) 99999) Q E s') fun h' w1 w2=>wpAny_pure (q true h' w1 w2)
   cases gv
   ·refine wpAny_bind (wpAny_pure ?_)
    by_cases c2:t1.plain=true
    ·rw[if_pos c2,hashByValue_scannable 8 hsc]
     exact wpAny_bind (wpAny_pure (fin _ _ (by intro b s₁ Q' hq;cases b<;>first | exact wpAny_pure hq | exact wpAny_rule hq)))
    ·rw[if_neg c2]
     exact wpAny_bind (wpAny_pure (fin true _ (by intro b s₁ Q' hq;cases b<;>first | exact wpAny_pure hq | exact wpAny_rule hq)))
   ·refine wpAny_bind (wpAny_rule ?_)
    by_cases c2:t1.plain=true
    ·rw[if_pos c2,hashByValue_scannable 8 hsc]
     exact wpAny_bind (wpAny_pure (fin _ _ (by intro b s₁ Q' hq;cases b<;>first | exact wpAny_pure hq | exact wpAny_rule hq)))
    ·rw[if_neg c2]
     exact wpAny_bind (wpAny_pure (fin true _ (by intro b s₁ Q' hq;cases b<;>first | exact wpAny_pure hq | exact wpAny_rule hq)))
end
end Z
namespace Z
open PySem PySem.Spec PyProof.Rows
section
variable{prog:Program}{w:World}{K:Type} [DecidableEq K]{knd:KeyKind prog w K}{pj:Value->K}
noncomputable def ded(f:Nat->K):Nat->List K
 | 0=>[]
 | i+1=>if f i∈ded f i then ded f i else ded f i++[f i]
theorem vg(f:Nat->K):∀i,(ded f i).length<=i
 | 0=>Nat.le_refl _
 | i+1=>by
   have:=vg f i;rw[ded];split
   ·omega
   ·rw[List.length_append,List.length_singleton];omega
theorem vz(f:Nat->K):∀i,(ded f i).Nodup
 | 0=>List.nodup_nil
 | i+1=>by
   have:=vz f i;rw[ded];split
   ·exact this
   ·rename_i h
    refine List.nodup_append.mpr ⟨this,List.pairwise_singleton _ _,fun a ha b hb=>?_⟩;rw[List.mem_singleton]at hb;subst hb
    exact fun z=>h (z▸ha)
theorem uo(f:Nat->K)(k:K):∀i,k∈ded f i↔∃j,j<i/\f j=k
 | 0=>by simp[ded]
 | i+1=>by
   have ih:=uo f k i;rw[ded]
   constructor
   ·intro h
    have h':k∈ded f i\/k=f i:=by
     split at h
     ·exact .inl h
     ·simpa using h
    rcases h' with h' | rfl
    ·obtain⟨j,h1,h2⟩:=ih.mp h';exact⟨j,by omega,h2⟩
    ·exact⟨i,by omega,rfl⟩
   ·rintro⟨j,h1,h2⟩
    by_cases e:j=i
    ·subst e
     split
     ·rename_i h;exact h2▸h
     ·rw[List.mem_append,List.mem_singleton];exact .inr h2.symm
    ·have:=ih.mpr ⟨j,by omega,h2⟩
     split
     ·exact this
     ·exact List.mem_append_left _ this
variable{A:Around}{R:Result->Shared->Prop}{I:Addr}{fp wr:List Addr}{G:Array GenState->Array GenState->Prop}{n:Nat}{P:Nat->Value->Prop}{St:Nat->Shared->Prop}
theorem ye(hpj:∀v k,knd.is k v=true->pj v=k)(W:WalksS prog w A.in1 I fp wr G n P St){S:Addr}(hS:S∉fp)(f:Nat->K)(hf:∀i v,P i v->knd.is (f i) v=true/\v.scannable=true)(hb:n+1<scanBound)(led:Bool) :
 ∀(d i:Nat) (s:Shared),n-i=d->i<=n->St i s->SetL knd pj s.heap S led (ded f i)->(∀s',Moved (S::wr) G s s'->SetL knd pj s'.heap S led (ded f n)->R (.ok (.ret .none)) s')->codeAny (model prog w) A (.builtin "set.update.loop" ⟨[.ref S,.ref I],[]⟩) R s:=by
 have hw:S∉wr:=fun h=>hS (W.sub _ h)
 have up:∀{s s':Shared},Moved wr G s s'->Moved (S::wr) G s s':=fun m=>⟨fun b o z=>m.heap b o fun y=>z (.tail _ y),m.gens,m.drawn,m.os,m.toks⟩
 intro d
 induction d with
 | zero=>
   intro i s hd hi st hl q
   obtain rfl:i=n:=by omega
   refine codeAny_builtin PyProof.Rows.F.entry_set_update_loop ?_;rw[Around.under_plainId PyProof.Rows.F.plain_set_update_loop _];unfold Builtin.«set.update.loop»;dsimp only;refine wpAny_bind (W.done s _ _ st fun s' m=>?_);exact wpAny_pure (q s' (up m) (hl.kept fun o=>m.heap S o hw))
 | succ d ih=>
   intro i s hd hi st hl q;refine codeAny_builtin PyProof.Rows.F.entry_set_update_loop ?_;rw[Around.under_plainId PyProof.Rows.F.plain_set_update_loop _];unfold Builtin.«set.update.loop»;dsimp only;refine wpAny_bind (W.item i s _ _ (by omega) st fun v s' hP st' m=>?_);obtain⟨hk,hsc⟩:=hf i v hP;dsimp only;refine wpAny_bind (wpAny_holding ?_);unfold setAdd;refine wpAny_holding (wpAny_bind (knd.pyHash hk ?_))
   have hl':SetL knd pj s'.heap S led (ded f i):=hl.kept fun o=>m.heap S o hw
   refine NB (s:={ s' with toks:=s'.toks+1 }) hpj hk hsc hl' (by have:=vg f i;omega) fun b h' sb hl2=>?_
   refine wpAny_pure ⟨plainId_quiet PyProof.Rows.F.plain_set_update_loop _,ih (i+1) _ (by omega) (by omega) (W.frame (i+1) s' _ _ st' (Nat.le_succ _) fun b hb o e=>?_) hl2 fun s'' m2 hl3=>?_⟩
   ·rw[sb.2 b fun z=>hS (z▸hb)];exact e
   ·refine q s'' (Moved.trans W.gtrans ((up m).then_heap (Nat.le_succ _) fun b o hb e=>?_) m2) hl3
    rw[sb.2 b fun z=>hb (z▸List.mem_cons_self)];exact e
end
end Z
namespace Z
open PySem PySem.Spec PyProof.Rows
section
variable{prog:Program}{w:World}{K:Type} [DecidableEq K]{knd:KeyKind prog w K}{pj:Value->K}{A:Around}{E:Value->Shared->Prop}{s:Shared}
noncomputable def byT(w:World):Bool:=w.params.followText "set-order"
noncomputable def newS(w:World):Obj:={ cls:=.type "set",dict:=none,data:=.set #[] 0 (.fresh 0 0 (!byT w)) }
theorem Il(h:Heap):SetL knd pj (h.push (newS w)) h.objs.size (!byT w) [] :=
 ⟨newS w,#[],0,_,Heap.get?_push_size _ rfl,⟨rfl,rfl,rfl⟩,rfl,fun e he=>by simp at he,List.Perm.refl _,by decide,rfl,⟨rfl,List.Pairwise.nil,rfl⟩⟩
theorem Dl(a:Value){Q:Value->Shared->Prop}(h:Q (.ref s.heap.objs.size) { s with heap:=s.heap.push (newS w) }):codeAny (model prog w) A (.call (.builtin "set.__new__") ⟨[.type "set",a],[]⟩) (wants Q E) s:=by
 refine codeAny_of_tree ?_;have e:=PySem.F.newCall_set_1 a;show wpAny _ A.in1 (checkBuiltinCall "set.__new__" ⟨[.type "set",a],[]⟩ >>= fun _=>again (.builtin "set.__new__" ⟨[.type "set",a],[]⟩)) _ _ s;rw[e];refine wpAny_bind (wpAny_pure (wpAny_pure ⟨plainId_quiet PySem.F.plain_set_new _,codeAny_builtin PySem.F.entry_set_new ?_⟩));rw[Around.under_plainId PySem.F.plain_set_new _];unfold Builtin.«set.__new__» Builtin.Frozenset.newClass;have hs:=sub_set_self;obtain⟨hp,g,d,tk,os⟩:=s;dsimp only
 wp_walk
 refine wpAny_askSetting (wpAny_pure ?_);simp only[newObj];refine wpAny_bind (wpAny_alloc (wpAny_pure (wpAny_pure ?_)));exact h
set_option maxHeartbeats 3200000 in
theorem set_list(hpj:∀v k,knd.is k v=true->pj v=k){l:Addr}{items:Array Value}(f:Nat->K){Q:Value->Shared->Prop}(hh:A.handled=none)(hl:s.heap.IsList l items)(hf:∀i v,items[i]?=some v->knd.is (f i) v=true/\v.scannable=true)(hb:items.size+1<scanBound)
 (q:∀(h':Heap) (tk:Nat),s.toks<=tk->SetL knd pj h' s.heap.objs.size (!byT w) (ded f items.size)->(∀b o,s.heap.get? b=some o->h'.get? b=some o)->Q (.ref s.heap.objs.size) { s with heap:=h',toks:=tk }) :
 wpAny (model prog w) A (call (.type "set") [.ref l]) Q E s:=by
 obtain⟨mc,ml,hmro⟩:=PySem.F.called_set.mro;have y1:=PySem.F.called_set.made;have y2:=PySem.F.called_set.sub;have y3:=PySem.F.called_set.notType;have y4:=PySem.F.called_set.canCreate;have y5:=PySem.F.typeCall_set_1 (.ref l);have hn:=Il (knd:=knd) (pj:=pj) (w:=w) s.heap;refine wpAny_call (codeAny_of_tree ?_);show wpAny _ _ (callAny (.type "set") _) _ _ _;refine wpAny_pure ⟨Code.quiet_builtin _ (by decide +kernel),codeAny_builtin PySem.F.entry_type_call ?_⟩;rw[Around.under_plain (weight_type_call_type "set" [.ref l] []) rfl]
 repeat (any_goals (first | assumption | wp_step))
 refine codeAny_mono (Dl (.ref l) (E:=E) (Q:=fun ob s1=>ob=.ref s.heap.objs.size/\s1={ s with heap:=s.heap.push (newS w) }) ⟨rfl,rfl⟩) fun r s1 hr=>?_
 cases r with
 | error e=>exact hr
 | ok fl=>
   cases fl with
   | ret ob=>
     obtain⟨rfl,rfl⟩:=hr
     have hT:Shared.TypeIs { s with heap:=s.heap.push (newS w) } (.ref s.heap.objs.size) "set":=⟨newS w,Heap.get?_push_size _ rfl,rfl⟩
     have y6:=PySem.F.called_set.init.lookup;have y7:=PySem.F.called_set.init.bind (.ref s.heap.objs.size)
     repeat (any_goals (first | assumption | wp_step))
     refine codeAny_mono (codeAny_call_builtin (R:=wants (fun r s2=>r=.none/\∃h' tk,s2={ s with heap:=h',toks:=tk }/\s.toks<=tk/\SetL knd pj h' s.heap.objs.size (!byT w) (ded f items.size)/\(∀b o,s.heap.get? b=some o->h'.get? b=some o)) E) PySem.F.called_set.init.plain PySem.F.entry_set_init (check_set_init_1 hT ?_)) fun r2 s2 hr2=>?_
     ·obtain⟨ol,o1,o2,nl,o3⟩:=hl
      obtain⟨oc,od,dt,os⟩:=ol;simp only at o2 o3;subst o2;subst o3;have hS0:(s.heap.push (newS w)).get? s.heap.objs.size=some (newS w):=Heap.get?_push_size _ rfl;have o4:(s.heap.push (newS w)).get? l=some { cls:=.type "list",dict:=od,data:=.seq items nl,slots:=os }:=Heap.get?_push_of_some _ o1;have z1:=PySem.F.sub_list_set;have z2:=PySem.F.sub_list_frozenset
      have z3:(Value.type "list"==Value.type "dict")=false:=by decide
      have hl1:(s.heap.push (newS w)).IsList l items:=⟨_,o4,rfl,nl,rfl⟩
      unfold Builtin.«set.__init__» noKeywords Builtin.Frozenset.updateFrom newS at *;generalize hPI:pyIter=PI
      wp_walk
      subst hPI;refine wpAny_pyIter_list hl1 (wpAny_bind (wpAny_runValue ?_));have b1:l<s.heap.objs.size:=Heap.lt_size o1
      have b2:A.in1.in1.in1.handled=none:=by simp[hh]
      have b3:l≠(s.heap.push ({ cls:=.type "set",dict:=none,data:=.set #[] 0 (.fresh 0 0 (!byT w)) }:Obj)).objs.size:=by
       rw[Heap.size_push];exact Nat.ne_of_lt (Nat.lt_succ_of_lt b1)
      refine ye hpj (Walks.list b2 _ l b3 items).toS (S:=s.heap.objs.size) ?_ f hf hb (!byT w) items.size 0 _ (by omega) (Nat.zero_le _) ⟨⟨_,Heap.get?_push_size _ rfl,rfl,rfl⟩,hl1.push _⟩ (hn.kept fun o e=>Heap.get?_push_of_some _ e) fun s' m hl'=>?_
      ·rw[Heap.size_push]
       simp only[List.mem_cons,List.not_mem_nil,or_false,not_or];exact⟨Nat.ne_of_lt (Nat.lt_succ_self _),Nat.ne_of_gt b1⟩
      ·obtain⟨h',g',d',t',o'⟩:=s'
       obtain⟨m1,m2,m3,m4,m5⟩:=m;have m2:g'=s.gens:=m2;have m3:d'=s.drawn:=m3;have m4:o'=s.os:=m4;subst m2;subst m3;subst m4;refine wpAny_pure (wpAny_pure ⟨rfl,h',t',rfl,m5,hl',fun b o e=>?_⟩);have:=Heap.lt_size e;refine m1 b o ?_ (Heap.get?_push_of_some _ (Heap.get?_push_of_some _ e));rw[Heap.size_push];simp only[List.mem_cons,List.not_mem_nil,or_false,not_or];exact⟨Nat.ne_of_lt this,Nat.ne_of_lt (Nat.lt_succ_of_lt this)⟩
     ·cases r2 with
      | error e=>exact hr2
      | ok fl2=>
        cases fl2 with
        | ret v=>
          obtain⟨rfl,h',tk,rfl,a1,a2,a3⟩:=hr2
          repeat (any_goals (first | assumption | wp_step))
          exact q h' tk a1 a2 a3
        | _=>exact hr2.elim
   | _=>exact hr.elim
end
end Z
namespace Z
open PySem PySem.Spec PyProof.Rows
theorem slot_sin:PySem.Slot "set_iterator" "__next__" "set_iterator.__next__":=by
 refine .of (owner:="set_iterator") (n:="__next__") ?_ ?_ ?_ ?_ ?_ ?_
 ·rw[typeLookup_type,builtinLookup_eq_fast];kernel_rfl
 ·decide +kernel
 ·decide +kernel
 ·decide +kernel
 ·first | exact .inl (by decide +kernel) | exact .inr (by decide +kernel)
 ·rw[isSubtype_type];kernel_rfl
theorem qY:PySem.Slot "set_iterator" "__iter__" "set_iterator.__iter__":=by
 refine .of (owner:="set_iterator") (n:="__iter__") ?_ ?_ ?_ ?_ ?_ ?_
 ·rw[typeLookup_type,builtinLookup_eq_fast];kernel_rfl
 ·decide +kernel
 ·decide +kernel
 ·decide +kernel
 ·first | exact .inl (by decide +kernel) | exact .inr (by decide +kernel)
 ·rw[isSubtype_type];kernel_rfl
theorem mX:entryFor table "set_iterator.__next__"=some Builtin.«set_iterator.__next__»:=entryFor_of_tree (by kernel_rfl)
theorem qU:Manifest.owners.lookup (String.ofList ['r','o','t','a','r','e','t','i','_','t','e','s'].reverse)=some Manifest.sig_set_iterator:=by kernel_rfl
theorem qH(a:Value):argsOk "set_iterator.__next__" ⟨[a],[]⟩:=by
 unfold argsOk;rw[signature?_of (id:="set_iterator.__next__") (n:=['_','_','t','x','e','n','_','_']) (o:=['r','o','t','a','r','e','t','i','_','t','e','s']) (by kernel_rfl) qU]
 kernel_rfl
theorem zX(a:Value):argsOk "set_iterator.__iter__" ⟨[a],[]⟩:=by
 unfold argsOk;rw[signature?_of (id:="set_iterator.__iter__") (n:=['_','_','r','e','t','i','_','_']) (o:=['r','o','t','a','r','e','t','i','_','t','e','s']) (by kernel_rfl) qU]
 kernel_rfl
theorem zu:entryFor table "set.__iter__"=some Builtin.«frozenset.__iter__»:=entryFor_alias (id':="frozenset.__iter__") (by kernel_rfl) rfl (by decide +kernel) (by kernel_rfl)
theorem uM:entryFor table "set_iterator.__iter__"=some Builtin.«dict_keyiterator.__iter__»:=entryFor_alias (id':="dict_keyiterator.__iter__") (by kernel_rfl) rfl (by decide +kernel) (by kernel_rfl)
end Z
namespace Z
open PySem PySem.Spec PyProof.Rows
noncomputable def sit(f:Value)(i:Nat)(a:Addr)(n ep:Nat):Obj:={ cls:=.type "set_iterator",data:=.fields #[f,rawInt i,.ref a,rawInt n,rawInt ep] }
section
variable{prog:Program}{w:World}{A:Around}{E:Value->Shared->Prop}{s:Shared}{I a:Addr}{o:Obj}{es:Array (Int×Value)}{ep:Nat}{t:SetTable}
theorem cY{f:Value}{i n:Nat}(h:s.heap.get? I=some (sit f i a n ep)):s.TypeIs (.ref I) "set_iterator":=⟨_,h,rfl⟩
theorem ur{f:Value}{i n:Nat}{Q:Value->Shared->Prop}(h:s.heap.get? I=some (sit f i a n ep))(q:Q (.ref I) s):wpAny (model prog w) A (pyIter (.ref I)) Q E s:=by
 refine wpAny_pyIter_slot (cY h) qY (wpAny_call_entry qY (cY h) uM ?_ (zX _));exact wpAny_pure ⟨_,rfl,"set_iterator",_,cY h,slot_sin.lookup,q⟩
theorem rN{slot:Int}{tk:Tok}{i:Nat}{Q:Option Value->Shared->Prop}(h:s.heap.get? I=some (sit (.int slot tk) i a es.size ep))(ho:s.heap.get? a=some o)(hd:o.data=.set es ep t)(hf:t.fits es.size=true)
 (q:wpAny (model prog w) A.in1 (setNext a slot.toNat i ep >>= fun r=>match r with
  | some (x,next)=>(setField (.ref I) 0 (rawInt next) >>= fun _=>setField (.ref I) 1 (rawInt (i+1)) >>= fun _=>ret x)
  | none=>(setField (.ref I) 2 .none >>= fun _=>newExc (.type "StopIteration") [] >>= raiseNew))
  (fun fin s'=>∃r,fin=.done (.ret r)/\Q (some r) s') (fun e s'=>wpAny (model prog w) A (isInstance e (.type "StopIteration")) (fun b s2=>if b then Q none s2 else E e s2) E s') s):wpAny (model prog w) A (pyNext (.ref I)) Q E s:=by
 unfold pyNext;refine wpAny_bind (wpAny_attempt (wpAny_callSpecial?_slot (name:=Str.ofString "__next__") (cY h) slot_sin (wpAny_call_entry slot_sin (cY h) mX ?_ (qH _))));unfold Builtin.«set_iterator.__next__»;refine wpAny_bind (wpAny_pure (wpAny_bind (wpAny_fieldsOf h rfl ?_)));show wpAny _ _ (setEntries a >>= _) _ _ s;refine wpAny_bind ?_;unfold setEntries;refine wpAny_bind (wpAny_setState_of ho hd hf (wpAny_pure ?_));dsimp only;rw[if_neg (by simp)];simp only[Int.toNat_natCast]
 exact wpAny_mono (Q':=fun fin s'=>∃r,fin=.done (.ret r)/\wpAny (model prog w) A (pure (some r)) Q E s') (E':=fun e s'=>wpAny (model prog w) A (isInstance e (.type "StopIteration") >>= fun b=>if b then pure none else throw e) Q E s') q (fun fin s' ⟨r,e,hr⟩=>⟨r,e,wpAny_pure hr⟩) fun e s' he=>wpAny_bind (wpAny_mono he (fun b s2 hb=>by
  cases b
  ·exact wpAny_throw hb
  ·exact wpAny_pure hb) fun _ _ z=>z)
theorem qZ{T:Addr}{oT:Obj}{pl:Array Value}{c i:Nat}{Q:Option Value->Shared->Prop}(h:s.heap.get? I=some (sit (.ref T) i a es.size ep))(ho:s.heap.get? a=some o)(hd:o.data=.set es ep t)(hf:t.fits es.size=true)(hT:s.heap.get? T=some oT)(hTd:oT.data=.seq pl c)
 (q:wpAny (model prog w) A.in1 (match pl[i]? with
  | some (.int place _)=>(setNextDrawn a place.toNat ep >>= fun x=>setField (.ref I) 1 (rawInt (i+1)) >>= fun _=>ret x)
  | some _=>unsupported "internal:set_iterator"
  | none=>(setField (.ref I) 0 (rawInt 0) >>= fun _=>setField (.ref I) 2 .none >>= fun _=>newExc (.type "StopIteration") [] >>= raiseNew))
  (fun fin s'=>∃r,fin=.done (.ret r)/\Q (some r) s') (fun e s'=>wpAny (model prog w) A (isInstance e (.type "StopIteration")) (fun b s2=>if b then Q none s2 else E e s2) E s') s):wpAny (model prog w) A (pyNext (.ref I)) Q E s:=by
 unfold pyNext;refine wpAny_bind (wpAny_attempt (wpAny_callSpecial?_slot (name:=Str.ofString "__next__") (cY h) slot_sin (wpAny_call_entry slot_sin (cY h) mX ?_ (qH _))));unfold Builtin.«set_iterator.__next__»;refine wpAny_bind (wpAny_pure (wpAny_bind (wpAny_fieldsOf h rfl ?_)));show wpAny _ _ (setEntries a >>= _) _ _ s;refine wpAny_bind ?_;unfold setEntries;refine wpAny_bind (wpAny_setState_of ho hd hf (wpAny_pure ?_));dsimp only;rw[if_neg (by simp)];simp only[Int.toNat_natCast];refine wpAny_bind (wpAny_seqItems hT hTd ?_)
 exact wpAny_mono (Q':=fun fin s'=>∃r,fin=.done (.ret r)/\wpAny (model prog w) A (pure (some r)) Q E s') (E':=fun e s'=>wpAny (model prog w) A (isInstance e (.type "StopIteration") >>= fun b=>if b then pure none else throw e) Q E s') q (fun fin s' ⟨r,e,hr⟩=>⟨r,e,wpAny_pure hr⟩) fun e s' he=>wpAny_bind (wpAny_mono he (fun b s2 hb=>by
  cases b
  ·exact wpAny_throw hb
  ·exact wpAny_pure hb) fun _ _ z=>z)
theorem vN{Q:Option Value->Shared->Prop}{R:Fin->Shared->Prop}(hh:A.handled=none)(q:∀h',(∀b o,s.heap.get? b=some o->h'.get? b=some o)->Q none { s with heap:=h' }) :
 wpAny (model prog w) A.in1 (newExc (.type "StopIteration") [] >>= raiseNew) R (fun e s'=>wpAny (model prog w) A (isInstance e (.type "StopIteration")) (fun b s2=>if b then Q none s2 else E e s2) E s') s:=by
 refine wpAny_bind ?_;simp only[newExc,newTuple];refine wpAny_bind (wpAny_newObj_type ?_ (by size_fits));refine wpAny_bind (m:=firstArgMember _ _) (wpAny_of_eq (a:=Value.none) (by first | rfl | (simp only[firstArgMember];rfl)) ?_);refine wpAny_newObj_type ?_ (by size_fits);simp only[raiseNew];refine wpAny_bind (wpAny_handled ?_);rw[show A.in1.handled=none from hh];refine wpAny_bind (wpAny_pure (wpAny_throw ?_));refine wpAny_isInstance (T:="StopIteration") (b:=true) ⟨_,Heap.get?_push_size _ rfl,rfl⟩ isSubtype_stop ?_
 exact q _ fun b o e=>Heap.get?_push_of_some _ (Heap.get?_push_of_some _ e)
end
end Z
namespace Z
open PySem PySem.Spec PyProof.Rows
theorem fZ{α:Type}:∀(l:List α) (i:Nat) (h:i<l.length),(l[i]::l.eraseIdx i).Perm l
 | x::l,0,h=>List.Perm.refl _
 | x::l,i+1,h=>by
   have:=fZ l i (by simpa using h);exact(List.Perm.swap _ _ _).trans (List.Perm.cons _ this)
theorem w6{α:Type}(nx:Nat->Nat):∀(n k:Nat) (l:List α) (out:Array α),l.length<=n->(pickOrder.go nx n k l out).toList.Perm (out.toList++l)
 | 0,k,l,out,h=>by
   have:l=[]:=List.eq_nil_of_length_eq_zero (by omega);subst this;rw[pickOrder.go,List.append_nil]
 | n+1,k,l,out,h=>by
   rw[pickOrder.go]
   cases l with
   | nil=>simp
   | cons x l=>
     have hlt:nx k % (x::l).length<(x::l).length:=Nat.mod_lt _ (by simp);generalize nx k % (x::l).length=j at hlt;rw[List.getElem?_eq_getElem hlt];dsimp only;refine(w6 nx n (k+1) _ _ (by rw[List.length_eraseIdx_of_lt hlt];simp at h ⊢;omega)).trans ?_;rw[Array.toList_push,List.append_assoc];exact List.Perm.append_left _ (fZ _ _ hlt)
theorem vV{α:Type}(nx:Nat->Nat)(xs:Array α):(pickOrder nx xs).toList.Perm xs.toList:=by
 have:=w6 nx xs.size 0 xs.toList #[] (by simp);unfold pickOrder;simpa using this
section
variable{prog:Program}{w:World}{A:Around}{E:Value->Shared->Prop}{s:Shared}
theorem vC{src:Source}{n:Nat}{Q:Nat->Shared->Prop}(hn:n≠0)(q:∀i,i<n->Q i { s with drawn:=s.drawn.bump src }):wpAny (model prog w) A (choose src n) Q E s:=fun Γ p hΓ=>by
 unfold choose;rw[Sem.wp_choose];exact⟨hn,by rw[Sem.wp_pure];exact q _ (Nat.mod_lt _ (by omega))⟩
theorem wL{α:Type}:∀(n:Nat) (xs:List α) (s:Shared) (Q:List α->Shared->Prop),xs.length<=n->(∀l d,l.Perm xs->Q l { s with drawn:=d })->wpAny (model prog w) A (drawOrder n xs) Q E s
 | 0,xs,s,Q,h,q=>by
   have:xs=[]:=List.eq_nil_of_length_eq_zero (by omega);subst this;exact wpAny_pure (q [] s.drawn (List.Perm.refl _))
 | n+1,[],s,Q,h,q=>wpAny_pure (q [] s.drawn (List.Perm.refl _))
 | n+1,x::xs,s,Q,h,q=>by
   unfold drawOrder;refine wpAny_bind (vC (by simp) fun i hi=>?_);rw[List.getElem?_eq_getElem hi];dsimp only;refine wpAny_bind (wL n _ _ _ (by rw[List.length_eraseIdx_of_lt hi];simp at h ⊢;omega) fun l d hl=>?_);exact wpAny_pure (q _ d ((List.Perm.cons _ hl).trans (fZ _ _ hi)))
theorem iQ{Q:Bool->Shared->Prop}(q:Q (byT w) s):wpAny (model prog w) A setsByText Q E s:=by
 unfold setsByText;exact wpAny_bind (wpAny_askSetting (wpAny_pure q))
end
end Z
namespace Z
open PySem PySem.Spec PyProof.Rows
section
variable{prog:Program}{w:World}{A:Around}{E:Value->Shared->Prop}{s:Shared}{I a:Addr}{o:Obj}{es:Array (Int×Value)}{ep:Nat}{t:SetTable}
noncomputable def ordI(w:World)(a:Addr)(ep:Nat)(es:Array (Int×Value)):Array (Int×Value):=if byT w then pickOrder (w.params.setOrder a ep) es else es
noncomputable def slI(w:World)(t:SetTable)(i:Nat):Nat:=if byT w then 0 else if i=0 then 0 else t.place.getD (i-1) 0+1
theorem lZ:(ordI w a ep es).toList.Perm es.toList:=by
 unfold ordI;split
 ·exact vV _ _
 ·exact List.Perm.refl _
theorem iZ:(ordI w a ep es).size=es.size:=by
 have:=(lZ (w:=w) (a:=a) (ep:=ep) (es:=es)).length_eq;simpa using this
theorem Ah{led:Bool}(hj:Tj led t)(hb:byT w=false){i:Nat}(hi:i<=t.place.size):SetTable.below t.place (slI w t i)=i:=by
 unfold slI;rw[hb];have hb:=below_at hj.up
 have mono:∀x y,x<y->y<t.place.size->t.place.getD x 0<t.place.getD y 0:=fun x y hxy hy=>by
  have:=List.pairwise_iff_getElem.mp hj.up x y (by simpa using(by omega:x<t.place.size)) (by simpa using hy) hxy;simp only[Array.getElem_toList]at this;rw[Array.getD_eq_getD_getElem?,Array.getD_eq_getD_getElem?,Array.getElem?_eq_getElem (by omega),Array.getElem?_eq_getElem hy];exact this
 by_cases h0:i=0
 ·subst h0
  simp only[Bool.false_eq_true,if_false,if_true];obtain⟨h1,h2,h3⟩:=hb 0;rcases Nat.eq_zero_or_pos (SetTable.below t.place 0)with h | h
  ·exact h
  ·exact absurd (h2 0 h) (Nat.not_lt_zero _)
 ·simp only[Bool.false_eq_true,if_false,h0]
  obtain⟨h1,h2,h3⟩:=hb (t.place.getD (i-1) 0+1);generalize SetTable.below t.place (t.place.getD (i-1) 0+1)=b at *
  have g1:i<=b:=by
   apply Classical.byContradiction
   intro z;have:=h3 (i-1) (by omega) (by omega);omega
  rcases Nat.lt_or_eq_of_le g1 with g | g
  ·exfalso
   have:=h2 i g;have:=mono (i-1) i (by omega) (by omega);omega
  ·exact g.symm
theorem Bv{i:Nat}{Q:Option (Value×Nat)->Shared->Prop}(ho:s.heap.get? a=some o)(hd:o.data=.set es ep t)(hf:t.fits es.size=true)(hj:Tj (!byT w) t)(hdr:byT w=false->(!t.plain&&decide (es.size>1))=false)(hi:i<=es.size)
 (q:Q ((ordI w a ep es)[i]?.map fun e=>(e.2,slI w t (i+1))) s):wpAny (model prog w) A (setNext a (slI w t i) i ep) Q E s:=by
 have hps:t.place.size=es.size:=by
  simp only[SetTable.fits,Bool.and_eq_true,beq_iff_eq]at hf;exact hf.1
 unfold setNext;refine wpAny_bind (wpAny_setState_of ho hd hf (wpAny_bind (iQ ?_)))
 cases hb:byT w with
 | true=>
   unfold ordI slI at *;rw[hb]at q;simp only[if_true]at q ⊢;rw[if_neg (by simp)];refine wpAny_bind ?_;unfold setWalk;refine wpAny_bind (wpAny_setState_of ho hd hf (wpAny_bind (iQ ?_)));rw[hb];exact wpAny_bind (wpAny_askSetting (wpAny_pure (wpAny_pure q)))
 | false=>
   have hb2:=Ah hj hb (i:=i) (by omega);rw[hb]at hj;have hdr:=hdr hb;unfold ordI at q;rw[hb]at q;simp only[Bool.false_eq_true,if_false]at q ⊢;show wpAny _ _ (if(!t.plain&&decide (es.size>1))=true then _ else _) _ _ _;rw[hdr];simp only[Bool.false_eq_true,if_false];refine wpAny_bind ?_;show wpAny _ _ (if(!t.led&&!es.isEmpty)=true then _ else pure ()) _ _ _;rw[hj.led];simp only[Bool.not_false,Bool.not_true,Bool.false_and,Bool.false_eq_true,if_false];refine wpAny_pure ?_;rw[hb2]
   by_cases hlt:i<es.size
   ·rw[Array.getElem?_eq_getElem hlt,Array.getElem?_eq_getElem (by omega:i<t.place.size)]
    rw[Array.getElem?_eq_getElem hlt]at q;refine wpAny_pure ?_
    have:slI w t (i+1)=t.place[i]'(by omega)+1:=by
     unfold slI;rw[hb];simp only[Bool.false_eq_true,if_false,Nat.add_sub_cancel,Nat.succ_ne_zero,Nat.add_one_ne_zero];rw[Array.getD_eq_getD_getElem?,Array.getElem?_eq_getElem (by omega:i<t.place.size)];rfl
    rw[this]at q;exact q
   ·rw[Array.getElem?_eq_none (by omega)]at q ⊢
    exact wpAny_pure q
theorem MF(hh:A.handled=none)(hne:a≠I)(hx:o.data=.set es ep t)(hf:t.fits es.size=true)(hj:Tj (!byT w) t)(hdr:byT w=false->(!t.plain&&decide (es.size>1))=false) :
 WalksS prog w A I [I,a] [I] (fun x y=>y=x) es.size (fun i v=>∃e,(ordI w a ep es)[i]?=some e/\v=e.2) (fun i s=>(∃tk,s.heap.get? I=some (sit (.int (slI w t i) tk) i a es.size ep))/\s.heap.get? a=some o)where
 sub:=fun b hb=>by simp at hb;simp[hb]
 grefl:=fun _=>rfl
 gtrans:=fun a b c h1 h2=>h2.trans h1
 frame:=fun i s h' tk st _ hk=>⟨st.1.imp fun _ z=>hk I (by simp) _ z,hk a (by simp) _ st.2⟩
 item:=fun i s Q E hi st q=>by
  obtain⟨⟨tk,h1⟩,h2⟩:=st;have hsz:=iZ (w:=w) (a:=a) (ep:=ep) (es:=es);refine rN h1 h2 hx hf (wpAny_bind ?_);rw[Int.toNat_natCast];refine Bv h2 hx hf hj hdr (by omega) ?_;rw[Array.getElem?_eq_getElem (by omega)];refine wpAny_bind (wpAny_setField h1 rfl (by simp) ?_)
  have g1:(s.heap.update I (Obj.mapFields (·.setIfInBounds 0 (rawInt (slI w t (i+1):Nat))))).get? I=some (sit (.int (slI w t (i+1):Nat) 0) i a es.size ep):=by
   refine(Heap.get?_update_self _ h1 (Obj.isFreed_of_fields (Obj.data_mapFields rfl _))).trans ?_
   rfl
  refine wpAny_bind (wpAny_setField g1 rfl (by simp) (wpAny_pure ⟨_,rfl,?_⟩))
  have g2:((s.heap.update I (Obj.mapFields (·.setIfInBounds 0 (rawInt (slI w t (i+1):Nat))))).update I (Obj.mapFields (·.setIfInBounds 1 (rawInt ((i:Int)+1))))).get? I=some (sit (.int (slI w t (i+1):Nat) 0) (i+1) a es.size ep):=by
   refine(Heap.get?_update_self _ g1 (Obj.isFreed_of_fields (Obj.data_mapFields rfl _))).trans ?_
   rfl
  have kp:∀b o,b≠I->s.heap.get? b=some o->((s.heap.update I (Obj.mapFields (·.setIfInBounds 0 (rawInt (slI w t (i+1):Nat))))).update I (Obj.mapFields (·.setIfInBounds 1 (rawInt ((i:Int)+1))))).get? b=some o:=fun b o hb e=>by
   rw[Heap.get?_update_ne _ _ _ _ hb,Heap.get?_update_ne _ _ _ _ hb];exact e
  exact q _ _ ⟨_,Array.getElem?_eq_getElem (by omega),rfl⟩ ⟨⟨0,g2⟩,kp a o hne h2⟩ ⟨fun b o hb e=>kp b o (fun z=>hb (by simp[z])) e,rfl,rfl,rfl,Nat.le_refl _⟩
 done:=fun s Q E st q=>by
  obtain⟨⟨tk,h1⟩,h2⟩:=st;have hsz:=iZ (w:=w) (a:=a) (ep:=ep) (es:=es);refine rN h1 h2 hx hf (wpAny_bind ?_);rw[Int.toNat_natCast];refine Bv h2 hx hf hj hdr (Nat.le_refl _) ?_;rw[Array.getElem?_eq_none (by omega)];refine wpAny_bind (wpAny_setField h1 rfl (by simp) ?_)
  refine vN hh fun h' hk=>q _ ⟨fun b o hb e=>hk b o ?_,rfl,rfl,rfl,Nat.le_refl _⟩
  rw[Heap.get?_update_ne _ _ _ _ (fun z=>hb (by simp[z]))];exact e
 self:=fun i s Q E st q=>by
  obtain⟨⟨tk,h1⟩,h2⟩:=st;exact ur h1 q
end
end Z
namespace Z
open PySem PySem.Spec PyProof.Rows
section
variable{prog:Program}{w:World}{A:Around}{E:Value->Shared->Prop}{s:Shared}{I a T:Addr}{o oT:Obj}{es:Array (Int×Value)}{ep:Nat}{t:SetTable}
theorem O1(hh:A.handled=none)(hne:a≠I)(hTI:T≠I)(hx:o.data=.set es ep t)(hf:t.fits es.size=true){p:List Nat}{c:Nat}(hp:p.Perm (List.range es.size))(hT:oT.data=.seq (p.map fun(i:Nat)=>rawInt i).toArray c) :
 WalksS prog w A I [I,a,T] [I] (fun x y=>y=x) es.size (fun i v=>∃j e,p[i]?=some j/\es[j]?=some e/\v=e.2) (fun i s=>s.heap.get? I=some (sit (.ref T) i a es.size ep)/\s.heap.get? a=some o/\s.heap.get? T=some oT)where
 sub:=fun b hb=>by simp at hb;simp[hb]
 grefl:=fun _=>rfl
 gtrans:=fun a b c h1 h2=>h2.trans h1
 frame:=fun i s h' tk st _ hk=>⟨hk I (by simp) _ st.1,hk a (by simp) _ st.2.1,hk T (by simp) _ st.2.2⟩
 item:=fun i s Q E hi st q=>by
  obtain⟨h1,h2,h3⟩:=st
  have hl:p.length=es.size:=by have:=hp.length_eq;simpa using this
  have hi':i<p.length:=by omega
  have hj:p[i]<es.size:=List.mem_range.mp (hp.mem_iff.mp (List.getElem_mem hi'));refine qZ h1 h2 hx hf h3 hT ?_;rw[List.getElem?_toArray,List.getElem?_map,List.getElem?_eq_getElem hi'];simp only[Option.map_some,rawInt];refine wpAny_bind ?_;unfold setNextDrawn;refine wpAny_bind (wpAny_setState_of h2 hx hf ?_);dsimp only;rw[if_neg (by simp),Int.toNat_natCast,Array.getElem?_eq_getElem hj];refine wpAny_pure (wpAny_bind (wpAny_setField h1 rfl (by simp) (wpAny_pure ⟨_,rfl,?_⟩)))
  have g2:(s.heap.update I (Obj.mapFields (·.setIfInBounds 1 (.int ((i:Int)+1) 0)))).get? I=some (sit (.ref T) (i+1) a es.size ep):=by
   refine(Heap.get?_update_self _ h1 (Obj.isFreed_of_fields (Obj.data_mapFields rfl _))).trans ?_
   rfl
  have kp:∀b o,b≠I->s.heap.get? b=some o->(s.heap.update I (Obj.mapFields (·.setIfInBounds 1 (.int ((i:Int)+1) 0)))).get? b=some o:=fun b o hb e=>by
   rw[Heap.get?_update_ne _ _ _ _ hb];exact e
  exact q _ _ ⟨_,_,List.getElem?_eq_getElem hi',Array.getElem?_eq_getElem hj,rfl⟩ ⟨g2,kp a o hne h2,kp T oT hTI h3⟩ ⟨fun b o hb e=>kp b o (fun z=>hb (by simp[z])) e,rfl,rfl,rfl,Nat.le_refl _⟩
 done:=fun s Q E st q=>by
  obtain⟨h1,h2,h3⟩:=st
  have hl:p.length=es.size:=by have:=hp.length_eq;simpa using this
  refine qZ h1 h2 hx hf h3 hT ?_;rw[List.getElem?_toArray,List.getElem?_map,List.getElem?_eq_none (by omega)];simp only[Option.map_none];refine wpAny_bind (wpAny_setField h1 rfl (by simp) ?_)
  have g1:(s.heap.update I (Obj.mapFields (·.setIfInBounds 0 (rawInt 0)))).get? I=some (sit (rawInt 0) es.size a es.size ep):=by
   refine(Heap.get?_update_self _ h1 (Obj.isFreed_of_fields (Obj.data_mapFields rfl _))).trans ?_
   rfl
  refine wpAny_bind (wpAny_setField g1 rfl (by simp) ?_)
  refine vN hh fun h' hk=>q _ ⟨fun b o hb e=>hk b o ?_,rfl,rfl,rfl,Nat.le_refl _⟩
  rw[Heap.get?_update_ne _ _ _ _ (fun z=>hb (by simp[z])),Heap.get?_update_ne _ _ _ _ (fun z=>hb (by simp[z]))];exact e
 self:=fun i s Q E st q=>ur st.1 q
theorem zb{Q:Value->Shared->Prop}(ho:s.heap.get? a=some o)(hx:o.ExactSet)(hd:o.data=.set es ep t)(hf:t.fits es.size=true)(hb:es.size<scanBound)
 (q1:(byT w=false->(!t.plain&&decide (es.size>1))=false)->Q (.ref s.heap.objs.size) { s with heap:=s.heap.push (sit (rawInt 0) 0 a es.size ep) })
 (q2:∀(p:List Nat) d,p.Perm (List.range es.size)->Q (.ref (s.heap.push { cls:=.type "tuple",data:=.seq (p.map fun(i:Nat)=>rawInt i).toArray }).objs.size) { s with heap:=(s.heap.push { cls:=.type "tuple",data:=.seq (p.map fun(i:Nat)=>rawInt i).toArray }).push (sit (.ref s.heap.objs.size) 0 a es.size ep),drawn:=d }) :
 wpAny (model prog w) A (pyIter (.ref a)) Q E s:=by
 have hT:s.TypeIs (.ref a) "set":=⟨o,ho,hx.1⟩
 refine wpAny_pyIter_slot hT PySem.F.slot_set_iter (wpAny_call_entry PySem.F.slot_set_iter hT zu ?_ (PySem.F.args_set_iter_1 _));unfold Builtin.«frozenset.__iter__»;refine wpAny_bind (m:=Builtin.Frozenset.slot0 _ _) (wpAny_bind (wpAny_pure (wpAny_pure ?_)));refine wpAny_bind (m:=Builtin.Frozenset.sizeOf a) ?_;unfold Builtin.Frozenset.sizeOf setEntries;refine wpAny_bind (wpAny_bind (wpAny_setState_of ho hd hf (wpAny_pure (wpAny_pure ?_))));refine wpAny_bind ?_;unfold setDrawn;refine wpAny_bind (wpAny_setState_of ho hd hf (wpAny_bind (iQ (wpAny_pure ?_))))
 have fin:∀(f:Value) (s1:Shared),s1.heap.get? a=some o->Q (.ref s1.heap.objs.size) { s1 with heap:=s1.heap.push (sit f 0 a es.size ep) }->wpAny (model prog w) A.in1 (setEpoch a >>= fun e=>newFields "set_iterator" [f,rawInt 0,.ref a,rawInt es.size,rawInt e] >>= fun v=>ret v) (fun fin s'=>∃r,fin=.done (.ret r)/\∃T id,s'.TypeIs r T/\typeLookup (.type T) "__next__"=pure (some id)/\Q r s') E s1:=fun f s1 h1 q=>by
  refine wpAny_bind ?_;unfold setEpoch;refine wpAny_bind (wpAny_setState_of h1 hd hf (wpAny_pure (wpAny_bind ?_)));unfold newFields;refine wpAny_newObj_type ?_;exact wpAny_pure ⟨_,rfl,"set_iterator",_,⟨_,Heap.get?_push_size _ rfl,rfl⟩,slot_sin.lookup,q⟩
 dsimp only;show wpAny _ _ (if(!byT w&&(!t.plain&&decide (es.size>1)))=true then _ else _) _ _ _
 by_cases c:(!byT w&&(!t.plain&&decide (es.size>1)))=true
 ·rw[if_pos c]
  refine wpAny_bind (wL es.size _ _ _ (by simp) fun l d hl=>?_)
  have hz:l.length<=sizeLine:=by
   have:=hl.length_eq;rw[List.length_range]at this;rw[this];exact fits_of_scanBound hb
  refine wpAny_bind (wpAny_newTuple ?_ (by simpa using hz));exact fin (.ref s.heap.objs.size) _ (Heap.get?_push_of_some _ ho) (q2 l d hl)
 ·rw[if_neg c]
  refine wpAny_bind (wpAny_pure ?_);refine fin (rawInt 0) s ho (q1 fun z=>?_);rw[z]at c;simpa using c
theorem rF(hT:s.TypeIs (.ref a) "set"){Q:Bool->Shared->Prop}(q:Q false s):wpAny (model prog w) A (Builtin.List.listLengthHint (.ref a)) Q E s:=by
 unfold Builtin.List.listLengthHint;refine wpAny_bind (wpAny_specialOf hT (PySem.F.slot_set_len.lookup) ?_)
 have e:splitId "set.__len__"=some ("set","__len__"):=by decide +kernel
 dsimp only;rw[e];dsimp only;refine wpAny_bind (wpAny_isInstance hT sub_set_self ?_);rw[if_neg (by decide)]
 refine wpAny_ite_split (fun _=>wpAny_bind (wpAny_typeOf hT (wpAny_pure q))) fun z=>absurd (by decide +kernel) z
section
variable{K:Type} [DecidableEq K]{knd:KeyKind prog w K}{pj:Value->K}
theorem uP{L:Addr}{fp wr:List Addr}{n:Nat}{P:Nat->Value->Prop}{St:Nat->Shared->Prop}{Q:List Value->Shared->Prop}(W:WalksS prog w A.in1 I fp wr (fun x y=>y=x) n P St)(hn:n<=sizeLine)(hL:L∉fp)(st:St 0 s)(hl:s.heap.get? L=some { cls:=.type "list",data:=.seq #[] 0 }){hT:s.TypeIs (.ref a) "set"}
 (q:∀h' tk vs,s.toks<=tk->(∀b o,b∉L::wr->s.heap.get? b=some o->h'.get? b=some o)->vs.length=n->(∀j v,vs[j]?=some v->P j v)->Q vs { s with heap:=h',toks:=tk }) (b:Bool) :
 wpAny (model prog w) A.in1 (if(false||b)=true then(rule "list.extend.makes-room" >>= fun _=>Builtin.List.listTouch (.ref L) >>= fun _=>again (.builtin "list.extend.loop" ⟨[.ref L,.ref I,.ref L],[]⟩))else again (.builtin "list.extend.loop" ⟨[.ref L,.ref I,.ref L],[]⟩))
  (fun fin s'=>match fin with
   | .done f=>(match(Except.ok f:Result)with
     | .ok (.ret v)=>wpAny (model prog w) A (match v with | .ref a=>(load a >>= fun ob=>match ob.data with | .seq xs _=>pure xs.toList | _=>unsupported "internal:collect") | _=>unsupported "internal:collect") Q E s'
     | .ok _=>False
     | .error e=>E e s')
   | .again c'=>c'.quiet=true/\codeAny (model prog w) A c' (fun r s'=>match r with
     | .ok (.ret v)=>wpAny (model prog w) A (match v with | .ref a=>(load a >>= fun ob=>match ob.data with | .seq xs _=>pure xs.toList | _=>unsupported "internal:collect") | _=>unsupported "internal:collect") Q E s'
     | .ok _=>False
     | .error e=>E e s') s') (fun e s'=>match(Except.error e:Result)with
     | .ok (.ret v)=>wpAny (model prog w) A (match v with | .ref a=>(load a >>= fun ob=>match ob.data with | .seq xs _=>pure xs.toList | _=>unsupported "internal:collect") | _=>unsupported "internal:collect") Q E s'
     | .ok _=>False
     | .error e=>E e s') s:=by
 have key:∀(h1:Heap) (c:Nat),(∀b o,b≠L->s.heap.get? b=some o->h1.get? b=some o)->h1.get? L=some { cls:=.type "list",data:=.seq #[] c }->codeAny (model prog w) A (.builtin "list.extend.loop" ⟨[.ref L,.ref I,.ref L],[]⟩) (fun r s'=>match r with
  | .ok (.ret v)=>wpAny (model prog w) A (match v with | .ref a=>(load a >>= fun ob=>match ob.data with | .seq xs _=>pure xs.toList | _=>unsupported "internal:collect") | _=>unsupported "internal:collect") Q E s'
  | .ok _=>False
  | .error e=>E e s') { s with heap:=h1 }:=fun h1 c hk hl1=>by
  refine codeAny_extend_loopS W hn L hL (.ref L) n 0 _ #[] c rfl (Nat.zero_le _) (W.frame 0 s h1 s.toks st (Nat.le_refl _) fun b hb o e=>hk b o (fun z=>hL (z▸hb)) e) hl1 (ItemsOf.nil _) fun s' acc c' m hl' hi=>?_
  refine wpAny_bind (wpAny_load hl' (wpAny_pure ?_));obtain⟨h',g',d',t',o'⟩:=s';obtain⟨m1,m2,m3,m4,m5⟩:=m;have m2:g'=s.gens:=m2;have m3:d'=s.drawn:=m3;have m4:o'=s.os:=m4;subst m2;subst m3;subst m4
  refine q h' t' acc.toList m5 (fun b o hb e=>m1 b o hb (hk b o (fun z=>hb (by simp[z])) e)) (by simpa using hi.1) fun j v hv=>hi.2 j v (by simpa using hv)
 cases b with
 | false=>exact wpAny_pure ⟨plainId_quiet PySem.F.plain_extend_loop _,key s.heap 0 (fun _ _ _ e=>e) hl⟩
 | true=>
   simp only[Bool.false_or,if_true];refine wpAny_bind (wpAny_rule (wpAny_bind ?_));show wpAny _ _ (updateSeq L (·.push .none) >>= fun _=>updateSeq L (·.pop)) _ _ _;have g1:=Heap.get?_update_self (Obj.mapSeq (·.push Value.none)) hl rfl;have g2:=Heap.get?_update_self (Obj.mapSeq (·.pop)) g1 rfl;refine wpAny_bind (wpAny_updateSeq hl rfl (wpAny_updateSeq (hz:=by seq_fits) g1 rfl (wpAny_pure ⟨plainId_quiet PySem.F.plain_extend_loop _,key _ _ (fun b o hb e=>?_) g2⟩)));rw[Heap.get?_update_ne _ _ _ _ hb,Heap.get?_update_ne _ _ _ _ hb];exact e
end
end
end Z
namespace Z
open PySem PySem.Spec PyProof.Rows
theorem uT{α β:Type}{vs:List β}{l:List α}{f:α->β}(hl:vs.length=l.length)(h:∀(j:Nat) v,vs[j]?=some v->∃e,l[j]?=some e/\v=f e):vs=l.map f:=by
 apply List.ext_getElem?
 intro j
 by_cases hj:j<vs.length
 ·obtain⟨e,h1,h2⟩:=h j vs[j] (List.getElem?_eq_getElem hj)
  rw[List.getElem?_eq_getElem hj,List.getElem?_map,h1,h2];rfl
 ·rw[List.getElem?_eq_none (by omega),List.getElem?_eq_none (by rw[List.length_map];omega)]
section
variable{prog:Program}{w:World}{A:Around}{E:Value->Shared->Prop}{s:Shared}{a:Addr}{K:Type} [DecidableEq K]{knd:KeyKind prog w K}{pj:Value->K}
theorem jc{ks:List K}(hpj:∀v k,knd.is k v=true->pj v=k)(hh:A.handled=none)(S:SetL knd pj s.heap a (!byT w) ks){Q:List Value->Shared->Prop}
 (q:∀h' d' tk vs,s.toks<=tk->(∀b o,s.heap.get? b=some o->h'.get? b=some o)->(vs.map pj).Perm ks->(∀v∈vs,knd.is (pj v) v=true)->Q vs { s with heap:=h',drawn:=d',toks:=tk }):wpAny (model prog w) A (collect (.ref a)) Q E s:=by
 obtain⟨o,es,ep,t,ho,hx,hd,he,hp,hb,hf,hj⟩:=S;have hn:=fits_of_scanBound hb;have hlt:a<s.heap.objs.size:=Heap.lt_size ho
 have hend:∀(l:List (Int×Value)),l.Perm es.toList->((l.map fun e=>e.2).map pj).Perm ks/\∀v∈l.map (fun e=>e.2),knd.is (pj v) v=true:=fun l hl=>by
  refine⟨?_,fun v hv=>?_⟩
  ·rw[List.map_map];exact(hl.map _).trans hp
  ·obtain⟨e,h1,rfl⟩:=List.mem_map.mp hv
   obtain⟨⟨k,h2,_⟩,_⟩:=he e (hl.mem_iff.mp h1);exact(hpj _ _ h2)▸h2
 unfold collect;refine wpAny_bind (wpAny_runValue (codeAny_builtin PySem.F.entry_proto_collect ?_));rw[Around.under_plainId PySem.F.plain_proto_collect _];show wpAny _ A.in1 (newList [] >>= fun acc=>again (.builtin "list.__iadd__" ⟨[acc,.ref a],[]⟩)) _ _ s;refine wpAny_bind (wpAny_newObj_type ?_);refine wpAny_pure ⟨plainId_quiet PySem.F.plain_list_iadd _,codeAny_builtin PySem.F.entry_list_iadd ?_⟩;rw[Around.under_plainId PySem.F.plain_list_iadd _];show wpAny _ A.in1 (Builtin.List.listExtendWith (.ref s.heap.objs.size) (.ref a) (.ref s.heap.objs.size)) _ _ _;have hl0:(s.heap.push { cls:=.type "list",data:=.seq ([]:List Value).toArray }).get? s.heap.objs.size=some { cls:=.type "list",data:=.seq #[] 0 }:=Heap.get?_push_size _ rfl;have ha0:=Heap.get?_push_of_some { cls:=.type "list",data:=.seq ([]:List Value).toArray } ho
 have hkp:∀b o',s.heap.get? b=some o'->(s.heap.push { cls:=.type "list",data:=.seq ([]:List Value).toArray }).get? b=some o':=fun b o' e=>Heap.get?_push_of_some _ e
 have hsz:(s.heap.push { cls:=.type "list",data:=.seq ([]:List Value).toArray }).objs.size=s.heap.objs.size+1:=Heap.size_push _ _;generalize s.heap.push { cls:=.type "list",data:=.seq ([]:List Value).toArray }=h1 at *
 have hT:∀h2:Heap,h2.get? a=some o->∀d tk,Shared.TypeIs ⟨h2,s.gens,d,tk,s.os⟩ (.ref a) "set":=fun h2 e d tk=>⟨o,e,hx.1⟩
 unfold Builtin.List.listExtendWith;refine wpAny_bind (wpAny_typeOf (T:="set") (hT h1 ha0 _ _) ?_)
 have c1:Builtin.List.listSameRef (.ref s.heap.objs.size) (.ref a)=false:=by simp[Builtin.List.listSameRef,Nat.ne_of_gt hlt]
 rw[c1];rw[if_neg (by decide)];refine wpAny_bind (zb (s:=⟨h1,s.gens,s.drawn,s.toks,s.os⟩) ha0 hx hd hf hb (fun hdr=>?_) fun p d hp'=>?_)
 ·refine wpAny_bind (wpAny_holding (rF (hT _ (Heap.get?_push_of_some _ ha0) _ _) ?_))
  have hne:a≠h1.objs.size:=by rw[hsz];exact Nat.ne_of_lt (Nat.lt_succ_of_lt hlt)
  refine uP (s:=⟨h1.push (sit (rawInt 0) 0 a es.size ep),s.gens,s.drawn,s.toks,s.os⟩) (hT:=hT _ (Heap.get?_push_of_some _ ha0) _ _) (MF (I:=h1.objs.size) (o:=o) hh hne hd hf hj hdr) hn (L:=s.heap.objs.size) ?_ ⟨⟨0,?_⟩,Heap.get?_push_of_some _ ha0⟩ (Heap.get?_push_of_some _ hl0) (fun h' tk vs htk hk hl hv=>?_) _
  ·rw[hsz]
   simp only[List.mem_cons,List.not_mem_nil,or_false,not_or];exact⟨Nat.ne_of_lt (Nat.lt_succ_self _),Nat.ne_of_gt hlt⟩
  ·refine(Heap.get?_push_size _ rfl).trans ?_
   have:slI w t 0=0:=by unfold slI;split<;>rfl
   rw[this];rfl
  ·have ev:vs=(ordI w a ep es).toList.map fun e=>e.2:=uT (by rw[hl];have:=iZ (w:=w) (a:=a) (ep:=ep) (es:=es);simpa using this.symm) fun j v hjv=>by
    obtain⟨e,h2,h3⟩:=hv j v hjv;exact⟨e,by simpa using h2,h3⟩
   subst ev;obtain⟨e1,e2⟩:=hend _ (lZ (w:=w) (a:=a) (ep:=ep) (es:=es));refine q h' s.drawn tk _ htk (fun b o' e=>hk b o' ?_ (Heap.get?_push_of_some _ (hkp b o' e))) e1 e2;have:=Heap.lt_size e;rw[hsz];simp only[List.mem_cons,List.not_mem_nil,or_false,not_or];exact⟨Nat.ne_of_lt this,Nat.ne_of_lt (Nat.lt_succ_of_lt this)⟩
 ·refine wpAny_bind (wpAny_holding (rF (hT _ (Heap.get?_push_of_some _ (Heap.get?_push_of_some _ ha0)) _ _) ?_))
  have hs2:=Heap.size_push h1 ({ cls:=.type "tuple",data:=.seq (p.map fun(i:Nat)=>rawInt i).toArray }:Obj)
  have hne:a≠(h1.push ({ cls:=.type "tuple",data:=.seq (p.map fun(i:Nat)=>rawInt i).toArray }:Obj)).objs.size:=by rw[hs2,hsz];exact Nat.ne_of_lt (Nat.lt_succ_of_lt (Nat.lt_succ_of_lt hlt))
  have hT0:(h1.push ({ cls:=.type "tuple",data:=.seq (p.map fun(i:Nat)=>rawInt i).toArray }:Obj)).get? h1.objs.size=some _:=Heap.get?_push_size _ rfl
  have hk2:∀b o',h1.get? b=some o'->(h1.push ({ cls:=.type "tuple",data:=.seq (p.map fun(i:Nat)=>rawInt i).toArray }:Obj)).get? b=some o':=fun b o' e=>Heap.get?_push_of_some _ e
  have hne2:h1.objs.size≠(h1.push ({ cls:=.type "tuple",data:=.seq (p.map fun(i:Nat)=>rawInt i).toArray }:Obj)).objs.size:=by rw[hs2];exact Nat.ne_of_lt (Nat.lt_succ_self _)
  generalize h1.push ({ cls:=.type "tuple",data:=.seq (p.map fun(i:Nat)=>rawInt i).toArray }:Obj)=h2 at *;refine uP (s:=⟨h2.push (sit (.ref h1.objs.size) 0 a es.size ep),s.gens,d,s.toks,s.os⟩) (hT:=hT _ (Heap.get?_push_of_some _ (hk2 _ _ ha0)) _ _) (O1 (prog:=prog) (w:=w) (A:=A.in1) (I:=h2.objs.size) (T:=h1.objs.size) (o:=o) (oT:={ cls:=.type "tuple",data:=.seq (p.map fun(i:Nat)=>rawInt i).toArray }) hh hne hne2 hd hf hp' rfl) hn (L:=s.heap.objs.size) ?_ ⟨Heap.get?_push_size _ rfl,Heap.get?_push_of_some _ (hk2 _ _ ha0),Heap.get?_push_of_some _ hT0⟩ (Heap.get?_push_of_some _ (hk2 _ _ hl0)) (fun h' tk vs htk hk hl hv=>?_) _
  ·rw[hs2,hsz]
   simp only[List.mem_cons,List.not_mem_nil,or_false,not_or];exact⟨Nat.ne_of_lt (Nat.lt_succ_of_lt (Nat.lt_succ_self _)),Nat.ne_of_gt hlt,Nat.ne_of_lt (Nat.lt_succ_self _)⟩
  ·have hpl:p.length=es.size:=by have:=hp'.length_eq;simpa using this
   have hin:∀j∈p,j<es.toList.length:=fun j hj'=>by have:=List.mem_range.mp (hp'.mem_iff.mp hj');simpa using this
   have ev:vs=(p.map fun j=>es.toList[j]?.getD (0,.none)).map fun e=>e.2:=by
    rw[List.map_map]
    refine uT (by omega) fun j v hjv=>?_
    obtain⟨i,e,h3,h4,h5⟩:=hv j v hjv;refine⟨i,h3,?_⟩;simp only[Function.comp_apply,Array.getElem?_toList,h4,Option.getD_some,h5]
   have hperm:(p.map fun j=>es.toList[j]?.getD (0,.none)).Perm es.toList:=by
    refine(hp'.map _).trans ?_
    have:(List.range es.size).map (fun j=>es.toList[j]?.getD (0,.none))=es.toList:=by
     apply List.ext_getElem
     ·simp
     ·intro i h3 h4
      rw[List.getElem_map,List.getElem_range,List.getElem?_eq_getElem h4];rfl
    rw[this]
   subst ev;obtain⟨e1,e2⟩:=hend _ hperm;refine q h' d tk _ htk (fun b o' e=>hk b o' ?_ (Heap.get?_push_of_some _ (hk2 _ _ (hkp b o' e)))) e1 e2;have:=Heap.lt_size e;rw[hs2,hsz];simp only[List.mem_cons,List.not_mem_nil,or_false,not_or];exact⟨Nat.ne_of_lt this,Nat.ne_of_lt (Nat.lt_succ_of_lt (Nat.lt_succ_of_lt this))⟩
end
end Z
namespace Z
open PySem PySem.Spec PyProof.Rows L2
noncomputable def pjS:Value->Str
 | .str x _=>x
 | _=>⟨#[]⟩
noncomputable def pjI:Value->Int
 | .int i _=>i
 | _=>0
section
variable{X:Cx}{pins:List (Addr×Obj)}{σ:L2.St}{H:Hp}{s:Shared}
theorem Bt(v:Value)(k:Str)(h:(strKind X.prog X.w).is k v=true):pjS v=k:=by
 obtain⟨t,rfl⟩:=Value.isStrOf_shape h;rfl
theorem Aq(v:Value)(k:Int)(h:(intKind X.prog X.w).is k v=true):pjI v=k:=by
 obtain⟨t,rfl⟩:=Value.isInt_shape h;rfl
theorem nM(I:Inv X pins σ H s)(d:Drawn):Inv X pins σ H { s with drawn:=d }:=⟨I.ok,I.os,I.bare,I.base,I.loc,I.cell,I.free,I.freeC,I.pin,I.hok,I.len⟩
noncomputable def setS(X:Cx)(l:Addr)(ks:List Str):HO:=.ext fun h=>SetL (strKind X.prog X.w) pjS h l (!byT X.w) ks
noncomputable def setI(X:Cx)(l:Addr)(ks:List Int):HO:=.ext fun h=>SetL (intKind X.prog X.w) pjI h l (!byT X.w) ks
theorem rH{K:Type} [DecidableEq K]{knd:PySem.KeyKind X.prog X.w K}{pj:Value->K}{h':Heap}{l:Addr}{ks:List K}(S:SetL knd pj h' l (!byT X.w) ks){H':Hp}:ObjOk X.prog X.w H' h' l (.ext fun h=>SetL knd pj h l (!byT X.w) ks):=by
 obtain⟨o,es,ep,t,ho,r⟩:=id S;exact⟨S,⟨o,ho⟩,fun h1 h2 a b=>a.kept b⟩
noncomputable def rSet(X:Cx):List V->Hp->VK->Prop:=fun xs H Q=>
 (∃(c:Addr) (ss:List Str),xs=[.ref c]/\SqL X.K H c (ss.map V.str)/\ss.length<4000/\∀(l:Addr) (ks:List Str),ks.Nodup->(∀k,k∈ks↔k∈ss)->H l=none->Q (.ref l) (upd H l (setS X l ks))) \/
 (∃(c:Addr) (ss:List Int),xs=[.ref c]/\SqL X.K H c (ss.map V.int)/\ss.length<4000/\∀(l:Addr) (ks:List Int),ks.Nodup->(∀k,k∈ks↔k∈ss)->H l=none->Q (.ref l) (upd H l (setI X l ks)))
theorem oK:∀{xs:List V} {us:List Value} {i:Nat} {u:Value},Vals xs us->us[i]?=some u->∃x,xs[i]?=some x/\RelV x u
 | _,_,i,u,.nil,h=>by simp at h
 | _,_,0,u,.cons r t,h=>by simp at h;subst h;exact⟨_,rfl,r⟩
 | _,_,i+1,u,.cons r t,h=>by simpa using oK t (by simpa using h)
theorem qy{K:Type} [DecidableEq K] [Inhabited K](ss:List K)(k:K):k∈ded (fun i=>ss.getD i default) ss.length↔k∈ss:=by
 rw[uo]
 constructor
 ·rintro⟨j,h1,h2⟩
  rw[List.getD_eq_getElem?_getD,List.getElem?_eq_getElem h1]at h2;exact h2▸List.getElem_mem h1
 ·intro h
  obtain⟨j,h1,h2⟩:=List.getElem_of_mem h;exact⟨j,h1,by rw[List.getD_eq_getElem?_getD,List.getElem?_eq_getElem h1];exact h2⟩
theorem zE(hc:X.calm=true):CallR X (.type "set") (rSet X):=by
 intro pins s σ H xs us Q I r h;have h4:scanBound=4096:=rfl;rcases h with⟨c,ss,rfl,hq,hn,q⟩ | ⟨c,ss,rfl,hq,hn,q⟩
 ·obtain⟨u,rfl,rx⟩:=vals1 r
  cases rx;obtain⟨its,rv,pl,hz⟩:=I.list hq
  have hlen:its.length=ss.length:=by have:=rv.length;rw[List.length_map]at this;omega
  refine set_list (knd:=strKind X.prog X.w) (pj:=pjS) Bt (fun i=>ss.getD i default) (I.ok.hd hc) pl.isList (fun i v hv=>?_) (by rw[List.size_toArray,hlen,h4];omega) fun h' tk htk S hk=>?_
  ·rw[List.getElem?_toArray]at hv
   obtain⟨x,h1,h2⟩:=oK rv hv;rw[List.getElem?_map]at h1;obtain⟨y,h3,rfl⟩:=Option.map_eq_some_iff.mp h1;obtain⟨t,rfl⟩:=h2;rw[List.getD_eq_getElem?_getD,h3];exact⟨strKind_is _ _ _ _,rfl⟩
  ·rw[show its.toArray.size=ss.length by rw[List.size_toArray];exact hlen]at S
   exact⟨.ref s.heap.objs.size,_,I.laid (a:=s.heap.objs.size) (o:=setS X s.heap.objs.size _) (t':=tk) hk (Nat.le_refl _) (rH S),rfl,q _ _ (vz _ _) (qy ss) I.fresh⟩
 ·obtain⟨u,rfl,rx⟩:=vals1 r
  cases rx;obtain⟨its,rv,pl,hz⟩:=I.list hq
  have hlen:its.length=ss.length:=by have:=rv.length;rw[List.length_map]at this;omega
  refine set_list (knd:=intKind X.prog X.w) (pj:=pjI) Aq (fun i=>ss.getD i default) (I.ok.hd hc) pl.isList (fun i v hv=>?_) (by rw[List.size_toArray,hlen,h4];omega) fun h' tk htk S hk=>?_
  ·rw[List.getElem?_toArray]at hv
   obtain⟨x,h1,h2⟩:=oK rv hv;rw[List.getElem?_map]at h1;obtain⟨y,h3,rfl⟩:=Option.map_eq_some_iff.mp h1;obtain⟨t,rfl⟩:=h2;rw[List.getD_eq_getElem?_getD,h3];exact⟨intKind_is _ _ _ _,rfl⟩
  ·rw[show its.toArray.size=ss.length by rw[List.size_toArray];exact hlen]at S
   exact⟨.ref s.heap.objs.size,_,I.laid (a:=s.heap.objs.size) (o:=setI X s.heap.objs.size _) (t':=tk) hk (Nat.le_refl _) (rH S),rfl,q _ _ (vz _ _) (qy ss) I.fresh⟩
theorem ug:∀{vs:List Value},(∀v∈vs,(strKind X.prog X.w).is (pjS v) v=true)->StrsAre vs (vs.map pjS)
 | [],_=>.nil
 | v::vs,h=>by
   obtain⟨t,e⟩:=Value.isStrOf_shape (h v List.mem_cons_self)
   have ih:=ug fun u hu=>h u (List.mem_cons_of_mem _ hu)
   rw[List.map_cons];generalize pjS v=k at e ⊢;subst e;exact .cons k t ih
theorem ints_of:∀{vs:List Value},(∀v∈vs,(intKind X.prog X.w).is (pjI v) v=true)->IntsAre vs (vs.map pjI)
 | [],_=>.nil
 | v::vs,h=>by
   obtain⟨t,e⟩:=Value.isInt_shape (h v List.mem_cons_self)
   have ih:=ints_of fun u hu=>h u (List.mem_cons_of_mem _ hu)
   rw[List.map_cons];generalize pjI v=k at e ⊢;subst e;exact .cons k t ih
theorem di:∀{ss:List Int} {its:List Value},IntsAre its ss->Vals (ss.map V.int) its
 | _,_,.nil=>.nil
 | _,_,.cons x tk t=>by rw[List.map_cons];exact .cons ⟨tk,rfl⟩ (di t)
noncomputable def vD(X:Cx):List V->Hp->VK->Prop:=fun xs H Q=>
 (∃(c:Addr) (ks:List Str),xs=[.ref c]/\H c=some (setS X c ks)/\ks.length<64/\∀(l:Addr) (ss:List Str),ss.Perm ks->PyProof.Rows.sortedS ss=true->H l=none->Q (.ref l) (upd H l (.lst (ss.map V.str)))) \/
 (∃(c:Addr) (ks:List Int),xs=[.ref c]/\H c=some (setI X c ks)/\ks.length<64/\∀(l:Addr) (ss:List Int),ss.Perm ks->ss.Pairwise (·<=·)->H l=none->Q (.ref l) (upd H l (.lst (ss.map V.int))))
theorem jw(hc:X.calm=true):CallR X (.builtin "sorted") (vD X):=by
 intro pins s σ H xs us Q I r h;rcases h with⟨c,ks,rfl,hH,h64,q⟩ | ⟨c,ks,rfl,hH,h64,q⟩
 ·obtain⟨u,rfl,rx⟩:=vals1 r
  cases rx;have S:=(I.hok c _ hH).1
  refine L2.sorted_by PyProof.Rows.strKind_oneLt fun E'=>?_
  refine jc (A:=X.A.in1) Bt (I.ok.hd hc) S fun h' d' tk vs htk hk hp hv=>?_
  have hS:=ug hv
  have hl:vs.length=ks.length:=by have:=hp.length_eq;simpa using this
  have I1:Inv X pins σ H { s with heap:=h',drawn:=d',toks:=tk }:=nM (I.kept (t':=tk) hk) d';refine⟨hS.keysOf,fun v₁ v₂ rest e=>keyKind_strs (by rw[<-e];exact hS),by omega,fun h2 st hk2 hp2 hs2 ho2=>?_⟩;obtain⟨ss,a1,a2,a3⟩:=sorted_out_str hS hp2 hs2;obtain⟨e,ho2⟩:=ho2;have hl2:=a2.length_eq;rw[List.length_map]at hl2;refine⟨.ref h'.objs.size,_,I1.laid (a:=h'.objs.size) (o:=.lst (ss.map V.str)) (t':=tk) hk2 (Nat.le_refl _) ?_,rfl,q _ ss (a2.trans hp) a3 I1.fresh⟩;refine⟨by rw[List.length_map,sizeLine_eq];omega,((arrOf st).map (·.2)).toList,e,iU a1,?_⟩;rw[ho2]
 ·obtain⟨u,rfl,rx⟩:=vals1 r
  cases rx;have S:=(I.hok c _ hH).1;refine Calls.call_function_entry kind_sorted plain_sorted entry_sorted (args_sorted1 _) ?_;unfold Builtin.«sorted»;refine wpAny_bind (m:=checkCount "sorted" 1 1 _) (wpAny_pure (wpAny_bind ?_))
  refine jc (A:=X.A.in1) Aq (I.ok.hd hc) S fun h' d' tk vs htk hk hp hv=>?_
  have hS:=ints_of hv
  have hl:vs.length=ks.length:=by have:=hp.length_eq;simpa using this
  have I1:Inv X pins σ H { s with heap:=h',drawn:=d',toks:=tk }:=nM (I.kept (t':=tk) hk) d';refine wpAny_bind (wpAny_newList ?_ (by rw[sizeLine_eq];omega));have hoL:(h'.push (seqObj "list" vs.toArray 0)).get? h'.objs.size=some (seqObj "list" vs.toArray 0):=Heap.get?_push_size _ rfl;refine wpAny_bind (wpAny_holding (wpAny_call_entry slot_list_sort ⟨_,hoL,rfl⟩ entry_list_sort (list_sort_tree hoL hS (by omega) fun out ns a1 a2 a3=>⟨_,rfl,?_⟩) (args_list_sort _)));have hl2:=a2.length_eq;rw[List.length_map]at hl2;obtain⟨e,ho2⟩:=sortedHeap_at (vs:=vs) (out:=out) hoL;refine wpAny_pure ⟨_,rfl,.ref h'.objs.size,_,I1.laid (a:=h'.objs.size) (o:=.lst (ns.map V.int)) (t':=tk) (fun b o e'=>?_) (Nat.le_refl _) ⟨by rw[List.length_map,sizeLine_eq];omega,out.toList,e,di a1,?_⟩,rfl,q _ ns (a2.trans hp) a3 I1.fresh⟩
  ·have hlt:=Heap.lt_size e'
   rw[sortedHeap_old (Nat.ne_of_lt hlt) (by rw[size_push'];exact Nat.lt_succ_of_lt hlt)];exact Heap.get?_push_of_some _ e'
  ·exact ho2
end
end Z
namespace Z
open PySem PySem.Spec PyProof.Rows L2
theorem cN{α:Type} [DecidableEq α](k:α):∀l:List α,k∈bZ l↔k∈l
 | []=>by simp[bZ]
 | x::l=>by
   have ih:=cN k l;rw[bZ];split
   ·rename_i h
    rw[ih,List.mem_cons];exact⟨.inr,fun z=>z.elim (fun e=>e▸h) id⟩
   ·rw[List.mem_cons,List.mem_cons,ih]
theorem kZ{α:Type} [DecidableEq α]:∀l:List α,(bZ l).Nodup
 | []=>List.nodup_nil
 | x::l=>by
   have ih:=kZ l;rw[bZ];split
   ·exact ih
   ·rename_i h
    exact List.nodup_cons.mpr ⟨fun z=>h ((cN x l).mp z),ih⟩
theorem insI_perm(x:Int):∀l,(insI x l).Perm (x::l)
 | []=>.refl _
 | y::l=>by
   simp only[insI];split
   ·exact .refl _
   ·exact((insI_perm x l).cons y).trans (.swap x y l)
theorem sortI_perm:∀l,(sortI l).Perm l
 | []=>.refl _
 | x::l=>(insI_perm x (sortI l)).trans ((sortI_perm l).cons x)
theorem vR(x:Int):∀{l:List Int},l.Pairwise (·<=·)->(insI x l).Pairwise (·<=·)
 | [],_=>by simp[insI]
 | y::l,h=>by
   obtain⟨h1,h2⟩:=List.pairwise_cons.mp h;simp only[insI];split
   ·refine List.pairwise_cons.mpr ⟨fun z hz=>?_,h⟩
    rcases List.mem_cons.mp hz with e | hz
    ·omega
    ·have:=h1 z hz;omega
   ·refine List.pairwise_cons.mpr ⟨fun z hz=>?_,vR x h2⟩
    rcases List.mem_cons.mp ((insI_perm x l).mem_iff.mp hz)with e | hz
    ·omega
    ·exact h1 z hz
theorem qj:∀l,(sortI l).Pairwise (·<=·)
 | []=>.nil
 | x::l=>vR x (qj l)
theorem nR{x ns:List Int}(hp:ns.Perm x)(hs:ns.Pairwise (·<=·)):ns=sortI x :=
 List.Perm.eq_of_pairwise (fun a b _ _ h1 h2=>Int.le_antisymm h1 h2) hs (qj x) (hp.trans (sortI_perm x).symm)
section
variable{X:Cx}{W:Wd}
theorem uV{P:Addr->Prop}{lk:Bool}{H H1 H':Hp}{d:D}{v:V}(hs:Same H H1)(h:Res W P lk H1 H' true d v):Res W P lk H H' true d v:=by
 unfold Res at h ⊢;rw[if_pos rfl]at h ⊢;obtain⟨a,h1,h2,h3⟩:=h;refine⟨a,h1,?_,h3⟩
 cases e:H a with
 | none=>rfl
 | some o=>rw[hs a o e]at h2;cases h2
theorem Am{G:Hp}:∀{l:List D} {x:List Int} {vs:List V},intsOf l=some x->Reps W G l vs->vs=x.map V.int
 | [],x,vs,h,r=>by
   simp only[intsOf,Option.some.injEq]at h;subst h
   cases vs with
   | nil=>rfl
   | cons _ _=>simp only[Reps]at r
 | d::l,x,[],h,r=>by simp only[Reps]at r
 | d::l,x,v::vs,h,r=>by
   cases d with
   | int y=>
     simp only[intsOf]at h
     cases e:intsOf l with
     | none=>rw[e]at h;cases h
     | some x'=>
       rw[e]at h;cases h;simp only[Reps,Rep]at r;rw[r.1,Am e r.2]
       rfl
   | _=>simp[intsOf]at h
theorem Jo:∀{l:List D} {x:List Int},intsOf l=some x->l.length=x.length
 | [],x,h=>by cases h;rfl
 | d::l,x,h=>by
   cases d with
   | int y=>
     simp only[intsOf]at h;obtain⟨x',e,rfl⟩:=Option.map_eq_some_iff.mp h;rw[List.length_cons,List.length_cons,Jo e]
   | _=>simp[intsOf]at h
theorem Cj{G:Hp}:∀x:List Int,Reps W G (x.map D.int) (x.map V.int)
 | []=>by simp only[List.map_nil,Reps]
 | y::x=>by
   simp only[List.map_cons,Reps,Rep];exact⟨trivial,Cj x⟩
theorem Dw{x:List (List Nat)}(h:x.Nodup):(x.map strV).Nodup:=by
 rw[List.Nodup,List.pairwise_map]
 exact h.imp fun{a b} hab e=>hab (cW e)
theorem Aa(hk:W.K=X.K):Sem1 W (fun xs H Q=>rSet X xs H fun v H1=>vD X [v] H1 Q) (b1D .sortedSet):=by
 intro lk P H x dx Q w d hS hK hx e k
 cases dx<;>first | exact nope e | exact eN e | simp only[b1D]at e
 rename_i l;obtain⟨c,vs,rfl,q1,q2⟩:=hx;unfold ssD at e
 have keep:∀{l1 l2:Addr} {u1 u2:HO},H l1=none->upd H l1 u1 l2=none->Same H (upd (upd H l1 u1) l2 u2)/\(∀a,P a->∃o,upd H l1 u1 a=some o)/\Same H (upd H l1 u1):=fun{l1 l2 u1 u2} h1 h2=>⟨(Same.upd h1).trans (Same.upd h2),fun a ha=>by
  obtain⟨o,e⟩:=hK a ha
  exact⟨o,Same.upd h1 a o e⟩,Same.upd h1⟩
 cases e1:strsOf l with
 | some xs=>
   rw[e1]at e;dsimp only at e;split at e
   ·rename_i hn
    cases e;have hall:=lu e1 q2;have ev:=fK e1 q2;have hl:l.length=xs.length:=rM e1;subst ev;refine .inl ⟨c,xs.map strV,rfl,by rw[List.map_map];exact hk▸q1,by rw[List.length_map];omega,fun l1 ks nd mem h1=>?_⟩
    have hp:ks.Perm ((bZ xs).map strV):=(List.perm_ext_iff_of_nodup nd (Dw (kZ xs))).mpr fun a=>by
     rw[mem a,List.mem_map,List.mem_map];exact⟨fun⟨b,h,e⟩=>⟨b,(cN b xs).mpr h,e⟩,fun⟨b,h,e⟩=>⟨b,(cN b xs).mp h,e⟩⟩
    refine .inl ⟨l1,ks,rfl,aW,by have:=hp.length_eq;rw[List.length_map]at this;omega,fun l2 ss hp2 hs2 h2=>?_⟩;rw[eQ (hp2.trans hp) hs2];obtain⟨k1,k2,k3⟩:=keep (u2:=.lst (((cC (bZ xs)).map strV).map V.str)) h1 h2;refine k _ _ k1 (uV k3 (gC h2 (iw fun y hy=>hall y ?_) k2));exact(cN y xs).mp ((sortS_perm _).mem_iff.mp hy)
   ·cases e
 | none=>
   rw[e1]at e;dsimp only at e
   cases e2:intsOf l with
   | none=>rw[e2]at e;cases e
   | some xs=>
     rw[e2]at e;simp only[Option.bind_some]at e;split at e
     ·rename_i hn
      cases e;have ev:=Am e2 q2;have hl:l.length=xs.length:=Jo e2;subst ev;refine .inr ⟨c,xs,rfl,hk▸q1,by omega,fun l1 ks nd mem h1=>?_⟩
      have hp:ks.Perm (bZ xs):=(List.perm_ext_iff_of_nodup nd (kZ xs)).mpr fun a=>by rw[mem a,cN]
      refine .inr ⟨l1,ks,rfl,aW,by have:=hp.length_eq;omega,fun l2 ss hp2 hs2 h2=>?_⟩;rw[nR (hp2.trans hp) hs2];obtain⟨k1,k2,k3⟩:=keep (u2:=.lst ((sortI (bZ xs)).map V.int)) h1 h2;exact k _ _ k1 (uV k3 (gC h2 (Cj _) k2))
     ·cases e
theorem Ik{a:Expr}{p p2 pos pos2:Pos}{lk:Bool}{fa:Dst->R (Bool×D)}(hk:W.K=X.K)(hc:X.calm=true)(hg:Gl X "sorted")(hm:X.mg "sorted"=none)(hg2:Gl X "set")(hm2:X.mg "set"=none)(ha:PE X a (tD X W true fa))(hst:aA a=false) :
 PE X (.Call (.Name "sorted" p) [.Call (.Name "set" p2) [a] [] pos2] [] pos) (tD X W lk fun δ=>(fa δ).bind fun x=>b1D .sortedSet x.2) :=
 PE.imp (ik (jw hc) hg hm PyProof.Rows.boot_sorted (bQ (n6 (zE hc) hg2 hm2 (by kernel_rfl) (bQ ha dw (bV hst)) (by decide +kernel) (by decide +kernel) (bV hst) rfl) dw rfl) (by decide +kernel) (by decide +kernel) rfl rfl) fun σ H Q h=>vH (Aa hk) (gY _) h
end
end Z
namespace Z
open PySem PySem.Spec PyProof.Rows L2
section
variable{X:Cx}{W:Wd}{lk lk':Bool}{σ:L2.St}{H H1 H':Hp}{me:Option Addr}{B:Addr->Prop}{δ:Dst}{Q Q':VK}{a b c:Expr}{pos p pos' apos cpos px spos:Pos}{o:Orc}
theorem Gb:PE X (.Dict [] [] pos) (tD X W lk fun δ=>ev o δ lk (.dnew [] .nil)):=by
 refine PE.imp yD fun σ H Q h=>?_
 obtain⟨me,B,δ,S,h⟩:=tD_iff.mp h;simp only[ev,evL,R.bind]at h;obtain⟨_,h⟩:=dm h;intro q ep hq;exact h _ _ (Same.upd hq) (qu hq rfl ⟨List.nodup_nil,fun x hx=>by simp at hx⟩ (by simp only[List.map_nil,Reps]))
noncomputable def Itd(a:Addr)(kvs:List (Key×V))(ep:Nat):It:=⟨fun i H=>H a=some (.dK kvs ep)/\i<kvs.length,fun i H x H'=>H'=H/\∃p,kvs[i]?=some p/\x=kV p.1,fun i H=>H a=some (.dK kvs ep)/\kvs.length<=i⟩
theorem Lx{P:Program}{w:World}{k:Key}{u:Value}(h:(bB P w).is k u=true):RelV (kV k) u:=by
 rcases aR (show mJ k u=true from h)with⟨i,t,rfl,rfl⟩ | ⟨x,t,rfl,rfl⟩
 all_goals(exact⟨t,rfl⟩)
theorem vp{P:Program}{w:World}{K:PySem.W.Frag}{tg:Expr}(a it:Addr)(kvs:List (Key×V))(ep:Nat):Turn P w K tg (Itd a kvs ep) [it] it (fun i h=>h.IsKeyIter it a i kvs.length ep)where
 mem:=by simp
 obj:=fun i h st b hb=>by
  have e:b=it:=by simpa using hb
  subst e;obtain⟨o,e,c,d⟩:=st;exact⟨o,e,fun v z=>by rw[d]at z;cases z⟩
 keep:=fun i h h' st k=>st.at fun o e=>k it (by simp) o e
 item:=by
  intro X hP hw hK hc i pins s σ H E I hf st hg;subst hP hw hK;obtain⟨hq,hi⟩:=hg
  obtain⟨_,lo,vs,rel,dd⟩:=(show ObjOk X.prog X.w H s.heap a (.dK kvs ep)from I.hok a _ hq)
  obtain⟨f0,f1,f2,f3,f4,f5⟩:=hf it (by simp);have hl:kvs.length=vs.length:=rel.length
  have hx:vs[i]?=some (vs[i]'(by omega)):=by simp
  have hkeys:=rel.keys;rw[hl]at st ⊢
  refine wpAny_pyNext_dict_item st dd (k:=(vs[i]'(by omega)).1) (v:=(vs[i]'(by omega)).2) hx fun key h' hkey st' sb=>?_
  have I1:Inv X pins σ H { s with heap:=h' }:=I.turned (t':=s.toks) (fun b o hb e=>(sb.2 b hb).trans e) f0 f1 f3 f4 f5;obtain⟨o,e,c,d⟩:=id st'
  have ek:(kvs[i]).1=(vs[i]'(by omega)).1:=by
   have:=congrArg (fun l=>l[i]?) hkeys;simpa[hi,show i<vs.length by omega]using this
  exact⟨key,rfl,xx (s:={ s with heap:=h' }) e c d (by decide) ⟨kV (kvs[i]).1,H,I1,by rw[ek];exact Lx hkey,⟨rfl,kvs[i],by simp,rfl⟩,st',fun b hb=>(hf b hb).1⟩⟩
 done:=by
  intro X hP hw hK hc i pins s σ H E I hf st hg;subst hP hw hK;obtain⟨hq,hi⟩:=hg
  obtain⟨_,lo,vs,rel,dd⟩:=(show ObjOk X.prog X.w H s.heap a (.dK kvs ep)from I.hok a _ hq)
  obtain⟨f0,f1,f2,f3,f4,f5⟩:=hf it (by simp);have hl:kvs.length=vs.length:=rel.length;rw[hl]at st
  exact wpAny_pyNext_dict_end (I.ok.hd hc) st dd (by simp;omega) fun h' eb=>⟨rfl,I.turned (t':=s.toks) (fun b o hb e=>eb b o hb e) f0 f1 f3 f4 f5⟩
 self:=fun _ _ _ _ _ st h=>wpAny_pyIter_keyiter st h
noncomputable def iDct(tl:TE):L2.TI:=fun σ H R=>tl σ H fun x H1=>∃a kvs ep,x=.ref a/\H1 a=some (.dK kvs ep)/\R (Itd a kvs ep) H1
theorem G3{tg l:Expr}{tl:TE}(hl:PE X l tl):PI X tg l (iDct tl):=by
 intro pins s σ H R I h
 refine thn (hl pins s σ H _ I h) fun v s1 ⟨x,H1,I1,r1,q1⟩=>?_
 obtain⟨a,kvs,ep,e,hq,q⟩:=q1;subst e;cases r1
 obtain⟨_,lo,vs,rel,dd⟩:=(show ObjOk X.prog X.w H1 s1.heap a (.dK kvs ep)from I1.hok a _ hq)
 have hlen:kvs.length=vs.length:=rel.length;refine wpAny_pyIter_dict lo dd ?_;refine⟨s1.heap.objs.size,[s1.heap.objs.size],_,_,H1,rfl,I1.kept (t':=s1.toks) fun b o e=>Heap.get?_push_of_some _ e,vp a _ kvs ep,⟨_,Heap.get?_push_size _ rfl,rfl,by rw[hlen];rfl⟩,fun b hb=>?_,q⟩
 have e:b=s1.heap.objs.size:=by simpa using hb
 subst e;exact I1.fpOk (Nat.le_refl _) (I1.hok.fresh (Nat.le_refl _))
theorem pK{H2:Hp}{a:Addr}{kvs:List (Key×V)}{ep:Nat}(h:H2 a=some (.dK kvs ep)):Yields (Itd a kvs ep) H2 (kvs.map fun p=>kV p.1)where
 go:=fun i H' s hi=>⟨s _ _ h,by simpa using hi⟩
 yld:=fun i H' x H'' s _ ⟨e,p,e1,e2⟩=>⟨e,by rw[List.getElem?_map,e1,e2];rfl⟩
 stop:=fun H' s=>⟨s _ _ h,by simp⟩
theorem jg{G:Hp}:∀{ks:List DK} {kvs:List (Key×V)},kvs.map (·.1)=ks.map keyV->(∀x,DK.s x∈ks->x.length<=16777216)->Reps W G (ks.map keyD) (kvs.map fun p=>kV p.1)
 | [],[],_,_=>by simp only[List.map_nil,Reps]
 | [],_::_,e,_=>by simp at e
 | _::_,[],e,_=>by simp at e
 | k::ks,p::kvs,e,h=>by
   simp only[List.map_cons,List.cons.injEq]at e;simp only[List.map_cons,Reps];refine⟨?_,jg e.2 fun x hx=>h x (List.mem_cons_of_mem _ hx)⟩;rw[e.1]
   cases k with
   | i n=>simp only[keyD,keyV,kV,Rep]
   | s x=>simp only[keyD,keyV,kV,Rep];exact⟨trivial,h x List.mem_cons_self⟩
noncomputable def Itx(x:Str):It:=⟨fun i _=>i<x.cps.size,fun i H v H'=>H'=H/\∃c,x.cps[i]?=some c/\v=.str ⟨#[c]⟩,fun i _=>x.cps.size<=i⟩
theorem zU{P:Program}{w:World}{A:Around}{E:Value->Shared->Prop}{s:Shared}{it:Addr}{x:Str}{t:Tok}{i c:Nat}{Q:Option Value->Shared->Prop}(hit:s.heap.IsStrIter it (strIterType x) x t i)(hx:x.cps[i]?=some c)
 (hQ:∀h',h'.IsStrIter it (strIterType x) x t (i+1)->Heap.SameBut it s.heap h'->Q (some (.str ⟨#[c]⟩ s.toks)) { s with heap:=h',toks:=s.toks+1 }):wpAny (model P w) A (pyNext (.ref it)) Q E s:=by
 unfold strIterType at hit hQ;split at hit
 ·exact wpAny_pyNext_ascii_item hit hx (by simpa only[*,if_true]using hQ)
 ·exact wpAny_pyNext_wide_item hit hx (by simpa only[*,if_false,Bool.false_eq_true]using hQ)
theorem end_str{P:Program}{w:World}{A:Around}{E:Value->Shared->Prop}{s:Shared}{it:Addr}{x:Str}{t:Tok}{i:Nat}{Q:Option Value->Shared->Prop}(hh:A.handled=none)(hit:s.heap.IsStrIter it (strIterType x) x t i)(hx:x.cps[i]?=none)
 (hQ:∀h',Heap.ExtBut it s.heap h'->Q none { s with heap:=h' }):wpAny (model P w) A (pyNext (.ref it)) Q E s:=by
 unfold strIterType at hit;split at hit
 ·exact wpAny_pyNext_ascii_end hh hit hx hQ
 ·exact wpAny_pyNext_wide_end hh hit hx hQ
theorem zQ{P:Program}{w:World}{K:PySem.W.Frag}{tg:Expr}(it:Addr)(x:Str)(t:Tok):Turn P w K tg (Itx x) [it] it (fun i h=>h.IsStrIter it (strIterType x) x t i)where
 mem:=by simp
 obj:=fun i h st b hb=>by
  have e:b=it:=by simpa using hb
  subst e;obtain⟨o,e,c,d⟩:=st;exact⟨o,e,fun v z=>by rw[d]at z;cases z⟩
 keep:=fun i h h' st k=>by
  obtain⟨o,e,r⟩:=st;exact⟨o,k it (by simp) o e,r⟩
 item:=by
  intro X hP hw hK hc i pins s σ H E I hf st hg;subst hP hw hK;have hg:i<x.cps.size:=hg;obtain⟨f0,f1,f2,f3,f4,f5⟩:=hf it (by simp)
  have hx:x.cps[i]?=some x.cps[i]:=by simp[hg]
  refine zU st hx fun h' st' sb=>?_
  have I1:Inv X pins σ H { s with heap:=h',toks:=s.toks+1 }:=I.turned (t':=s.toks+1) (fun b o hb e=>(sb.2 b hb).trans e) f0 f1 f3 f4 f5;obtain⟨o,e,c,d⟩:=id st'
  have hn:["enumerate","zip","dict_itemiterator","dict_reverseitemiterator","odict_iterator","itertools.zip_longest","itertools.pairwise"].contains (strIterType x)=false:=by unfold strIterType;split<;>decide
  exact⟨_,rfl,xx (s:={ s with heap:=h',toks:=s.toks+1 }) e c d hn ⟨.str ⟨#[x.cps[i]]⟩,H,I1,⟨_,rfl⟩,⟨rfl,_,hx,rfl⟩,st',fun b hb=>(hf b hb).1⟩⟩
 done:=by
  intro X hP hw hK hc i pins s σ H E I hf st hg;subst hP hw hK;have hg:x.cps.size<=i:=hg;obtain⟨f0,f1,f2,f3,f4,f5⟩:=hf it (by simp)
  exact end_str (I.ok.hd hc) st (by simp;omega) fun h' eb=>⟨rfl,I.turned (t':=s.toks) (fun b o hb e=>eb b o hb e) f0 f1 f3 f4 f5⟩
 self:=fun _ _ _ _ _ st h=>by
  unfold strIterType at st;split at st
  ·exact wpAny_pyIter_striter_ascii st h
  ·exact wpAny_pyIter_striter_wide st h
noncomputable def iStr(tl:TE):L2.TI:=fun σ H R=>tl σ H fun x H1=>∃y,x=.str y/\R (Itx y) H1
theorem HQ{tg l:Expr}{tl:TE}(hl:PE X l tl):PI X tg l (iStr tl):=by
 intro pins s σ H R I h
 refine thn (hl pins s σ H _ I h) fun v s1 ⟨x,H1,I1,r1,q1⟩=>?_
 obtain⟨y,e,q⟩:=q1;subst e;obtain⟨t,rfl⟩:=r1;refine wpAny_pyIter_strU ?_;refine⟨s1.heap.objs.size,[s1.heap.objs.size],_,_,H1,rfl,I1.kept (t':=s1.toks) fun b o e=>Heap.get?_push_of_some _ e,zQ _ y t,⟨_,Heap.get?_push_size _ rfl,rfl,rfl⟩,fun b hb=>?_,q⟩
 have e:b=s1.heap.objs.size:=by simpa using hb
 subst e;exact I1.fpOk (Nat.le_refl _) (I1.hok.fresh (Nat.le_refl _))
theorem tH{H2:Hp}(x:List Nat):Yields (Itx (strV x)) H2 (x.map fun c=>.str (strV [c]))where
 go:=fun i H' s hi=>by
  show i<(strV x).cps.size;simpa[strV]using hi
 yld:=fun i H' v H'' s _ ⟨e,c,e1,e2⟩=>⟨e,by
  have e3:x[i]?=some c:=by simpa[strV]using e1
  rw[List.getElem?_map,e3,e2];rfl⟩
 stop:=fun H' s=>by
  show(strV x).cps.size<=_;simp[strV]
theorem jQ{G:Hp}:∀(x:List Nat),Reps W G (x.map fun c=>D.str [c]) (x.map fun c=>.str (strV [c]))
 | []=>by simp only[List.map_nil,Reps]
 | c::x=>by
   simp only[List.map_cons,Reps];refine⟨?_,jQ x⟩;simp only[Rep];exact⟨trivial,by simp⟩
noncomputable def Gj(X:Cx)(W:Wd)(o:Orc)(it:TI)(wi:L2.TI):Prop:=∀σ H (K:It->Hp->Prop),(∃me B δ l,SR X W me B H σ δ/\evI o δ true it=.ok l/\∀J H2,Same H H2->Ylds W J H2 (vis H2 (Hid B σ δ)) l->K J H2)->wi σ H K
section
variable{scope:Scope}{N:List Str}{elt tg iter:Expr}{ifs:List Expr}{m:Nat}{caps:List Nat}{tup:Bool}{g:TG}{it:TI}{tc te:T}
structure CompIn(X:Cx)(W:Wd)(o:Orc)(scope:Scope)(N:List Str)(elt tg iter:Expr)(ifs:List Expr)(m:Nat)(caps:List Nat)(tup:Bool)(g:TG)(it:TI)(tc te:T):Prop where
 hk:W.K=X.K
 hx:X.xe=fH
 hc:X.calm=true
 B:Blk scope
 C:Caps X scope N m caps
 hm:tup=false->m=1
 hi:∃wi,PI X tg iter wi/\Gj X W o it wi
 hg:∀fp pins s H,PG (cxC X scope N fp pins s H) tg g
 hr:∀H0,TgR { X with H₀:=H0 } W (List.range m) tup g
 ht:∀fp pins s H,PIf (cxC X scope N fp pins s H) ifs (tT (cxC X scope N fp pins s H) W fun δ=>ev o δ true tc)
 he:∀fp pins s H,PE (cxC X scope N fp pins s H) elt (tD (cxC X scope N fp pins s H) W false fun δ=>ev o δ false te)
 hs:∀x,foldedSetIterable iter X.env x=pure x
theorem PIf.imp{t t':TT}{ifs:List Expr}(h:PIf X ifs t)(i:∀σ H Q,t' σ H Q->t σ H Q):PIf X ifs t':=fun pins s σ H Q I hw=>h pins s σ H Q I (i σ H Q hw)
theorem Cp(A:CompIn X W o scope N elt tg iter ifs m caps tup g it tc te):PE X (.ListComp elt [⟨tg,iter,ifs,0⟩] scope pos) (tD X W lk fun δ=>ev o δ lk (.comp caps m tup it tc te)):=by
 obtain⟨wi,h1,h2⟩:=A.hi
 refine PE.imp (Gd (tc:=fun H0=>tT { X with H₀:=H0 } W fun δ=>ev o δ true tc) (te:=fun H0=>tD { X with H₀:=H0 } W false fun δ=>ev o δ false te) A.hx A.hc A.B A.C h1 A.hg (fun fp pins s H=>PIf.imp (A.ht fp pins s H) fun σ H' Q h=>tT.cx (X:={ X with H₀:=H }) rfl rfl h) (fun fp pins s H=>PE.imp (A.he fp pins s H) fun σ H' Q h=>tD.cx (X:={ X with H₀:=H }) rfl rfl h) A.hs) fun σ H Q h=>?_
 exact o9 A.hk A.hm h2 A.hr h
theorem Kg{i:Nat}{x:Str}{bsw:Bool}(A:CompIn X W o scope N elt tg iter ifs m caps tup g it tc te)(hN:X.N.Nodup)(hi:X.N[i]?=some x)(hx:Loc X.env.scope x)(hf:X.fn x=true\/X.env.scope.names.lookup x=some .local)
 (hb:bsw=true->X.env.scope.names.lookup x=some .local) (hsw:swapsWith (.ListComp elt [⟨tg,iter,ifs,0⟩] scope pos) (some (.Name x px)) spos.line X.env=pure bsw) :
 PS X (.Assign [.Name x px] (.ListComp elt [⟨tg,iter,ifs,0⟩] scope pos) spos) (tS X W (evS o (.set i (.comp caps m tup it tc te)))):=by
 cases bsw with
 | false=>exact Kh hN hi hx (Cp A) hsw hf
 | true=>
   obtain⟨wi,h1,h2⟩:=A.hi
   refine PS.imp (t6 (tc:=fun H0=>tT { X with H₀:=H0 } W fun δ=>ev o δ true tc) (te:=fun H0=>tD { X with H₀:=H0 } W false fun δ=>ev o δ false te) A.hx A.hc A.B A.C h1 A.hg (fun fp pins s H=>PIf.imp (A.ht fp pins s H) fun σ H' Q h=>tT.cx (X:={ X with H₀:=H }) rfl rfl h) (fun fp pins s H=>PE.imp (A.he fp pins s H) fun σ H' Q h=>tD.cx (X:={ X with H₀:=H }) rfl rfl h) A.hs hN hi (hb rfl) hsw) fun D σ H ⟨me,B,δ,S,h⟩=>?_
   refine o9 (lk:=false) A.hk A.hm h2 A.hr ?_;simp only[evS]at h;obtain⟨S1,e1⟩:=S.evF o (.comp caps m tup it tc te);obtain⟨r,e2,h⟩:=SO.of_ok h;obtain⟨q,e3,h⟩:=cj h
   cases e4:setSlot (evF o δ (.comp caps m tup it tc te)).1 i r.1 r.2 with
   | none=>rw[e4]at e3;cases e3
   | some δ'=>
     rw[e4]at e3;cases e3;obtain⟨h1,rfl⟩:=gk e4;refine tD_iff.mpr ⟨me,B,_,S1,?_⟩;rw[<-e1,e2];intro v H' s q;obtain⟨S2,s2⟩:=S1.store s q h1;exact h _ _ S2 ((aC (dX o (.comp caps m tup it tc te))).trans s2)
end
end
end Z
namespace Z
open PySem PySem.Spec PyProof.Rows L2
section
variable{X:Cx}{W:Wd}{lk:Bool}{pos pos' p:Pos}{a:Expr}{o:Orc}
theorem rA{G:Hp}{f:List Nat}{d:D}:∀{ns:List (List Nat)} {vs:List D} {fs:List (Str×V)},fs.map (·.1)=ns.map strV->Reps W G vs (fs.map (·.2))->look (ns.map .s) vs (.s f)=some d->∃v,fs.lookup (strV f)=some v/\Rep W G d v
 | [],_,_,_,_,h=>by simp[look]at h
 | _::_,[],_,_,_,h=>by simp[look]at h
 | _::_,_::_,[],e,_,_=>by simp at e
 | n::ns,u::vs,(y,v)::fs,e,r,h=>by
   simp only[List.map_cons,List.cons.injEq]at e;simp only[List.map_cons,Reps]at r;obtain⟨rfl,e2⟩:=e;simp only[List.map_cons,look]at h
   by_cases hn:n=f
   ·subst hn
    rw[if_pos rfl]at h;cases h;exact⟨v,by simp[List.lookup_cons],r.1⟩
   ·have h1:¬DK.s n=DK.s f:=fun z=>hn (by injection z)
    rw[if_neg h1]at h;obtain⟨w,q1,q2⟩:=rA e2 r.2 h;refine⟨w,?_,q2⟩
    have hb:(strV f==strV n)=false:=by
     simp only[beq_eq_false_iff_ne,ne_eq]
     exact fun z=>hn (cW z).symm
    simp only[List.lookup_cons,hb];exact q1
theorem Mw{ta:T}{f:List Nat}{fn:Str}(hf:fn=strV f)(hc:∀c,(o.init c).isSome=true->Cls X.K (W.CT c)/\NoAttr X.K (W.CT c) fn)(ha:PE X a (tD X W true fun δ=>ev o δ true ta))(hb:attributeBase a fn X.env (eval a X.env)=eval a X.env) :
 PE X (.Attribute a fn pos) (tD X W lk fun δ=>ev o δ lk (.fld ta f)):=by
 subst hf
 refine PE.imp (Ji ha hb) fun σ H Q h=>?_
 obtain⟨me,B,δ,S,h⟩:=tD_iff.mp h;simp only[ev]at h
 refine tD.mono (part (fa:=fun δ=>ev o δ true ta) S h) fun v H1 ⟨r1,e1,S1,s1,t1,_,h1⟩=>?_
 cases e2:r1.2 with
 | obj c ns vs=>
   rw[e2]at t1 h1;obtain⟨ad,dx,fs,rfl,q1,q2,q3⟩:=t1;simp only[fldD]at h1
   cases ei:(o.init c).isSome with
   | false=>rw[ei]at h1;exact h1.elim
   | true=>
   rw[ei]at h1;have h1:After X W lk σ H1 (Hid B σ δ) (.of ((look (ns.map .s) vs (.s f)).map fun d=>(false,d))) Q:=h1
   cases e3:look (ns.map .s) vs (.s f)with
   | none=>rw[e3]at h1;exact h1.elim
   | some d=>
     rw[e3]at h1;obtain⟨u,q4,q5⟩:=rA q2 q3 e3;exact⟨ad,_,dx,fs,u,rfl,q1,(hc c ei).1,(hc c ei).2,q4,h1 u H1 (Same.refl _) (.shared q5)⟩
 | _=>rw[e2]at h1;exact h1.elim
theorem PE.exs{ι:Type}{P:ι->Prop}{e:Expr}{t:ι->TE}(h:∀i,P i->PE X e (t i)):PE X e (fun σ H Q=>∃i,P i/\t i σ H Q):=fun pins s σ H Q I ⟨i,p,q⟩=>h i p pins s σ H Q I q
theorem lookup_none{f:List Nat}:∀{ns:List (List Nat)} {fs:List (Str×V)},fs.map (·.1)=ns.map strV->ns.contains f=false->fs.lookup (strV f)=none
 | [],[],_,_=>rfl
 | [],_::_,e,_=>by simp at e
 | _::_,[],e,_=>by simp at e
 | n::ns,(y,v)::fs,e,h=>by
   simp only[List.map_cons,List.cons.injEq]at e;obtain⟨rfl,e2⟩:=e;simp only[List.contains_cons,Bool.or_eq_false_iff]at h
   have hb:(strV f==strV n)=false:=by
    simp only[beq_eq_false_iff_ne,ne_eq];intro z;have:=cW z;rw[this]at h;simp at h
   simp only[List.lookup_cons,hb];exact lookup_none e2 h.2
noncomputable def MtOk(X:Cx)(W:Wd)(o:Orc)(k c f np:Nat)(mn:Str):Prop:=∃fa fd ps,Cls X.K (W.CT c)/\Meth X.K (W.CT c) mn fa/\Binds X.K fd ps []/\(∀ds r,o.fn f ds=.ok r->ds.length=np)/\FnOk X.prog X.w X.K X.mg X.base CX0 k fa fd ps (spFn W (o.fn f) np)
theorem Aw{X:Cx}{W:Wd}{lk:Bool}{σ:L2.St}{H:Hp}{P:Addr->Prop}{o:Orc}{f np:Nat}{ds:List D}{br:Bool}{Q:VK}(hl:∀ds r,o.fn f ds=.ok r->ds.length=np)(h:After X W lk σ H P ((o.fn f ds).bind (lent br)) Q):ds.length=np:=by
 cases e:o.fn f ds with
 | ok r=>exact hl ds r e
 | exc c=>rw[e]at h;exact h.elim
 | stuck=>rw[e]at h;exact h.elim
theorem HD{ta:T}{l:TL}{m:List Nat}{mn:Str}{k:Nat}{e:Expr}{es:List Expr}{apos:Pos}{pl:Sem Bool}(hmn:mn=strV m)
 (hM:∀c f,o.meth c m=some f->∃np,MtOk X W o k c f np mn)
 (hr:Room k X.A) (ha:∀lk,PE X a (tD X W lk fun δ=>ev o δ lk ta)) (hl:PA X (e::es) (tL X W fun δ=>evL o δ l))
 (hst:starEach (e::es) X.env=(false,eval e X.env)::starEach es X.env) (hpl:(backTo pos (starEach es X.env)).any (·.1)=false)
 (ht:eval (.Call (.Attribute a mn apos) (e::es) [] pos) X.env=(do
  let ov <-eval a X.env
  standAt apos.atName
  let(f,first) <-holding [ov] (getMethod ov mn pl)
  callWith pos f first (backTo pos (starEach (e::es) X.env)) (backToKw pos (keywordEach [] X.env)))) :
 PE X (.Call (.Attribute a mn apos) (e::es) [] pos) (tD X W lk fun δ=>ev o δ lk (.meth m ta l)):=by
 subst hmn
 have key:∀i:Bool×Nat×Nat×Nat,MtOk X W o k i.2.1 i.2.2.1 i.2.2.2 (strV m)->PE X (.Call (.Attribute a (strV m) apos) (e::es) [] pos) (zZ (W.CT i.2.1) (strV m) (spFn W (o.fn i.2.2.1) i.2.2.2) [] (fun _ _ _=>False) (tD X W i.1 fun δ=>ev o δ i.1 ta) (tL X W fun δ=>evL o δ l)):=fun i ⟨fa,fd,ps,h1,h2,h3,h5,h4⟩=>
  Cw (ha i.1) h1 h2 h4 hr h3 .nil xg hl hst hpl ht
 refine PE.imp (PE.exs key) fun σ H Q h=>?_
 obtain⟨me,B,δ,S,h⟩:=tD_iff.mp h;simp only[ev]at h;generalize hlk:bM δ ta=lk' at h
 cases e1:ev o δ lk' ta with
 | stuck=>rw[e1]at h;exact h.elim
 | exc c=>rw[e1]at h;exact h.elim
 | ok r=>
 cases e2:r.2 with
 | obj c ns vs=>
   cases e3:o.meth c m with
   | none=>
     exfalso
     rw[e1]at h;simp only[R.bind,e2,e3,R.of]at h
     cases e4:evL o δ l with
     | ok y=>
       rw[e4]at h;simp only[R.chk]at h;split at h<;>exact h
     | exc c=>rw[e4]at h;exact h
     | stuck=>rw[e4]at h;exact h
   | some f=>
   obtain⟨np,hMt⟩:=hM c f e3;refine⟨(lk',c,f,np),hMt,?_⟩;obtain⟨_,_,_,_,_,_,hlen,_⟩:=hMt
   refine tD.mono (Ew (fa:=fun δ=>ev o δ lk' ta) (C:=fun r H=>After X W lk σ H (Hid B σ δ) r Q) S h (fun r H1 s q=>q.mono s) (fun c q=>q) (fun q=>q)) fun v H1 ⟨r1,e1',S1,s1,t1,q1,h1⟩=>?_
   have:r1=r:=by rw[e1]at e1';cases e1';rfl
   subst this;have t1':=t1;rw[e2]at t1';obtain⟨ad,dx,fs,rfl,z1,z2,z3⟩:=t1'
   have hcs:ns.contains m=false:=by
    rw[e2]at h1
    cases e4:evL o δ l with
    | ok y=>
      rw[e4]at h1
      cases hc:ns.contains m with
      | false=>rfl
      | true=>
        simp only[R.bind,R.chk,hc,Bool.not_true,Bool.false_eq_true,if_false]at h1;exact h1.elim
    | exc c=>rw[e4]at h1;exact h1.elim
    | stuck=>rw[e4]at h1;exact h1.elim
   refine⟨ad,dx,fs,rfl,z1,lookup_none z2 hcs,?_⟩
   refine tL.mono (pX (fa:=fun δ=>evL o δ l) (C:=fun r H=>After X W lk σ H (Hid B σ δ) r Q) S1 h1 (fun r H1 s q=>q.mono s) (fun c q=>q) (fun q=>q)) fun us H2 ⟨r2,e4,S2,s2,t2,q2,h2⟩=>?_
   rw[e2]at h2;simp only[hcs,Bool.not_false,R.chk,if_true,e3,R.of,R.bind]at h2;rw[List.append_nil]
   have h2':After X W lk σ H2 (Hid B σ δ) ((o.fn f (r1.2::r2.2)).bind (lent (lk'||r2.1))) Q:=by rw[e2];exact h2
   refine Hf (ds:=r1.2::r2.2) (br:=lk'||r2.1) S2 (Aw hlen h2') ?_ (fun hf=>?_) h2'
   ·simp only[RepTs]
    exact⟨t1.mono s2 (au s2),t2⟩
   ·simp only[Bool.or_eq_false_iff]at hf
    simp only[Reps];refine⟨?_,q2 hf.2⟩;rw[hf.1]at q1;exact(q1.keep S.know).mono (au s2)
 | _=>
   exfalso
   rw[e1]at h;simp only[R.bind,e2]at h
   cases e4:evL o δ l with
   | ok y=>rw[e4]at h;exact h
   | exc c=>rw[e4]at h;exact h
   | stuck=>rw[e4]at h;exact h
theorem CK{ta:T}{m:List Nat}{mn:Str}{k:Nat}{apos:Pos}{pl:Sem Bool}(hmn:mn=strV m)
 (hM:∀c f,o.meth c m=some f->∃np,MtOk X W o k c f np mn)
 (hr:Room k X.A) (ha:∀lk,PE X a (tD X W lk fun δ=>ev o δ lk ta))
 (ht:eval (.Call (.Attribute a mn apos) [] [] pos) X.env=(do
  let ov <-eval a X.env
  standAt apos.atName
  let(f,first) <-holding [ov] (getMethod ov mn pl)
  callWith pos f first (backTo pos (starEach [] X.env)) (backToKw pos (keywordEach [] X.env)))) :
 PE X (.Call (.Attribute a mn apos) [] [] pos) (tD X W lk fun δ=>ev o δ lk (.meth m ta .nil)):=by
 subst hmn
 have key:∀i:Bool×Nat×Nat×Nat,MtOk X W o k i.2.1 i.2.2.1 i.2.2.2 (strV m)->PE X (.Call (.Attribute a (strV m) apos) [] [] pos) (zZ (W.CT i.2.1) (strV m) (spFn W (o.fn i.2.2.1) i.2.2.2) [] (fun _ _ _=>False) (tD X W i.1 fun δ=>ev o δ i.1 ta) tNil):=fun i ⟨fa,fd,ps,h1,h2,h3,h5,h4⟩=>
  zV (ha i.1) h1 h2 h4 hr h3 .nil xg ht
 refine PE.imp (PE.exs key) fun σ H Q h=>?_
 obtain⟨me,B,δ,S,h⟩:=tD_iff.mp h;simp only[ev]at h;simp only[evL]at h;generalize hlk:bM δ ta=lk' at h
 cases e1:ev o δ lk' ta with
 | stuck=>rw[e1]at h;exact h.elim
 | exc c=>rw[e1]at h;exact h.elim
 | ok r=>
 cases e2:r.2 with
 | obj c ns vs=>
   cases e3:o.meth c m with
   | none=>
     exfalso
     rw[e1]at h;simp only[R.bind,e2,e3,R.of,R.chk]at h;split at h<;>exact h
   | some f=>
   obtain⟨np,hMt⟩:=hM c f e3;refine⟨(lk',c,f,np),hMt,?_⟩;obtain⟨_,_,_,_,_,_,hlen,_⟩:=hMt
   refine tD.mono (Ew (fa:=fun δ=>ev o δ lk' ta) (C:=fun r H=>After X W lk σ H (Hid B σ δ) r Q) S h (fun r H1 s q=>q.mono s) (fun c q=>q) (fun q=>q)) fun v H1 ⟨r1,e1',S1,s1,t1,q1,h1⟩=>?_
   have:r1=r:=by rw[e1]at e1';cases e1';rfl
   subst this;have t1':=t1;rw[e2]at t1';obtain⟨ad,dx,fs,rfl,z1,z2,z3⟩:=t1'
   have hcs:ns.contains m=false:=by
    rw[e2]at h1
    cases hc:ns.contains m with
    | false=>rfl
    | true=>
      simp only[R.bind,R.chk,hc,Bool.not_true,Bool.false_eq_true,if_false]at h1;exact h1.elim
   refine⟨ad,dx,fs,rfl,z1,lookup_none z2 hcs,?_⟩;rw[e2]at h1;simp only[hcs,Bool.not_false,R.chk,if_true,e3,R.of,R.bind]at h1
   have h1':After X W lk σ H1 (Hid B σ δ) ((o.fn f [r1.2]).bind (lent (lk'||false))) Q:=by rw[e2];exact h1
   show spFn W (o.fn f) np [.ref ad] H1 Q (fun _ _ _=>False);refine Hf (ds:=[r1.2]) (br:=lk'||false) S1 (Aw hlen h1') ?_ (fun hf=>?_) h1'
   ·simp only[RepTs]
    exact⟨t1,trivial⟩
   ·simp only[Bool.or_eq_false_iff]at hf
    simp only[Reps];rw[hf.1]at q1;exact⟨q1.keep S.know,trivial⟩
 | _=>
   exfalso
   rw[e1]at h;simp only[R.bind,e2]at h;exact h
noncomputable def unS:DK->List Nat
 | .s x=>x
 | .i _=>[]
theorem ou{G:Hp}{f:List Nat}{d:D}{v:V}(r:Rep W G d v):∀{ns:List (List Nat)} {vs:List D} {fs:List (Str×V)},fs.map (·.1)=ns.map strV->Reps W G vs (fs.map (·.2)) ->
 (putF (strV f) v fs).map (·.1)=((bI (ns.map .s) (.s f)).map unS).map strV/\Reps W G (putV (ns.map .s) vs (.s f) d) ((putF (strV f) v fs).map (·.2))
 | [],[],[],_,_=>by
   simp only[List.map_nil,bI,putV,putF,List.map_cons,unS,Reps];exact⟨trivial,r,trivial⟩
 | [],_::_,[],_,h=>by simp only[List.map_nil,Reps]at h
 | [],_,_::_,e,_=>by simp at e
 | _::_,_,[],e,_=>by simp at e
 | _::_,[],_::_,_,h=>by simp only[List.map_cons,Reps]at h
 | n::ns,u::vs,(y,x)::fs,e,h=>by
   simp only[List.map_cons,List.cons.injEq]at e;simp only[List.map_cons,Reps]at h;obtain⟨rfl,e2⟩:=e
   by_cases hn:n=f
   ·subst hn
    simp only[List.map_cons,bI,putV,putF,if_true,unS,Reps];refine⟨?_,r,h.2⟩;rw[e2]
    have:(ns.map DK.s).map unS=ns:=by
     rw[List.map_map]
     conv=>rhs;rw[<-List.map_id ns]
     rfl
    rw[this]
   ·have h1:¬DK.s n=DK.s f:=fun z=>hn (by injection z)
    have h2:¬strV n=strV f:=fun z=>hn (cW z)
    obtain⟨q1,q2⟩:=ou r e2 h.2;simp only[List.map_cons,bI,putV,putF,if_neg h1,if_neg h2,unS,Reps];exact⟨by rw[q1],h.1,q2⟩
theorem rQ{ok:Nat->Bool}{c:Nat}{ns:List (List Nat)}{vs:List D}{f:List Nat}{v d':D}(h:cu ok (.obj c ns vs) f v=some d'):(ok c=true/\ns.length<900)/\d'=.obj c ((bI (ns.map .s) (.s f)).map unS) (putV (ns.map .s) vs (.s f) v):=by
 simp only[cu]at h;split at h
 ·rename_i hl
  refine⟨hl,?_⟩;cases h
  first
   | rfl
   | (congr 1
      apply List.map_congr_left
      intro k _
      cases k<;>rfl)
 ·cases h
theorem v7{e o':Expr}{f':Str}{pp:Pos}{l:Nat}{env:Env}:swapsWith e (some (.Attribute o' f' pp)) l env=pure false:=by
 cases e<;>rfl
theorem Dy{i:Nat}{x fn:Str}{f:List Nat}{e:Expr}{te:T}(hf:fn=strV f)(hc:∀c,(o.init c).isSome=true->Cls X.K (W.CT c)/\NoAttr X.K (W.CT c) fn)(hv:PE X (.Name x p) (tVar i))(he:PE X e (tD X W false fun δ=>ev o δ false te)) :
 PS X (.Assign [.Attribute (.Name x p) fn pos'] e pos) (tS X W (evS o (.setf i f te))):=by
 subst hf
 refine PS.imp (J4 hv he v7) fun En σ H ⟨me,B,δ,S,h⟩=>?_
 simp only[evS]at h;obtain⟨S1,e1⟩:=S.evF o te;have sub1:=dX (B:=B) (σ:=σ) (δ:=δ) o te;generalize (evF o δ te).1=δ1 at *;generalize (evF o δ te).2=r1 at *;obtain⟨r,e2,h⟩:=SO.of_ok h;obtain⟨q,e4,h⟩:=cj h
 cases e5:ownD δ1 i with
 | none=>rw[e5]at e4;cases e4
 | some c=>
 obtain⟨w,d⟩:=c;rw[e5]at e4;simp only[Option.bind_some]at e4
 cases e6:cu (fun c=>(o.init c).isSome) d f r.2 with
 | none=>rw[e6]at e4;cases e4
 | some d'=>
 rw[e6]at e4;cases e4
 cases d with
 | obj c ns vs=>
   obtain⟨⟨ei,hl⟩,rfl⟩:=rQ e6;refine tD_iff.mpr ⟨me,B,δ1,S1,?_⟩;rw[<-e1,e2];intro v H1 s1 q1;have S2:=S1.mono s1;obtain⟨o1,o2,ad,o3,o4,o5,o6⟩:=S2.own e5;refine⟨_,o3,?_⟩;obtain⟨dx,fs,z1,z2,z3⟩:=o4
   have hlen:fs.length=ns.length:=by simpa using congrArg List.length z2
   refine⟨ad,_,dx,fs,rfl,z1,(hc c ei).1,(hc c ei).2,by omega,?_⟩;obtain⟨p1,p2⟩:=ou (f:=f) (q1.keep S1.know) z2 z3
   have new:OwnAt W (upd H1 ad (.ins (W.CT c) dx (putF (strV f) v fs))) (vis H1 (Hid B σ δ1)) ad (.obj c ((bI (ns.map .s) (.s f)).map unS) (putV (ns.map .s) vs (.s f) r.2)):=⟨dx,_,aW,p1,p2⟩
   obtain⟨S3,s3⟩:=S2.write o1 o2 o3 o5 o6 new;exact h _ _ S3 (((aC sub1).trans (au s1)).trans s3)
 | _=>simp[cu]at e6
end
end Z
namespace Z
open PySem PySem.Spec PyProof.Rows L2
noncomputable def spI(W:Wd)(g:D->List D->R D)(np:Nat):Sp:=fun vs H Q _=>vs.length=np/\∃a args B d ds d',vs=V.ref a::args/\Soft H B/\(∀b,B b->∃o,H b=some o)/\¬B a/\OwnAt W H (vis H fun b=>B b\/b=a) a d/\Reps W (vis H fun b=>B b\/b=a) ds args/\g d ds=.ok d' /\
 ∀H',(∀b o,H b=some o->b≠a->H' b=some o)->OwnAt W H' (vis H' fun b=>B b\/b=a) a d'->Q .non H'
noncomputable def gP(d:D)(ds:List D)(n:Nat):Dst:=some (.me,d)::cQ ds n
theorem c7{d y:D}{ds:List D}{n i:Nat}{w:Own}(h:(gP d ds n)[i]?=some (some (w,y))):(i=0/\w=.me/\y=d)\/∃j,i=j+1/\w=.sh/\ds[j]?=some y:=by
 cases i with
 | zero=>exact .inl ⟨rfl,by cases h;exact⟨rfl,rfl⟩⟩
 | succ j=>
   have h:(cQ ds n)[j]?=some (some (w,y)):=by simpa[gP]using h
   exact .inr ⟨j,rfl,cg h⟩
theorem BK{W:Wd}{H G:Hp}{a:Addr}{d:D}(h:OwnAt W H G a d):∃o,H a=some o:=let⟨o,q,_⟩:=OwnAt.some h;⟨o,q⟩
section
variable{X:Cx}{W:Wd}{me:Option Addr}{B:Addr->Prop}{H:Hp}{σ:L2.St}{δ:Dst}{o:Orc}{lk:Bool}
theorem SR.startM{N:List Str}{d:D}{ds:List D}{a:Addr}{args:List V}(hk:W.K=X.K)(h0:X.H₀=H)(hb:Soft H B)(hg:∀b,B b->∃o,H b=some o)(ha:¬B a)(ho:OwnAt W H (vis H fun b=>B b\/b=a) a d)(hr:Reps W (vis H fun b=>B b\/b=a) ds args)(hl:args.length+1<=N.length) :
 SR X W (some a) B H (L2.start N (V.ref a::args)) (gP d ds (N.length-(args.length+1))):=by
 have s0:(L2.start N (V.ref a::args))[0]?=some (some (V.ref a)):=jr rfl
 have hid:∀b,Hid B (L2.start N (V.ref a::args)) (gP d ds (N.length-(args.length+1))) b->B b\/b=a:=fun b hb=>by
  rcases hb with hb | ⟨i,⟨w,y,h1,h2⟩,h3⟩
  ·exact .inl hb
  ·rcases c7 h1 with⟨rfl,_,_⟩ | ⟨j,_,z,_⟩
   ·rw[s0]at h3;cases h3;exact .inr rfl
   ·exact absurd z h2
 refine⟨hk,?_,fun i y h=>?_,fun i y h=>?_,fun i y h=>?_,fun i j e h1 h2=>?_,fun b o h _=>by rw[<-h0];exact h,hb,hg,fun x h=>?_⟩
 ·unfold L2.start gP cQ
  have:=hr.length;simp only[List.length_append,List.length_map,List.length_replicate,List.length_cons];omega
 ·rcases c7 h with⟨_,z,_⟩ | ⟨j,rfl,_,h⟩
  ·cases z
  ·obtain⟨v,e1,e2⟩:=hr.get h
   exact⟨v,jr (by simpa using e1),e2.mono (aC hid)⟩
 ·rcases c7 h with⟨_,z,_⟩ | ⟨j,_,z,_⟩<;>cases z
 ·rcases c7 h with⟨rfl,_,rfl⟩ | ⟨j,_,z,_⟩
  ·exact⟨rfl,a,rfl,s0,ho.mono (fun _ q=>q) (aC hid),ha⟩
  ·cases z
 ·obtain⟨⟨w,y,e1,e2⟩,_⟩:=h1
  obtain⟨⟨w',y',e3,e4⟩,_⟩:=h2;rcases c7 e1 with⟨rfl,_,_⟩ | ⟨_,_,z,_⟩
  ·rcases c7 e3 with⟨rfl,_,_⟩ | ⟨_,_,z,_⟩
   ·rfl
   ·exact absurd z e4
  ·exact absurd z e2
 ·cases h;exact BK ho
theorem SR.writeX(S:SR X W me B H σ δ){H':Hp}{i:Nat}{w:Own}{d d':D}{c:Addr}(hi:δ[i]?=some (some (w,d)))(hw:w≠.sh)(hc:σ[i]?=some (some (V.ref c)))(hB:¬B c)(hX:∀u,X.H₀ c=some u->some c=me)
 (hs:∀b o,H b=some o->b≠c->H' b=some o) (new:OwnAt W H' (vis H' (Hid B σ δ)) c d'):SR X W me B H' σ (δ.set i (some (w,d')))/\Same (vis H (Hid B σ δ)) (vis H' (Hid B σ (δ.set i (some (w,d'))))):=by
 have hid:Hid B σ δ c:=.inr ⟨i,⟨w,d,hi,hw⟩,hc⟩
 have up:Same (vis H (Hid B σ δ)) (vis H' (Hid B σ δ)):=fun b v e=>by
  obtain⟨e1,e2⟩:=bD e
  have hb:b≠c:=fun z=>e2 (z▸hid)
  exact bN (hs b v e1 hb) e2
 have other:∀{j:Nat} {x:Own} {y:D},j≠i->δ[j]?=some (some (x,y))->x≠.sh->∀{e:Addr},σ[j]?=some (some (V.ref e))->e≠c:=fun hj h1 h2 e h3 z=>by
  subst z;exact hj (S.apart _ _ _ ⟨⟨_,_,h1,h2⟩,h3⟩ ⟨⟨_,_,hi,hw⟩,hc⟩)
 refine⟨?_,by rw[dq hi];exact up⟩;refine⟨S.kf,by simp[S.len],fun j y h=>?_,fun j y h=>?_,fun j y h=>?_,fun j k e h1 h2=>S.apart j k e ((cL hi).mp h1) ((cL hi).mp h2),fun b v e hb=>?_,fun b hb v e=>?_,fun b hb=>?_,fun x hx=>?_⟩
 ·rw[dq hi]
  rcases get_set hi h with⟨_,rfl,_⟩ | ⟨_,h⟩
  ·exact absurd rfl hw
  ·obtain⟨v,h1,h2⟩:=S.sh j y h
   exact⟨v,h1,h2.mono up⟩
 ·rw[dq hi]
  rcases get_set hi h with⟨rfl,rfl,rfl⟩ | ⟨hj,h⟩
  ·obtain⟨e,h1,h2,h3,h4,h5⟩:=S.ow j d hi
   rw[hc]at h1;cases h1;exact⟨c,hc,new,h3,h4,h5⟩
  ·obtain⟨e,h1,h2,h3⟩:=S.ow j y h
   exact⟨e,h1,h2.mono (fun v q=>hs e v q (other hj h (by decide) h1)) up,h3⟩
 ·rw[dq hi]
  rcases get_set hi h with⟨rfl,rfl,rfl⟩ | ⟨hj,h⟩
  ·obtain⟨h0,e,h1,h2,h3,h4⟩:=S.mi j d hi
   rw[hc]at h2;cases h2;exact⟨h0,c,h1,hc,new,h4⟩
  ·obtain⟨h0,e,h1,h2,h3,h4⟩:=S.mi j y h
   exact⟨h0,e,h1,h2,h3.mono (fun v q=>hs e v q (other hj h (by decide) h2)) up,h4⟩
 ·have hbc:b≠c:=fun z=>hb (by subst z;exact hX v e)
  exact hs b v (S.same b v e hb) hbc
 ·have hbc:b≠c:=fun z=>hB (z▸hb)
  obtain⟨v',e'⟩:=S.gone b hb;have:=hs b v' e' hbc;rw[this]at e;cases e;exact S.soft b hb _ e'
 ·have hbc:b≠c:=fun z=>hB (z▸hb)
  obtain⟨v',e'⟩:=S.gone b hb;exact⟨v',hs b v' e' hbc⟩
 ·by_cases hxc:x=c
  ·subst hxc;exact BK new
  ·obtain⟨v',e'⟩:=S.live x hx
   exact⟨v',hs x v' e' hxc⟩
end
section
variable{P:Program}{w:World}{K:PySem.W.Frag}{mg:Str->Option Value}{base:Heap}{x qual:Str}{st:Stmt}{f:Addr}{fd:FuncData}{N ps:List Str}{k:Nat}{o:Orc}{W:Wd}{np ns:Nat}{body:SL}
theorem xH(F:Fun K x qual st f fd)(Sc:FnScope N ps (ak st))(hp:ps.length=np)(hn:N.length=ns)
 (hb:∀(cdv:Value) (A:Around) (outer:List Env) (s:Shared) (H:Hp) (E:XK),Room k (A.deeper (envOfC qual (ak st) s.heap.objs.size f cdv)) ->
  PSs (cxX P w K mg base W N qual st f cdv A outer s H E) (aH st) (tS (cxX P w K mg base W N qual st f cdv A outer s H E) W (evSs o body))) (hk:W.K=K) :
 FnOk P w K mg base (CXZ P w base W) (k+1) f fd ps (spI W (cz o ⟨np,ns,body⟩) np):=by
 obtain⟨oc,od,kV,doc,pm,an,cdv,ct,osl,rfl,lk,hcd⟩:=F.ex
 refine Ks lk hcd Sc (fun vs H Q E q=>by rw[hp];exact q.1) fun A outer s H vs Q E hr hsp=>⟨tS (cxX P w K mg base W N qual st f cdv A outer s H E) W (evSs o body),PSs.unw (hb cdv A outer s H E hr) (fun e s' z=>qM z),?_⟩
 obtain⟨hl,a,args,B,d,ds,d',rfl,b1,b2,b3,b4,b5,e,k1⟩:=hsp
 have hle:args.length+1<=N.length:=by
  have:=congrArg List.length Sc.pre;rw[List.length_take]at this;simp only[List.length_cons]at hl;omega
 simp only[List.length_cons]at hl
 have run:cz o ⟨np,ns,body⟩ d ds=(match evSs o body (gP d ds (N.length-(args.length+1)))with
  | .rt _ .non δ=>selfOf δ
  | .nx δ=>selfOf δ
  | .ex c _=>.exc c
  | _=>.stuck):=by
  have h1:=b5.length;unfold cz gP cQ;rw[if_pos (by show ds.length+1=np;omega)];simp only[hn,hl]
  try rfl
 rw[run]at e
 have fin:∀{σ':L2.St} {H':Hp} {δ':Dst},SR (cxX P w K mg base W N qual st f cdv A outer s H E) W (some a) B H' σ' δ'->selfOf δ'=.ok d'->Q .non H':=fun{σ' H' δ'} S' es=>by
  have e0:δ'[0]?=some (some (.me,d')):=by
   unfold selfOf at es;split at es
   ·rename_i y ey;cases es;exact ey
   ·cases es
  obtain⟨_,a',z1,z2,z3,z4⟩:=S'.mi 0 d' e0;cases z1;refine k1 H' (fun b ob h hb=>S'.same b ob h (fun z=>hb (by cases z;rfl))) (z3.mono (fun _ q=>q) (aC fun b hb=>?_));rcases hb with hb | rfl
  ·exact .inl hb
  ·exact .inr ⟨0,⟨.me,d',e0,by decide⟩,z2⟩
 refine⟨some a,B,_,SR.startM (N:=N) (by exact hk) rfl b1 b2 b3 b4 b5 hle,?_⟩
 cases e2:evSs o body (gP d ds (N.length-(args.length+1)))with
 | rt wv dv δ'=>
   rw[e2]at e
   cases dv with
   | non=>
     intro v σ' H' S' _ q
     have hv:v=.non:=by
      unfold Res at q;split at q
      ·obtain⟨_,_,_,z⟩:=q;exact z.elim
      ·split at q
       ·simpa only[RepT,Rep]using q
       ·simpa only[Rep]using q
     subst hv;exact fin S' e
   | _=>cases e
 | nx δ'=>
   rw[e2]at e
   exact fun σ' H' S' _=>fin S' e
 | bk δ'=>rw[e2]at e;cases e
 | ct δ'=>rw[e2]at e;cases e
 | ex c δ'=>rw[e2]at e;cases e
 | stuck=>rw[e2]at e;cases e
theorem ok0I{g:D->List D->R D}(F:FnOk P w K mg base (CXZ P w base W) k f fd ps (spI W g np)):FnOk P w K mg base CX0 k f fd ps (spI W g np):=by
 refine⟨F.len,fun A outer s H args us vs Q E hr he hb hv hs=>?_⟩
 refine codeAny_mono (F.run A outer s H args us vs Q E0 hr he hb hv hs) fun r s' q=>?_
 cases r with
 | ok fl=>cases fl<;>exact q
 | error e=>obtain⟨_,_,_,_,_,_,_,_,_,_,_,_,z⟩:=q;exact z.elim
end
section
variable{X:Cx}{W:Wd}{o:Orc}{lk:Bool}
theorem d_mk{c f np k:Nat}{x:Str}{fa:Addr}{fd:FuncData}{ps:List Str}{e:Expr}{es:List Expr}{l:TL}{p pos:Pos}(hi:o.init c=some f)(hn:∀s a d,o.ini f s a=.ok d->a.length+1=np)(M:Mk X.K (W.CT c) fa)
 (F:FnOk X.prog X.w X.K X.mg X.base CX0 k fa fd ps (spI W (o.ini f) np)) (hr:Room (k+1) X.A) (hg:Gl X x) (hm:X.mg x=some (.ref (W.CT c))) (hb:Binds X.K fd ps []) (ha:PA X (e::es) (tL X W fun δ=>evL o δ l))
 (hdb:(x==("__debug__":Str))=false) (he:starEach (e::es) X.env=(false,eval e X.env)::starEach es X.env) (hpl:(backTo pos (starEach es X.env)).any (·.1)=false) :
 PE X (.Call (.Name x p) (e::es) [] pos) (tD X W lk fun δ=>ev o δ lk (.mk c l)):=by
 refine PE.imp (Gx (E:=fun _ _ _=>False) M F hr hg hm hb .nil xg ha hdb he hpl) fun σ H Q h=>?_
 obtain⟨me,B,δ,S,h⟩:=tD_iff.mp h;simp only[ev,hi]at h
 refine tL.mono (pX (fa:=fun δ=>evL o δ l) (C:=fun r H=>After X W lk σ H (Hid B σ δ) r Q) S h (fun r H1 s q=>q.mono s) (fun c q=>q) (fun q=>q)) fun vs H1 ⟨r,e1,S1,s1,t1,q1,h1⟩=>?_
 intro a dx f1 f2 f3;rw[List.append_nil]
 cases e2:r.1 with
 | true=>simp only[R.of,R.bind,e2,Bool.not_true,R.chk,Bool.false_eq_true,if_false]at h1;exact h1.elim
 | false=>
 simp only[R.of,R.bind,e2,Bool.not_false,R.chk,if_true]at h1
 cases e3:o.ini f (.obj c [] []) r.2 with
 | stuck=>rw[e3]at h1;exact h1.elim
 | exc c'=>rw[e3]at h1;exact h1.elim
 | ok d'=>
 rw[e3]at h1;have h1:∀v H',Same H1 H'->Res W (Hid B σ δ) lk H1 H' true d' v->Q v H':=h1
 have sm:Same H1 (upd (upd H1 dx (.own a)) a (.ins (W.CT c) dx [])):=fun b ob hb=>by
  have n1:b≠a:=fun z=>by subst z;rw[f1]at hb;cases hb
  have n2:b≠dx:=fun z=>by subst z;rw[f2]at hb;cases hb
  rw[aM n1,aM n2];exact hb
 have hna:¬Hid B σ δ a:=fun z=>by obtain⟨ob,q⟩:=S1.know a z;rw[f1]at q;cases q
 refine⟨by simp only[List.length_cons];rw[<-t1.length];exact hn _ _ _ e3,a,vs,Hid B σ δ,.obj c [] [],r.2,d',rfl,(S1.mono sm).softH,(S1.mono sm).know,hna,⟨dx,[],aW,rfl,by simp only[List.map_nil,Reps]⟩,(q1 e2).mono fun b ob hb=>?_,e3,fun H' hs hO=>⟨rfl,h1 _ H' (fun b ob hb=>?_) ?_⟩⟩
 ·obtain⟨g1,g2⟩:=bD hb
  refine bN (sm b ob g1) fun z=>?_
  rcases z with z | rfl
  ·exact g2 z
  ·rw[f1]at g1;cases g1
 ·exact hs b ob (sm b ob hb) fun z=>by subst z;rw[f1]at hb;cases hb
 ·unfold Res
  rw[if_pos rfl];exact⟨a,rfl,f1,hO⟩
structure ClsFn(K:PySem.W.Frag)(C:Addr)(m:Str)(f:Addr):Prop where
 ga:PySem.W.specialIn K (.ref C) "__getattribute__"=some (some (.builtin "type.__getattribute__"))
 rd:∃mc,PySem.W.readsIn K C mc=true/\PySem.W.findCls K (.ref C) mc m=some (.val (.ref f))
 hh:PySem.W.handedIn (.ref f)=true
 kp:PySem.W.keepIn K (.ref f)=true
theorem G4{CX:CXT}{k:Nat}{f C:Addr}{fd:FuncData}{ps:List Str}{sp:Sp}{E:XK}{x m:Str}{p pos apos:Pos}{e:Expr}{es:List Expr}{t:TA}{pl:Sem Bool}(hc:ClsFn X.K C m f)(hg:Gl X x)(hm:X.mg x=some (.ref C))(F:FnOk X.prog X.w X.K X.mg X.base CX k f fd ps sp)(hr:Room k X.A)(hb:Binds X.K fd ps [])(hx:gM CX X E)(ha:PA X (e::es) t)
 (hdb:(x==("__debug__":Str))=false) (hst:starEach (e::es) X.env=(false,eval e X.env)::starEach es X.env) (hpl:(backTo pos (starEach es X.env)).any (·.1)=false)
 (ht:eval (.Call (.Attribute (.Name x p) m apos) (e::es) [] pos) X.env=(do
  let ov <-eval (.Name x p) X.env
  standAt apos.atName
  let(f,first) <-holding [ov] (getMethod ov m pl)
  callWith pos f first (backTo pos (starEach (e::es) X.env)) (backToKw pos (keywordEach [] X.env)))) :
 PE X (.Call (.Attribute (.Name x p) m apos) (e::es) [] pos) (J3 sp [] E t):=by
 intro pins s σ H Q I h;refine PySem.W.methodCall_KW (pl:=pl) (lJ I hg hm ?_ hdb) ht;obtain⟨mc,h1,h2⟩:=hc.rd;refine PySem.W.method_cls I.kIn hc.ga (PySem.W.cls_value I.kIn h1 h2 hc.hh ?_);have I0:=I.tok (s.toks+1);refine PySem.W.callWith_K (first:=[]) (h₀:=X.base) I.ok.mod.kin hc.kp (thn (ha pos pins _ σ H _ I0 h) fun us s2 ⟨vs,H2,I2,r,q2⟩=>⟨I2.kIn,?_⟩) hst hpl;exact qi (us:=us) (vs:=vs) F hr hb .nil hx I2 r q2
theorem J7{c f np k:Nat}{x self:Str}{fa C:Addr}{fd:FuncData}{ps:List Str}{es:List Expr}{l:TL}{p p' cpos pos apos:Pos}{pl:Sem Bool}(hi:o.init c=some f)(hn:∀s a d,o.ini f s a=.ok d->a.length+1=np)(hc:ClsFn X.K C "__init__" fa)
 (F:FnOk X.prog X.w X.K X.mg X.base CX0 k fa fd ps (spI W (o.ini f) np)) (hr:Room k X.A) (hg:Gl X x) (hm:X.mg x=some (.ref C)) (hb:Binds X.K fd ps []) (hv:PE X (.Name self p') (tVar 0)) (hl:PA X es (tL X W fun δ=>evL o δ l)) (hdb:(x==("__debug__":Str))=false)
 (hst:starEach (.Name self p'::es) X.env=(false,eval (.Name self p') X.env)::starEach es X.env) (hpl:(backTo cpos (starEach es X.env)).any (·.1)=false)
 (ht:eval (.Call (.Attribute (.Name x p) "__init__" apos) (.Name self p'::es) [] cpos) X.env=(do
  let ov <-eval (.Name x p) X.env
  standAt apos.atName
  let(f,first) <-holding [ov] (getMethod ov "__init__" pl)
  callWith cpos f first (backTo cpos (starEach (.Name self p'::es) X.env)) (backToKw cpos (keywordEach [] X.env)))) :
 PS X (.Expr (.Call (.Attribute (.Name x p) "__init__" apos) (.Name self p'::es) [] cpos) pos) (tS X W (evS o (.ini c l))):=by
 refine PS.imp (pN (G4 (E:=fun _ _ _=>False) hc hg hm F hr hb xg (bQ hv hl hst) hdb hst hpl ht) iK) fun En σ H ⟨me,B,δ,S,h⟩=>?_
 simp only[evS,hi]at h;obtain⟨r,e0,h⟩:=SO.of_ok h
 cases e1:evL o δ l with
 | stuck=>rw[e1]at e0;cases e0
 | exc c=>rw[e1]at e0;cases e0
 | ok xs=>
 rw[e1]at e0
 cases e2:ownD δ 0 with
 | none=>rw[e2]at e0;cases e0
 | some q=>
 obtain⟨w,d⟩:=q;rw[e2]at e0
 cases e3:xs.1 with
 | true=>simp only[R.of,R.bind,e3,Bool.not_true,R.chk,Bool.false_eq_true,if_false]at e0;cases e0
 | false=>
 simp only[R.of,R.bind,e3,Bool.not_false,R.chk,if_true]at e0
 cases e4:o.ini f d xs.2 with
 | stuck=>rw[e4]at e0;cases e0
 | exc c=>rw[e4]at e0;cases e0
 | ok d'=>
 rw[e4]at e0;cases e0;obtain⟨_,_,ad,o3,_⟩:=S.own e2;refine⟨_,o3,?_⟩
 refine tL.mono (pX (fa:=fun δ=>evL o δ l) (g:=R.ok) (C:=fun r _=>r=.ok xs) S (by rw[e1];rfl) (fun _ _ _ q=>q) (fun c q=>(nomatch q)) (fun q=>(nomatch q))) fun vs H1 ⟨r,e5,S1,s1,t1,q1,h1⟩=>?_
 rw[e1]at e5;cases e5;obtain⟨o1,o2,ad',o3',o4,o5,o6⟩:=S1.own e2;rw[o3]at o3';cases o3';have hid:Hid B σ δ ad:=.inr ⟨0,⟨w,d,o1,o2⟩,o3⟩
 have back:∀b,((Hid B σ δ b/\b≠ad)\/b=ad)->Hid B σ δ b:=fun b hb=>by
  rcases hb with hb | rfl
  ·exact hb.1
  ·exact hid
 have forth:∀b,Hid B σ δ b->((Hid B σ δ b/\b≠ad)\/b=ad):=fun b hb=>by
  by_cases z:b=ad
  ·exact .inr z
  ·exact .inl ⟨hb,z⟩
 rw[List.append_nil];refine⟨by simp only[List.length_cons];rw[<-t1.length];exact hn _ _ _ e4,ad,vs,fun b=>Hid B σ δ b/\b≠ad,d,xs.2,d',rfl,fun b hb=>S1.softH b hb.1,fun b hb=>S1.know b hb.1,fun z=>z.2 rfl,o4.mono (fun _ q=>q) (aC back),(q1 e3).mono (aC back),e4,fun H' hs hO=>?_⟩;obtain⟨S3,s3⟩:=S1.writeX o1 o2 o3 o5 o6 hs (hO.mono (fun _ q=>q) (aC forth));exact h _ _ S3 ((au s1).trans s3)
end
end Z
namespace Z
open PySem PySem.Spec PyProof.Rows L2
section
variable{prog:Program}{w:World}{A:Around}{E:Value->Shared->Prop}{s:Shared}
end
end Z
namespace Z
open PySem PySem.Spec PyProof.Rows L2
section
variable{X:Cx}{pins:List (Addr×Obj)}{σ:L2.St}{H:Hp}{s:Shared}{h':Heap}{fp:List Addr}
end
section
variable{X:Cx}{elts:List Expr}{x1:Nat}{tpos p cpos:Pos}
end
end Z
namespace Z
open PySem PySem.Spec PyProof.Rows L2
open AutoSeq1 (wpAny_loadPart')
section
variable{prog:Program}{w:World}{A:Around}{E:Value->Shared->Prop}{s:Shared}{K:Type} [DecidableEq K]{knd:KeyKind prog w K}
end
section
variable{X:Cx}{elts:List Expr}{x1:Nat}{tpos p cpos:Pos}{tg:Expr}
end
end Z
namespace Z
open PySem PySem.Spec PyProof.Rows L2
section
variable{X:Cx}{W:Wd}{lk:Bool}{σ:L2.St}{H H1 H':Hp}{me:Option Addr}{B:Addr->Prop}{δ:Dst}{o:Orc}{p cpos pos tpos:Pos}{tg:Expr}
noncomputable def top(lk:Bool)(H2:Hp)(P:Addr->Prop):Hp:=if lk=true then H2 else vis H2 P
noncomputable def WalkL(X:Cx)(W:Wd)(o:Orc)(lk:Bool)(it:TI)(wi:L2.TI):Prop:=∀σ H (K:It->Hp->Prop),(∃me B δ l,SR X W me B H σ δ/\evI o δ lk it=.ok l/\∀J H2,Same H H2->Ylds W J (top lk H2 (Hid B σ δ)) (vis H2 (Hid B σ δ)) l->K J H2)->wi σ H K
theorem WalkL.comp{it:TI}{wi:L2.TI}(h:WalkL X W o true it wi):Gj X W o it wi:=fun σ H K ⟨me,B,δ,l,S,e,k⟩=>h σ H K ⟨me,B,δ,l,S,e,fun J H2 s y=>k J H2 s (by simpa[top]using y)⟩
theorem top_le{H2:Hp}{P:Addr->Prop}:Same (top lk H2 P) H2:=by
 unfold top;split
 ·exact Same.refl _
 ·exact aY
theorem Eb{H':Hp}{P:Addr->Prop}{w:Bool}{l:List D}{v:V}(h:Res W P lk H H' w (.lst l) v)(hp:∀a,P a->∃u,H a=some u):∃a xs,v=.ref a/\SqL W.K (top lk H' P) a xs/\Reps W (vis H' P) l xs:=by
 cases lk with
 | true=>
   obtain⟨a,xs,rfl,q1,q2⟩:=h.look;exact⟨a,xs,rfl,by simpa[top]using q1,q2⟩
 | false=>
   have:=h.keep hp;simp only[Rep]at this;obtain⟨a,xs,rfl,q1,q2⟩:=this;exact⟨a,xs,rfl,by simpa[top]using q1,q2⟩
theorem Ec{H':Hp}{P:Addr->Prop}{w:Bool}{ks:List DK}{vs:List D}{v:V}(h:Res W P lk H H' w (.dct ks vs) v)(hp:∀a,P a->∃u,H a=some u):∃a kvs ep,v=.ref a/\top lk H' P a=some (.dK kvs ep)/\Reps W (vis H' P) (ks.map keyD) (kvs.map fun p=>kV p.1):=by
 cases lk with
 | true=>
   obtain⟨a,kvs,rfl,⟨ep,q1⟩,q2,q3,q4⟩:=h.look;exact⟨a,kvs,ep,rfl,by simpa[top]using q1,jg q2 q3.2⟩
 | false=>
   have:=h.keep hp;simp only[Rep]at this;obtain⟨a,kvs,rfl,⟨ep,q1⟩,q2,q3,q4⟩:=this;exact⟨a,kvs,ep,rfl,by simpa[top]using q1,jg q2 q3.2⟩
theorem El{H':Hp}{P:Addr->Prop}{w:Bool}{l:List D}{v:V}(h:Res W P lk H H' w (.tup l) v):∃a xs,v=.ref a/\SqT W.K (vis H' P) a xs/\Reps W (vis H' P) l xs:=by
 have:=h.look;simp only[RepT,Rep]at this;exact this
theorem Gq{K:PySem.W.Frag}{H2:Hp}{P:Addr->Prop}{a:Addr}{xs:List V}(h:SqT K (vis H2 P) a xs):SqT K (top lk H2 P) a xs:=by
 unfold top;split
 ·exact aL aY h
 ·exact h
theorem NP{iter:Expr}{t:T}(hk:W.K=X.K)(he:PE X iter (tD X W lk fun δ=>ev o δ lk t)):∃wi,PI X tg iter wi/\WalkL X W o lk (.val t) wi:=by
 refine⟨_,PI.or (PI.or (PI.or (Gm he) (KQ he)) (G3 he)) (HQ he),fun σ H K ⟨me,B,δ,l,S,e,k⟩=>?_⟩;simp only[evI]at e
 cases e1:ev o δ lk t with
 | exc c=>rw[e1]at e;cases e
 | stuck=>rw[e1]at e;cases e
 | ok r=>
 rw[e1]at e;simp only[R.bind]at e
 cases e2:r.2 with
 | lst l'=>
   rw[e2]at e;cases e;refine .inl (.inl (.inl (tD_iff.mpr ⟨me,B,δ,S,?_⟩)));rw[e1];intro v H1 s q;rw[e2]at q;obtain⟨c,xs,rfl,q1,q2⟩:=Eb q S.know;exact⟨c,rfl,⟨xs,hk▸top_le.seq q1⟩,k _ _ s (.of (p6 (hk▸q1)) q2)⟩
 | tup l'=>
   rw[e2]at e;cases e;refine .inl (.inl (.inr (tD_iff.mpr ⟨me,B,δ,S,?_⟩)));rw[e1];intro v H1 s q;rw[e2]at q;obtain⟨c,xs,rfl,q1,q2⟩:=El q;exact⟨c,rfl,⟨xs,hk▸aL aY q1⟩,k _ _ s (.of (tU (hk▸Gq q1)) q2)⟩
 | dct ks vs=>
   rw[e2]at e;cases e;refine .inl (.inr (tD_iff.mpr ⟨me,B,δ,S,?_⟩));rw[e1];intro v H1 s q;rw[e2]at q;obtain⟨c,kvs,ep,rfl,q1,q2⟩:=Ec q S.know;exact⟨c,kvs,ep,rfl,top_le _ _ q1,k _ _ s (.of (pK q1) q2)⟩
 | str x=>
   rw[e2]at e;cases e;refine .inr (tD_iff.mpr ⟨me,B,δ,S,?_⟩);rw[e1];intro v H1 s q;have q:=q.look;rw[e2]at q;simp only[RepT,Rep]at q;obtain⟨rfl,q1⟩:=q;exact⟨_,rfl,k _ _ s (.of (tH x) (jQ x))⟩
 | _=>rw[e2]at e;cases e
theorem Ko{e1:Expr}{t:T}(hgl:Gl X "range")(hm:X.mg "range"=none)(h1:PE X e1 (tD X W true fun δ=>ev o δ true t))(hst:aA e1=false):∃wi,PI X tg (.Call (.Name "range" p) [e1] [] cpos) wi/\WalkL X W o lk (.rng1 t) wi:=by
 refine⟨_,wO hgl hm (bQ h1 dw (bV hst)) (bV hst),fun σ H K ⟨me,B,δ,l,S,e,k⟩=>?_⟩;simp only[evI]at e;refine tD_iff.mpr ⟨me,B,δ,S,?_⟩
 cases e3:ev o δ true t with
 | ok r=>
   rw[e3]at e;simp only[R.bind]at e
   cases e4:r.2 with
   | int n=>
     rw[e4]at e;obtain⟨hc1,e⟩:=gH e;cases e;intro v H1 s1 q1;have q1:=q1.look;rw[e4]at q1;have hn:=Ju hc1;have:=aO q1;subst this;refine⟨n,rfl,by omega,by omega,k _ _ s1 (.of (ni 0 n.toNat) ?_)⟩
     have e5:rngD 0 n=(List.range n.toNat).map fun(k:Nat)=>D.int (0+(k:Int)):=by unfold rngD;rw[Int.sub_zero]
     rw[e5];exact yC 0 n.toNat
   | _=>rw[e4]at e;cases e
 | exc c=>rw[e3]at e;cases e
 | stuck=>rw[e3]at e;cases e
theorem yS{is:List Nat}{tup:Bool}{g:TG}(hg:TgOk X W tg is tup g){sb:SL}{En:Ends}{l:List D}{J:It}(S:SR X W me B H σ δ)(Y:Ylds W J (vis H (Hid B σ δ)) (vis H (Hid B σ δ)) l)
 (h:AfterS X W me B (vis H (Hid B σ δ)) (cX (evSs o sb) is tup l δ) En) :
 ∃Wv:Nat->Nat->L2.St->Hp->Prop,(∃m,Wv 0 m σ H)/\∀i m σ H,Wv i m σ H ->
  (J.stop i H/\En.nx σ H)\/(J.go i H/\∃N:L2.St->Hp->Prop,(∀σ' H',N σ' H'->∃m',m'<m/\Wv (i+1) m' σ' H')/\∀x H',J.yld i H x H'->g x σ H' fun σ2 H2=>tS X W (evSs o sb) { En with nx:=N,ct:=N,bk:=En.nx } σ2 H2):=by
 let Pv:Nat->L2.St->Hp->Prop:=fun i σ' H'=>∃δ',SR X W me B H' σ' δ'/\Same (vis H (Hid B σ δ)) (vis H' (Hid B σ' δ'))/\AfterS X W me B (vis H' (Hid B σ' δ')) (cX (evSs o sb) is tup (l.drop i) δ') En
 refine⟨fun i m σ' H'=>m=l.length-i/\i<=l.length/\Pv i σ' H',⟨l.length,rfl,Nat.zero_le _,δ,S,Same.refl _,h⟩,?_⟩
 rintro i m σ' H' ⟨rfl,hi,δ',S',s',h'⟩
 by_cases hlt:i<l.length
 ·refine .inr ⟨Y.go i H' (s'.trans aY) hlt,Pv (i+1),fun σ2 H2 q=>⟨l.length-(i+1),by omega,rfl,hlt,q⟩,fun x H'' y=>?_⟩
  obtain⟨d,ed⟩:∃d,l[i]?=some d:=⟨_,List.getElem?_eq_getElem hlt⟩
  obtain⟨sy,rd⟩:=(Y.yld i H' x H'' d (s'.trans aY) ed y).rep s' S'.know
  have hd:l.drop i=d::l.drop (i+1):=by
   obtain⟨hi,e⟩:=List.getElem?_eq_some_iff.mp ed;rw[List.drop_eq_getElem_cons hi,e]
  rw[hd]at h';simp only[cX]at h';have S'':=S'.mono sy;have sv:Same (vis H' (Hid B σ' δ')) (vis H'' (Hid B σ' δ')):=au sy
  replace h':=AfterS.mono h' sv
  cases e2:takes is.length tup d with
  | none=>simp only[e2]at h';exact h'.elim
  | some ds=>
    simp only[e2]at h'
    cases e3:aJ δ' is ds with
    | none=>simp only[e3]at h';exact h'.elim
    | some δ1=>
      simp only[e3]at h'
      refine hg.2 S'' rd e2 e3 fun σ1 S1 s1=>⟨me,B,δ1,S1,?_⟩
      have h':=AfterS.mono h' s1
      cases e4:evSs o sb δ1 with
      | nx δ2=>rw[e4]at h';exact fun σ2 H2 S2 s2=>⟨δ2,S2,((s'.trans sv).trans s1).trans s2,AfterS.mono h' s2⟩
      | ct δ2=>rw[e4]at h';exact fun σ2 H2 S2 s2=>⟨δ2,S2,((s'.trans sv).trans s1).trans s2,AfterS.mono h' s2⟩
      | bk δ2=>rw[e4]at h';exact h'
      | rt w d δ2=>rw[e4]at h';exact h'
      | ex c δ2=>rw[e4]at h';exact h'
      | stuck=>rw[e4]at h';exact h'.elim
 ·have e:i=l.length:=by omega
  subst e;refine .inl ⟨Y.stop H' (s'.trans aY),?_⟩;rw[List.drop_length]at h';simp only[cX,AfterS]at h';exact h' σ' H' S' (Same.refl _)
theorem zx(S:SR X W me B H σ δ)(it:TI):SR X W me B H σ (cU δ it)/\Same (vis H (Hid B σ δ)) (vis H (Hid B σ (cU δ it))):=by
 have one:∀i,SR X W me B H σ (Z.share1 δ i)/\Same (vis H (Hid B σ δ)) (vis H (Hid B σ (Z.share1 δ i))):=fun i=>⟨S.share1 i,aC (jC i)⟩
 unfold cU;split
 ·exact one _
 ·exact one _
 ·exact⟨S,Same.refl _⟩
theorem Gv{iter:Expr}{body:List Stmt}{is:List Nat}{tup:Bool}{g:TG}{it:TI}{sb:SL}(hp:PassesOwn (model X.prog X.w) X.A X.env X.xe)(hc:X.calm=true)(hg:TgOk X W tg is tup g)(hi:∃wi,PI X tg iter wi/\WalkL X W o false it wi)
 (hb:PSs X body (tS X W (evSs o sb))) (hs:∀x,foldedSetIterable iter X.env x=pure x):PS X (.For tg iter body [] pos) (tS X W (evS o (.for_ is tup it sb))):=by
 obtain⟨wi,h1,h2⟩:=hi
 refine PS.imp (Ih hp hc h1 hg.1 hb hs) fun En σ H ⟨me,B,δ,S,h⟩=>?_
 simp only[evS]at h;obtain⟨S1,s1⟩:=zx S it;obtain⟨l,e,h⟩:=SO.of_ok h;refine h2 σ H _ ⟨me,B,_,l,S1,e,fun J H2 s y=>?_⟩
 have y':Ylds W J (vis H2 (Hid B σ (cU δ it))) (vis H2 (Hid B σ (cU δ it))) l:=by simpa[top]using y
 exact yS hg (S1.mono s) y' (AfterS.mono h (s1.trans (au s)))
end
end Z
namespace Z
open PySem PySem.Spec PyProof.Rows L2
noncomputable def pR(m z:Int):Int:=if z>m then z else m
section
variable{prog:Program}{w:World}{A:Around}{E:Value->Shared->Prop}{s:Shared}{R:Result->Shared->Prop}
theorem cmp_gt{A:Around}{s:Shared}{a b:Int}{t u:Tok}{Q:Value->Shared->Prop}(h:Q (.bool (decide (a>b))) s):wpAny (model prog w) A (richCompare .Gt (.int a t) (.int b u)) Q E s :=
 richCompare_gives (op:=.Gt) (typeIs_int s _ t) (typeIs_int s _ u) PySem.F.slot_int_gt PySem.F.entry_int_gt (PySem.F.args_int_gt_2 _ _) (gives_int_gt _ _ t u) (fun x=>nomatch x) h
theorem vG{I l S:Addr}{vs:List Value}{ns:List Int}{kw:List (Str×Value)}(hh:A.handled=none)(hi:IntsAre vs ns)(hlI:l≠I)(hSI:S≠I)(hSl:S≠l):∀(k j:Nat) (s:Shared) (m:Int) (t:Tok) (c:Nat),ns.length-j=k->j<=ns.length->s.heap.IsListIter I l j->s.heap.IsList l vs.toArray ->
 s.heap.get? S=some { cls:=.type "list",dict:=none,data:=.seq #[.int m t,.int m t] c,slots:=#[] } ->
 (∀t' h' tk,(∀b o,b≠I->b≠S->s.heap.get? b=some o->h'.get? b=some o)->R (.ok (.ret (.int ((ns.drop j).foldl pR m) t'))) { s with heap:=h',toks:=tk }) ->
 codeAny (model prog w) A (.builtin "max.loop" ⟨[.ref I,.none,.ref S],kw⟩) R s:=by
 have hname:(toString "max"++toString ".loop":String)="max.loop":=by decide
 have hlen:=hi.length;intro k
 induction k with
 | zero=>
   intro j s m t c hk hj hit hl hS hR
   have e:j=ns.length:=by omega
   refine codeAny_builtin PySem.F.entry_max_loop ?_;rw[Around.under_plainId PySem.F.plain_max_loop _];show wpAny _ A.in1 (seqItems? (.ref S) >>= _) _ _ s;refine wpAny_bind (wpAny_seqItems hS rfl ?_);show wpAny _ A.in1 (tryCatch (pyNext (.ref I)) _ >>= _) _ _ s;refine wpAny_bind (wpAny_tryCatch (wpAny_pyNext_list_end hh hit hl (Array.getElem?_eq_none (by simp;omega)) fun h' hx=>?_));have hS':=hx S _ hSI hS;show wpAny _ A.in1 (updateSeq S (fun _=>#[]) >>= _) _ _ _;refine wpAny_bind (wpAny_updateSeq hS' rfl (wpAny_bind (wpAny_letGo (wpAny_pure ?_))))
   have:=hR t (h'.update S (Obj.mapSeq fun _=>#[])) s.toks fun b o b1 b2 q=>(Heap.get?_update_other _ _ (Ne.symm b2)).trans (hx b o b1 q)
   rw[e,List.drop_length]at this;exact this
 | succ k ih=>
   intro j s m t c hk hj hit hl hS hR
   have hlt:j<ns.length:=by omega
   obtain⟨u,hu⟩:=hi.get j (ns[j]'hlt) (List.getElem?_eq_getElem hlt);have hd:ns.drop j=ns[j]'hlt::ns.drop (j+1):=List.drop_eq_getElem_cons hlt;rw[hd]at hR;generalize ns[j]'hlt=z at hu hR;refine codeAny_builtin PySem.F.entry_max_loop ?_;rw[Around.under_plainId PySem.F.plain_max_loop _];show wpAny _ A.in1 (seqItems? (.ref S) >>= _) _ _ s;refine wpAny_bind (wpAny_seqItems hS rfl ?_);show wpAny _ A.in1 (tryCatch (pyNext (.ref I)) _ >>= _) _ _ s;refine wpAny_bind (wpAny_tryCatch (wpAny_pyNext_list_item hit hl (x:=.int z u) (by simpa using hu) fun h' hit' hs'=>?_));have hS':=(hs'.2 S hSI).trans hS;have hl':=hl.extBut hs'.extBut hlI;show wpAny _ A.in1 (tryCatch (holding [.int z u,.int z u] (richCompare .Gt (.int z u) (.int m t) >>= _)) _ >>= _) _ _ _;refine wpAny_bind (wpAny_tryCatch (wpAny_holding (wpAny_bind (cmp_gt ?_))));refine wpAny_bind (wpAny_holding (wpAny_truthy_bool ?_));refine wpAny_bind (wpAny_letGo (wpAny_pure ?_))
   by_cases hb:z>m
   ·simp only[decide_eq_true hb,if_true];refine wpAny_bind (wpAny_updateSeq hS' rfl (wpAny_bind (wpAny_letGo ?_)));rw[hname]
    refine wpAny_pure ⟨plainId_quiet PySem.F.plain_max_loop _,ih (j+1) _ z u _ (by omega) hlt (hit'.at fun o e=>(Heap.get?_update_other _ _ hSI).trans e) (hl'.at fun o e=>(Heap.get?_update_other _ _ hSl).trans e) (Heap.get?_update_self _ hS' rfl) fun t' h'' tk hk''=>?_⟩
    have:=hR t' h'' tk fun b o b1 b2 q=>hk'' b o b1 b2 ((Heap.get?_update_other _ _ (Ne.symm b2)).trans ((hs'.2 b b1).trans q))
    rw[List.foldl_cons,show pR m z=z from if_pos hb]at this;exact this
   ·simp only[decide_eq_false hb,Bool.false_eq_true,if_false];refine wpAny_bind (wpAny_letGo ?_);rw[hname]
    refine wpAny_pure ⟨plainId_quiet PySem.F.plain_max_loop _,ih (j+1) _ m t c (by omega) hlt hit' hl' hS' fun t' h'' tk hk''=>?_⟩
    have:=hR t' h'' tk fun b o b1 b2 q=>hk'' b o b1 b2 ((hs'.2 b b1).trans q)
    rw[List.foldl_cons,show pR m z=m from if_neg hb]at this;exact this
end
section
variable{X:Cx}{W:Wd}{lk:Bool}{σ:L2.St}{H H1 H':Hp}{me:Option Addr}{B:Addr->Prop}{δ:Dst}{o:Orc}{p cpos pos kp:Pos}{a b:Expr}
theorem mj{G:Hp}:∀{l:List D} {ns:List Int} {xs:List V},intsOf l=some ns->Reps W G l xs->xs=ns.map V.int
 | [],ns,xs,h,r=>by
   simp only[intsOf,Option.some.injEq]at h;subst h
   cases xs with
   | nil=>rfl
   | cons _ _=>simp only[Reps]at r
 | d::l,ns,xs,h,r=>by
   cases d<;>first | exact nope h | simp only[intsOf]at h
   rename_i z
   cases e:intsOf l with
   | none=>rw[e]at h;cases h
   | some ms=>
     rw[e]at h;cases h
     cases xs with
     | nil=>simp only[Reps]at r
     | cons x xs=>
       simp only[Reps,Rep]at r;rw[List.map_cons,r.1,mj e r.2]
end
end Z
namespace Z
open PySem PySem.Spec PyProof.Rows L2
section
variable{prog:Program}{w:World}{A:Around}{E:Value->Shared->Prop}{s:Shared}{R:Result->Shared->Prop}
end
section
variable{X:Cx}{W:Wd}{lk:Bool}{σ:L2.St}{H H1 H':Hp}{me:Option Addr}{B:Addr->Prop}{δ:Dst}{o:Orc}{p cpos pos kp:Pos}{a b:Expr}
end
end Z
namespace Z
open PySem PySem.Spec PyProof.Rows L2
section
variable{X:Cx}{W:Wd}{lk:Bool}{o:Orc}{a:Expr}{pos:Pos}
end
end Z
namespace Z
open PySem PySem.Spec PyProof.Rows L2
section
variable{X:Cx}{W:Wd}
end
end Z
namespace Z
open PySem PySem.Spec PyProof.Rows L2
section
variable{X:Cx}{W:Wd}{lk:Bool}{σ:L2.St}{H H1 H':Hp}{me:Option Addr}{B:Addr->Prop}{δ:Dst}{o:Orc}{p px cpos pos:Pos}{a b:Expr}
noncomputable def KDct(P:Program)(w:World)(W:Wd)(ad:Addr)(ks:List DK)(vs:List D):Prop:=∃kvs:List (Key×Value),(∀h:Heap,W.K.In h->h.DictOf (bB P w) ad kvs)/\∀x d,look ks vs x=some d->∃(u:Value) (v:V),valueAt kvs (keyV x)=some u/\RelV v u/\∀G,Rep W G d v
end
end Z
namespace Z
open PySem PySem.Spec PyProof.Rows L2
section
variable{prog:Program}{w:World}{A:Around}{E:Value->Shared->Prop}{s:Shared}
theorem args_max1(a:Value):argsOk "max" ⟨[a],[]⟩:=by unfold argsOk;kernel_rfl
theorem wK{l:Addr}{vs:List Value}{z:Int}{ns:List Int}{Q:Value->Shared->Prop}(hh:A.handled=none)(hl:s.heap.IsList l vs.toArray)(hi:IntsAre vs (z::ns))
 (hQ:∀t h' tk,(∀b o,s.heap.get? b=some o->h'.get? b=some o)->Q (.int (ns.foldl pR z) t) { s with heap:=h',toks:=tk }):wpAny (model prog w) A (call (.builtin "max") [.ref l] []) Q E s:=by
 have hname:(toString "max"++toString ".loop":String)="max.loop":=by decide
 have hlen:=hi.length
 have ll:l<s.heap.objs.size:=by obtain⟨o,e,_⟩:=hl;exact Heap.lt_size e
 refine kmk_tree PySem.F.kind_max PySem.F.plain_max PySem.F.entry_max (args_max1 _) ?_;show wpAny _ A.in1 (Builtin.Builtins.bindParams "max" ["key","default"] 0 ⟨[],[]⟩ >>= _) _ _ s;refine wpAny_bind (wpAny_of_eq (show Builtin.Builtins.bindParams "max" ["key","default"] 0 ⟨[],[]⟩=pure [none,none]from rfl) ?_);refine wpAny_bind (wpAny_pure ?_);refine wpAny_bind (wpAny_pyIter_list hl ?_);refine wpAny_bind (wpAny_newList ?_ (Nat.zero_le _));rw[hname];generalize hh1:s.heap.push { cls:=.type "list_iterator",data:=.fields #[.ref l,.int 0 0] }=h1
 have n1:h1.objs.size=s.heap.objs.size+1:=by rw[<-hh1];exact Heap.size_push ..
 have old:∀b o,s.heap.get? b=some o->(h1.push (seqObj "list" #[] 0)).get? b=some o:=fun b o e=>Heap.get?_push_of_some _ (by rw[<-hh1];exact Heap.get?_push_of_some _ e)
 have gI:(h1.push (seqObj "list" #[] 0)).IsListIter s.heap.objs.size l 0:=⟨_,Heap.get?_push_of_some _ (by rw[<-hh1];exact Heap.get?_push_size _ rfl),rfl,rfl⟩
 have gS:(h1.push (seqObj "list" #[] 0)).get? h1.objs.size=some (seqObj "list" #[] 0):=Heap.get?_push_size _ rfl
 have gl:(h1.push (seqObj "list" #[] 0)).IsList l vs.toArray:=hl.at fun o e=>old _ o e
 have lI:l≠s.heap.objs.size:=Nat.ne_of_lt ll
 have SI:h1.objs.size≠s.heap.objs.size:=by rw[n1];exact Nat.succ_ne_self _
 have Sl:h1.objs.size≠l:=by rw[n1];exact Nat.ne_of_gt (Nat.lt_succ_of_lt ll)
 refine wpAny_pure ⟨plainId_quiet PySem.F.plain_max_loop _,?_⟩;refine codeAny_builtin PySem.F.entry_max_loop ?_;rw[Around.under_plainId PySem.F.plain_max_loop _];show wpAny _ A.in1 (seqItems? (.ref h1.objs.size) >>= _) _ _ _;refine wpAny_bind (wpAny_seqItems gS rfl ?_);show wpAny _ A.in1 (tryCatch (pyNext (.ref s.heap.objs.size)) _ >>= _) _ _ _;obtain⟨u,hu⟩:=hi.get 0 z rfl;refine wpAny_bind (wpAny_tryCatch (wpAny_pyNext_list_item gI gl (x:=.int z u) (by simpa using hu) fun h' hit' hs'=>?_));have hS':=(hs'.2 _ SI).trans gS;have hl':=gl.extBut hs'.extBut lI;show wpAny _ A.in1 (updateSeq h1.objs.size (fun _=>#[.int z u,.int z u]) >>= _) _ _ _;refine wpAny_bind (wpAny_updateSeq hS' rfl ?_);rw[hname];refine wpAny_pure ⟨plainId_quiet PySem.F.plain_max_loop _,vG hh hi lI SI Sl _ 1 _ z u _ rfl (by simp) (hit'.at fun o e=>(Heap.get?_update_other _ _ SI).trans e) (hl'.at fun o e=>(Heap.get?_update_other _ _ Sl).trans e) (Heap.get?_update_self _ hS' rfl) fun t' h'' tk hk''=>?_⟩
 exact hQ t' h'' tk fun b o e=>hk'' b o (Nat.ne_of_lt (Heap.lt_size e)) (fun q=>by have:=Heap.lt_size e;rw[q,n1]at this;exact Nat.not_lt_of_le (Nat.le_succ _) this) ((Heap.get?_update_other _ _ (fun q=>by have:=Heap.lt_size e;rw[<-q,n1]at this;exact Nat.not_lt_of_le (Nat.le_succ _) this)).trans ((hs'.2 b (Nat.ne_of_lt (Heap.lt_size e))).trans (old b o e)))
end
section
variable{X:Cx}{W:Wd}{lk:Bool}{o:Orc}{p cpos pos apos:Pos}{a b:Expr}
theorem wj(hc:X.calm=true):CallR X (.builtin "max") (fun xs H Q=>∃(c:Addr) (z:Int) (ns:List Int),xs=[.ref c]/\SqL X.K H c ((z::ns).map V.int)/\Q (.int (ns.foldl pR z)) H):=by
 intro pins s σ H xs us Q I r h;obtain⟨c,z,ns,rfl,hq,q⟩:=h;obtain⟨u,rfl,rx⟩:=vals1 r;cases rx;obtain⟨its,rv,pl,hz⟩:=I.list hq
 exact wK (I.ok.hd hc) pl.isList (L2.intsAre_of rv) fun t' h' tk hk=>⟨.int (ns.foldl pR z),H,I.kept hk,⟨_,rfl⟩,q⟩
theorem yX(hk:W.K=X.K):Sem1 W (fun xs H Q=>∃(c:Addr) (z:Int) (ns:List Int),xs=[.ref c]/\SqL X.K H c ((z::ns).map V.int)/\Q (.int (ns.foldl pR z)) H) (b1D .max):=by
 intro lk P H x dx Q w d hS hK hx e k
 cases dx<;>first | exact nope e | exact eN e | simp only[b1D]at e
 rename_i l
 cases e1:intsOf l with
 | none=>rw[e1]at e;cases e
 | some ns=>
   rw[e1]at e
   cases ns with
   | nil=>cases e
   | cons z ns=>
     cases e;obtain⟨c,vs,rfl,q1,q2⟩:=hx;have:=mj e1 q2;subst this;exact⟨c,z,ns,rfl,hk▸q1,k _ H (Same.refl H) dg⟩
theorem JF{ta tb:T}(hc:X.calm=true)(hg:Gl X "min")(hm:X.mg "min"=none)(ha:PE X a (tD X W true fun δ=>ev o δ true ta))(hb:PE X b (tD X W true fun δ=>ev o δ true tb))(hst1:aA a=false)(hst2:aA b=false) :
 PE X (.Call (.Name "min" p) [a,b] [] cpos) (tD X W lk fun δ=>ev o δ lk (.b2 .min ta tb)):=by
 have hs2:starEach [b] X.env=[(false,eval b X.env)]:=bV hst2
 refine PE.imp (ik (vW hc) hg hm boot_min (bQ ha (bQ hb dw hs2) (bV hst1)) (by decide) (by decide) (by rw[bV hst1,hs2]) (by rw[hs2];rfl)) fun σ H Q h=>?_
 obtain⟨me,B,δ,S,h⟩:=tD_iff.mp h;simp only[ev]at h
 refine tD.mono (part S h) fun v H1 ⟨r1,e1,S1,s1,t1,_,h1⟩=>?_
 refine tD.mono (part S1 h1) fun v2 H2 ⟨r2,e2,S2,s2,t2,_,h2⟩=>?_
 cases e3:r1.2 with
 | int i=>
   cases e4:r2.2 with
   | int j=>
     rw[e3,e4]at h2;simp only[b2D]at h2;have t1:=t1.mono s2 (au s2);rw[e3]at t1;rw[e4]at t2;exact⟨i,j,by rw[aO t1,aO t2],h2 _ _ (Same.refl _) dg⟩
   | _=>rw[e3,e4]at h2;exact h2.elim
 | lst l=>
   rw[e3]at h2
   revert h2
   cases r2.2<;>intro h2<;>exact h2.elim
 | _=>rw[e3]at h2;revert h2;cases r2.2<;>intro h2<;>exact h2.elim
end
section
variable{X:Cx}{pins:List (Addr×Obj)}{σ:L2.St}{H:Hp}{s:Shared}{a:Addr}{kvs:List (Key×V)}{k:Key}{u:Value}{A:Around}{E:Value->Shared->Prop}
end
section
variable{X:Cx}{o e f:Expr}{apos cpos:Pos}{td ty tz:TE}
end
section
variable{X:Cx}{W:Wd}{o:Orc}{p p' apos cpos pos:Pos}
end
end Z
namespace PySem.W
open PySem
noncomputable def pB(p:Program)(w:World)(n₀:Nat)(ann:Option Value)(n:Nat):SharedT->Thread->Option SharedT :=
 @Nat.rec (fun _=>SharedT->Thread->Option SharedT) (fun _ _=>none) (fun _ ih s t=>match through t with
  | true=>some s
  | false=>match Fast.tw6613529449190102663 n₀ ann t with
    | false=>none
    | true=>match Fast.tw10156331382660048174 (Fast.tw11892475500146522536 Fast.tw14364793385576792824) p w s t with
      | some (s',t')=>ih s' t'
      | none=>none) n
theorem jA{p:Program}{w:World}{n₀:Nat}{ann:Option Value}:∀{n:Nat} {s s':SharedT} {t:Thread},pB p w n₀ ann n s t=some s'->topRun treeTable p w n₀ ann n s.abs t=some s'.abs
 | 0,_,_,_,h=>nomatch h
 | n+1,s,s',t,h=>by
   have h:(match through t with
    | true=>some s
    | false=>match Fast.tw6613529449190102663 n₀ ann t with
      | false=>none
      | true=>match Fast.tw10156331382660048174 (Fast.tw11892475500146522536 Fast.tw14364793385576792824) p w s t with
        | some (s',t')=>pB p w n₀ ann n s' t'
        | none=>none)=some s':=h
   rw[<-Fast.te6613529449190102663,<-Fast.te10156331382660048174,<-Fast.te11892475500146522536,<-Fast.te14364793385576792824]at h;unfold topRun
   cases he:through t with
   | true=>rw[he]at h;cases h;rfl
   | false=>
     rw[he]at h
     cases hk:stepOk n₀ ann t with
     | false=>rw[hk]at h;cases h
     | true=>
       rw[hk]at h
       cases hs:stepT (denote treeTable) p w s t with
       | none=>rw[hs]at h;cases h
       | some r=>obtain⟨s₂,t₂⟩:=r;rw[hs]at h;dsimp only;rw[stepT_spec hs];exact jA h
noncomputable def btOf(l:List Obj):BT:=(l.foldl (fun x o=>(x.1.ins x.2 o,x.2+1)) (BT.nil,0)).1
noncomputable def bt0(P:Params):BT:=btOf (boot_heap P).objs.toList
theorem Cr(P:Params):absHeap (bt0 P) (boot_heap P).objs.size (boot_heap P).life=boot_heap P:=by kernel_rfl
noncomputable def kj(p:Program)(w:World)(N:Nat)(os:OsState):Option Shared :=
 match(boot_heap w.params).isNs mainGlobals with
 | true=>(pB p w (boot_heap w.params).objs.size ((boot_heap w.params).nsMap mainGlobals "__annotations__") N ⟨bt0 w.params,(boot_heap w.params).objs.size,(boot_heap w.params).life,Array.mk [],boot_drawn,boot_toks,os⟩ (topStub p)).bind fun s=>match staticsOk (importedModules p.main.body) (boot_heap w.params) s.abs.heap&&namesBound p s.abs.heap&&gensDone s.abs&&laidKept (boot_heap w.params) s.abs.heap with
  | true=>some s.abs
  | false=>none
 | false=>none
theorem oJ{p:Program}{w:World}{N:Nat}{os:OsState}{s:Shared}(h:kj p w N os=some s):topFrom treeTable p w N ⟨boot_heap w.params,Array.mk [],boot_drawn,boot_toks,os⟩=some s:=by
 unfold kj at h;unfold topFrom
 cases e:(boot_heap w.params).isNs mainGlobals with
 | false=>rw[e]at h;cases h
 | true=>
   rw[e]at h;dsimp only;obtain⟨s₁,h1,h2⟩:=Option.bind_eq_some_iff.mp h;have:=jA h1;unfold SharedT.abs at this;dsimp only at this;rw[Cr]at this;rw[show(true&&(Array.mk []:Array GenState).size==0)=true from rfl];dsimp only;rw[this];exact h2
theorem Fq{p q:Program}{loose:List Str}{Xt:Shared->Bool}{α:Type}{Yf:Shared->α}{Ya:World->α}{N:Nat}(e:opening p=plainProg p.main.scope.names)(hN:Nat.ble 600 N=true)(f:∀s,fenceModules? p s=some s)
 (h:∀(w:World) (os:OsState),(kj p w N os).map (fun s=>(Fast.tw4187177175401517315 q loose (importedModules p.main.body) Xt true s,Yf s))=some (openGood q loose,Ya w)):LeftO p q loose Xt Yf Ya N:=fun w=>by
 obtain⟨s,hs,hv⟩:=Option.map_eq_some_iff.mp (boot_open e hN f w);unfold openEnds;rw[hs];obtain⟨hh,gs,d,k,os⟩:=s;simp only[Prod.mk.injEq]at hv;obtain⟨rfl,rfl,rfl,rfl⟩:=hv;obtain⟨s1,h1,h2⟩:=Option.map_eq_some_iff.mp (h w os);rw[<-Fast.te4187177175401517315]at h2;rw[show(some (⟨boot_heap w.params,Array.mk [],boot_drawn,boot_toks,os⟩:Shared)).bind (topFrom treeTable p w N)=some s1 from oJ h1];exact congrArg some h2
end PySem.W
namespace Z
open PySem PySem.Spec PyProof.Rows L2
noncomputable def vK:Bool:=false
noncomputable def wu:Bool:=true
noncomputable def uv:Bool:=false
noncomputable def vJ:Bool:=true
noncomputable def vZ:Bool:=false
noncomputable def Bx:Bool:=false
noncomputable def Ba:Bool:=false
noncomputable def wV:Bool:=false
noncomputable def v4:Bool:=true
noncomputable def my:Bool:=true
noncomputable def Bk:Bool:=true
noncomputable def BV:Bool:=false
noncomputable def Bw:Bool:=false
noncomputable def tY:Bool:=true
noncomputable def qX:Bool:=false
noncomputable def tX:Bool:=true
noncomputable def nU:Bool:=true
section
variable{X:Cx}{W:Wd}{lk:Bool}{o:Orc}{p px cpos pos kp apos tpos:Pos}{a b c tg:Expr}
theorem Ke(hft:vK=true){ta tb:T}(hc:X.calm=true)(hg:Gl X "max")(hm:X.mg "max"=none)(ha:PE X a (tD X W true fun δ=>ev o δ true ta))(hb:PE X b (tD X W true fun δ=>ev o δ true tb))(hst1:aA a=false)(hst2:aA b=false) :
 PE X (.Call (.Name "max" p) [a,b] [] cpos) (tD X W lk fun δ=>ev o δ lk (.b2 .max ta tb)):=absurd hft (by decide)
theorem HS(hft:wu=true){ta tb:T}(hc:X.calm=true)(hg:Gl X "min")(hm:X.mg "min"=none)(ha:PE X a (tD X W true fun δ=>ev o δ true ta))(hb:PE X b (tD X W true fun δ=>ev o δ true tb))(hst1:aA a=false)(hst2:aA b=false) :
 PE X (.Call (.Name "min" p) [a,b] [] cpos) (tD X W lk fun δ=>ev o δ lk (.b2 .min ta tb)):=JF hc hg hm ha hb hst1 hst2
theorem JH(hft:uv=true){ta tb tc:T}(hu:X.A.units+1<cLine)(ha:PE X a (tD X W true fun δ=>ev o δ true ta))(hb:PE X b (tD X W true fun δ=>ev o δ true tb))(hc:PE X c (tD X W false fun δ=>ev o δ false tc))(m:M2 X a "get" apos b c cpos) :
 PE X (.Call (.Attribute a "get" apos) [b,c] [] cpos) (tD X W lk fun δ=>ev o δ lk (.get2 ta tb tc)):=absurd hft (by decide)
theorem f_list(hft:wV=true)(hk:W.K=X.K)(hc:X.calm=true):∃r,CallR X (.type "list") r/\Sem1 W r (b1D .list):=absurd hft (by decide)
theorem Io(hft:v4=true)(hk:W.K=X.K)(hc:X.calm=true):∃r,CallR X (.type "dict") r/\Sem1 W r (b1D .dict):=⟨_,oY,vy⟩
theorem Lh(hft:Bk=true)(hk:W.K=X.K)(hc:X.calm=true):∃r,CallR X (.builtin "all") r/\Sem1 W r (b1D .all):=⟨_,ul hc,Fz hk⟩
theorem Lk(hft:Bx=true)(hk:W.K=X.K)(hc:X.calm=true):∃r,CallR X (.builtin "any") r/\Sem1 W r (b1D .any):=absurd hft (by decide)
theorem Mx(hft:Ba=true)(hk:W.K=X.K)(hc:X.calm=true):∃r,CallR X (.builtin "sum") r/\Sem1 W r (b1D .sum):=absurd hft (by decide)
theorem LC(hft:BV=true)(hk:W.K=X.K)(hc:X.calm=true):∃r,CallR X (.type "str") r/\Sem1 W r (b1D .str):=absurd hft (by decide)
theorem f_int(hft:Bw=true)(hk:W.K=X.K)(hc:X.calm=true):∃r,CallR X (.type "int") r/\Sem1 W r (b1D .int):=absurd hft (by decide)
theorem J1(hft:tY=true)(hk:W.K=X.K)(hc:X.calm=true):∃r,CallR X (.builtin "max") r/\Sem1 W r (b1D .max):=⟨_,wj hc,yX hk⟩
theorem z7(hft:my=true)(hk:W.K=X.K)(hc:X.calm=true):∃r,CallR X (.builtin "sorted") r/\Sem1 W r (b1D .sorted):=⟨_,nq hc,sH hk⟩
theorem HW(hft:vJ=true){ta tb:T}(hk:W.K=X.K)(ha:PE X a (tD X W true fun δ=>ev o δ true ta))(hb:PE X b (tD X W true fun δ=>ev o δ true tb))(h2:plainBase a=true)(hst:aA b=false)(h1:(apos.endLine==cpos.line)=true):PE X (.Call (.Attribute a "join" apos) [b] [] cpos) (tD X W lk fun δ=>ev o δ lk (.m1 .join ta tb)):=by
 have q:=Em (lk:=lk) PySem.F.plainAttrs_str PySem.F.slot_str_join PySem.F.type_str_join Hl (Ad hk) sY xX ha hb h2 hst h1
 have e:(fun δ=>ev o δ lk (.m1 .join ta tb))=fun δ=>(ev o δ true ta).bind fun x=>(ev o δ true tb).bind fun y=>m1D .join x.2 y.2:=funext fun δ=>by simp only[ev]
 rw[e];exact q
theorem DG(hft:qX=true){ta tb:T}(ha:PE X a (tD X W true fun δ=>ev o δ true ta))(hb:PE X b (tD X W true fun δ=>ev o δ true tb))(h2:plainBase a=true)(hst:aA b=false)(h1:(apos.endLine==cpos.line)=true):PE X (.Call (.Attribute a "startswith" apos) [b] [] cpos) (tD X W lk fun δ=>ev o δ lk (.m1 .startswith ta tb)):=absurd hft (by decide)
theorem KH(hft:tX=true){ta:T}(hk:W.K=X.K)(hc:X.calm=true)(hg:Gl X "sorted")(hm:X.mg "sorted"=none)(hg2:Gl X "set")(hm2:X.mg "set"=none)(ha:PE X a (tD X W true fun δ=>ev o δ true ta))(hst:aA a=false):PE X (.Call (.Name "sorted" p) [.Call (.Name "set" px) [a] [] pos] [] cpos) (tD X W lk fun δ=>(ev o δ true ta).bind fun x=>b1D .sortedSet x.2):=Ik hk hc hg hm hg2 hm2 ha hst
theorem yV(hft:nU=true){i:Nat}{x:Str}{e:Expr}{te:T}(hv:PE X (.Name x p) (tVar i))(he:PE X e (tD X W false fun δ=>ev o δ false te))(hst:aA e=false)(hline:(apos.endLine==cpos.line)=true):PS X (.Expr (.Call (.Attribute (.Name x p) "extend" apos) [e] [] cpos) pos) (tS X W (evS o (.extend i te))):=wH hv he hst hline
end
end Z
namespace Z
open PySem PySem.Spec PyProof.Rows L2
inductive Gk where
 | fn (i np:Nat)
 | cls (c:Nat)
 | ocl (c:Nat)
 | val (d:D)
 | dct (ks:List DK) (vs:List D)
 | mark (l:List Nat)
 | names (l:List (List Nat))      -- "!f": attributes,"!m": methods
structure Tc where
 N:List Str
 sc:Scope
 gl:List (Str×Gk)
noncomputable def bc:List Str->Str->Option Nat
 | [],_=>none
 | y::l,x=>if y=x then some 0 else(bc l x).map (·+1)
theorem aX:∀{N:List Str} {x:Str} {i:Nat},bc N x=some i->N[i]?=some x
 | [],_,_,h=>by simp[bc]at h
 | y::l,x,i,h=>by
   simp only[bc]at h;split at h
   ·rename_i e
    cases h;simp[e]
   ·cases e:bc l x with
    | none=>rw[e]at h;cases h
    | some j=>
      rw[e]at h;cases h;simpa using aX e
noncomputable def ixs(N:List Str):List Str->Option (List Nat)
 | []=>some []
 | x::l=>(bc N x).bind fun i=>(ixs N l).map fun r=>i::r
theorem xW{N:List Str}:∀{l:List Str} {r:List Nat} {j k:Nat},ixs N l=some r->r[j]?=some k->∃x,l[j]?=some x/\N[k]?=some x
 | [],r,j,k,h,e=>by
   simp only[ixs,Option.some.injEq]at h;subst h;simp at e
 | x::l,r,j,k,h,e=>by
   simp only[ixs]at h
   cases e1:bc N x with
   | none=>rw[e1]at h;cases h
   | some i=>
     cases e2:ixs N l with
     | none=>simp[e1,e2]at h
     | some r'=>
       simp[e1,e2]at h;subst h
       cases j with
       | zero=>simp at e;subst e;exact⟨x,rfl,aX e1⟩
       | succ j=>
         obtain⟨y,h1,h2⟩:=xW e2 (by simpa using e);exact⟨y,by simpa using h1,h2⟩
theorem uN{N:List Str}:∀{l:List Str} {r:List Nat},ixs N l=some r->r.length=l.length
 | [],r,h=>by simp only[ixs,Option.some.injEq]at h;subst h;rfl
 | x::l,r,h=>by
   simp only[ixs]at h
   cases e1:bc N x with
   | none=>rw[e1]at h;cases h
   | some i=>
     cases e2:ixs N l with
     | none=>simp[e1,e2]at h
     | some r'=>simp[e1,e2]at h;subst h;simp[uN e2]
noncomputable def visB(sc:Scope)(x:Str):Bool:=(match sc.names.lookup x with | some .local=>true | some .cell=>true | some .free=>true | _=>false)&&!(x==("__debug__":Str))&&!(x==("__classdict__":Str))
noncomputable def locB(sc:Scope)(x:Str):Bool:=match sc.names.lookup x with | some .local=>true | some .cell=>true | _=>false
noncomputable def glB(sc:Scope)(x:Str):Bool:=decide (sc.names.lookup x=some .globalImplicit)
noncomputable def trOp:Operator->Option O2
 | .Add=>some .add
 | .Sub=>some .sub
 | .Mult=>some .mul
 | .FloorDiv=>some .fdiv
 | .Mod=>some .mod
 | .Pow=>some .pow
 | _=>none
noncomputable def yu:CmpOp->Option O2
 | .Eq=>some .eq
 | .NotEq=>some .ne
 | .Lt=>some .lt
 | .LtE=>none
 | .Gt=>some .gt
 | .GtE=>none
 | .Is=>none
 | .IsNot=>none
 | .In=>some .in
 | .NotIn=>some .notin
noncomputable def gD:Const->Option D
 | .none=>some .non
 | .bool b=>some (.bl b)
 | .int i=>some (.int i)
 | .str s=>if s.length<=1000000 then some (.str s.cps.toList)else none
 | _=>none
noncomputable def trTy(x:Str):Option Ty :=
 if x="int" then some .int else if x="bool" then some .bool else if x="str" then some .str else if x="tuple" then some .tup else if x="list" then some .lst else if x="dict" then some .dct else none
noncomputable def trL(f:Expr->Option T):List Expr->Option TL
 | []=>some .nil
 | e::es=>(f e).bind fun t=>(trL f es).map fun l=>.cons t l
noncomputable def trB(f:Expr->Option T)(k:T->T->T):List Expr->Option T
 | []=>none
 | [e]=>f e
 | e::es=>(f e).bind fun t=>(trB f k es).map fun u=>k t u
noncomputable def oZ(f:Expr->Option T):Option Expr->Option T
 | none=>some (.cst .non)
 | some e=>(f e).bind fun t=>match t with
   | .cst .non=>none
   | t=>some t
noncomputable def isSlice:Expr->Bool
 | .Slice _ _ _ _=>true
 | _=>false
noncomputable def isSet:Expr->Bool
 | .Set ..=>true
 | _=>false
noncomputable def fn1(x:Str):Option B1 :=
 if x="abs" then some .abs else if x="len" then some .len else if x="tuple" then some .tuple else if x="list"/\wV=true then some .list else if x="dict"/\v4=true then some .dict else
 if x="all"/\Bk=true then some .all else if x="any"/\Bx=true then some .any else if x="sum"/\Ba=true then some .sum else if x="sorted"/\my=true then some .sorted else if x="str"/\BV=true then some .str else if x="int"/\Bw=true then some .int  else none
noncomputable def fn1x(x:Str):Option B1:=match fn1 x with
 | some b=>some b
 | none=>if x="max"/\tY=true then some .max else none
noncomputable def trSS(tc:Tc)(f:Expr->Option T)(x:Str)(a:Expr):Option T:=match a with
 | .Call (.Name y _) [b] [] _=>if x="sorted"/\tX=true/\y="set"/\glB tc.sc "set"=true/\(tc.gl.lookup ("set":Str)).isNone=true/\aA b=false then(f b).map fun t=>.b1 .sortedSet t else none
 | _=>none
noncomputable def vU(tc:Tc)(f:Expr->Option T)(x:Str)(args:List Expr):Option T :=
 if glB tc.sc x&&!(x==("__debug__":Str))&&!(args.any aA)then(match tc.gl.lookup x with
  | some (.fn i np)=>if args.length=np/\args≠[]then(trL f args).map fun l=>.call i l else none
  | some (.ocl c)=>if args≠[]then(trL f args).map fun l=>.mk c l else none
  | some _=>none
  | none=>match args with
    | [a]=>(match trSS tc f x a with
      | some t=>some t
      | none=>(fn1x x).bind fun b=>(f a).map fun t=>.b1 b t)
    | [a,b]=>if x="max"/\vK=true then(f a).bind fun t=>(f b).map fun u=>.b2 .max t u else if x="min"/\wu=true then(f a).bind fun t=>(f b).map fun u=>.b2 .min t u else(match b with
      | .Name y _=>if x="isinstance"/\glB tc.sc y=true/\(tc.gl.lookup y).isNone=true then(if y="ValueError" then none else(f a).bind fun t=>(trTy y).map fun ty=>.isin t ty)else
        none
      | _=>none)
    | _=>none)else none
noncomputable def tW(tc:Tc)(f:Expr->Option T)(x:Str)(a b:Expr):Option T:=none
noncomputable def Do(tc:Tc)(e:Expr):Option (List DK×List D):=none
noncomputable def trCs:List Expr->Option (List D)
 | []=>some []
 | .Constant c _ _::l=>(gD c).bind fun d=>(trCs l).map fun r=>d::r
 | _=>none
noncomputable def trKs:List (Option Expr)->Option (List DK)
 | []=>some []
 | some (.Constant c _ _)::l=>(gD c).bind fun d=>(keyOf d).bind fun k=>(trKs l).map fun r=>k::r
 | _=>none
noncomputable def cstL:List D->TL
 | []=>.nil
 | d::l=>.cons (.cst d) (cstL l)
noncomputable def KJ(ks:List (Option Expr))(vs:List Expr):Option T:=(trKs ks).bind fun k=>(trCs vs).bind fun d=>if k.length=d.length/\k.length<=15/\k≠[]/\k.Nodup then some (.dnew k (cstL d))else none
noncomputable def o8:Expr->Bool
 | .Tuple ..=>true
 | _=>false
noncomputable def uR(f:Expr->Option T)(a:Expr)(name:Str)(args:List Expr)(ok:Bool):Option T :=
 if ok&&plainBase a&&!(args.any aA)then(match args with
  | [b]=>if name="join"/\vJ=true then(f a).bind fun ta=>(f b).map fun tb=>.m1 .join ta tb else
    if name="startswith"/\qX=true then(f a).bind fun ta=>(f b).map fun tb=>.m1 .startswith ta tb else none
  | [b,c]=>if name="get"/\uv=true then(f a).bind fun ta=>(f b).bind fun tb=>(f c).map fun tc=>.get2 ta tb tc else none
  | _=>none)else none
noncomputable def namesOf(tc:Tc)(k:Str):List (List Nat):=match tc.gl.lookup k with
 | some (.names l)=>l
 | _=>[]
noncomputable def G5(f:Expr->Option T)(a:Expr)(name:Str)(args:List Expr)(ok:Bool):Option T :=
 if ok&&plainBase a&&!(args.any aA)&&decide (args.length<20)then(f a).bind fun t=>(trL f args).map fun l=>.meth name.cps.toList t l else none
noncomputable def trI(tc:Tc)(f:Expr->Option T)(tp:Bool)(e:Expr):Option TI:=match e with
 | .Call (.Name x _) [a] [] _=>if x="range" then(if glB tc.sc "range"&&(tc.gl.lookup ("range":Str)).isNone&&!aA a then(f a).map .rng1 else none)else
   if x="enumerate" then none else(f e).map .val
 | .Call (.Name x _) [a,b] [] _=>if x="range" then none else if x="zip" then none else(f e).map .val
 | .Call (.Name x _) [a,b,c] [] _=>if x="range" then none else(f e).map .val
 | e=>if isSet e then none else(f e).map .val
noncomputable def jl:List Expr->Option (List Str)
 | []=>some []
 | .Name x _::es=>(jl es).map fun l=>x::l
 | _=>none
noncomputable def pJ:Expr->Option (List Str×Bool)
 | .Name x _=>some ([x],false)
 | .Tuple es _ _=>(jl es).map fun l=>(l,true)
 | _=>none
noncomputable def frees(scope:Scope):List Str:=(scope.names.filter fun y=>y.2==.free).map (·.1)
noncomputable def eO(scope sc:Scope):Scope:={ scope with names:=scope.names.map fun(n,k)=>if(k==.free&&sc.kind==.function&&sc.names.lookup n==some .cell)then(n,.cell)else(n,k) }
noncomputable def blkB(scope:Scope):Bool:=decide (scope.kind=.function)&&scope.names.all fun y=>!(y.2==.cell)&&(!(y.2==.local)||decide (scope.names.lookup y.1=some .local))&&(!(y.2==.free)||decide (scope.names.lookup y.1=some .free))
noncomputable def Jf(tc:Tc)(scope:Scope)(tn cn:List Str):Bool:=blkB scope&&decide (tn++cn).Nodup&&(tn.all fun x=>decide (scope.names.lookup x=some .local)) &&
 cn.all fun x=>decide (tc.sc.names.lookup x=some .cell)||decide (tc.sc.names.lookup x=some .free)
noncomputable def wF(f:Expr->Option T):List Expr->Option T
 | []=>some (.cst (.bl true))
 | [c]=>f c
 | _=>none
noncomputable def qP(tc:Tc)(f:Tc->Expr->Option T)(elt tg iter:Expr)(ifs:List Expr)(scope:Scope):Option T :=
 (pJ tg).bind fun q=>if Jf tc scope q.1 (frees scope)then
  (ixs tc.N (frees scope)).bind fun caps=>(trI tc (f tc) (o8 tg) iter).bind fun it=>(wF (f ⟨q.1++frees scope,eO scope tc.sc,tc.gl⟩) ifs).bind fun c=>
   (f ⟨q.1++frees scope,eO scope tc.sc,tc.gl⟩ elt).map fun e=>.comp caps q.1.length q.2 it c e else none
noncomputable def trJ(f:Expr->Option T)(vs:List Expr):Option T:=none
noncomputable def trEb(f:Tc->Expr->Option T)(tc:Tc)(e:Expr):Option T:=match e with
 | .Name x _=>if visB tc.sc x then(bc tc.N x).map .var else if glB tc.sc x&&!(x==("__debug__":Str))then(match tc.gl.lookup x with | some (.val d)=>some (.cst d) | _=>none)else none
 | .IfExp c a b _=>none
 | .Constant c _ _=>(gD c).map .cst
 | .BinOp a op b _=>(trOp op).bind fun p=>(f tc a).bind fun ta=>(f tc b).map fun tb=>.op2 p ta tb
 | .UnaryOp .Not a _=>(f tc a).map .not
 | .UnaryOp .USub a _=>(f tc a).map .neg
 | .Compare a [op] [b] _=>if behindInMarks op b then none else(yu op).bind fun p=>(f tc a).bind fun ta=>(f tc b).map fun tb=>.op2 p ta tb
 | .BoolOp .And vs _=>trB (f tc) .and vs
 | .BoolOp .Or vs _=>trB (f tc) .or vs
 | .Tuple es _ _=>if es.any aA then none else(trL (f tc) es).map .tup
 | .List es _=>if es.any aA then none else(trL (f tc) es).map .lst
 | .Dict [] [] _=>some (.dnew [] .nil)
 | .Dict (k0::ks) vs _=>if vZ then KJ (k0::ks) vs else none
 | .Subscript a (.Slice lo hi none _) _=>(f tc a).bind fun t=>(oZ (f tc) lo).bind fun l=>(oZ (f tc) hi).map fun h=>.slc t l h
 | .Subscript a b _=>if isSlice b then none else(match Do tc a with
   | some q=>(f tc b).map fun i=>.kidx q.1 q.2 i
   | none=>(f tc a).bind fun t=>(f tc b).map fun i=>.idx t i)
 | .Call (.Name x _) args [] _=>vU tc (f tc) x args
 | .Call (.Name x _) [a] [⟨some kw,b,_⟩] _=>if kw="default" then tW tc (f tc) x a b else none
 | .Call (.Attribute a name apos) args [] cpos=>if(namesOf tc "!m").contains name.cps.toList then G5 (f tc) a name args (apos.endLine==cpos.line)else uR (f tc) a name args (apos.endLine==cpos.line)
 | .Attribute a name _=>if(namesOf tc "!f").contains name.cps.toList&&plainBase a then(f tc a).map fun t=>.fld t name.cps.toList else none
 | .JoinedStr vs _=>trJ (f tc) vs
 | .ListComp elt [g] scope _=>if g.is_async=0 then qP tc f elt g.target g.iter g.ifs scope else none
 | _=>none
noncomputable def trE:Nat->Tc->Expr->Option T
 | 0,_,_=>none
 | k+1,tc,e=>trEb (fun tc' e'=>trE k tc' e') tc e
theorem aU{k:Nat}{tc:Tc}{e:Expr}:trE (k+1) tc e=trEb (trE k) tc e:=rfl
theorem yN{k:Nat}{tc:Tc}{elt:Expr}{g:Comprehension}{scope:Scope}{pos:Pos}:trE (k+1) tc (.ListComp elt [g] scope pos)=if g.is_async=0 then qP tc (fun tc' e=>trE k tc' e) elt g.target g.iter g.ifs scope else none:=rfl
theorem zF{k:Nat}{tc:Tc}{x:Str}{pos:Pos}:trE (k+1) tc (.Name x pos)=if visB tc.sc x then(bc tc.N x).map .var else if glB tc.sc x&&!(x==("__debug__":Str))then(match tc.gl.lookup x with | some (.val d)=>some (.cst d) | _=>none)else none:=rfl
noncomputable def cF:List Str:=["abs","len","isinstance","int","bool","str","tuple","list","dict","all","any","sorted","range","max","zip","enumerate","sum","min","ValueError","set"]
noncomputable def clOf(gl:List (Str×Gk))(x:Str):Option Nat:=match gl.lookup x with
 | some (.cls c)=>some c
 | _=>none
noncomputable def nQ(gl:List (Str×Gk))(x:Str):Option Nat:=match gl.lookup x with
 | some (.ocl c)=>some c
 | _=>none
structure ObjFacts(P:Program)(w:World)(K:PySem.W.Frag)(mg:Str->Option Value)(base:Heap)(W:Wd)(gl:List (Str×Gk))(o:Orc)(k:Nat):Prop where
 nm:∀x c,nQ gl x=some c->mg x=some (.ref (W.CT c))
 fld:∀fl f,gl.lookup ("!f":Str)=some (.names fl)->f∈fl->∀c,(o.init c).isSome=true->Cls K (W.CT c)/\NoAttr K (W.CT c) (strV f)
 ini:∀c f,o.init c=some f->∃fa fd ps np,Mk K (W.CT c) fa/\ClsFn K (W.CT c) "__init__" fa/\Binds K fd ps []/\(∀s a d,o.ini f s a=.ok d->a.length+1=np)/\((∀s a,o.ini f s a=.stuck)\/∃j,j+1<=k/\FnOk P w K mg base CX0 j fa fd ps (spI W (o.ini f) np))
 mt:∀c m f,o.meth c m=some f->∃np fa fd ps,Cls K (W.CT c)/\Meth K (W.CT c) (strV m) fa/\Binds K fd ps []/\(∀ds r,o.fn f ds=.ok r->ds.length=np)/\FnOk P w K mg base CX0 k fa fd ps (spFn W (o.fn f) np)
structure Fits(X:Cx)(W:Wd)(tc:Tc)(o:Orc)(k:Nat):Prop where
 N:X.N=tc.N
 nd:tc.N.Nodup
 sc:X.env.scope=tc.sc
 K:W.K=X.K
 room:Room k X.A
 calm:X.calm=true
 gf:∀x i np,tc.gl.lookup x=some (.fn i np)->∃f fd ps,X.mg x=some (.ref f)/\PySem.W.keepIn X.K (.ref f)=true/\Binds X.K fd ps []/\FnOk X.prog X.w X.K X.mg X.base CX0 k f fd ps (spFn W (o.fn i) np)
 gb:∀x,x∈cF->tc.gl.lookup x=none->X.mg x=none
 gv:∀x d,tc.gl.lookup x=some (.val d)->∃u v,X.mg x=some u/\RelV v u/\∀G,Rep W G d v
 gd:∀x ks vs,tc.gl.lookup x=some (.dct ks vs)->∃ad,X.mg x=some (.ref ad)/\KDct X.prog X.w W ad ks vs
 xf:XFacts X.K X.mg W o.sub (clOf tc.gl)
 ob:ObjFacts X.prog X.w X.K X.mg X.base W tc.gl o k
theorem Fits.comp{X:Cx}{W:Wd}{tc:Tc}{o:Orc}{k:Nat}(F:Fits X W tc o k){scope:Scope}{N:List Str}(hN:N.Nodup)(fp:List Addr)(pins:List (Addr×Obj))(s:Shared)(H:Hp):Fits (cxC X scope N fp pins s H) W ⟨N,eO scope tc.sc,tc.gl⟩ o k where
 N:=rfl
 nd:=hN
 sc:=by
  show relabel scope X.env=_;rw[<-F.sc]
  rfl
 K:=F.K
 room:=F.room
 calm:=F.calm
 gf:=F.gf
 gb:=F.gb
 gv:=F.gv
 gd:=F.gd
 xf:=F.xf
 ob:=F.ob
theorem xT{f:Expr->Option T}{o:Orc}:∀{es:List Expr} {l:TL},trL f es=some l->∀δ r,evL o δ l=.ok r->r.2.length=es.length
 | [],l,h,δ,r,e=>by
   simp only[trL,Option.some.injEq]at h;subst h;simp only[evL]at e;cases e;rfl
 | x::es,l,h,δ,r,e=>by
   simp only[trL]at h
   cases e1:f x with
   | none=>rw[e1]at h;cases h
   | some t=>
     rw[e1]at h
     cases e2:trL f es with
     | none=>simp[e2]at h
     | some l'=>
       simp[e2]at h;subst h;simp only[evL]at e
       cases e3:ev o δ (bM δ t) t with
       | ok y=>
         rw[e3]at e
         cases e4:evL o δ l' with
         | ok z=>
           simp only[e4,R.bind]at e;cases e;simp[xT e2 δ z e4]
         | exc c=>simp only[e4,R.bind]at e;cases e
         | stuck=>simp only[e4,R.bind]at e;cases e
       | exc c=>rw[e3]at e;cases e
       | stuck=>rw[e3]at e;cases e
theorem fj{es:List Expr}{env:Env}{pos:Pos}(h:es.any aA=false):(backTo pos (starEach es env)).any (·.1)=false:=by
 induction es with
 | nil=>rfl
 | cons e es ih=>
   simp only[List.any_cons,Bool.or_eq_false_iff]at h;rw[bV h.1];show(false||(backTo pos (starEach es env)).any (·.1))=false;rw[ih h.2];rfl
section
variable{X:Cx}{W:Wd}{tc:Tc}{o:Orc}{k:Nat}
theorem gn{e:Expr}{t:T}{lk:Bool}{f:Dst->R (Bool×D)}(h:PE X e (tD X W lk f))(hf:∀δ,f δ=ev o δ lk t):PE X e (tD X W lk fun δ=>ev o δ lk t):=by
 have:f=fun δ=>ev o δ lk t:=funext hf
 rw[<-this];exact h
theorem z8{e:Expr}{t:T}{f:Dst->R (Bool×D)}(h:PT X e (tT X W f))(hf:∀δ,f δ=ev o δ true t):PT X e (tT X W fun δ=>ev o δ true t):=by
 have:f=fun δ=>ev o δ true t:=funext hf
 rw[<-this];exact h
theorem dY{x:Str}(F:Fits X W tc o k)(h:visB tc.sc x=true):Vis X.env.scope x/\(x==("__debug__":Str))=false/\(x==("__classdict__":Str))=false:=by
 unfold visB at h;simp only[Bool.and_eq_true,Bool.not_eq_true']at h;refine⟨?_,h.1.2,h.2⟩;rw[F.sc];unfold Vis;have h1:=h.1.1;split at h1
 ·rename_i e;exact .inl e
 ·rename_i e;exact .inr (.inl e)
 ·rename_i e;exact .inr (.inr e)
 ·cases h1
theorem eE{f:Expr->Option T}(hf:∀e t,f e=some t->∀lk,PE X e (tD X W lk fun δ=>ev o δ lk t)):∀{es:List Expr} {l:TL},trL f es=some l->es.any aA=false->PA X es (tL X W fun δ=>evL o δ l)
 | [],l,h,_=>by
   simp only[trL,Option.some.injEq]at h;subst h;exact Jl o
 | x::es,l,h,hs=>by
   simp only[trL]at h;simp only[List.any_cons,Bool.or_eq_false_iff]at hs
   cases e1:f x with
   | none=>rw[e1]at h;cases h
   | some t=>
     rw[e1]at h
     cases e2:trL f es with
     | none=>simp[e2]at h
     | some l'=>
       simp[e2]at h;subst h;exact Gz (hf x t e1) (eE hf e2 hs.2) (bV hs.1)
noncomputable def Bl(x:R (Bool×D)):Prop:=∀r,x=.ok r->∃b,r=(false,.bl b)
theorem Ed{b:Bool}:Bl (.ok (false,.bl b)):=fun _ h=>by cases h;exact⟨_,rfl⟩
theorem u0:Bl .stuck:=fun _ h=>nomatch h
theorem K9{x:Option Bool}{f:Bool->Bool}:Bl (.of (x.map fun t=>(false,.bl (f t)))):=by cases x<;>first | exact u0 | exact Ed
theorem ym{p:O2}(hp:p=.eq\/p=.ne\/p=.lt\/p=.le\/p=.gt\/p=.ge\/p=.is\/p=.isnot):∀x y r,o2 p x y=.ok r->∃b,r=(false,.bl b):=by
 intro x y;show Bl (o2 p x y);rcases hp with rfl | rfl | rfl | rfl | rfl | rfl | rfl | rfl
 ·exact K9 (f:=id)
 ·exact K9 (f:=not)
 iterate 4
  ·cases x<;>first | exact u0 | (cases y<;>first | exact u0 | exact Ed)
 iterate 2
  ·cases y<;>first | exact u0 | (cases x<;>first | exact Ed | exact u0)
theorem K5(F:Fits X W tc o k){a b:Expr}{op:Operator}{p:O2}{ta tb:T}{pos:Pos}(h:trOp op=some p)(ha:PE X a (tD X W true fun δ=>ev o δ true ta))(hb:PE X b (tD X W true fun δ=>ev o δ true tb))(lk:Bool) :
 PE X (.BinOp a op b pos) (tD X W lk fun δ=>ev o δ lk (.op2 p ta tb)):=by
 have fin:∀{r:R2},OpR X (binaryOp op) r->Sem2 W r (o2 p)->PE X (.BinOp a op b pos) (tD X W lk fun δ=>ev o δ lk (.op2 p ta tb)):=fun h1 h2=>gn (M8 h1 h2 (kY p) ha hb) fun δ=>by simp only[ev]
 cases op<;>simp[trOp]at h<;>subst h
 ·exact fin uO (GR F.K)
 ·exact fin Im GQ
 ·exact fin Hi DQ
 ·exact fin Hg Ht
 ·exact fin Hx Gi
 ·exact fin zM yH
theorem Jh(F:Fits X W tc o k){a b:Expr}{op:CmpOp}{p:O2}{ta tb:T}{pos:Pos}(h:yu op=some p)(hm:behindInMarks op b=false)(ha:PE X a (tD X W true fun δ=>ev o δ true ta))(hb:PE X b (tD X W true fun δ=>ev o δ true tb)) :
 (∀lk,PE X (.Compare a [op] [b] pos) (tD X W lk fun δ=>ev o δ lk (.op2 p ta tb)))/\PT X (.Compare a [op] [b] pos) (tT X W fun δ=>ev o δ true (.op2 p ta tb)):=by
 have fin:∀{r:R2},OpR X (compareOp op) r->Sem2 W r (o2 p)->(∀x y r,o2 p x y=.ok r->∃b,r=(false,.bl b)) ->
  (∀lk,PE X (.Compare a [op] [b] pos) (tD X W lk fun δ=>ev o δ lk (.op2 p ta tb)))/\PT X (.Compare a [op] [b] pos) (tT X W fun δ=>ev o δ true (.op2 p ta tb)):=fun h1 h2 h4=>
  ⟨fun lk=>gn (Nm h1 h2 (kY p) ha hb hm) fun δ=>by simp only[ev],z8 (Je h1 h2 (kY p) h4 ha hb hm) fun δ=>by simp only[ev]⟩
 cases op<;>simp[yu]at h<;>subst h
 ·exact fin MK Ka (ym (by simp))
 ·exact fin Lq K4 (ym (by simp))
 ·exact fin yP J0 (ym (by simp))
 ·exact fin Lr HY (ym (by simp))
 ·obtain⟨h1,h2⟩:=d_in (pos:=pos) F.K (uh F.room) ha hb hm
  exact⟨fun lk=>gn (h1 lk) fun δ=>by simp only[ev],z8 h2 fun δ=>by simp only[ev]⟩
 ·obtain⟨h1,h2⟩:=Ft (pos:=pos) F.K (uh F.room) ha hb hm
  exact⟨fun lk=>gn (h1 lk) fun δ=>by simp only[ev],z8 h2 fun δ=>by simp only[ev]⟩
end
end Z
namespace Z
open PySem PySem.Spec PyProof.Rows L2
theorem Ng(hft:vZ=true){X:Cx}{W:Wd}{o:Orc}{ks:List (Option Expr)}{vs:List Expr}{t:T}{pos:Pos}(h:KJ ks vs=some t)(lk:Bool):PE X (.Dict ks vs pos) (tD X W lk fun δ=>ev o δ lk t):=absurd hft (by decide)
end Z
namespace Z
open PySem PySem.Spec PyProof.Rows L2
section
variable{X:Cx}{W:Wd}{tc:Tc}{o:Orc}{k:Nat}
noncomputable def Right(X:Cx)(W:Wd)(o:Orc)(e:Expr)(t:T):Prop:=(∀lk,PE X e (tD X W lk fun δ=>ev o δ lk t))/\PT X e (tT X W fun δ=>ev o δ true t)
theorem Bb(δ:Dst)(lk:Bool)(a b:T):((ev o δ true a).bind fun x=>andD x.2 (ev o δ true b))=ev o δ lk (.and a b):=by
 simp only[ev]
 rfl
theorem kJ(δ:Dst)(lk:Bool)(a b:T):((ev o δ true a).bind fun x=>orD x.2 (ev o δ true b))=ev o δ lk (.or a b):=by
 simp only[ev]
 rfl
theorem qK{f:Expr->Option T}{pos:Pos}(hf:∀e t,f e=some t->Right X W o e t):∀{vs:List Expr} {t:T},trB f .and vs=some t ->
 (∀lk,PE X (.BoolOp .And vs pos) (tD X W lk fun δ=>ev o δ lk t))/\PW X (.BoolOp .And vs pos) (tT X W fun δ=>ev o δ true t)
 | [],t,h=>by simp[trB]at h
 | [e],t,h=>by
   simp only[trB]at h;exact⟨fun lk=>KR ((hf e t h).1 lk),Ci (hf e t h).2⟩
 | e::e'::es,t,h=>by
   simp only[trB]at h
   cases e1:f e with
   | none=>rw[e1]at h;cases h
   | some u=>
     rw[e1]at h
     cases e2:trB f .and (e'::es)with
     | none=>simp[e2]at h
     | some v=>
       simp[e2]at h;subst h;obtain⟨h1,h2⟩:=qK hf e2
       exact⟨fun lk=>gn (Nk ((hf e u e1).1 true) (h1 true)) fun δ=>Bb δ lk u v,by
        have:=Jt (hf e u e1).2 h2;rw[show(fun δ=>(ev o δ true u).bind fun x=>andD x.2 (ev o δ true v))=fun δ=>ev o δ true (.and u v)from funext fun δ=>Bb δ true u v]at this
        exact this⟩
theorem xU{f:Expr->Option T}{pos:Pos}(hf:∀e t,f e=some t->Right X W o e t):∀{vs:List Expr} {t:T},trB f .or vs=some t ->
 (∀lk,PE X (.BoolOp .Or vs pos) (tD X W lk fun δ=>ev o δ lk t))/\PW X (.BoolOp .Or vs pos) (tT X W fun δ=>ev o δ true t)
 | [],t,h=>by simp[trB]at h
 | [e],t,h=>by
   simp only[trB]at h;exact⟨fun lk=>KR ((hf e t h).1 lk),Ci (hf e t h).2⟩
 | e::e'::es,t,h=>by
   simp only[trB]at h
   cases e1:f e with
   | none=>rw[e1]at h;cases h
   | some u=>
     rw[e1]at h
     cases e2:trB f .or (e'::es)with
     | none=>simp[e2]at h
     | some v=>
       simp[e2]at h;subst h;obtain⟨h1,h2⟩:=xU hf e2
       exact⟨fun lk=>gn (d_or ((hf e u e1).1 true) (h1 true)) fun δ=>kJ δ lk u v,by
        have:=Ls (hf e u e1).2 h2;rw[show(fun δ=>(ev o δ true u).bind fun x=>orD x.2 (ev o δ true v))=fun δ=>ev o δ true (.or u v)from funext fun δ=>kJ δ true u v]at this
        exact this⟩
theorem aK{e:Expr}{t:T}(h:∀lk,PE X e (tD X W lk fun δ=>ev o δ lk t))(he:∀whole,isTrue e X.env whole=(do let v <-whole;standAt e.pos;holding [v] (truthy v))):Right X W o e t:=⟨h,Ku (h true) he⟩
theorem BL{f:Expr->Option T}(hf:∀e t,f e=some t->Right X W o e t){e:Option Expr}{t:T}(h:oZ f e=some t):IsO t e X W o:=by
 cases e with
 | none=>
   simp only[oZ,Option.some.injEq]at h;exact .inl ⟨rfl,h.symm⟩
 | some e=>
   simp only[oZ]at h
   cases e1:f e with
   | none=>rw[e1]at h;cases h
   | some u=>
     rw[e1]at h;simp only[Option.bind_some]at h;split at h
     ·cases h
     ·rename_i hne
      cases h;exact .inr ⟨e,rfl,fun z=>hne z,(hf e t e1).1⟩
theorem jB(F:Fits X W tc o k){x:Str}(h:glB tc.sc x=true):Gl X x:=by
 unfold glB at h;have:=of_decide_eq_true h;show X.env.scope.names.lookup x=_;rw[F.sc];exact this
theorem Di{y:Str}{ty:Ty}(h:trTy y=some ty):∃T,cG ty=some T/\bootBuiltins y=some (.type T)/\y≠"__name__"/\(y==("__debug__":Str))=false/\y∈cF:=by
 unfold trTy at h;split at h
 ·rename_i e;cases h;subst e;exact⟨"int",rfl,by kernel_rfl,by decide +kernel,by decide +kernel,by decide +kernel⟩
 ·split at h
  ·rename_i e;cases h;subst e;exact⟨"bool",rfl,by kernel_rfl,by decide +kernel,by decide +kernel,by decide +kernel⟩
  ·split at h
   ·rename_i e;cases h;subst e;exact⟨"str",rfl,by kernel_rfl,by decide +kernel,by decide +kernel,by decide +kernel⟩
   ·split at h
    ·rename_i e;cases h;subst e;exact⟨"tuple",rfl,by kernel_rfl,by decide +kernel,by decide +kernel,by decide +kernel⟩
    ·split at h
     ·rename_i e;cases h;subst e;exact⟨"list",rfl,by kernel_rfl,by decide +kernel,by decide +kernel,by decide +kernel⟩
     ·split at h
      ·rename_i e;cases h;subst e;exact⟨"dict",rfl,by kernel_rfl,by decide +kernel,by decide +kernel,by decide +kernel⟩
      ·cases h
set_option maxHeartbeats 1000000 in
theorem Kv(F:Fits X W tc o k){x:Str}{b:B1}{a:Expr}{u:T}{p pos:Pos}{lk:Bool}(h:fn1 x=some b)(hg:Gl X x)(e:tc.gl.lookup x=none)(ha:PE X a (tD X W true fun δ=>ev o δ true u))(hst:aA a=false) :
 PE X (.Call (.Name x p) [a] [] pos) (tD X W lk fun δ=>ev o δ lk (.b1 b u)):=by
 have fb:∀{id:String} {r:List V->Hp->VK->Prop},CallR X (.builtin id) r->Sem1 W r (b1D b)->bootBuiltins x=some (.builtin id)->x≠"__name__"->(x==("__debug__":Str))=false->x∈cF->PE X (.Call (.Name x p) [a] [] pos) (tD X W lk fun δ=>ev o δ lk (.b1 b u)) :=
  fun h1 h2 h3 h4 h5 h6=>gn (d_b1 h1 h2 (gY b) hg (F.gb _ h6 e) h3 ha h4 h5 (bV hst)) fun δ=>by simp only[ev]
 have ft:∀{id:String} {r:List V->Hp->VK->Prop},CallR X (.type id) r->Sem1 W r (b1D b)->bootBuiltins x=some (.type id)->x≠"__name__"->(x==("__debug__":Str))=false->x∈cF->PE X (.Call (.Name x p) [a] [] pos) (tD X W lk fun δ=>ev o δ lk (.b1 b u)) :=
  fun h1 h2 h3 h4 h5 h6=>gn (Nb h1 h2 (gY b) hg (F.gb _ h6 e) h3 ha h4 h5 (bV hst)) fun δ=>by simp only[ev]
 unfold fn1 at h;split at h
 ·rename_i ex;subst ex;cases h
  exact fb yO FW PyProof.Rows.boot_abs (by decide +kernel) (by decide +kernel) (by decide +kernel)
 split at h
 ·rename_i ex;subst ex;cases h
  exact fb (CallR.or (CallR.or mG nF) uJ) (Gy F.K) PySem.boot_len (by decide +kernel) (by decide +kernel) (by decide +kernel)
 split at h
 ·rename_i ex;subst ex;cases h
  exact ft lF (xG F.K) (by kernel_rfl) (by decide +kernel) (by decide +kernel) (by decide +kernel)
 split at h
 ·rename_i ex;obtain⟨rfl,hq⟩:=ex;cases h
  obtain⟨r,c1,c2⟩:=f_list (X:=X) (W:=W) hq F.K F.calm;exact ft c1 c2 (by kernel_rfl) (by decide +kernel) (by decide +kernel) (by decide +kernel)
 split at h
 ·rename_i ex;obtain⟨rfl,hq⟩:=ex;cases h
  obtain⟨r,c1,c2⟩:=Io (X:=X) (W:=W) hq F.K F.calm;exact ft c1 c2 (by kernel_rfl) (by decide +kernel) (by decide +kernel) (by decide +kernel)
 split at h
 ·rename_i ex;obtain⟨rfl,hq⟩:=ex;cases h
  obtain⟨r,c1,c2⟩:=Lh (X:=X) (W:=W) hq F.K F.calm;exact fb c1 c2 (by kernel_rfl) (by decide +kernel) (by decide +kernel) (by decide +kernel)
 split at h
 ·rename_i ex;obtain⟨rfl,hq⟩:=ex;cases h
  obtain⟨r,c1,c2⟩:=Lk (X:=X) (W:=W) hq F.K F.calm;exact fb c1 c2 (by kernel_rfl) (by decide +kernel) (by decide +kernel) (by decide +kernel)
 split at h
 ·rename_i ex;obtain⟨rfl,hq⟩:=ex;cases h
  obtain⟨r,c1,c2⟩:=Mx (X:=X) (W:=W) hq F.K F.calm;exact fb c1 c2 (by kernel_rfl) (by decide +kernel) (by decide +kernel) (by decide +kernel)
 split at h
 ·rename_i ex;obtain⟨rfl,hq⟩:=ex;cases h
  obtain⟨r,c1,c2⟩:=z7 (X:=X) (W:=W) hq F.K F.calm;exact fb c1 c2 PyProof.Rows.boot_sorted (by decide +kernel) (by decide +kernel) (by decide +kernel)
 split at h
 ·rename_i ex;obtain⟨rfl,hq⟩:=ex;cases h
  obtain⟨r,c1,c2⟩:=LC (X:=X) (W:=W) hq F.K F.calm;exact ft c1 c2 (by kernel_rfl) (by decide +kernel) (by decide +kernel) (by decide +kernel)
 split at h
 ·rename_i ex;obtain⟨rfl,hq⟩:=ex;cases h
  obtain⟨r,c1,c2⟩:=f_int (X:=X) (W:=W) hq F.K F.calm;exact ft c1 c2 (by kernel_rfl) (by decide +kernel) (by decide +kernel) (by decide +kernel)
 ·cases h
theorem Dv(F:Fits X W tc o k){x:Str}{b:B1}{a:Expr}{u:T}{p pos:Pos}{lk:Bool}(h:fn1x x=some b)(hg:Gl X x)(e:tc.gl.lookup x=none)(ha:PE X a (tD X W true fun δ=>ev o δ true u))(hst:aA a=false) :
 PE X (.Call (.Name x p) [a] [] pos) (tD X W lk fun δ=>ev o δ lk (.b1 b u)):=by
 unfold fn1x at h;split at h
 ·rename_i b' e0
  cases h;exact Kv F e0 hg e ha hst
 ·split at h
  ·rename_i ex
   obtain⟨rfl,hq⟩:=ex;cases h;obtain⟨r,c1,c2⟩:=J1 (X:=X) (W:=W) hq F.K F.calm
   exact gn (d_b1 c1 c2 (gY _) hg (F.gb _ (by decide +kernel) e) (by kernel_rfl) ha (by decide +kernel) (by decide +kernel) (bV hst)) fun δ=>by simp only[ev]
  ·cases h
theorem qp{e:Expr}{lk:Bool}{f:Dst->R (Bool×D)}(h:∀δ,(∃c,f δ=.exc c)\/f δ=.stuck):PE X e (tD X W lk f):=fun pins s σ H Q I hw=>by
 obtain⟨me,B,δ,S,q⟩:=tD_iff.mp hw;rcases h δ with⟨c,e⟩ | e<;>(rw[e]at q;exact q.elim)
theorem Mq(F:Fits X W tc o k){x:Str}{c:Nat}{a:Expr}{as:List Expr}{l:TL}{p pos:Pos}(e:tc.gl.lookup x=some (.ocl c))(hg:Gl X x)(hdb:(x==("__debug__":Str))=false)(ha:PA X (a::as) (tL X W fun δ=>evL o δ l))
 (he:starEach (a::as) X.env=(false,eval a X.env)::starEach as X.env) (hpl:(backTo pos (starEach as X.env)).any (·.1)=false) (lk:Bool):PE X (.Call (.Name x p) (a::as) [] pos) (tD X W lk fun δ=>ev o δ lk (.mk c l)):=by
 have hcl:nQ tc.gl x=some c:=by unfold nQ;rw[e]
 have hm:=F.ob.nm x c hcl
 have bad:(∀δ,(evL o δ l).bind (fun x=>(R.of (o.init c)).bind fun f=>R.chk (!x.1) ((o.ini f (.obj c [] []) x.2).bind fun d=>.ok (true,d)))=ev o δ lk (.mk c l)):=fun δ=>by simp only[ev]
 cases ei:o.init c with
 | none=>
   refine qp fun δ=>?_
   rw[<-bad δ,ei]
   cases evL o δ l with
   | ok y=>exact .inr rfl
   | exc c=>exact .inl ⟨c,rfl⟩
   | stuck=>exact .inr rfl
 | some f=>
   obtain⟨fa,fd,ps,np,h1,h2,h3,h4,h5⟩:=F.ob.ini c f ei;rcases h5 with h5 | ⟨j,hj,h5⟩
   ·refine qp fun δ=>?_
    rw[<-bad δ,ei]
    cases evL o δ l with
    | ok y=>
      simp only[R.bind,R.of,h5,R.chk]
      right
      split<;>rfl
    | exc c=>exact .inl ⟨c,rfl⟩
    | stuck=>exact .inr rfl
   ·exact d_mk ei h4 h1 h5 (F.room.mono hj) hg hm h3 ha hdb he hpl
theorem dH(x:Str):strV x.cps.toList=x:=by cases x;simp[strV]
theorem IK{a:Expr}{name:Str}{args:List Expr}{apos pos:Pos}{env:Env}(hb:plainBase a=true)(hst:args.any aA=false)(hn:args.length<20)(hline:(apos.endLine==pos.line)=true) :
 eval (.Call (.Attribute a name apos) args [] pos) env=(do
  let ov <-eval a env
  standAt apos.atName
  let(f,first) <-holding [ov] (getMethod ov name (do return (<-importBound a env).getD true))
  callWith pos f first (backTo pos (starEach args env)) (backToKw pos (keywordEach [] env))):=by
 have hs:=fj (es:=args) (env:=env) (pos:=pos) hst
 have hform:methodCallForm (args.length+([]:List Keyword).length) (backTo pos (starEach args env)) (backToKw pos (keywordEach [] env))=true:=by
  unfold methodCallForm
  have h1:(backTo pos (starEach args env)).all (fun x=>!x.1)=true:=by
   rw[List.all_eq_true];intro x hx;rw[List.any_eq_false]at hs;have:=hs x hx;simpa using this
  rw[h1];show(true&&true&&decide (args.length+0+0<30))=true;simp;omega
 have hpos:methodCallPos true a env apos pos=pure pos:=by unfold methodCallPos;simp[hline]
 rw[arm_eval_Call,cT hb];unfold methodCall;rw[hform,hpos];unfold calleeOf;simp only[if_true,pure_bind]
theorem Jy(F:Fits X W tc o k){f:Expr->Option T}(hf:∀e t,f e=some t->Right X W o e t){a:Expr}{name:Str}{args:List Expr}{ok:Bool}{t:T}{apos cpos:Pos}(h:G5 f a name args ok=some t)(hok:ok=(apos.endLine==cpos.line))(lk:Bool) :
 PE X (.Call (.Attribute a name apos) args [] cpos) (tD X W lk fun δ=>ev o δ lk t):=by
 unfold G5 at h;split at h
 ·rename_i hc
  simp only[Bool.and_eq_true,Bool.not_eq_true',decide_eq_true_eq]at hc;obtain⟨⟨⟨h1,h2⟩,hst⟩,hn⟩:=hc;rw[hok]at h1
  cases e1:f a with
  | none=>rw[e1]at h;cases h
  | some ta=>
  cases e2:trL f args with
  | none=>simp[e1,e2]at h
  | some l=>
  simp[e1,e2]at h;subst h
  have hM:∀c g,o.meth c name.cps.toList=some g->∃np,MtOk X W o k c g np name:=fun c g e=>by
   obtain⟨np,fa,fd,ps,z⟩:=F.ob.mt c _ g e;rw[dH]at z;exact⟨np,fa,fd,ps,z⟩
  have ht:=IK (name:=name) (env:=X.env) h2 hst hn h1
  cases args with
  | nil=>
    simp only[trL,Option.some.injEq]at e2;subst e2;exact CK (dH name).symm hM F.room (fun lk=>(hf a ta e1).1 lk) ht
  | cons b bs=>
    have hst':=hst;simp only[List.any_cons,Bool.or_eq_false_iff]at hst';exact HD (dH name).symm hM F.room (fun lk=>(hf a ta e1).1 lk) (eE (fun e t h=>(hf e t h).1) e2 hst) (bV hst'.1) (fj hst'.2) ht
 ·cases h
theorem mY(F:Fits X W tc o k){name:Str}(h:(namesOf tc "!f").contains name.cps.toList=true):∀c,(o.init c).isSome=true->Cls X.K (W.CT c)/\NoAttr X.K (W.CT c) name:=fun c hc=>by
 unfold namesOf at h;split at h
 ·rename_i l e
  have:=F.ob.fld l name.cps.toList e (by simpa using h) c hc;rw[dH]at this;exact this
 ·simp at h
theorem Gr(F:Fits X W tc o k){f:Expr->Option T}(hf:∀e t,f e=some t->∀lk,PE X e (tD X W lk fun δ=>ev o δ lk t)){x:Str}{a:Expr}{t:T}{p pos:Pos}(h:trSS tc f x a=some t)(hg:Gl X x)(e:tc.gl.lookup x=none)(lk:Bool):PE X (.Call (.Name x p) [a] [] pos) (tD X W lk fun δ=>ev o δ lk t):=by
 unfold trSS at h;split at h
 ·split at h
  ·rename_i hc
   obtain⟨rfl,hq,rfl,h1,h2,h3⟩:=hc;obtain⟨u,e1,rfl⟩:=Option.map_eq_some_iff.mp h
   exact gn (KH hq F.K F.calm hg (F.gb _ (by decide +kernel) e) (jB F h1) (F.gb _ (by decide +kernel) (by simpa using h2)) (hf _ u e1 true) h3) fun δ=>by simp only[ev]
  ·cases h
 ·cases h
theorem Ei(F:Fits X W tc o k){f:Expr->Option T}(hf:∀e t,f e=some t->Right X W o e t){x:Str}{args:List Expr}{t:T}{p pos:Pos}(h:vU tc f x args=some t)(lk:Bool) :
 PE X (.Call (.Name x p) args [] pos) (tD X W lk fun δ=>ev o δ lk t):=by
 unfold vU at h;split at h
 ·rename_i hc
  simp only[Bool.and_eq_true,Bool.not_eq_true']at hc;obtain⟨⟨hg,hdb⟩,hst⟩:=hc;have hg:=jB F hg;split at h
  ·rename_i i np e
   split at h
   ·rename_i hn
    cases e1:trL f args with
    | none=>rw[e1]at h;cases h
    | some l=>
      rw[e1]at h;cases h;obtain⟨fa,fd,ps,h1,h2,h3,h4⟩:=F.gf x i np e
      cases args with
      | nil=>exact absurd rfl hn.2
      | cons a as=>
        have hst':=hst;simp only[List.any_cons,Bool.or_eq_false_iff]at hst';exact Kq (fun δ r e=>by rw[xT e1 δ r e];exact hn.1) h4 F.room hg h1 h2 h3 (eE (fun e t h=>(hf e t h).1) e1 hst) hdb (bV hst'.1) (fj hst'.2)
   ·cases h
  ·rename_i c e
   split at h
   ·rename_i hn
    cases e1:trL f args with
    | none=>rw[e1]at h;cases h
    | some l=>
      rw[e1]at h;cases h
      cases args with
      | nil=>exact absurd rfl hn
      | cons a as=>
        have hst':=hst;simp only[List.any_cons,Bool.or_eq_false_iff]at hst';exact Mq F e hg hdb (eE (fun e t h=>(hf e t h).1) e1 hst) (bV hst'.1) (fj hst'.2) lk
   ·cases h
  ·cases h
  ·rename_i e
   split at h
   ·rename_i a
    simp only[List.any_cons,List.any_nil,Bool.or_false]at hst
    cases e00:trSS tc f x a with
    | some t'=>
      rw[e00]at h;cases h;exact Gr F (fun e t h=>(hf e t h).1) e00 hg e lk
    | none=>
    rw[e00]at h;dsimp only at h
    cases e0:fn1x x with
    | none=>rw[e0]at h;cases h
    | some b=>
      rw[e0]at h
      cases e1:f a with
      | none=>simp[e1]at h
      | some u=>
        simp[e1]at h;subst h;exact Dv F e0 hg e ((hf a u e1).1 true) hst
   ·rename_i a b
    simp only[List.any_cons,List.any_nil,Bool.or_false,Bool.or_eq_false_iff]at hst;split at h
    ·rename_i ex
     obtain⟨rfl,hq⟩:=ex
     cases e1:f a with
     | none=>rw[e1]at h;cases h
     | some u=>
       cases e2:f b with
       | none=>simp[e1,e2]at h
       | some u2=>
         simp[e1,e2]at h;subst h;exact Ke hq F.calm hg (F.gb _ (by decide +kernel) e) ((hf a u e1).1 true) ((hf b u2 e2).1 true) hst.1 hst.2
    split at h
    ·rename_i ex
     obtain⟨rfl,hq⟩:=ex
     cases e1:f a with
     | none=>rw[e1]at h;cases h
     | some u=>
       cases e2:f b with
       | none=>simp[e1,e2]at h
       | some u2=>
         simp[e1,e2]at h;subst h;exact HS hq F.calm hg (F.gb _ (by decide +kernel) e) ((hf a u e1).1 true) ((hf b u2 e2).1 true) hst.1 hst.2
    ·split at h
     ·rename_i y py
      split at h
      ·rename_i hc2
       obtain⟨ex,hgy,hly⟩:=hc2;subst ex;split at h
       ·cases h
       cases e1:f a with
       | none=>rw[e1]at h;cases h
       | some u=>
         rw[e1]at h
         cases e2:trTy y with
         | none=>simp[e2]at h
         | some ty=>
           simp[e2]at h;subst h;obtain⟨T,hT,hb,hn,hd,hm⟩:=Di e2
           have hly:tc.gl.lookup y=none:=by simpa using hly
           exact gn (Ia (o:=o) F.K hT hg (F.gb _ (by decide +kernel) e) (jB F hgy) (F.gb _ hm hly) hb hn hd ((hf a u e1).1 true) (bV hst.1)) fun δ=>by simp only[ev]
      ·cases h
     ·cases h
   ·cases h
 ·cases h
theorem Hn(F:Fits X W tc o k){f:Expr->Option T}(hf:∀e t,f e=some t->Right X W o e t){x:Str}{a b:Expr}{t:T}{p pos kp:Pos}(h:tW tc f x a b=some t)(lk:Bool):PE X (.Call (.Name x p) [a] [⟨some "default",b,kp⟩] pos) (tD X W lk fun δ=>ev o δ lk t):=by unfold tW at h;cases h
theorem Dd(F:Fits X W tc o k){f:Expr->Option T}(hf:∀e t,f e=some t->Right X W o e t){a:Expr}{name:Str}{args:List Expr}{ok:Bool}{t:T}{apos cpos:Pos}(h:uR f a name args ok=some t)(hok:ok=(apos.endLine==cpos.line))(lk:Bool) :
 PE X (.Call (.Attribute a name apos) args [] cpos) (tD X W lk fun δ=>ev o δ lk t):=by
 unfold uR at h;split at h
 ·rename_i hc
  simp only[Bool.and_eq_true,Bool.not_eq_true']at hc;obtain⟨⟨h1,h2⟩,hst⟩:=hc;rw[hok]at h1;split at h
  ·rename_i b
   simp only[List.any_cons,List.any_nil,Bool.or_false]at hst;split at h
   ·rename_i ex
    obtain⟨rfl,hq⟩:=ex
    cases e1:f a with
    | none=>rw[e1]at h;cases h
    | some ta=>
      cases e2:f b with
      | none=>simp[e1,e2]at h
      | some tb=>
        simp[e1,e2]at h;subst h;exact HW hq F.K ((hf a ta e1).1 true) ((hf b tb e2).1 true) h2 hst h1
   ·split at h
    ·rename_i ex
     obtain⟨rfl,hq⟩:=ex
     cases e1:f a with
     | none=>rw[e1]at h;cases h
     | some ta=>
       cases e2:f b with
       | none=>simp[e1,e2]at h
       | some tb=>
         simp[e1,e2]at h;subst h;exact DG hq ((hf a ta e1).1 true) ((hf b tb e2).1 true) h2 hst h1
    ·cases h
  ·rename_i b c
   simp only[List.any_cons,List.any_nil,Bool.or_false,Bool.or_eq_false_iff]at hst;split at h
   ·rename_i ex
    obtain⟨rfl,hq⟩:=ex
    cases e1:f a with
    | none=>rw[e1]at h;cases h
    | some ta=>
      cases e2:f b with
      | none=>simp[e1,e2]at h
      | some tb=>
        cases e3:f c with
        | none=>simp[e1,e2,e3]at h
        | some tcc=>
          simp[e1,e2,e3]at h;subst h;exact JH hq (uh F.room) ((hf a ta e1).1 true) ((hf b tb e2).1 true) ((hf c tcc e3).1 false) (Ly h2 hst.1 hst.2 h1)
   ·cases h
  ·cases h
 ·cases h
theorem vI{e:Expr}{env:Env}(h:isSet e=false)(x:Value):foldedSetIterable e env x=pure x:=by
 cases e<;>first | rfl | (simp[isSet]at h)
theorem wC:("range":Str)∈cF:=by decide +kernel
theorem wg(F:Fits X W tc o k){f:Expr->Option T}(hf:∀e t,f e=some t->Right X W o e t){e:Expr}{it:TI}(tg:Expr)(h:trI tc f (o8 tg) e=some it)(lk:Bool):(∃wi,PI X tg e wi/\WalkL X W o lk it wi)/\∀x,foldedSetIterable e X.env x=pure x:=by
 have val:isSet e=false->(f e).map TI.val=some it->(∃wi,PI X tg e wi/\WalkL X W o lk it wi)/\∀x,foldedSetIterable e X.env x=pure x:=fun hs h=>by
  cases e1:f e with
  | none=>rw[e1]at h;cases h
  | some t=>
    rw[e1]at h;cases h;exact⟨NP F.K ((hf e t e1).1 lk),vI hs⟩
 unfold trI at h;split at h
 ·rename_i x px a pc
  split at h
  ·rename_i ex
   subst ex;split at h
   ·rename_i hc
    simp only[Bool.and_eq_true,Bool.not_eq_true',Option.isNone_iff_eq_none]at hc
    cases e1:f a with
    | none=>rw[e1]at h;cases h
    | some t=>
      rw[e1]at h;cases h;exact⟨Ko (jB F hc.1.1) (F.gb _ wC hc.1.2) ((hf a t e1).1 true) hc.2,fun _=>rfl⟩
   ·cases h
  ·split at h
   ·cases h
   ·exact val rfl h
 ·split at h
  ·cases h
  ·split at h
   ·cases h
   ·exact val rfl h
 ·split at h
  ·cases h
  ·exact val rfl h
 ·split at h
  ·cases h
  ·rename_i hs
   exact val (by simpa using hs) h
theorem Bu{scope:Scope}(h:blkB scope=true):Blk scope:=by
 unfold blkB at h;simp only[Bool.and_eq_true,decide_eq_true_eq,List.all_eq_true,Bool.or_eq_true,Bool.not_eq_true']at h;refine⟨h.1,fun y hy z=>?_,fun y hy z=>?_,fun y hy z=>?_⟩
 ·have:=(h.2 y hy).1.1
  rw[z]at this;cases this
 ·rcases(h.2 y hy).1.2 with q | q
  ·rw[z]at q;cases q
  ·exact q
 ·rcases(h.2 y hy).2 with q | q
  ·rw[z]at q;cases q
  ·exact q
theorem frees_mem{scope:Scope}{x:Str}:x∈frees scope↔(x,NameKind.free)∈scope.names:=by
 unfold frees
 constructor
 ·intro h
  obtain⟨y,hy,rfl⟩:=List.mem_map.mp h;obtain⟨h1,h2⟩:=List.mem_filter.mp hy
  have:y.2=.free:=by simpa using h2
  rw[<-this];exact h1
 ·exact fun h=>List.mem_map.mpr ⟨_,List.mem_filter.mpr ⟨h,by simp⟩,rfl⟩
theorem BR{X':Cx}{tl:List Str}(hN:X'.N.Nodup)(hloc:∀x∈tl,X'.env.scope.names.lookup x=some .local):∀{es:List Expr} {l:List Str} {i:Nat},jl es=some l->(∀(j:Nat) x,l[j]?=some x->X'.N[i+j]?=some x/\x∈tl) ->
 PGs X' es (dR (List.range' i l.length))/\(assignEach es X'.env).length=l.length/\(assignEach es X'.env).findIdx? (·.1)=none
 | [],l,i,h,_=>by
   simp only[jl,Option.some.injEq]at h;subst h;exact⟨xO,rfl,rfl⟩
 | e::es,l,i,h,hl=>by
   cases e<;>first | exact nope h | simp only[jl]at h
   rename_i x p
   cases e1:jl es with
   | none=>rw[e1]at h;cases h
   | some l'=>
     rw[e1]at h;cases h
     obtain⟨h1,h2,h3⟩:=BR hN hloc (i:=i+1) e1 fun j y hj=>by
      have:=hl (j+1) y (by simpa using hj);rw[show i+(j+1)=i+1+j by omega]at this;exact this
     obtain⟨k1,k2⟩:=hl 0 x rfl;rw[Nat.add_zero]at k1;have kl:=hloc x k2;refine⟨?_,?_,?_⟩
     ·rw[List.length_cons,List.range'_succ]
      exact rE (lB hN k1 (.inl kl) (.inr kl)) h1
     ·show(assignEach es X'.env).length+1=_
      rw[h2];rfl
     ·show List.findIdx? (·.1) ((false,assign (.Name x p) X'.env)::assignEach es X'.env)=none
      rw[List.findIdx?_cons,h3];rfl
theorem rZ{K:PySem.W.Frag}{n:Nat}:gTup K n (dR (List.range n))=gTup K (List.range n).length (dR (List.range n)):=by rw[List.length_range]
theorem u6(hx:X.xe=fun _ _=>False)(F:Fits X W tc o k){f:Tc->Expr->Option T}(hf:∀(X':Cx) (tc':Tc),(X'.xe=fun _ _=>False)->Fits X' W tc' o k->∀e t,f tc' e=some t->Right X' W o e t){elt tg iter:Expr}{ifs:List Expr}{scope:Scope}{t:T}(h:qP tc f elt tg iter ifs scope=some t) :
 ∃N m caps tup g it c e,t=.comp caps m tup it c e/\CompIn X W o scope N elt tg iter ifs m caps tup g it c e:=by
 unfold qP at h
 cases e1:pJ tg with
 | none=>rw[e1]at h;cases h
 | some q=>
 obtain⟨tn,tup⟩:=q;rw[e1]at h;simp only[Option.bind_some]at h;split at h
 ·rename_i hb
  cases e2:ixs tc.N (frees scope)with
  | none=>rw[e2]at h;cases h
  | some caps=>
  cases e3:trI tc (f tc) (o8 tg) iter with
  | none=>simp[e2,e3]at h
  | some it=>
  cases e4:wF (f ⟨tn++frees scope,eO scope tc.sc,tc.gl⟩) ifs with
  | none=>simp[e2,e3,e4]at h
  | some c=>
  cases e5:f ⟨tn++frees scope,eO scope tc.sc,tc.gl⟩ elt with
  | none=>simp[e2,e3,e4,e5]at h
  | some e=>
  simp[e2,e3,e4,e5]at h;subst h;unfold Jf at hb;simp only[Bool.and_eq_true,decide_eq_true_eq,List.all_eq_true,Bool.or_eq_true]at hb;obtain⟨⟨⟨b1,b2⟩,b3⟩,b4⟩:=hb
  have FC:=fun fp pins s H=>F.comp (scope:=scope) b2 fp pins s H
  obtain⟨⟨wi,hi1,hi2⟩,hs⟩:=wg F (fun e t h=>hf X tc hx F e t h) tg e3 true
  have hi:∃wi,PI X tg iter wi/\Gj X W o it wi:=⟨wi,hi1,hi2.comp⟩
  have hloc:∀(X0:Cx),X0.env=X.env->∀x∈tn,(relabel scope X.env).names.lookup x=some .local:=fun _ _ x hx=>lookup_relabel_local (b3 x hx)
  have hg:∃g,(∀fp pins s H,PG (cxC X scope (tn++frees scope) fp pins s H) tg g)/\(∀H0,TgR { X with H₀:=H0 } W (List.range tn.length) tup g)/\(tup=false->tn.length=1):=by
   cases tg<;>first | exact nope e1 | simp only[pJ]at e1
   ·rename_i x p
    cases e1;exact⟨tG 0,fun fp pins s H=>lB (X:=cxC X scope ([x]++frees scope) fp pins s H) b2 rfl (.inl (hloc X rfl x List.mem_cons_self)) (.inr (hloc X rfl x List.mem_cons_self)),fun H0=>yw,fun _=>rfl⟩
   ·rename_i es kk p
    cases e6:jl es with
    | none=>rw[e6]at e1;cases e1
    | some l=>
      rw[e6]at e1;cases e1;refine⟨gTup X.K tn.length (dR (List.range tn.length)),fun fp pins s H=>?_,fun H0=>?_,fun z=>by cases z⟩
      ·obtain⟨k1,k2,k3⟩:=BR (X':=cxC X scope (tn++frees scope) fp pins s H) (tl:=tn) b2 (hloc X rfl) (i:=0) e6 fun j x hj=>⟨by
        rw[Nat.zero_add];show(tn++frees scope)[j]?=some x
        rw[List.getElem?_append_left (List.getElem?_eq_some_iff.mp hj).1];exact hj,List.mem_of_getElem? hj⟩
       rw[<-List.range_eq_range']at k1;exact Cd (X:=cxC X scope (tn++frees scope) fp pins s H) F.calm k1 k2 k3
      ·rw[rZ]
       exact Hm (X:={ X with H₀:=H0 }) F.K
  obtain⟨g,g1,g2,g3⟩:=hg;refine⟨tn++frees scope,tn.length,caps,tup,g,it,c,e,rfl,F.K,hx,F.calm,Bu b1,⟨?_,fun j kk x hj hx=>?_,fun y hy hk=>?_⟩,g3,hi,g1,g2,fun fp pins s H=>?_,fun fp pins s H=>(hf (cxC X scope (tn++frees scope) fp pins s H) _ hx (FC fp pins s H) elt e e5).1 false,hs⟩
  ·rw[List.length_append,uN e2]
  ·obtain⟨y,y1,y2⟩:=xW e2 hj
   rw[List.getElem?_append_right (by omega),Nat.add_sub_cancel_left,y1]at hx;cases hx;have hm:=List.mem_of_getElem? y1;rw[F.N,F.sc];exact⟨y2,(Bu b1).fre _ (frees_mem.mp hm) rfl,b4 x hm⟩
  ·rw[F.sc]
   exact b4 y.1 (frees_mem.mpr (by rw[<-hk];exact hy))
  ·cases ifs with
   | nil=>
     simp only[wF,Option.some.injEq]at e4;subst e4
     refine PIf.imp GZ fun σ H' Q ⟨me,B,δ,S,q⟩=>?_
     simp only[ev,R.bind,truth,R.of]at q;exact q H' (Same.refl _)
   | cons c1 rest=>
     cases rest with
     | nil=>
       simp only[wF]at e4;exact Fg (hf (cxC X scope (tn++frees scope) fp pins s H) _ hx (FC fp pins s H) c1 c e4).2
     | cons _ _=>simp[wF]at e4
 ·cases h
theorem yL{c:Const}{d:D}{j:Nat}{pos:Pos}(h:gD c=some d)(lk:Bool):PE X (.Constant c j pos) (tD X W lk fun δ=>ev o δ lk (.cst d)):=by
 cases c<;>first | exact nope h | simp only[gD]at h
 ·cases h;exact uX JS (fun G=>by simp only[Rep]) o
 ·cases h;exact uX O5 (fun G=>by simp only[Rep]) o
 ·cases h;exact uX HB (fun G=>by simp only[Rep]) o
 ·split at h
  ·rename_i s hl
   cases h;refine uX Jq (fun G=>?_) o;simp only[Rep,strV];refine⟨trivial,?_⟩
   have:s.cps.toList.length=s.length:=by simp[Str.length]
   omega
  ·cases h
theorem Fj{b:Expr}(h:isSlice b=false):vh b:=fun o i=>by cases b<;>first | rfl | (simp[isSlice]at h)
theorem Lj{a b:Expr}{ta tb:T}{pos:Pos}(F:Fits X W tc o k)(ha:PE X a (tD X W true fun δ=>ev o δ true ta))(hb:PE X b (tD X W true fun δ=>ev o δ true tb))(hs:isSlice b=false)(lk:Bool) :
 PE X (.Subscript a b pos) (tD X W lk fun δ=>ev o δ lk (.idx ta tb)):=by
 have nosl:NoSl b:=by intro x y;cases b<;>first | rfl | (simp[isSlice]at hs)
 refine PE.imp (PE.or (O4 JN ha hb (Fj hs)) (GD (uh F.room) ha hb nosl)) fun σ H Q h=>?_
 obtain⟨me,B,δ,S,h⟩:=tD_iff.mp h;simp only[ev]at h
 by_cases hd:∃r ks vs,ev o δ true ta=.ok r/\r.2=.dct ks vs
 ·obtain⟨r,ks,vs,e,e2⟩:=hd
  refine .inr ?_
  refine tD.mono (part (fa:=fun δ=>ev o δ true ta) S h) fun v H1 ⟨r1,e1,S1,s1,t1,_,h1⟩=>?_
  have:r1=r:=by rw[e]at e1;cases e1;rfl
  subst this
  refine tD.mono (part (fa:=fun δ=>ev o δ true tb) (g:=fun y=>idxD r1.2 y.2) S1 h1) fun u H2 ⟨r2,e3,S2,s2,t2,_,h2⟩=>?_
  rw[e2]at t1 h2;obtain⟨a,kvs,rfl,q1,q2,q3,q4⟩:=t1;simp only[idxD]at h2
  cases e4:keyOf r2.2 with
  | none=>rw[e4]at h2;exact h2.elim
  | some x=>
    rw[e4]at h2;simp only[Option.bind_some]at h2
    cases e5:look ks vs x with
    | none=>rw[e5]at h2;exact h2.elim
    | some d=>
      rw[e5]at h2;obtain⟨v,h3,h4⟩:=kh q2 (q4.mono (au s2)) e5;refine⟨a,v,rfl,?_,h2 v H2 (Same.refl _) (.shared h4)⟩;rw[jU e4 t2,<-h3];obtain⟨ep,q1⟩:=q1;exact DGet.k (s2 _ _ q1)
 ·refine .inl (nJ (lk:=lk) (Fe F.K) (by intro x y c;cases x<;>simp only[jz]<;>first | (intro z;cases z;done) | exact tV _ _ _) ?_)
  refine tD_iff.mpr ⟨me,B,δ,S,?_⟩
  have e:((ev o δ true ta).bind fun x=>(ev o δ true tb).bind fun y=>jz x.2 y.2)=((ev o δ true ta).bind fun x=>(ev o δ true tb).bind fun y=>idxD x.2 y.2):=by
   cases e:ev o δ true ta with
   | ok r=>
     show((ev o δ true tb).bind fun y=>jz r.2 y.2)=((ev o δ true tb).bind fun y=>idxD r.2 y.2)
     congr 1
     funext y
     cases e2:r.2 with
     | dct ks vs=>exact absurd ⟨r,ks,vs,e,e2⟩ hd
     | _=>rfl
   | exc c=>rfl
   | stuck=>rfl
  show After X W lk σ H (Hid B σ δ) ((ev o δ true ta).bind fun x=>(ev o δ true tb).bind fun y=>jz x.2 y.2) Q;rw[e];exact h
theorem uI{f:Expr->Option T}(hf:∀e t,f e=some t->Right X W o e t){vs:List Expr}{t:T}{pos:Pos}(h:trJ f vs=some t)(lk:Bool):PE X (.JoinedStr vs pos) (tD X W lk fun δ=>ev o δ lk t):=by unfold trJ at h;cases h
theorem sndE:∀(n:Nat) {X:Cx} {tc:Tc},(X.xe=fun _ _=>False)->Fits X W tc o k->∀(e:Expr) (t:T),trE n tc e=some t->Right X W o e t:=by
 intro n
 induction n with
 | zero=>intro X tc hx F e t h;exact nope h
 | succ n ih'=>
   intro X tc hx F e t h
   have ih:=fun e t h=>ih' hx F e t h
   cases e with
   | Name x pos=>
     rw[aU]at h;delta trEb at h;dsimp only at h;split at h
     ·rename_i hv
      obtain⟨h1,h2,h3⟩:=dY F hv
      cases e1:bc tc.N x with
      | none=>rw[e1]at h;cases h
      | some i=>
        rw[e1]at h;cases h;exact aK (fun lk=>Mh (by rw[F.N];exact aX e1) h1 h2 h3 o) (fun _=>rfl)
     ·split at h
      ·rename_i hc
       simp only[Bool.and_eq_true,Bool.not_eq_true']at hc;split at h
       ·rename_i d e1
        cases h;obtain⟨u,v,m1,m2,m3⟩:=F.gv x d e1;exact aK (fun lk=>uX (G6 (jB F hc.1) m1 m2 hc.2) m3 o) (fun _=>rfl)
       ·cases h
      ·cases h
   | IfExp c a b pos=>exact nope h
   | Constant c j pos=>
     rw[aU]at h;delta trEb at h;dsimp only at h
     cases e1:gD c with
     | none=>rw[e1]at h;cases h
     | some d=>
       rw[e1]at h;cases h;exact aK (fun lk=>yL e1 lk) (fun _=>rfl)
   | BinOp a op b pos=>
     rw[aU]at h;delta trEb at h;dsimp only at h
     cases e1:trOp op with
     | none=>rw[e1]at h;cases h
     | some p=>
       cases e2:trE n tc a with
       | none=>simp[e1,e2]at h
       | some ta=>
         cases e3:trE n tc b with
         | none=>simp[e1,e2,e3]at h
         | some tb=>
           simp[e1,e2,e3]at h;subst h;exact aK (fun lk=>K5 F e1 ((ih a ta e2).1 true) ((ih b tb e3).1 true) lk) (fun _=>rfl)
   | UnaryOp op a pos=>
     cases op<;>first | exact nope h | (rw[aU]at h;delta trEb at h;dsimp only at h)
     all_goals
      cases e1:trE n tc a with
      | none=>rw[e1]at h;cases h
      | some ta=>
        rw[e1]at h;cases h
        first
         | exact⟨fun lk=>gn (MP ((ih a ta e1).1 true)) fun δ=>by simp only[ev],z8 (Kr (ih a ta e1).2) fun δ=>by simp only[ev]⟩
         | exact aK (fun lk=>Mz ((ih a ta e1).1 true)) (fun _=>rfl)
   | Compare a ops cs pos=>
     match ops,cs,h with
     | [op],[b],h=>
       rw[aU]at h;delta trEb at h;dsimp only at h;split at h
       ·cases h
       ·rename_i hm
        cases e1:yu op with
        | none=>rw[e1]at h;cases h
        | some p=>
          cases e2:trE n tc a with
          | none=>simp[e1,e2]at h
          | some ta=>
            cases e3:trE n tc b with
            | none=>simp[e1,e2,e3]at h
            | some tb=>
              simp[e1,e2,e3]at h;subst h;exact Jh F e1 (by simpa using hm) ((ih a ta e2).1 true) ((ih b tb e3).1 true)
     | [],_,h=>exact nope h
     | _::_::_,_,h=>exact nope h
     | [_],[],h=>exact nope h
     | [_],_::_::_,h=>exact nope h
   | BoolOp op vs pos=>
     cases op with
     | And=>
       rw[aU]at h;delta trEb at h;dsimp only at h;obtain⟨h1,h2⟩:=qK (pos:=pos) ih h;exact⟨h1,h2.pt⟩
     | Or=>
       rw[aU]at h;delta trEb at h;dsimp only at h;obtain⟨h1,h2⟩:=xU (pos:=pos) ih h;exact⟨h1,h2.pt⟩
   | Tuple es kk pos=>
     rw[aU]at h;delta trEb at h;dsimp only at h;split at h
     ·cases h
     ·rename_i hst
      cases e1:trL (trE n tc) es with
      | none=>rw[e1]at h;cases h
      | some l=>
        rw[e1]at h;cases h;exact aK (fun lk=>Lp (eE (fun e t h=>(ih e t h).1) e1 (by simpa using hst))) (fun _=>rfl)
   | List es pos=>
     rw[aU]at h;delta trEb at h;dsimp only at h;split at h
     ·cases h
     ·rename_i hst
      cases e1:trL (trE n tc) es with
      | none=>rw[e1]at h;cases h
      | some l=>
        rw[e1]at h;cases h;exact aK (fun lk=>Mv (eE (fun e t h=>(ih e t h).1) e1 (by simpa using hst))) (fun _=>rfl)
   | Dict ks vs pos=>
     match ks,vs,h with
     | [],[],h=>
       rw[aU]at h;delta trEb at h;simp only[Option.some.injEq]at h;subst h;exact aK (fun lk=>Gb) (fun _=>rfl)
     | [],_::_,h=>exact nope h
     | k0::ks,vs,h=>
       rw[aU]at h;delta trEb at h;dsimp only at h;split at h
       ·rename_i hq
        exact aK (fun lk=>Ng hq h lk) (fun _=>rfl)
       ·cases h
   | ListComp elt gens scope pos=>
     match gens,h with
     | [g],h=>
       rw[aU]at h;delta trEb at h;dsimp only at h;split at h
       ·rename_i h0
        obtain⟨tg,iter,ifs,as⟩:=g;simp only at h0 h;subst h0;obtain⟨N,m,caps,tup,g,it,c,e,rfl,A⟩:=u6 hx F (fun X' tc' hx' F' e t h=>ih' hx' F' e t h) h;exact aK (fun lk=>Cp A) (fun _=>rfl)
       ·cases h
     | [],h=>exact nope h
     | _::_::_,h=>exact nope h
   | Subscript a b pos=>
     by_cases hs:∃lo hi p2,b=.Slice lo hi none p2
     ·obtain⟨lo,hi,p2,rfl⟩:=hs
      rw[aU]at h;delta trEb at h;dsimp only at h
      cases e1:trE n tc a with
      | none=>rw[e1]at h;cases h
      | some ta=>
        cases e2:oZ (trE n tc) lo with
        | none=>simp[e1,e2]at h
        | some tl=>
          cases e3:oZ (trE n tc) hi with
          | none=>simp[e1,e2,e3]at h
          | some th=>
            simp[e1,e2,e3]at h;subst h;exact aK (fun lk=>gn (NQ Hy (CJ F.K) ((ih a ta e1).1 true) (BL ih e2) (BL ih e3)) fun δ=>by simp only[ev]) (fun _=>rfl)
     ·have h':(if isSlice b then none else(match Do tc a with
       | some q=>(trE n tc b).map fun i=>T.kidx q.1 q.2 i
       | none=>(trE n tc a).bind fun t=>(trE n tc b).map fun i=>T.idx t i))=some t:=by
       cases b<;>first | exact h | skip
       rename_i lo hi st p2
       cases st with
       | none=>exact absurd ⟨lo,hi,p2,rfl⟩ hs
       | some st=>exact nope h
      cases hsl:isSlice b with
      | true=>simp[hsl]at h'
      | false=>
        simp only[hsl,Bool.false_eq_true,if_false]at h'
        cases e0:Do tc a with
        | some q=>exact nope e0
        | none=>
        rw[e0]at h';simp only at h'
        cases e1:trE n tc a with
        | none=>rw[e1]at h';cases h'
        | some ta=>
          cases e2:trE n tc b with
          | none=>simp[e1,e2]at h'
          | some tb=>
            simp[e1,e2]at h';subst h';exact aK (fun lk=>Lj F ((ih a ta e1).1 true) ((ih b tb e2).1 true) hsl lk) (fun _=>rfl)
   | Call f args kws pos=>
     match f,kws,h with
     | .Name x p,[],h=>
       rw[aU]at h;delta trEb at h;dsimp only at h;exact aK (fun lk=>Ei F ih h lk) (fun _=>rfl)
     | .Attribute a name apos,[],h=>
       rw[aU]at h;delta trEb at h;dsimp only at h;split at h
       ·exact aK (fun lk=>Jy F ih h rfl lk) (fun _=>rfl)
       ·exact aK (fun lk=>Dd F ih h rfl lk) (fun _=>rfl)
     | .Name x p,[kw],h=>
       match args,kw,h with
       | [a],⟨some nm,b,kp⟩,h=>
         rw[aU]at h;delta trEb at h;dsimp only at h;split at h
         ·rename_i ex
          subst ex;exact aK (fun lk=>Hn F ih h lk) (fun _=>rfl)
         ·cases h
       | [_],⟨none,_,_⟩,h=>exact nope h
       | [],⟨some _,_,_⟩,h | [],⟨none,_,_⟩,h=>exact nope h
       | _::_::_,⟨some _,_,_⟩,h | _::_::_,⟨none,_,_⟩,h=>exact nope h
     | .Name x p,⟨some _,_,_⟩::_::_,h | .Name x p,⟨none,_,_⟩::_::_,h=>rcases args with _ | ⟨_,_ | _⟩<;>exact nope h
     | .Attribute ..,_::_,h=>exact nope h
     | .BoolOp ..,_,h=>exact nope h
     | .NamedExpr ..,_,h=>exact nope h
     | .BinOp ..,_,h=>exact nope h
     | .UnaryOp ..,_,h=>exact nope h
     | .Lambda ..,_,h=>exact nope h
     | .IfExp ..,_,h=>exact nope h
     | .Dict ..,_,h=>exact nope h
     | .Set ..,_,h=>exact nope h
     | .ListComp ..,_,h=>exact nope h
     | .SetComp ..,_,h=>exact nope h
     | .DictComp ..,_,h=>exact nope h
     | .GeneratorExp ..,_,h=>exact nope h
     | .Await ..,_,h=>exact nope h
     | .Yield ..,_,h=>exact nope h
     | .YieldFrom ..,_,h=>exact nope h
     | .Compare ..,_,h=>exact nope h
     | .Call ..,_,h=>exact nope h
     | .FormattedValue ..,_,h=>exact nope h
     | .JoinedStr ..,_,h=>exact nope h
     | .Constant ..,_,h=>exact nope h
     | .Subscript ..,_,h=>exact nope h
     | .Starred ..,_,h=>exact nope h
     | .List ..,_,h=>exact nope h
     | .Tuple ..,_,h=>exact nope h
     | .Slice ..,_,h=>exact nope h
   | JoinedStr vs pos=>
     rw[aU]at h;delta trEb at h;dsimp only at h;exact aK (fun lk=>uI ih h lk) (fun _=>rfl)
   | Attribute a name pos=>
     rw[aU]at h;delta trEb at h;dsimp only at h;split at h
     ·rename_i hc
      simp only[Bool.and_eq_true]at hc
      cases e1:trE n tc a with
      | none=>rw[e1]at h;cases h
      | some u=>
        rw[e1]at h;cases h;exact aK (fun lk=>Mw (dH name).symm (mY F hc.1) ((ih a u e1).1 true) (cT hc.2)) (fun _=>rfl)
     ·cases h
   | _=>exact nope h
end
end Z
namespace Z
open PySem PySem.Spec PyProof.Rows L2
noncomputable def j6:Expr->Bool
 | .ListComp ..=>true
 | .SetComp ..=>true
 | .DictComp ..=>true
 | _=>false
noncomputable def aB(tc:Tc):List Expr->Option (List Nat)
 | []=>some []
 | .Name x _::es=>if locB tc.sc x then(bc tc.N x).bind fun i=>(aB tc es).map fun l=>i::l else none
 | _=>none
noncomputable def trTg(tc:Tc):Expr->Option (List Nat×Bool)
 | .Name x _=>if locB tc.sc x then(bc tc.N x).map fun i=>([i],false)else none
 | .Tuple es _ _=>(aB tc es).map fun l=>(l,true)
 | _=>none
noncomputable def trSs(f:Stmt->Option S):List Stmt->Option SL
 | []=>some .nil
 | s::ss=>(f s).bind fun t=>(trSs f ss).map fun l=>.cons t l
noncomputable def isName:Expr->Bool
 | .Name ..=>true
 | _=>false
noncomputable def Jv:T->Bool
 | .var _=>true
 | _=>false
noncomputable def bz:Nat:=40
noncomputable def oU:Expr->Bool
 | .ListComp _ [g] _ _=>decide (g.is_async=0)
 | _=>false
noncomputable def trA(tc:Tc)(tgs:List Expr)(e:Expr):Option S:=match tgs with
 | [.Name x _]=>if locB tc.sc x&&(!j6 e||oU e)then(bc tc.N x).bind fun i=>(trE bz tc e).map fun t=>.set i t else none
 | [.Subscript (.Name x _) k _]=>if visB tc.sc x&&!isSlice k&&!j6 e then(bc tc.N x).bind fun i=>(trE bz tc k).bind fun tk=>(trE bz tc e).map fun t=>.seti i tk t else none
 | [.Attribute (.Name x _) fn _]=>if visB tc.sc x&&(namesOf tc "!f").contains fn.cps.toList then(bc tc.N x).bind fun i=>(trE bz tc e).map fun t=>.setf i fn.cps.toList t else none
 | _=>none
noncomputable def Hb(tc:Tc)(tgs:List Expr)(e:Expr):Option S:=none
noncomputable def trSx(tc:Tc)(tgs:List Expr)(e:Expr):Option S:=none
noncomputable def trA2(tc:Tc)(tgs:List Expr)(e:Expr):Option S:=match trSx tc tgs e with
 | some t=>some t
 | none=>match Hb tc tgs e with
   | some t=>some t
   | none=>trA tc tgs e
noncomputable def JM(tc:Tc)(x:Str)(e:Expr)(ok:Bool):Option S:=none
noncomputable def Be(tc:Tc)(x:Str)(a b:Expr)(es:List Expr)(ok:Bool):Option S:=none
noncomputable def trX(tc:Tc)(e:Expr):Option S:=match e with
 | .Call (.Attribute (.Name x _) m apos) [e] [] cpos=>if m="append" then(if visB tc.sc x&&!aA e&&(apos.endLine==cpos.line)then(bc tc.N x).bind fun i=>(trE bz tc e).map fun t=>.append i t else none)else(if m="update" then JM tc x e (apos.endLine==cpos.line)else if m="extend"/\nU=true then(if visB tc.sc x&&!aA e&&(apos.endLine==cpos.line)then(bc tc.N x).bind fun i=>(trE bz tc e).map fun t=>.extend i t else none)else none)
 | .Call (.Attribute (.Name x _) m apos) [] [] cpos=>none
 | .Call (.Attribute (.Name x _) m apos) (e0::e1::es) [] cpos=>if m="pop" then Be tc x e0 e1 es (apos.endLine==cpos.line)else(match e0 with
   | .Name s _=>if m="__init__" then(if glB tc.sc x&&!(x==("__debug__":Str))&&visB tc.sc s&&decide (bc tc.N s=some 0)&&!((e1::es).any aA)&&decide ((e1::es).length<19)&&(apos.endLine==cpos.line)then(nQ tc.gl x).bind fun c=>(trL (trE bz tc) (e1::es)).map fun l=>.ini c l else none)else none
   | _=>none)
 | _=>none
noncomputable def pQ(tc:Tc)(e:Option Expr)(cs:Option Expr):Option S:=none
noncomputable def Es(f:Stmt->Option S)(tc:Tc)(body:List Stmt)(hs:List ExceptHandler):Option S:=none
noncomputable def KN:TL->Bool
 | .nil=>false
 | .cons (.var _) _=>true
 | .cons _ l=>KN l
noncomputable def Fx:TL->Bool
 | .nil=>false
 | .cons (.lst l) r=>KN l||Fx r
 | .cons _ r=>Fx r
noncomputable def lstV:T->Bool
 | .not (.call _ l)=>Fx l
 | _=>false
noncomputable def trSb(f:Stmt->Option S)(tc:Tc)(st:Stmt):Option S:=match st with
 | .Assign tgs e _=>trA2 tc tgs e
 | .If c a b _=>(trE bz tc c).bind fun t=>(trSs f a).bind fun u=>(trSs f b).map fun v=>if lstV t then .ifq t u v else .ifs t u v
 | .For tg iter body [] _=>(trTg tc tg).bind fun g=>(trI tc (trE bz tc) (o8 tg) iter).bind fun it=>(trSs f body).map fun b=>.for_ g.1 g.2 it b
 | .While c body [] _=>none
 | .Return (some e) _=>(trE bz tc e).bind fun t=>if Jv t&&!isName e then none else some (.ret t)
 | .Return none _=>some .retn
 | .Expr e _=>trX tc e
 | .Raise e c _=>pQ tc e c
 | .Try body hs [] [] _=>Es f tc body hs
 | .Pass _=>some .pass
 | .Break _=>some .brk
 | .Continue _=>some .cont
 | _=>none
noncomputable def trS:Nat->Tc->Stmt->Option S
 | 0,_,_=>none
 | n+1,tc,st=>some ((trSb (trS n tc) tc st).getD mK)
theorem yZ{n:Nat}{tc:Tc}{st:Stmt}{t:S}(h:trS (n+1) tc st=some t):trSb (trS n tc) tc st=some t\/t=mK:=by
 have h:some ((trSb (trS n tc) tc st).getD mK)=some t:=h
 cases e:trSb (trS n tc) tc st with
 | none=>rw[e]at h;cases h;exact .inr rfl
 | some u=>rw[e]at h;cases h;exact .inl rfl
structure FitsS(X:Cx)(W:Wd)(tc:Tc)(o:Orc)(k:Nat):Prop extends Fits X W tc o k where
 fn:∀x,X.fn x=true
 pass:PassesOwn (model X.prog X.w) X.A X.env X.xe
 stk:X.stack=X.env::X.outer
 frm:X.env.frame=some X.env.locals
 gB:∀x i np,tc.gl.lookup x=some (.fn i np)->∃f fd ps,X.mg x=some (.ref f)/\PySem.W.keepIn X.K (.ref f)=true/\Binds X.K fd ps []/\FnOk X.prog X.w X.K X.mg X.base (CXZ X.prog X.w X.base W) k f fd ps (spB W (o.fn i) np)
theorem Fits.nox{X:Cx}{W:Wd}{tc:Tc}{o:Orc}{k:Nat}(F:Fits X W tc o k):Fits X.nox W tc o k:=⟨F.N,F.nd,F.sc,F.K,F.room,F.calm,F.gf,F.gb,F.gv,F.gd,F.xf,F.ob⟩
theorem Right.lift{X:Cx}{W:Wd}{o:Orc}{e:Expr}{t:T}(h:Right X.nox W o e t):Right X W o e t:=⟨fun lk=>PE.lift (h.1 lk),PT.lift h.2⟩
theorem sndX(n:Nat){X:Cx}{W:Wd}{tc:Tc}{o:Orc}{k:Nat}(F:Fits X W tc o k)(e:Expr)(t:T)(h:trE n tc e=some t):Right X W o e t:=Right.lift (sndE n rfl F.nox e t h)
section
variable{X:Cx}{W:Wd}{tc:Tc}{o:Orc}{k:Nat}
theorem lK(F:Fits X W tc o k){x:Str}(h:locB tc.sc x=true):Loc X.env.scope x:=by
 unfold locB at h;rw[F.sc];unfold L2.Loc;split at h
 ·rename_i e;exact .inl e
 ·rename_i e;exact .inr e
 ·cases h
theorem passes(F:FitsS X W tc o k):PassesOwn (model X.prog X.w) X.A X.env X.xe:=F.pass
theorem zp{i:Nat}{e:T}:∀δ c δ',evS o (.set i e) δ≠.ex c δ':=fun δ c δ' h=>by
 simp only[evS]at h
 cases e1:(evF o δ e).2 with
 | ok r=>
   rw[e1]at h;have h:az ((setSlot (evF o δ e).1 i r.1 r.2).map .nx)=.ex c δ':=h
   cases e2:setSlot (evF o δ e).1 i r.1 r.2 with
   | none=>rw[e2]at h;cases h
   | some δ1=>rw[e2]at h;cases h
 | exc c=>rw[e1]at h;cases h
 | stuck=>rw[e1]at h;cases h
theorem zR{e:Expr}{t:Option Expr}{l:Nat}{env:Env}(h:j6 e=false):swapsWith e t l env=pure false:=by
 cases e<;>first | rfl | (simp[j6]at h)
theorem qJ(F:FitsS X W tc o k):∀{es:List Expr} {is:List Nat},aB tc es=some is->PGs X es (dR is)/\(assignEach es X.env).length=is.length/\(assignEach es X.env).findIdx? (·.1)=none
 | [],is,h=>by
   simp only[aB,Option.some.injEq]at h;subst h;exact⟨xO,rfl,rfl⟩
 | .Name x p::es,is,h=>by
   simp only[aB]at h;split at h
   ·rename_i hl
    cases e1:bc tc.N x with
    | none=>rw[e1]at h;cases h
    | some i=>
      cases e2:aB tc es with
      | none=>simp[e1,e2]at h
      | some l=>
        simp[e1,e2]at h;subst h;obtain⟨h1,h2,h3⟩:=qJ F e2;refine⟨rE (lB (by rw[F.N];exact F.nd) (by rw[F.N];exact aX e1) (lK F.toFits hl) (.inl (F.fn x))) h1,?_,?_⟩
        ·show(assignEach es X.env).length+1=_
         rw[h2];rfl
        ·show List.findIdx? (·.1) ((false,assign (.Name x p) X.env)::assignEach es X.env)=none
         rw[List.findIdx?_cons,h3];rfl
   ·cases h
 | .BoolOp ..::_,_,h=>by simp[aB]at h
 | .NamedExpr ..::_,_,h=>by simp[aB]at h
 | .BinOp ..::_,_,h=>by simp[aB]at h
 | .UnaryOp ..::_,_,h=>by simp[aB]at h
 | .Lambda ..::_,_,h=>by simp[aB]at h
 | .IfExp ..::_,_,h=>by simp[aB]at h
 | .Dict ..::_,_,h=>by simp[aB]at h
 | .Set ..::_,_,h=>by simp[aB]at h
 | .ListComp ..::_,_,h=>by simp[aB]at h
 | .SetComp ..::_,_,h=>by simp[aB]at h
 | .DictComp ..::_,_,h=>by simp[aB]at h
 | .GeneratorExp ..::_,_,h=>by simp[aB]at h
 | .Await ..::_,_,h=>by simp[aB]at h
 | .Yield ..::_,_,h=>by simp[aB]at h
 | .YieldFrom ..::_,_,h=>by simp[aB]at h
 | .Compare ..::_,_,h=>by simp[aB]at h
 | .Call ..::_,_,h=>by simp[aB]at h
 | .FormattedValue ..::_,_,h=>by simp[aB]at h
 | .JoinedStr ..::_,_,h=>by simp[aB]at h
 | .Constant ..::_,_,h=>by simp[aB]at h
 | .Attribute ..::_,_,h=>by simp[aB]at h
 | .Subscript ..::_,_,h=>by simp[aB]at h
 | .Starred ..::_,_,h=>by simp[aB]at h
 | .List ..::_,_,h=>by simp[aB]at h
 | .Tuple ..::_,_,h=>by simp[aB]at h
 | .Slice ..::_,_,h=>by simp[aB]at h
theorem M3(F:FitsS X W tc o k){tg:Expr}{g:List Nat×Bool}(h:trTg tc tg=some g):∃gg,TgOk X W tg g.1 g.2 gg:=by
 cases tg<;>first | exact nope h | simp only[trTg]at h
 ·split at h
  ·rename_i hl
   rename_i x p
   cases e1:bc tc.N x with
   | none=>rw[e1]at h;cases h
   | some i=>
     rw[e1]at h;cases h;exact⟨_,CW (by rw[F.N];exact F.nd) (by rw[F.N];exact aX e1) (lK F.toFits hl) (.inl (F.fn x))⟩
  ·cases h
 ·rename_i es kk p
  cases e1:aB tc es with
  | none=>rw[e1]at h;cases h
  | some l=>
    rw[e1]at h;cases h;obtain⟨h1,h2,h3⟩:=qJ F e1;exact⟨_,Ip F.K F.calm h1 h2 h3⟩
theorem pU{f:Stmt->Option S}(hf:∀s t,f s=some t->PS X s (tS X W (evS o t))):∀{ss:List Stmt} {l:SL},trSs f ss=some l->PSs X ss (tS X W (evSs o l))
 | [],l,h=>by
   simp only[trSs,Option.some.injEq]at h;subst h;exact Jw o
 | s::ss,l,h=>by
   simp only[trSs]at h
   cases e1:f s with
   | none=>rw[e1]at h;cases h
   | some t=>
     rw[e1]at h
     cases e2:trSs f ss with
     | none=>simp[e2]at h
     | some l'=>
       simp[e2]at h;subst h;exact Ef (hf s t e1) (pU hf e2)
theorem tE{o' k:Expr}{pp:Pos}{env:Env}(h:isSlice k=false)(v:Value):assign (.Subscript o' k pp) env v=(do
 let ov <-holding [v] (eval o' env)
 let iv <-holding [v,ov] (eval k env)
 standAt pp
 holding [v,ov,iv] (setItem ov iv v)
 release [v,ov,iv] []):=by
 cases k<;>first | rfl | (simp[isSlice]at h)
theorem CP{o' k e:Expr}{pp:Pos}{l:Nat}{env:Env}(h:j6 e=false):swapsWithSole [.Subscript o' k pp] e l env=pure false:=by
 cases e<;>first | rfl | (simp[j6]at h)
theorem vO{o' k e:Expr}{pp:Pos}{env:Env}:swappedStores [.Subscript o' k pp] e env=pure none:=by
 cases e<;>rfl
theorem JD(F:FitsS X W tc o k){tgs:List Expr}{e:Expr}{t:S}{pos:Pos}(h:trA tc tgs e=some t):PS X (.Assign tgs e pos) (tS X W (evS o t)):=by
 have E:=fun e t h=>sndX bz F.toFits e t h
 unfold trA at h;split at h
 ·rename_i x px
  split at h
  ·rename_i hc
   simp only[Bool.and_eq_true,Bool.or_eq_true,Bool.not_eq_true']at hc
   cases e1:bc tc.N x with
   | none=>rw[e1]at h;cases h
   | some i=>
     cases e2:trE bz tc e with
     | none=>simp[e1,e2]at h
     | some u=>
       simp[e1,e2]at h;subst h
       have hnd:X.N.Nodup:=by rw[F.N];exact F.nd
       have hni:X.N[i]?=some x:=by rw[F.N];exact aX e1
       by_cases hcomp:j6 e=true
       ·have hc1:oU e=true:=by
         rcases hc.2 with z | z
         ·rw[hcomp]at z;cases z
         ·exact z
        unfold oU at hc1;split at hc1
        ·rename_i elt g scope epos
         have hg0:g.is_async=0:=of_decide_eq_true hc1;obtain⟨tg,iter,ifs,as⟩:=g;simp only at hg0;subst hg0;rw[show bz=39+1 from rfl,yN,if_pos rfl]at e2;obtain⟨N,m,caps,tup,g,it,c,e,rfl,A⟩:=u6 (X:=X.nox) rfl F.toFits.nox (fun X' tc' hx' F' e t h=>sndE 39 hx' F' e t h) e2;refine PS.lift (Kg (bsw:=X.env.blockKind==.function&&X.env.kindOf x==some .local&&px.line==epos.line&&!(scope.names.any fun(n,k)=>n==x&&(k==.local||k==.cell))) A hnd hni (lK F.toFits hc.1) (.inl (F.fn x)) (fun hb=>?_) rfl) zp;simp only[Bool.and_eq_true,beq_iff_eq]at hb;exact hb.1.1.2
        ·cases hc1
       ·exact Kh hnd hni (lK F.toFits hc.1) ((E e u e2).1 false) (zR (by simpa using hcomp)) (.inl (F.fn x))
  ·cases h
 ·rename_i x p kx pos'
  split at h
  ·rename_i hc
   simp only[Bool.and_eq_true,Bool.not_eq_true']at hc;obtain⟨⟨hv,hsl⟩,hcp⟩:=hc
   cases e1:bc tc.N x with
   | none=>rw[e1]at h;cases h
   | some i=>
     cases e2:trE bz tc kx with
     | none=>simp[e1,e2]at h
     | some tk=>
       cases e3:trE bz tc e with
       | none=>simp[e1,e2,e3]at h
       | some u=>
         simp[e1,e2,e3]at h;subst h;obtain⟨h1,h2,h3⟩:=dY F.toFits hv;exact EY F.K (uh F.room) (jt (by rw[F.N];exact aX e1) h1 h2 h3) ((E kx tk e2).1 true) ((E e u e3).1 false) (tE hsl) (CP hcp) vO rfl
  ·cases h
 ·rename_i x p fn pos'
  split at h
  ·rename_i hc
   simp only[Bool.and_eq_true]at hc
   cases e1:bc tc.N x with
   | none=>rw[e1]at h;cases h
   | some i=>
     cases e3:trE bz tc e with
     | none=>simp[e1,e3]at h
     | some u=>
       simp[e1,e3]at h;subst h;obtain⟨h1,h2,h3⟩:=dY F.toFits hc.1;exact Dy (dH fn).symm (mY F.toFits hc.2) (jt (by rw[F.N];exact aX e1) h1 h2 h3) ((E e u e3).1 false)
  ·cases h
 ·cases h
theorem yp(F:FitsS X W tc o k){tgs:List Expr}{e:Expr}{t:S}{pos:Pos}(h:Hb tc tgs e=some t):PS X (.Assign tgs e pos) (tS X W (evS o t)):=by unfold Hb at h;cases h
theorem Ex(F:FitsS X W tc o k){tgs:List Expr}{e:Expr}{t:S}{pos:Pos}(h:trSx tc tgs e=some t):PS X (.Assign tgs e pos) (tS X W (evS o t)):=by unfold trSx at h;cases h
theorem DP(F:FitsS X W tc o k){tgs:List Expr}{e:Expr}{t:S}{pos:Pos}(h:trA2 tc tgs e=some t):PS X (.Assign tgs e pos) (tS X W (evS o t)):=by
 unfold trA2 at h;split at h
 ·rename_i t' e1
  cases h;exact Ex F e1
 ·split at h
  ·rename_i t' e1
   cases h;exact yp F e1
  ·exact JD F h
theorem Km(F:FitsS X W tc o k){x:Str}{e:Expr}{ok:Bool}{t:S}{p apos cpos pos:Pos}(h:JM tc x e ok=some t)(hok:ok=(apos.endLine==cpos.line)):PS X (.Expr (.Call (.Attribute (.Name x p) "update" apos) [e] [] cpos) pos) (tS X W (evS o t)):=by cases h
theorem G8(F:FitsS X W tc o k){x:Str}{a b:Expr}{es:List Expr}{ok:Bool}{t:S}{p apos cpos pos:Pos}(h:Be tc x a b es ok=some t)(hok:ok=(apos.endLine==cpos.line)):PS X (.Expr (.Call (.Attribute (.Name x p) "pop" apos) (a::b::es) [] cpos) pos) (tS X W (evS o t)):=by cases h
theorem KY(F:Fits X W tc o k){c:Nat}{x self:Str}{es:List Expr}{l:TL}{p p' cpos pos apos:Pos}{pl:Sem Bool}(hm:X.mg x=some (.ref (W.CT c)))(hg:Gl X x)(hdb:(x==("__debug__":Str))=false)(hv:PE X (.Name self p') (tVar 0))(hl:PA X es (tL X W fun δ=>evL o δ l))
 (hpl:(backTo cpos (starEach es X.env)).any (·.1)=false)
 (ht:eval (.Call (.Attribute (.Name x p) "__init__" apos) (.Name self p'::es) [] cpos) X.env=(do
  let ov <-eval (.Name x p) X.env
  standAt apos.atName
  let(f,first) <-holding [ov] (getMethod ov "__init__" pl)
  callWith cpos f first (backTo cpos (starEach (.Name self p'::es) X.env)) (backToKw cpos (keywordEach [] X.env)))) :
 PS X (.Expr (.Call (.Attribute (.Name x p) "__init__" apos) (.Name self p'::es) [] cpos) pos) (tS X W (evS o (.ini c l))):=by
 have no:(∀δ,∃δ' ,∀r,(evL o δ l).bind (fun x=>(R.of (ownD δ 0)).bind fun q=>(R.of (o.init c)).bind fun f=>R.chk (!x.1) ((o.ini f q.2 x.2).bind fun d=>.ok (q.1,d)))≠.ok r/\δ'=δ)->PS X (.Expr (.Call (.Attribute (.Name x p) "__init__" apos) (.Name self p'::es) [] cpos) pos) (tS X W (evS o (.ini c l))):=fun hz pins s σ H D I hw=>by
  obtain⟨me,B,δ,S,h⟩:=hw;simp only[evS]at h;obtain⟨r,e0,_⟩:=SO.of_ok h;obtain⟨_,q⟩:=hz δ;exact absurd e0 (q r).1
 cases ei:o.init c with
 | none=>
   refine no fun δ=>⟨δ,fun r=>⟨?_,rfl⟩⟩
   rw[ei]
   cases evL o δ l with
   | ok y=>cases ownD δ 0<;>exact fun z=>nomatch z
   | exc c=>exact fun z=>nomatch z
   | stuck=>exact fun z=>nomatch z
 | some f=>
   obtain⟨fa,fd,ps,np,h1,h2,h3,h4,h5⟩:=F.ob.ini c f ei;rcases h5 with h5 | ⟨j,hj,h5⟩
   ·refine no fun δ=>⟨δ,fun r=>⟨?_,rfl⟩⟩
    rw[ei]
    cases evL o δ l with
    | ok y=>
      cases ownD δ 0 with
      | none=>exact fun z=>nomatch z
      | some q=>
        simp only[R.bind,R.of,h5,R.chk]
        split<;>exact fun z=>nomatch z
    | exc c=>exact fun z=>nomatch z
    | stuck=>exact fun z=>nomatch z
   ·exact J7 ei h4 h2 h5 (F.room.mono (by omega)) hg hm h3 hv hl hdb rfl hpl ht
theorem Iw(F:FitsS X W tc o k){e:Expr}{t:S}{pos:Pos}(h:trX tc e=some t):PS X (.Expr e pos) (tS X W (evS o t)):=by
 have E:=fun e t h=>sndX bz F.toFits e t h
 unfold trX at h;split at h
 ·rename_i x p m apos e cpos
  split at h
  ·rename_i ex
   subst ex;split at h
   ·rename_i hc
    simp only[Bool.and_eq_true,Bool.not_eq_true']at hc;obtain⟨h1,h2,h3⟩:=dY F.toFits hc.1.1
    cases e1:bc tc.N x with
    | none=>rw[e1]at h;cases h
    | some i=>
      cases e2:trE bz tc e with
      | none=>simp[e1,e2]at h
      | some u=>
        simp[e1,e2]at h;subst h;exact uL (jt (by rw[F.N];exact aX e1) h1 h2 h3) ((E e u e2).1 false) hc.1.2 hc.2
   ·cases h
  ·split at h
   ·rename_i ex
    subst ex;exact Km F h rfl
   ·split at h
    ·rename_i ex
     obtain⟨rfl,hq⟩:=ex;split at h
     ·rename_i hc
      simp only[Bool.and_eq_true,Bool.not_eq_true']at hc;obtain⟨h1,h2,h3⟩:=dY F.toFits hc.1.1
      cases e1:bc tc.N x with
      | none=>rw[e1]at h;cases h
      | some i=>
        cases e2:trE bz tc e with
        | none=>simp[e1,e2]at h
        | some u=>
          simp[e1,e2]at h;subst h;exact yV hq (jt (by rw[F.N];exact aX e1) h1 h2 h3) ((E e u e2).1 false) hc.1.2 hc.2
     ·cases h
    ·cases h
 ·cases h
 ·rename_i x p m apos e0 e1 es cpos
  split at h
  ·rename_i ex
   subst ex;exact G8 F h rfl
  split at h
  case h_2=>cases h
  rename_i s p';split at h
  ·rename_i ex
   subst ex;split at h
   ·rename_i hc
    simp only[Bool.and_eq_true,Bool.not_eq_true',decide_eq_true_eq]at hc;obtain⟨⟨⟨⟨⟨⟨hg,hdb⟩,hv⟩,hs0⟩,hst⟩,hlen⟩,hline⟩:=hc;obtain⟨h1,h2,h3⟩:=dY F.toFits hv
    cases ec:nQ tc.gl x with
    | none=>rw[ec]at h;cases h
    | some c=>
    cases e2:trL (trE bz tc) (e1::es)with
    | none=>simp[ec,e2]at h
    | some l=>
      simp[ec,e2]at h;subst h;have hm:=F.ob.nm x c ec;have hpa:=eE (X:=X) (W:=W) (o:=o) (fun e t h=>(E e t h).1) e2 hst
      have hst2:(Expr.Name s p'::e1::es).any aA=false:=by rw[List.any_cons,hst];rfl
      exact KY F.toFits hm (jB F.toFits hg) hdb (jt (by rw[F.N];exact aX hs0) h1 h2 h3) hpa (fj hst) (IK rfl hst2 (by simp only[List.length_cons]at hlen ⊢;omega) hline)
   ·cases h
  ·cases h
 ·cases h
theorem tR(F:FitsS X W tc o k){e cs:Option Expr}{t:S}{pos:Pos}(h:pQ tc e cs=some t):PS X (.Raise e cs pos) (tS X W (evS o t)):=by unfold pQ at h;cases h
theorem zg(F:FitsS X W tc o k){f:Stmt->Option S}(hf:∀{Y:Cx},FitsS Y W tc o k->∀s t,f s=some t->PS Y s (tS Y W (evS o t))){body:List Stmt}{hs:List ExceptHandler}{t:S}{pos:Pos}(h:Es f tc body hs=some t):PS X (.Try body hs [] [] pos) (tS X W (evS o t)):=by unfold Es at h;cases h
theorem De{st:Stmt}:PS X st (tS X W (evS o mK)):=fun pins s σ H D I hw=>by
 obtain⟨_,_,_,_,h⟩:=hw;simp only[mK,evS,ev,SO.of,AfterS]at h
theorem sndS:∀(n:Nat) {X:Cx} {tc:Tc},FitsS X W tc o k->∀(st:Stmt) (t:S),trS n tc st=some t->PS X st (tS X W (evS o t)):=by
 intro n
 induction n with
 | zero=>intro X tc F st t h;exact nope h
 | succ n ih'=>
   intro X tc F st t h0
   have ih:=fun st t h=>ih' F st t h
   have E:=fun e t h=>sndX bz F.toFits e t h
   rcases yZ h0 with h | rfl
   case inr=>exact De
   cases st with
   | Assign tgs e pos=>
     delta trSb at h;dsimp only at h;exact DP F h
   | Raise e c pos=>
     delta trSb at h;dsimp only at h;exact tR F h
   | Try body hs orelse fin pos=>
     cases orelse with
     | cons _ _=>exact nope h
     | nil=>
       cases fin with
       | cons _ _=>exact nope h
       | nil=>
         delta trSb at h;dsimp only at h;exact zg F (fun{Y} FY s t h=>ih' FY s t h) h
   | Expr e pos=>
     delta trSb at h;dsimp only at h;exact Iw F h
   | If c a b pos=>
     delta trSb at h;dsimp only at h
     cases e1:trE bz tc c with
     | none=>rw[e1]at h;cases h
     | some u=>
       cases e2:trSs (trS n tc) a with
       | none=>simp[e1,e2]at h
       | some sa=>
         cases e3:trSs (trS n tc) b with
         | none=>simp[e1,e2,e3]at h
         | some sb=>
           simp only[e1,e2,e3,Option.bind_some,Option.map_some,Option.some.injEq]at h;split at h
           ·subst h;exact KC (E c u e1).2 (pU ih e2) (pU ih e3)
           ·subst h;exact NK (E c u e1).2 (pU ih e2) (pU ih e3)
   | For tg iter body orelse pos=>
     cases orelse with
     | cons _ _=>exact nope h
     | nil=>
       delta trSb at h;dsimp only at h
       cases e1:trTg tc tg with
       | none=>rw[e1]at h;cases h
       | some g=>
         cases e2:trI tc (trE bz tc) (o8 tg) iter with
         | none=>simp[e1,e2]at h
         | some it=>
           cases e3:trSs (trS n tc) body with
           | none=>simp[e1,e2,e3]at h
           | some sb=>
             simp[e1,e2,e3]at h;subst h;obtain⟨gg,hg⟩:=M3 F e1;obtain⟨hi,hs⟩:=wg F.toFits E tg e2 false;exact Gv (passes F) F.calm hg hi (pU ih e3) hs
   | While c body orelse pos=>
     cases orelse with
     | cons _ _=>exact nope h
     | nil=>exact nope h
   | Return v pos=>
     cases v with
     | none=>
       delta trSb at h;simp only[Option.some.injEq]at h;subst h;exact Ep
     | some e=>
       delta trSb at h;dsimp only at h
       cases e1:trE bz tc e with
       | none=>rw[e1]at h;cases h
       | some u=>
         rw[e1]at h;simp only[Option.bind_some]at h;split at h
         ·cases h
         rename_i hc;cases h
         by_cases hv:∃i,u=.var i
         ·obtain⟨i,rfl⟩:=hv
          cases e with
          | Name x px=>
            rw[show bz=39+1 from rfl,zF]at e1;split at e1
            ·rename_i hv
             obtain⟨h1,h2,h3⟩:=dY F.toFits hv
             cases e2:bc tc.N x with
             | none=>rw[e2]at e1;cases e1
             | some j=>
               rw[e2]at e1;cases e1;exact Ez (by rw[F.N];exact aX e2) h1 h2 h3
            ·split at e1
             ·split at e1<;>cases e1
             ·cases e1
          | _=>simp[Jv,isName]at hc
         ·exact JX (fun i z=>hv ⟨i,z⟩) ((E e u e1).1 false)
   | Pass pos=>delta trSb at h;simp only[Option.some.injEq]at h;subst h;exact Ek
   | Break pos=>delta trSb at h;simp only[Option.some.injEq]at h;subst h;exact J2
   | Continue pos=>delta trSb at h;simp only[Option.some.injEq]at h;subst h;exact Eg
   | _=>exact nope h
end
end Z
namespace Z
open PySem PySem.Spec PyProof.Rows L2
structure Df where
 name:Str
 qual:Str
 st:Stmt
 N:List Str
 ps:List Str
 fd:Fd
noncomputable def glOf:Nat->List Df->List (Str×Gk)
 | _,[]=>[]
 | i,d::l=>(d.name,.fn i d.ps.length)::glOf (i+1) l
theorem qI{x:Str}{j np:Nat}:∀{l:List Df} {i:Nat},(glOf i l).lookup x=some (.fn j np)->∃d k,j=i+k/\l[k]?=some d/\d.name=x/\d.ps.length=np
 | [],_,h=>by simp[glOf]at h
 | d::l,i,h=>by
   simp only[glOf,List.lookup_cons]at h
   cases e:(x==d.name)with
   | true=>
     rw[e]at h;simp only[Option.some.injEq,Gk.fn.injEq]at h;exact⟨d,0,by omega,rfl,(eq_of_beq e).symm,h.2⟩
   | false=>
     rw[e]at h;obtain⟨d',k,h1,h2,h3⟩:=qI h;exact⟨d',k+1,by omega,by simpa using h2,h3⟩
noncomputable def NoFn(cs:List (Str×Gk)):Prop:=∀p∈cs,∀i np,p.2≠.fn i np
theorem lookup_append{α:Type}{x:Str}:∀{l m:List (Str×α)},(l++m).lookup x=(l.lookup x).or (m.lookup x)
 | [],m=>by simp
 | (y,g)::l,m=>by
   simp only[List.cons_append,List.lookup_cons];cases (x==y)
   ·exact lookup_append
   ·rfl
theorem lookup_mem{α:Type}{x:Str}{v:α}:∀{l:List (Str×α)},l.lookup x=some v->(x,v)∈l
 | [],h=>by simp at h
 | (y,g)::l,h=>by
   simp only[List.lookup_cons]at h
   cases e:(x==y)with
   | true=>
     rw[e]at h;cases h;have:=eq_of_beq e;subst this;exact List.mem_cons_self
   | false=>rw[e]at h;exact List.mem_cons_of_mem _ (lookup_mem h)
theorem mC{x:Str}{j np:Nat}{l:List Df}{cs:List (Str×Gk)}(hc:NoFn cs)(h:(glOf 0 l++cs).lookup x=some (.fn j np)):∃d k,j=0+k/\l[k]?=some d/\d.name=x/\d.ps.length=np:=by
 rw[lookup_append]at h
 cases e:(glOf 0 l).lookup x with
 | some q=>
   rw[e]at h;cases h;exact qI e
 | none=>
   rw[e]at h;exact absurd rfl (hc _ (lookup_mem h) j np)
structure DfOk(gl:List (Str×Gk))(d:Df):Prop where
 sc:FnScope d.N d.ps (ak d.st)
 np:d.ps.length=d.fd.np
 ns:d.N.length=d.fd.ns
 tr:trSs (trS 40 ⟨d.N,ak d.st,gl⟩) (aH d.st)=some d.fd.body\/d.fd.body=vP
section
variable{P:Program}{w:World}{K:PySem.W.Frag}{mg:Str->Option Value}{base:Heap}{W:Wd}{p:Prg}{w0:Nat}{gl:List (Str×Gk)}
noncomputable def DfAt(K:PySem.W.Frag)(mg:Str->Option Value)(d:Df):Prop:=∃f fd,Fun K d.name d.qual d.st f fd/\Binds K fd d.ps []/\mg d.name=some (.ref f)
noncomputable def xu(P:Program)(w:World)(K:PySem.W.Frag)(mg:Str->Option Value)(base:Heap)(W:Wd)(p:Prg)(w0:Nat)(gl:List (Str×Gk))(n:Nat):Prop :=
 ∀x i np,gl.lookup x=some (.fn i np)->∃f fd ps,mg x=some (.ref f)/\PySem.W.keepIn K (.ref f)=true/\Binds K fd ps []/\FnOk P w K mg base (CXZ P w base W) n f fd ps (spB W ((orc p w0 n).fn i) np)
theorem Dn(p:Prg)(w0:Nat):∀n,(orc p w0 n).sub=p.sub
 | 0=>rfl
 | _+1=>rfl
theorem yf(o:Orc)(np ns:Nat)(args:List D):bG o ⟨np,ns,vP⟩ args=.stuck:=by
 unfold bG;split
 ·simp[vP,mK,evSs,evS,ev,SO.of]
 ·rfl
theorem qT(p:Prg)(w0:Nat):∀n,(orc p w0 n).init=p.init
 | 0=>rfl
 | _+1=>rfl
theorem yW(p:Prg)(w0:Nat):∀n,(orc p w0 n).meth=p.meth
 | 0=>rfl
 | _+1=>rfl
noncomputable def MsOk(P:Program)(w:World)(K:PySem.W.Frag)(mg:Str->Option Value)(base:Heap)(W:Wd)(p:Prg)(w0:Nat)(ms:List Df)(ad:Nat->Addr)(b n:Nat):Prop :=
 ∀i d,ms[i]?=some d->∃fd,Binds K fd d.ps []/\FnOk P w K mg base (CXZ P w base W) n (ad i) fd d.ps (spB W ((orc p w0 n).fn (b+i)) d.ps.length)/\FnOk P w K mg base (CXZ P w base W) (n-1) (ad i) fd d.ps (spI W ((orc p w0 n).ini (b+i)) d.ps.length)
structure ClFacts(K:PySem.W.Frag)(mg:Str->Option Value)(W:Wd)(p:Prg)(gl:List (Str×Gk))(ms:List Df)(ad:Nat->Addr)(b:Nat):Prop where
 nm:∀x c,nQ gl x=some c->mg x=some (.ref (W.CT c))
 fld:∀fl f,gl.lookup ("!f":Str)=some (.names fl)->f∈fl->∀c,(p.init c).isSome=true->Cls K (W.CT c)/\NoAttr K (W.CT c) (strV f)
 ini:∀c f,p.init c=some f->∃i d,f=b+i/\ms[i]?=some d/\Mk K (W.CT c) (ad i)/\ClsFn K (W.CT c) "__init__" (ad i)
 mt:∀c m f,p.meth c m=some f->∃i d,f=b+i/\ms[i]?=some d/\Cls K (W.CT c)/\Meth K (W.CT c) (strV m) (ad i)
theorem Cv{o:Orc}{d:Fd}{ds:List D}{r:Bool×D}(h:bG o d ds=.ok r):ds.length=d.np:=by
 unfold bG at h;split at h
 ·assumption
 ·cases h
theorem yo{o:Orc}{d:Fd}{s y:D}{ds:List D}(h:cz o d s ds=.ok y):ds.length+1=d.np:=by
 unfold cz at h;split at h
 ·assumption
 ·cases h
section
variable{ms:List Df}{ad:Nat->Addr}{b:Nat}
theorem xF{n:Nat}(C:ClFacts K mg W p gl ms ad b)(M:MsOk P w K mg base W p w0 ms ad b n)(hok:∀(i:Nat) (d:Df),ms[i]?=some d->DfOk gl d)(hf:∀(i:Nat) (d:Df),ms[i]?=some d->p.fns[b+i]?=some d.fd):ObjFacts P w K mg base W gl (orc p w0 n) n:=by
 refine⟨C.nm,fun fl f h1 h2 c h3=>C.fld fl f h1 h2 c (by rw[qT]at h3;exact h3),fun c f h=>?_,fun c m f h=>?_⟩
 ·rw[qT]at h
  obtain⟨i,d,rfl,h1,h2,h3⟩:=C.ini c f h;obtain⟨fd,g1,g2,g3⟩:=M i d h1;refine⟨ad i,fd,d.ps,d.ps.length,h2,h3,g1,fun s a y e=>?_,?_⟩
  ·match n,e with
   | 0,e=>cases e
   | 1,e=>cases e
   | m+2,e=>
     rw[eF (hf i d h1)]at e;rw[yo e,(hok i d h1).np]
  ·cases n with
   | zero=>exact .inl fun _ _=>rfl
   | succ m=>exact .inr ⟨m,by omega,ok0I g3⟩
 ·rw[yW]at h
  obtain⟨i,d,rfl,h1,h2,h3⟩:=C.mt c m f h;obtain⟨fd,g1,g2,g3⟩:=M i d h1;refine⟨d.ps.length,ad i,fd,d.ps,h2,h3,g1,fun a y e=>?_,ok0 g2⟩
  cases n with
  | zero=>cases e
  | succ m=>
    rw[bF (hf i d h1)]at e;rw[Cv e,(hok i d h1).np]
structure Ground(P:Program)(w:World)(K:PySem.W.Frag)(mg:Str->Option Value)(W:Wd)(p:Prg)(gl:List (Str×Gk)):Prop where
 hk:W.K=K
 hgb:∀x∈cF,gl.lookup x=none->mg x=none
 hgv:∀x d,gl.lookup x=some (.val d)->∃u v,mg x=some u/\RelV v u/\∀G,Rep W G d v
 hgd:∀x ks vs,gl.lookup x=some (.dct ks vs)->∃ad,mg x=some (.ref ad)/\KDct P w W ad ks vs
 xf:XFacts K mg W p.sub (clOf gl)
theorem v5{d:Df}{n:Nat}{f:Addr}(G:Ground P w K mg W p gl)(ok:DfOk gl d)(tr:trSs (trS 40 ⟨d.N,ak d.st,gl⟩) (aH d.st)=some d.fd.body)(ih:xu P w K mg base W p w0 gl n)(ob:ObjFacts P w K mg base W gl (orc p w0 n) n)
 (cdv:Value) (A:Around) (outer:List Env) (s:Shared) (H:Hp) (E:XK) (hr:Room n (A.deeper (envOfC d.qual (ak d.st) s.heap.objs.size f cdv))) :
 PSs (cxX P w K mg base W d.N d.qual d.st f cdv A outer s H E) (aH d.st) (tS (cxX P w K mg base W d.N d.qual d.st f cdv A outer s H E) W (evSs (orc p w0 n) d.fd.body)):=by
 have FT:FitsS (cxX P w K mg base W d.N d.qual d.st f cdv A outer s H E) W ⟨d.N,ak d.st,gl⟩ (orc p w0 n) n :=
  ⟨⟨rfl,ok.sc.nd,rfl,G.hk,hr,rfl,fun x i np h=>(let⟨f,fd,ps,h1,h2,h3,h4⟩:=ih x i np h;⟨f,fd,ps,h1,h2,h3,ok0 h4⟩),G.hgb,G.hgv,G.hgd,by rw[Dn];exact G.xf,ob⟩,fun _=>rfl,xN,rfl,rfl,ih⟩
 exact pU (sndS 40 FT) tr
theorem pH{d:Df}{i n:Nat}{f:Addr}{fd:FuncData}(G:Ground P w K mg W p gl)(F:Fun K d.name d.qual d.st f fd)(ok:DfOk gl d)(hi:p.fns[i]?=some d.fd)(ih:xu P w K mg base W p w0 gl n)(ob:ObjFacts P w K mg base W gl (orc p w0 n) n) :
 FnOk P w K mg base (CXZ P w base W) (n+1) f fd d.ps (spB W ((orc p w0 (n+1)).fn i) d.ps.length):=by
 have e:(orc p w0 (n+1)).fn i=bG (orc p w0 n) ⟨d.ps.length,d.N.length,d.fd.body⟩:=by
  funext a
  have e2:d.fd=⟨d.ps.length,d.N.length,d.fd.body⟩:=by
   rw[ok.np,ok.ns]
  show(match p.fns[i]? with | some d=>bG (orc p w0 n) d a | none=>.stuck)=_;rw[hi,<-e2]
 rw[e];rcases ok.tr with tr | hole
 case inr=>
  refine⟨fun vs H Q E q=>q.elim (·.1) (·.1),fun A outer s H args us vs Q E _ _ _ _ q=>?_⟩;rcases q with⟨_,_,_,_,_,_,r,e,_⟩ | ⟨_,_,_,_,_,_,r,e,_⟩<;>(rw[hole,yf]at e;cases e)
 exact uG F ok.sc rfl rfl (fun cdv A outer s H E hr=>v5 G ok tr ih ob cdv A outer s H E hr) G.hk
theorem Ae(o:Orc)(np ns:Nat)(s:D)(args:List D):cz o ⟨np,ns,vP⟩ s args=.stuck:=by
 unfold cz;split
 ·simp[vP,mK,evSs,evS,ev,SO.of]
 ·rfl
theorem yR{d:Df}{i n:Nat}{f:Addr}{fd:FuncData}(G:Ground P w K mg W p gl)(F:Fun K d.name d.qual d.st f fd)(ok:DfOk gl d)(hi:p.fns[i]?=some d.fd)(ih:xu P w K mg base W p w0 gl n)(ob:ObjFacts P w K mg base W gl (orc p w0 n) n) :
 FnOk P w K mg base (CXZ P w base W) (n+1) f fd d.ps (spI W ((orc p w0 (n+2)).ini i) d.ps.length):=by
 have e:(orc p w0 (n+2)).ini i=cz (orc p w0 n) ⟨d.ps.length,d.N.length,d.fd.body⟩:=by
  funext s a
  have e2:d.fd=⟨d.ps.length,d.N.length,d.fd.body⟩:=by
   rw[ok.np,ok.ns]
  show(match p.fns[i]? with | some d=>cz (orc p w0 n) d s a | none=>.stuck)=_;rw[hi,<-e2]
 rw[e];rcases ok.tr with tr | hole
 case inr=>
  refine⟨fun vs H Q E q=>q.1,fun A outer s H args us vs Q E _ _ _ _ q=>?_⟩;obtain⟨_,_,_,_,_,_,_,_,_,_,_,_,_,e,_⟩:=q;rw[hole,Ae]at e;cases e
 exact xH F ok.sc rfl rfl (fun cdv A outer s H E hr=>v5 G ok tr ih ob cdv A outer s H E hr) G.hk
theorem Ca{f:Addr}{fd:FuncData}{ps:List Str}{g:List D->R (Bool×D)}{k np:Nat}(hp:np=ps.length)(h:∀a,g a=.stuck):FnOk P w K mg base (CXZ P w base W) k f fd ps (spB W g np):=by
 refine⟨fun vs H Q E q=>by rw[<-hp];exact q.elim (·.1) (·.1),fun A outer s H args us vs Q E _ _ _ _ q=>?_⟩;rcases q with⟨_,_,_,_,_,_,r,e,_⟩ | ⟨_,_,_,_,_,_,r,e,_⟩<;>(rw[h]at e;cases e)
theorem Ck{f:Addr}{fd:FuncData}{ps:List Str}{g:D->List D->R D}{k np:Nat}(hp:np=ps.length)(h:∀s a,g s a=.stuck):FnOk P w K mg base (CXZ P w base W) k f fd ps (spI W g np):=by
 refine⟨fun vs H Q E q=>by rw[<-hp];exact q.1,fun A outer s H args us vs Q E _ _ _ _ q=>?_⟩;obtain⟨_,_,_,_,_,_,_,_,_,_,_,_,_,e,_⟩:=q;rw[h]at e;cases e
theorem yz{ds:List Df}{cs:List (Str×Gk)}(hcs:NoFn cs)(G:Ground P w K mg W p (glOf 0 ds++cs))(hp:p.fns=(ds++ms).map (·.fd))(hok:∀d∈ds,DfOk (glOf 0 ds++cs) d)(hat:∀d∈ds,DfAt K mg d)
 (C:ClFacts K mg W p (glOf 0 ds++cs) ms ad ds.length) (hmo:∀d∈ms,DfOk (glOf 0 ds++cs) d) (hma:∀i d,ms[i]?=some d->∃fd,Fun K d.name d.qual d.st (ad i) fd/\Binds K fd d.ps []) :
 ∀n m,m<=n->xu P w K mg base W p w0 (glOf 0 ds++cs) m/\MsOk P w K mg base W p w0 ms ad ds.length m:=by
 have hf:∀i d,ms[i]?=some d->p.fns[ds.length+i]?=some d.fd:=fun i d h=>by
  rw[hp,List.getElem?_map,List.getElem?_append_right (by omega),Nat.add_sub_cancel_left,h];rfl
 have hmo':∀i d,ms[i]?=some d->DfOk (glOf 0 ds++cs) d:=fun i d h=>hmo d (List.mem_of_getElem? h)
 have zero:xu P w K mg base W p w0 (glOf 0 ds++cs) 0/\MsOk P w K mg base W p w0 ms ad ds.length 0:=by
  refine⟨fun x i np h=>?_,fun i d h=>?_⟩
  ·obtain⟨d,k,h1,h2,h3,h4⟩:=mC hcs h
   obtain⟨f,fd,F,b,m⟩:=hat d (List.mem_of_getElem? h2);exact⟨f,fd,d.ps,by rw[<-h3];exact m,F.kp,b,Ca h4.symm fun _=>rfl⟩
  ·obtain⟨fd,F,b⟩:=hma i d h
   exact⟨fd,b,Ca rfl fun _=>rfl,Ck rfl fun _ _=>rfl⟩
 intro n
 induction n with
 | zero=>
   intro m hm
   obtain rfl:m=0:=by omega
   exact zero
 | succ n ih=>
   intro m hm
   by_cases hle:m<=n
   ·exact ih m hle
   obtain rfl:m=n+1:=by omega
   obtain⟨a1,m1⟩:=ih n (Nat.le_refl _);have ob:=xF C m1 hmo' hf;refine⟨fun x i np h=>?_,fun i d h=>?_⟩
   ·obtain⟨d,k,h1,h2,h3,h4⟩:=mC hcs h
    obtain⟨f,fd,F,b,m⟩:=hat d (List.mem_of_getElem? h2);refine⟨f,fd,d.ps,by rw[<-h3];exact m,F.kp,b,?_⟩;have hlt:k<ds.length:=(List.getElem?_eq_some_iff.mp h2).1;have:=pH (i:=i) G F (hok d (List.mem_of_getElem? h2)) (by rw[hp,List.getElem?_map,h1,Nat.zero_add,List.getElem?_append_left hlt,h2];rfl) a1 ob;rw[h4]at this;exact this
   ·obtain⟨fd,F,b⟩:=hma i d h
    refine⟨fd,b,pH G F (hmo' i d h) (hf i d h) a1 ob,?_⟩
    cases n with
    | zero=>exact Ck rfl fun _ _=>rfl
    | succ k=>
      obtain⟨a2,m2⟩:=ih k (by omega);exact yR G F (hmo' i d h) (hf i d h) a2 (xF C m2 hmo' hf)
theorem Ld{ds:List Df}{cs:List (Str×Gk)}{d:Df}{i n:Nat}{f:Addr}{fd:FuncData}(hcs:NoFn cs)(G:Ground P w K mg W p (glOf 0 ds++cs))(hp:p.fns=(ds++ms).map (·.fd))(hok:∀d∈ds,DfOk (glOf 0 ds++cs) d)(hat:∀d∈ds,DfAt K mg d)
 (C:ClFacts K mg W p (glOf 0 ds++cs) ms ad ds.length) (hmo:∀d∈ms,DfOk (glOf 0 ds++cs) d) (hma:∀i d,ms[i]?=some d->∃fd,Fun K d.name d.qual d.st (ad i) fd/\Binds K fd d.ps [])
 (F:Fun K d.name d.qual d.st f fd) (ok:DfOk (glOf 0 ds++cs) d) (hi:p.fns[i]?=some d.fd):FnOk P w K mg base CX0 (n+1) f fd d.ps (spFn W ((orc p w0 (n+1)).fn i) d.ps.length):=by
 obtain⟨a1,m1⟩:=yz (base:=base) (w0:=w0) hcs G hp hok hat C hmo hma n n (Nat.le_refl _);exact ok0 (pH G F ok hi a1 (xF C m1 (fun i d h=>hmo d (List.mem_of_getElem? h)) fun i d h=>by rw[hp,List.getElem?_map,List.getElem?_append_right (by omega),Nat.add_sub_cancel_left,h];rfl))
end
end
structure CsOk(P:Program)(w:World)(W:Wd)(mg:Str->Option Value)(q:Str×Gk):Prop where
 val:∀d,q.2=.val d->∃u v,mg q.1=some u/\RelV v u/\∀G,Rep W G d v
 dct:∀ks vs,q.2=.dct ks vs->∃ad,mg q.1=some (.ref ad)/\KDct P w W ad ks vs
theorem dC{x:Str}{g:Gk}:∀{l:List Df} {i:Nat},(glOf i l).lookup x=some g->∃j np,g=.fn j np
 | [],_,h=>by simp[glOf]at h
 | d::l,i,h=>by
   simp only[glOf,List.lookup_cons]at h
   cases e:(x==d.name)with
   | true=>rw[e]at h;cases h;exact⟨_,_,rfl⟩
   | false=>rw[e]at h;exact dC h
theorem Kf{P:Program}{w:World}{W:Wd}{mg:Str->Option Value}{ds:List Df}{cs:List (Str×Gk)}(h:∀q∈cs,CsOk P w W mg q):(∀x d,(glOf 0 ds++cs).lookup x=some (.val d)->∃u v,mg x=some u/\RelV v u/\∀G,Rep W G d v) /\
 ∀x ks vs,(glOf 0 ds++cs).lookup x=some (.dct ks vs)->∃ad,mg x=some (.ref ad)/\KDct P w W ad ks vs:=by
 have key:∀x g,(glOf 0 ds++cs).lookup x=some g->(∀j np,g≠.fn j np)->(x,g)∈cs:=fun x g e hn=>by
  rw[lookup_append]at e
  cases e1:(glOf 0 ds).lookup x with
  | some q=>
    rw[e1]at e;cases e;obtain⟨j,np,rfl⟩:=dC e1;exact absurd rfl (hn j np)
  | none=>rw[e1]at e;exact lookup_mem e
 exact⟨fun x d e=>(h _ (key x _ e (by simp))).val d rfl,fun x ks vs e=>(h _ (key x _ e (by simp))).dct ks vs rfl⟩
noncomputable def ctOf(l:List Addr)(c:Nat):Addr:=l.getD c 0
theorem JK{P:Str->Nat->Prop}{ds:List Df}{cs:List (Str×Gk)}(h:∀q∈cs,∀c,q.2=.cls c->P q.1 c):∀x c,clOf (glOf 0 ds++cs) x=some c->P x c:=fun x c e=>by
 unfold clOf at e
 cases e0:(glOf 0 ds++cs).lookup x with
 | none=>rw[e0]at e;cases e
 | some g=>
   rw[e0]at e
   cases g with
   | cls c'=>
     cases e;rw[lookup_append]at e0
     cases e1:(glOf 0 ds).lookup x with
     | some q=>
       rw[e1]at e0;cases e0;obtain⟨j,np,z⟩:=dC e1;cases z
     | none=>rw[e1]at e0;exact h _ (lookup_mem e0) c rfl
   | _=>cases e
theorem Dh{K:PySem.W.Frag}{mg:Str->Option Value}{W:Wd}{p:Nat->Nat->Bool}{ds:List Df}{cs:List (Str×Gk)}(h:∀q∈cs,∀c,q.2≠.cls c)(hs:∀c c',p c c'=false):XFacts K mg W p (clOf (glOf 0 ds++cs)) :=
 have no:∀x c,clOf (glOf 0 ds++cs) x=some c->False:=JK fun q hq c e=>h q hq c e
 ⟨fun x c e=>(no x c e).elim,fun c e=>(by rw[hs]at e;cases e),fun x c c' e=>(no x c' e).elim,fun x c c' e=>(no x c' e).elim⟩
noncomputable def bodyOf:Stmt->List Stmt
 | .ClassDef _ _ _ b _ _ _ _ _ _ _=>b
 | _=>[]
theorem Fi{P:Str->Nat->Prop}{ds:List Df}{cs:List (Str×Gk)}(h:∀q∈cs,∀c,q.2=.ocl c->P q.1 c):∀x c,nQ (glOf 0 ds++cs) x=some c->P x c:=fun x c e=>by
 unfold nQ at e
 cases e0:(glOf 0 ds++cs).lookup x with
 | none=>rw[e0]at e;cases e
 | some g=>
   rw[e0]at e
   cases g with
   | ocl c'=>
     cases e;rw[lookup_append]at e0
     cases e1:(glOf 0 ds).lookup x with
     | some q=>
       rw[e1]at e0;cases e0;obtain⟨j,np,z⟩:=dC e1;cases z
     | none=>rw[e1]at e0;exact h _ (lookup_mem e0) c rfl
   | _=>cases e
theorem bH{K:PySem.W.Frag}{C:Addr}(h:(PySem.W.plainGet K C Str.empty&&PySem.W.hasDictIn K C&&PySem.W.plainOver K C&&decide (PySem.W.findIn K (.ref C) "__setattr__"=some (some (.builtin "object.__setattr__"))))=true):Cls K C:=by
 simp only[Bool.and_eq_true,decide_eq_true_eq]at h;exact⟨h.1.1.1,h.1.1.2,h.1.2,h.2⟩
theorem bu{K:PySem.W.Frag}{C f:Addr}{m:Str}(h:(decide (PySem.W.findIn K (.ref C) m=some (some (.ref f)))&&PySem.W.isFn K (.ref f)&&PySem.W.keepIn K (.ref f))=true):Meth K C m f:=by
 simp only[Bool.and_eq_true,decide_eq_true_eq]at h;exact⟨h.1.1,h.1.2,h.2⟩
theorem mk_k{K:PySem.W.Frag}{C f:Addr}(h:(PySem.W.makesIn K C&&decide (PySem.W.findIn K (.ref C) "__init__"=some (some (.ref f)))&&PySem.W.isFn K (.ref f)&&PySem.W.keepIn K (.ref C))=true):Mk K C f:=by
 simp only[Bool.and_eq_true,decide_eq_true_eq]at h;exact⟨h.1.1.1,h.1.1.2,h.1.2,h.2⟩
theorem eU{K:PySem.W.Frag}{C:Addr}{fl:List Str}(h:(fl.all fun f=>decide (PySem.W.findIn K (.ref C) f=some none))=true):∀f∈fl,NoAttr K C f:=fun f hf=>by
 rw[List.all_eq_true]at h;exact of_decide_eq_true (p:=PySem.W.findIn K (.ref C) f=some none) (h f hf)
theorem mU{W:Wd}{G:Hp}:∀ns:List Int,Reps W G (ns.map .int) (ns.map V.int)
 | []=>by simp only[List.map_nil,Reps]
 | n::ns=>by simp only[List.map_cons,Reps,Rep];exact⟨trivial,mU ns⟩
noncomputable def spZ(K:PySem.W.Frag)(p:Prg)(n i:Nat):Sp:=fun vs H Q E=>∃w0,∀CT,spFn ⟨K,CT⟩ ((orc p w0 n).fn i) 1 vs H Q E
theorem Cz{K:PySem.W.Frag}{p:Prg}{n i:Nat}{H:Hp}{a:Addr}{ns:List Int}(hp:∃w0,(orc p w0 n).fn i [.lst (ns.map .int)]=.ok (false,.bl true))(hS:SqL K H a (ns.map V.int)):spZ K p n i [.ref a] H (fun v _=>v=.bl true) fun _ _ _=>False:=by
 obtain⟨w0,e⟩:=hp;refine⟨w0,fun CT=>⟨rfl,fun _=>False,[.lst (ns.map .int)],fun _ z=>z.elim,fun _ z=>z.elim,?_,_,e,fun v H' s q=>?_⟩⟩
 ·simp only[Reps,Rep]
  refine⟨⟨a,_,rfl,?_,mU ns⟩,trivial⟩
  have:Same H (vis H fun _=>False):=fun b o h=>bN h fun z=>z
  exact this.seq hS
 ·have:=q.look
  simp only[RepT,Rep]at this;exact this
theorem walkZ{l:PySem.W.OpenLaw}{q:Program}{loose:List Str}{XP:(Str->Option Value)->Heap->Prop}{YP:World->Heap->Prop}{d:DefRec}{K:Params->PySem.W.Frag}{p:Prg}{n i:Nat}{x:Str}
 (hn:l.most=some 63) (hdf:d.params.defaults=[]) (hr:Room n callerA) (hY:∀(w:World) (h:Heap),YP w h->(K w.params).In h)
 (F:∀(w:World) (mg:Str->Option Value) (fa:Addr) (h:Heap),(K w.params).In h->h.Ns mainGlobals mg->mg d.name=some (.ref fa) ->
  ∃(fd:FuncData) (CT:Nat->Addr),(∀(s:Shared) (u:Value),BindsTo s fd ⟨[u],[]⟩ [(x,u)])/\∀(base:Heap) (w0:Nat),FnOk l.prog w (K w.params) mg base CX0 n fa fd [x] (spFn ⟨K w.params,CT⟩ ((orc p w0 n).fn i) 1))
 (hp:∀ns:List Int,ns.length<=63->∃w0,(orc p w0 n).fn i [.lst (ns.map .int)]=.ok (false,.bl true)) :
 PySem.W.WalkO q loose XP YP l.row.toRowW d [] (fun f vs=>PySem.call f vs):=by
 refine L2.walk_of (n:=63) (k:=n) (x:=x) (CX:=fun _=>CX0) (sp:=fun w=>spZ (K w.params) p n i) hn (by decide) hdf hr hY (fun w mg fa h KX G hm=>?_) (fun w H a ns hl _ hS=>Cz (hp ns hl) hS) fun _ _ _ _ _ z=>z
 obtain⟨fd,CT,hb,hF⟩:=F w mg fa h KX G hm;refine⟨fd,hb,fun base _ _=>⟨fun vs H Q E ⟨w0,q⟩=>(hF base w0).len vs H Q E (q CT),fun A outer s H args us vs Q E hr he hb hv ⟨w0,hs⟩=>(hF base w0).run A outer s H args us vs Q E hr he hb hv (hs CT)⟩⟩
theorem us1{α:Type}{P:List α->Prop}(h:∀a,P [a]):∀us:List α,us.length=1->P us
 | [a],_=>h a
theorem us2{α:Type}{P:List α->Prop}(h:∀a b,P [a,b]):∀us:List α,us.length=2->P us
 | [a,b],_=>h a b
theorem us3{α:Type}{P:List α->Prop}(h:∀a b c,P [a,b,c]):∀us:List α,us.length=3->P us
 | [a,b,c],_=>h a b c
theorem us4{α:Type}{P:List α->Prop}(h:∀a b c d,P [a,b,c,d]):∀us:List α,us.length=4->P us
 | [a,b,c,d],_=>h a b c d
theorem us5{α:Type}{P:List α->Prop}(h:∀a b c d e,P [a,b,c,d,e]):∀us:List α,us.length=5->P us
 | [a,b,c,d,e],_=>h a b c d e
noncomputable def bK(d:Df):Prop:=∀(kV doc pm:Value) (an:Option Addr) (cdv ct:Value) (us:List Value),us.length=d.ps.length->bindArgs (PySem.W.fnOf d.name d.qual (aQ d.st) (aH d.st) (ak d.st) .none kV doc pm an cdv ct) ⟨us,[]⟩=pure (d.ps.zip us)
theorem lR{d:Df}(hn:d.ps.length=1)(h:∀(kV doc pm:Value) (an:Option Addr) (cdv ct:Value) (a:Value),bindArgs (PySem.W.fnOf d.name d.qual (aQ d.st) (aH d.st) (ak d.st) .none kV doc pm an cdv ct) ⟨[a],[]⟩=pure (d.ps.zip [a])):bK d:=fun kV doc pm an cdv ct us hl=>us1 (P:=fun us=>bindArgs (PySem.W.fnOf d.name d.qual (aQ d.st) (aH d.st) (ak d.st) .none kV doc pm an cdv ct) ⟨us,[]⟩=pure (d.ps.zip us)) (h kV doc pm an cdv ct) us (hl.trans hn)
theorem cI{d:Df}(hn:d.ps.length=2)(h:∀(kV doc pm:Value) (an:Option Addr) (cdv ct:Value) (a b:Value),bindArgs (PySem.W.fnOf d.name d.qual (aQ d.st) (aH d.st) (ak d.st) .none kV doc pm an cdv ct) ⟨[a,b],[]⟩=pure (d.ps.zip [a,b])):bK d:=fun kV doc pm an cdv ct us hl=>us2 (P:=fun us=>bindArgs (PySem.W.fnOf d.name d.qual (aQ d.st) (aH d.st) (ak d.st) .none kV doc pm an cdv ct) ⟨us,[]⟩=pure (d.ps.zip us)) (h kV doc pm an cdv ct) us (hl.trans hn)
theorem qb{d:Df}(hn:d.ps.length=3)(h:∀(kV doc pm:Value) (an:Option Addr) (cdv ct:Value) (a b c:Value),bindArgs (PySem.W.fnOf d.name d.qual (aQ d.st) (aH d.st) (ak d.st) .none kV doc pm an cdv ct) ⟨[a,b,c],[]⟩=pure (d.ps.zip [a,b,c])):bK d:=fun kV doc pm an cdv ct us hl=>us3 (P:=fun us=>bindArgs (PySem.W.fnOf d.name d.qual (aQ d.st) (aH d.st) (ak d.st) .none kV doc pm an cdv ct) ⟨us,[]⟩=pure (d.ps.zip us)) (h kV doc pm an cdv ct) us (hl.trans hn)
theorem BW{d:Df}(hn:d.ps.length=4)(h:∀(kV doc pm:Value) (an:Option Addr) (cdv ct:Value) (a b c e:Value),bindArgs (PySem.W.fnOf d.name d.qual (aQ d.st) (aH d.st) (ak d.st) .none kV doc pm an cdv ct) ⟨[a,b,c,e],[]⟩=pure (d.ps.zip [a,b,c,e])):bK d:=fun kV doc pm an cdv ct us hl=>us4 (P:=fun us=>bindArgs (PySem.W.fnOf d.name d.qual (aQ d.st) (aH d.st) (ak d.st) .none kV doc pm an cdv ct) ⟨us,[]⟩=pure (d.ps.zip us)) (h kV doc pm an cdv ct) us (hl.trans hn)
theorem HR{d:Df}(hn:d.ps.length=5)(h:∀(kV doc pm:Value) (an:Option Addr) (cdv ct:Value) (a b c e f:Value),bindArgs (PySem.W.fnOf d.name d.qual (aQ d.st) (aH d.st) (ak d.st) .none kV doc pm an cdv ct) ⟨[a,b,c,e,f],[]⟩=pure (d.ps.zip [a,b,c,e,f])):bK d:=fun kV doc pm an cdv ct us hl=>us5 (P:=fun us=>bindArgs (PySem.W.fnOf d.name d.qual (aQ d.st) (aH d.st) (ak d.st) .none kV doc pm an cdv ct) ⟨us,[]⟩=pure (d.ps.zip us)) (h kV doc pm an cdv ct) us (hl.trans hn)
theorem N8{K:PySem.W.Frag}{d:Df}{f:Addr}{od an:Option Addr}{sl:Array (Option Value)}{oc kV dc pm cd ct:Value}(l:K.lookup f=some ⟨oc,od,.func (PySem.W.fnOf d.name d.qual (aQ d.st) (aH d.st) (ak d.st) .none kV dc pm an cd ct),sl⟩)(c:PySem.W.codeIn K cd d.qual=true)(k:PySem.W.keepIn K (.ref f)=true)
 (hb:bK d):∃fd,Fun K d.name d.qual d.st f fd/\Binds K fd d.ps []:=⟨_,lU l c k,(lU (st:=d.st) l c k).binds hb⟩
theorem Lf{K:PySem.W.Frag}{h:Heap}{mg:Str->Option Value}{d:Df}{f:Addr}{od an:Option Addr}{sl:Array (Option Value)}{oc kV dc pm cd ct:Value}(X:K.In h)(G:h.Ns mainGlobals mg)
 (a:PySem.W.nsIn K mainGlobals d.name=some (some (.ref f))) (l:K.lookup f=some ⟨oc,od,.func (PySem.W.fnOf d.name d.qual (aQ d.st) (aH d.st) (ak d.st) .none kV dc pm an cd ct),sl⟩) (c:PySem.W.codeIn K cd d.qual=true) (k:PySem.W.keepIn K (.ref f)=true)
 (hb:bK d):DfAt K mg d :=
 ⟨f,_,lU l c k,(lU (st:=d.st) l c k).binds hb,PySem.W.mg_of X G a⟩
end Z
namespace KG
open Z
theorem aq{o:Orc}{s:S}{l:SL}{δ δ':Dst}(h:evS o s δ=.nx δ'):evSs o (.cons s l) δ=evSs o l δ':=by simp only[evSs,h]
theorem aF(a b:Int)(hb:0<b):0<=a.fmod b/\a.fmod b<b:=⟨Int.fmod_nonneg_of_pos a hb,Int.fmod_lt_of_pos a hb⟩
noncomputable def L26:List Nat:=[97,98,99,100,101,102,103,104,105,106,107,108,109,110,111,112,113,114,115,116,117,118,119,120,121,122]
noncomputable def S36:List Nat:=L26++[48,49,50,51,52,53,54,55,56,57]
theorem Hh:L26.length=26:=rfl
theorem FQ:S36.length=36:=rfl
noncomputable def lt(j:Int):Nat:=L26.getD (j.fmod 26).toNat 0
noncomputable def sg(j:Int):Nat:=S36.getD (j.fmod 36).toNat 0
theorem wA(x:List Nat)(j:Int)(h0:0<=j)(h1:j<x.length):idxD (.str x) (.int j)=.ok (false,.str [x.getD j.toNat 0]):=by
 have hn:j.toNat<x.length:=by omega
 simp only[idxD,place,if_pos h0,if_pos h1,Option.bind_some,R.of];rw[List.getElem?_eq_getElem hn];simp[List.getD_eq_getElem?_getD,List.getElem?_eq_getElem hn]
theorem Bp(j:Int):idxD (.str L26) (.int (j.fmod 26))=.ok (false,.str [lt j]):=by
 obtain⟨h1,h2⟩:=aF j 26 (by omega);exact wA L26 _ h1 (by rw[Hh];omega)
theorem Bh(j:Int):idxD (.str S36) (.int (j.fmod 36))=.ok (false,.str [sg j]):=by
 obtain⟨h1,h2⟩:=aF j 36 (by omega);exact wA S36 _ h1 (by rw[FQ];omega)
theorem km{f c:List D->R (Bool×D)}{g:D->D}:∀{l:List D},(∀d∈l,c [d]=.ok (false,.bl true))->(∀d∈l,∃w,f [d]=.ok (w,g d))->bA f c 1 false l=.ok (l.map g)
 | [],_,_=>rfl
 | d::l,hc,hf=>by
   obtain⟨w,e⟩:=hf d List.mem_cons_self;have ih:=km (fun d h=>hc d (List.mem_cons_of_mem _ h)) (fun d h=>hf d (List.mem_cons_of_mem _ h));simp only[bA,takes,Bool.false_eq_true,if_false,R.of,R.bind,hc d List.mem_cons_self,truth,if_true,e,ih,List.map_cons]
theorem jn{f c:List D->R (Bool×D)}{g:D->D}{q:D->Bool}:∀{l:List D},(∀d∈l,c [d]=.ok (false,.bl (q d)))->(∀d∈l,q d=true->∃w,f [d]=.ok (w,g d))->bA f c 1 false l=.ok ((l.filter q).map g)
 | [],_,_=>rfl
 | d::l,hc,hf=>by
   have ih:=jn (fun d h=>hc d (List.mem_cons_of_mem _ h)) (fun d h=>hf d (List.mem_cons_of_mem _ h))
   cases hq:q d with
   | true=>
     obtain⟨w,e⟩:=hf d List.mem_cons_self hq;simp only[bA,takes,Bool.false_eq_true,if_false,R.of,R.bind,hc d List.mem_cons_self,truth,hq,if_true,e,ih,List.filter_cons_of_pos hq,List.map_cons]
   | false=>
     simp only[bA,takes,Bool.false_eq_true,if_false,R.of,R.bind,hc d List.mem_cons_self,truth,hq,ih,List.filter_cons_of_neg (show ¬q d=true by simp[hq])]
noncomputable def dN(cell base:Int):Int:=if(base.fdiv 8).fmod 2=1 then 1+(base+cell).fmod 8 else 1+base.fmod 8
noncomputable def pM(cell base:Int):List Nat:=((List.range (dN cell base).toNat).map fun(k:Nat)=>sg (base.fdiv 3+5*(k:Int))).set 0 (lt (base.fdiv 3))
noncomputable def gq(cell base:Int):Int:=(base.fdiv 16).fmod (dN cell base)
noncomputable def wy(cell base:Int):List Nat:=if gq cell base=0 then(pM cell base).set 0 (lt (base.fdiv 5+cell))else(pM cell base).set (gq cell base).toNat (sg (base.fdiv 5+cell))
noncomputable def jP:List (List Nat):=[[97,110,100],[111,114],[110,111,116],[115,111,109,101],[97,108,108],[97,108,105,107,101],[98,121]]
noncomputable def nm(cell base:Int):List Nat:=if wy cell base∈jP then wy cell base++[57]else wy cell base
theorem zq(cell base:Int):1<=dN cell base/\dN cell base<=8:=by
 unfold dN;have h1:=aF (base+cell) 8 (by omega);have h2:=aF base 8 (by omega);split<;>omega
noncomputable def nmS0:S:=(S.set 2 (T.cst (D.str L26)))
noncomputable def nmS1:S:=(S.set 3 (T.op2 .add (T.var 2) (T.cst (D.str [48,49,50,51,52,53,54,55,56,57]))))
noncomputable def nmS2:S:=(S.set 4 (T.op2 .add (T.cst (D.int 1)) (T.op2 .mod (T.var 1) (T.cst (D.int 8)))))
noncomputable def nmS3:S:=(S.ifs (T.op2 .eq (T.op2 .mod (T.op2 .fdiv (T.var 1) (T.cst (D.int 8))) (T.cst (D.int 2))) (T.cst (D.int 1))) (SL.cons (S.set 4 (T.op2 .add (T.cst (D.int 1)) (T.op2 .mod (T.op2 .add (T.var 1) (T.var 0)) (T.cst (D.int 8))))) SL.nil) SL.nil)
noncomputable def nmS4:S:=(S.set 5 (T.comp [1,3] 1 false (TI.rng1 (T.var 4)) (T.cst (D.bl true)) (T.idx (T.var 2) (T.op2 .mod (T.op2 .add (T.op2 .fdiv (T.var 1) (T.cst (D.int 3))) (T.op2 .mul (T.cst (D.int 5)) (T.var 0))) (T.cst (D.int 36))))))
noncomputable def nmS5:S:=(S.seti 5 (T.cst (D.int 0)) (T.idx (T.var 2) (T.op2 .mod (T.op2 .fdiv (T.var 1) (T.cst (D.int 3))) (T.cst (D.int 26)))))
noncomputable def nmS6:S:=(S.set 6 (T.op2 .mod (T.op2 .fdiv (T.var 1) (T.cst (D.int 16))) (T.var 4)))
noncomputable def nmS7:S:=(S.ifs (T.op2 .eq (T.var 6) (T.cst (D.int 0))) (SL.cons (S.seti 5 (T.cst (D.int 0)) (T.idx (T.var 2) (T.op2 .mod (T.op2 .add (T.op2 .fdiv (T.var 1) (T.cst (D.int 5))) (T.var 0)) (T.cst (D.int 26))))) SL.nil) (SL.cons (S.seti 5 (T.var 6) (T.idx (T.var 3) (T.op2 .mod (T.op2 .add (T.op2 .fdiv (T.var 1) (T.cst (D.int 5))) (T.var 0)) (T.cst (D.int 36))))) SL.nil))
noncomputable def nmS8:S:=(S.set 7 (T.m1 .join (T.cst (D.str [])) (T.var 5)))
noncomputable def nmS9:S:=(S.ifs (T.op2 .in (T.var 7) (T.tup (TL.cons (T.cst (D.str [97,110,100])) (TL.cons (T.cst (D.str [111,114])) (TL.cons (T.cst (D.str [110,111,116])) (TL.cons (T.cst (D.str [115,111,109,101])) (TL.cons (T.cst (D.str [97,108,108])) (TL.cons (T.cst (D.str [97,108,105,107,101])) (TL.cons (T.cst (D.str [98,121])) TL.nil))))))))) (SL.cons (S.ret (T.op2 .add (T.var 7) (T.cst (D.str [57])))) SL.nil) SL.nil)
noncomputable def Dj:S:=(S.ret (T.var 7))
noncomputable def nmFd:Fd:=⟨2,8,(SL.cons nmS0 (SL.cons nmS1 (SL.cons nmS2 (SL.cons nmS3 (SL.cons nmS4 (SL.cons nmS5 (SL.cons nmS6 (SL.cons nmS7 (SL.cons nmS8 (SL.cons nmS9 (SL.cons Dj SL.nil)))))))))))⟩
theorem log8:Nat.log2 8<9000:=by decide
theorem log3:Nat.log2 3<9000:=by decide
theorem Ny:Nat.log2 16<9000:=by decide
theorem log5:Nat.log2 5<9000:=by decide
theorem mul5(k:Int):fX 5 k=true:=by
 have:bits 5<=64:=by decide
 simp[fX,this]
section
variable(o:Orc)(cell base:Int)
theorem nm0(a b c d e f:Option Slot):evS o nmS0 [some (.sh,.int cell),some (.sh,.int base),a,b,c,d,e,f]=.nx [some (.sh,.int cell),some (.sh,.int base),some (.sh,.str L26),b,c,d,e,f]:=by
 simp[nmS0,evS,evF,ev,SO.of,setSlot,az]
theorem nm1(b c d e f:Option Slot):evS o nmS1 [some (.sh,.int cell),some (.sh,.int base),some (.sh,.str L26),b,c,d,e,f]=.nx [some (.sh,.int cell),some (.sh,.int base),some (.sh,.str L26),some (.sh,.str S36),c,d,e,f]:=by
 simp[nmS1,evS,evF,ev,SO.of,setSlot,az,o2,R.bind,R.chk,size,S36,L26]
theorem nm2(c d e f:Option Slot):evS o nmS2 [some (.sh,.int cell),some (.sh,.int base),some (.sh,.str L26),some (.sh,.str S36),c,d,e,f]=.nx [some (.sh,.int cell),some (.sh,.int base),some (.sh,.str L26),some (.sh,.str S36),some (.sh,.int (1+base.fmod 8)),d,e,f]:=by
 simp[nmS2,evS,evF,ev,SO.of,setSlot,az,o2,R.bind,R.chk,arith]
theorem nm3(d e f:Option Slot):evS o nmS3 [some (.sh,.int cell),some (.sh,.int base),some (.sh,.str L26),some (.sh,.str S36),some (.sh,.int (1+base.fmod 8)),d,e,f]=.nx [some (.sh,.int cell),some (.sh,.int base),some (.sh,.str L26),some (.sh,.str S36),some (.sh,.int (dN cell base)),d,e,f]:=by
 unfold dN;generalize 1+base.fmod 8=z
 by_cases h:(base.fdiv 8).fmod 2=1
 ·rw[if_pos h]
  simp[nmS3,evSs,evS,evF,ev,SO.of,setSlot,az,o2,R.bind,R.chk,arith,eqA,eqS,R.of,truth,h,log8]
 ·rw[if_neg h]
  simp[nmS3,evSs,evS,evF,ev,SO.of,setSlot,az,o2,R.bind,R.chk,arith,eqA,eqS,R.of,truth,h,log8]
noncomputable def strD(l:List Nat):List D:=l.map fun c=>.str [c]
theorem nm4(e f:Option Slot)(z:Int)(hz:1<=z/\z<=8):evS o nmS4 [some (.sh,.int cell),some (.sh,.int base),some (.sh,.str L26),some (.sh,.str S36),some (.sh,.int z),none,e,f]=.nx [some (.sh,.int cell),some (.sh,.int base),some (.sh,.str L26),some (.sh,.str S36),some (.sh,.int z),some (.ow,.lst (strD ((List.range z.toNat).map fun(k:Nat)=>sg (base.fdiv 3+5*(k:Int))))),e,f]:=by
 have hr:inR z=true:=by simp[inR];omega
 have hcg:bA (fun x=>ev o ((x++[D.int base,D.str S36]).map fun d=>some (Own.sh,d)) false (T.idx (T.var 2) (T.op2 .mod (T.op2 .add (T.op2 .fdiv (T.var 1) (T.cst (D.int 3))) (T.op2 .mul (T.cst (D.int 5)) (T.var 0))) (T.cst (D.int 36))))) (fun x=>ev o ((x++[D.int base,D.str S36]).map fun d=>some (Own.sh,d)) true (T.cst (D.bl true))) 1 false (rngD 0 z)=.ok (strD ((List.range z.toNat).map fun(k:Nat)=>sg (base.fdiv 3+5*(k:Int)))):=by
  rw[km (g:=fun d=>match d with | .int k=>.str [sg (base.fdiv 3+5*k)] | _=>.non)]
  ·simp[rngD,strD]
  ·intro d _
   simp[ev]
  ·intro d hd
   obtain⟨k,_,rfl⟩:=List.mem_map.mp hd;refine⟨false,?_⟩;simp[ev,o2,R.bind,arith,R.chk,log3,mul5,Bh]
 have hsz:(strD ((List.range z.toNat).map fun(k:Nat)=>sg (base.fdiv 3+5*(k:Int)))).length<=16777216:=by
  simp[strD];omega
 generalize strD ((List.range z.toNat).map fun(k:Nat)=>sg (base.fdiv 3+5*(k:Int)))=row at hcg hsz
 have he:ev o [some (.sh,.int cell),some (.sh,.int base),some (.sh,.str L26),some (.sh,.str S36),some (.sh,.int z),none,e,f] false (T.comp [1,3] 1 false (TI.rng1 (T.var 4)) (T.cst (D.bl true)) (T.idx (T.var 2) (T.op2 .mod (T.op2 .add (T.op2 .fdiv (T.var 1) (T.cst (D.int 3))) (T.op2 .mul (T.cst (D.int 5)) (T.var 0))) (T.cst (D.int 36)))))=.ok (true,.lst row):=by
  rw[ev]
  have h1:evI o [some (.sh,.int cell),some (.sh,.int base),some (.sh,.str L26),some (.sh,.str S36),some (.sh,.int z),none,e,f] true (TI.rng1 (T.var 4))=.ok (rngD 0 z):=by simp[evI,ev,R.bind,R.chk,hr]
  have h2:cA [some (.sh,.int cell),some (.sh,.int base),some (.sh,.str L26),some (.sh,.str S36),some (.sh,.int z),none,e,f] [1,3]=some [.int base,.str S36]:=by simp[cA,sI]
  rw[h1,h2];simp only[R.bind,R.of];rw[hcg];simp[R.chk,size,hsz,isOwn]
 simp only[nmS4,evS,evF,he];simp[SO.of,setSlot,az]
theorem lA(l:List Nat)(n c:Nat):(strD l).set n (.str [c])=strD (l.set n c):=by
 simp[strD,List.map_set]
theorem qm(l:List Nat):(strD l).length=l.length:=by simp[strD]
theorem nm5(e f:Option Slot)(z:Option Slot)(r:List Nat)(hr:0<r.length):evS o nmS5 [some (.sh,.int cell),some (.sh,.int base),some (.sh,.str L26),some (.sh,.str S36),z,some (.ow,.lst (strD r)),e,f]=.nx [some (.sh,.int cell),some (.sh,.int base),some (.sh,.str L26),some (.sh,.str S36),z,some (.ow,.lst (strD (r.set 0 (lt (base.fdiv 3))))),e,f]:=by
 have hr':0<(strD r).length:=by rw[qm];omega
 simp[nmS5,evS,evF,ev,SO.of,az,o2,R.bind,R.chk,arith,log3,Bp,ownD,putItem,place,hr',lA]
theorem nm6(f:Option Slot)(r:Option Slot)(z:Int)(hz:1<=z):evS o nmS6 [some (.sh,.int cell),some (.sh,.int base),some (.sh,.str L26),some (.sh,.str S36),some (.sh,.int z),r,none,f]=.nx [some (.sh,.int cell),some (.sh,.int base),some (.sh,.str L26),some (.sh,.str S36),some (.sh,.int z),r,some (.sh,.int ((base.fdiv 16).fmod z)),f]:=by
 have:z≠0:=by omega
 simp[nmS6,evS,evF,ev,SO.of,setSlot,az,o2,R.bind,R.chk,arith,Ny,this]
theorem nm7(f z:Option Slot)(r:List Nat)(q:Int)(hq:0<=q/\q<r.length):evS o nmS7 [some (.sh,.int cell),some (.sh,.int base),some (.sh,.str L26),some (.sh,.str S36),z,some (.ow,.lst (strD r)),some (.sh,.int q),f] =
 .nx [some (.sh,.int cell),some (.sh,.int base),some (.sh,.str L26),some (.sh,.str S36),z,some (.ow,.lst (strD (if q=0 then r.set 0 (lt (base.fdiv 5+cell))else r.set q.toNat (sg (base.fdiv 5+cell))))),some (.sh,.int q),f]:=by
 have hr':q<((strD r).length:Int):=by rw[qm];exact hq.2
 by_cases h:q=0
 ·subst h
  have hr':0<(strD r).length:=by omega
  simp[nmS7,evSs,evS,evF,ev,SO.of,az,o2,R.bind,R.chk,arith,eqA,eqS,R.of,truth,log5,Bp,ownD,putItem,place,hr',lA]
 ·simp[nmS7,evSs,evS,evF,ev,SO.of,az,o2,R.bind,R.chk,arith,eqA,eqS,R.of,truth,log5,Bh,ownD,putItem,place,hr',hq.1,h,lA]
theorem j9:∀l:List Nat,strsOf (strD l)=some (l.map fun c=>[c])
 | []=>rfl
 | c::l=>by
   have:=j9 l;simp only[strD,List.map_cons,strsOf]at this ⊢;rw[this];rfl
theorem jH:∀l:List Nat,iM [] (l.map fun c=>[c])=l
 | []=>rfl
 | [c]=>rfl
 | c::d::l=>by
   have:=jH (d::l);simp only[List.map_cons,iM]at this ⊢;rw[this];rfl
theorem qd:∀l:List Nat,((l.map fun c=>[c]).map List.length).sum=l.length
 | []=>rfl
 | c::l=>by
   have:=qd l;simp only[List.map_cons,List.sum_cons,List.length_cons,List.length_nil]at this ⊢;omega
theorem uH(l:List Nat):(List.map (List.length∘fun c=>[c]) l).sum=l.length:=by
 have:=qd l
 rwa [List.map_map]at this
theorem nm8(z q a b c d:Option Slot)(r:List Nat)(hr:r.length<=8):evS o nmS8 [a,b,c,d,z,some (.ow,.lst (strD r)),q,none]=.nx [a,b,c,d,z,some (.ow,.lst (strD r)),q,some (.sh,.str r)]:=by
 have hs:size r.length=true:=by simp[size];omega
 simp[nmS8,evS,evF,ev,SO.of,setSlot,az,R.bind,m1D,j9,uH,jH,R.of,hs]
theorem eX(x:List Nat):∀l:List (List Nat),inS (.str x) (l.map D.str)=some (decide (x∈l))
 | []=>rfl
 | y::l=>by
   simp only[List.map_cons,inS,eX x l,eqS]
   by_cases h:y=x
   ·simp[h]
   ·have:¬x=y:=fun z=>h z.symm
    simp[h,this]
theorem nm9(z q a b c d:Option Slot)(r:List Nat)(w:Option Slot)(hr:r.length<=8)(k:SL):evSs o (SL.cons nmS9 (SL.cons Dj SL.nil)) [a,b,c,d,z,w,q,some (.sh,.str r)]=.rt false (.str (if r∈jP then r++[57]else r)) [a,b,c,d,z,w,q,some (.sh,.str r)]:=by
 have hs:size (r.length+1)=true:=by simp[size];omega
 have hin:=eX r jP;simp only[jP,List.map_cons,List.map_nil]at hin
 have h7:size 7=true:=by decide
 have ht:ev o [a,b,c,d,z,w,q,some (.sh,.str r)] true (T.op2 .in (T.var 7) (T.tup (TL.cons (T.cst (D.str [97,110,100])) (TL.cons (T.cst (D.str [111,114])) (TL.cons (T.cst (D.str [110,111,116])) (TL.cons (T.cst (D.str [115,111,109,101])) (TL.cons (T.cst (D.str [97,108,108])) (TL.cons (T.cst (D.str [97,108,105,107,101])) (TL.cons (T.cst (D.str [98,121])) TL.nil)))))))))=.ok (false,.bl (decide (r∈jP))):=by
  simp only[ev,evL,R.bind,bM,Bool.or_self,R.chk,List.length_cons,List.length_nil,Nat.zero_add,Nat.reduceAdd,h7,Bool.not_false,Bool.and_self,if_true,o2,isIn,fL,hin,Option.map_some,R.of,List.getElem?_cons_succ,List.getElem?_cons_zero]
  rfl
 by_cases h:r∈jP
 ·have h9:evS o nmS9 [a,b,c,d,z,w,q,some (.sh,.str r)]=.rt false (.str (r++[57])) [a,b,c,d,z,w,q,some (.sh,.str r)]:=by
   simp only[nmS9,evS];rw[ht];simp[R.bind,truth,R.of,SO.of,h,evSs,evS,evF,ev,o2,R.chk,hs]
  simp only[evSs,h9,if_pos h]
 ·have h9:evS o nmS9 [a,b,c,d,z,w,q,some (.sh,.str r)]=.nx [a,b,c,d,z,w,q,some (.sh,.str r)]:=by
   simp only[nmS9,evS];rw[ht];simp[R.bind,truth,R.of,SO.of,h,evSs]
  simp only[evSs,h9,if_neg h,Dj,evS];simp
theorem yq{o:Orc}{f:Fd}{args:List D}{w:Bool}{d:D}{δ:Dst}(ha:args.length=f.np)(h:evSs o f.body (args.map (fun d=>some (Own.sh,d))++List.replicate (f.ns-f.np) none)=.rt w d δ):bG o f args=.ok (w,d):=by
 simp only[bG,ha,if_true,h]
theorem Jr:bG o nmFd [.int cell,.int base]=.ok (false,.str (nm cell base)):=by
 have hz:=zq cell base
 have hrow:(pM cell base).length=(dN cell base).toNat:=by simp[pM]
 have hp:=aF (base.fdiv 16) (dN cell base) (by omega)
 have h0:0<((List.range (dN cell base).toNat).map fun(k:Nat)=>sg (base.fdiv 3+5*(k:Int))).length:=by simp;omega
 have hl2:(if gq cell base=0 then(pM cell base).set 0 (lt (base.fdiv 5+cell))else(pM cell base).set (gq cell base).toNat (sg (base.fdiv 5+cell))).length<=8:=by
  split<;>(rw[List.length_set,hrow];omega)
 refine yq rfl (δ:=?_) ?_
 rotate_left
 refine(aq (nm0 o cell base _ _ _ _ _ _)).trans ?_;refine(aq (nm1 o cell base _ _ _ _ _)).trans ?_;refine(aq (nm2 o cell base _ _ _ _)).trans ?_;refine(aq (nm3 o cell base _ _ _)).trans ?_;refine(aq (nm4 o cell base _ _ _ hz)).trans ?_;refine(aq (nm5 o cell base _ _ _ _ h0)).trans ?_;refine(aq (nm6 o cell base _ _ _ hz.1)).trans ?_;refine(aq (nm7 o cell base _ _ (pM cell base) (gq cell base) (by rw[hrow];unfold gq;omega))).trans ?_;refine(aq (nm8 o _ _ _ _ _ _ _ hl2)).trans ?_;exact nm9 o _ _ _ _ _ _ _ _ hl2 .nil
end
end KG
namespace KG
open Z
theorem aD{o:Orc}{f:Fd}{args:List D}{w:Bool}{d:D}{δ0:Dst}(ha:args.length=f.np)(h0:args.map (fun d=>some (Own.sh,d))++List.replicate (f.ns-f.np) none=δ0)(h:∃δ,evSs o f.body δ0=.rt w d δ):bG o f args=.ok (w,d):=by
 obtain⟨δ,h⟩:=h;simp only[bG,ha,if_true,h0,h]
theorem stp{o:Orc}{s:S}{l:SL}{δ:Dst}{w:Bool}{d:D}(δ':Dst)(h:evS o s δ=.nx δ')(k:∃δ1,evSs o l δ'=.rt w d δ1):∃δ1,evSs o (.cons s l) δ=.rt w d δ1:=by
 obtain⟨δ1,k⟩:=k;exact⟨δ1,(aq h).trans k⟩
theorem stpR{o:Orc}{s:S}{l:SL}{δ:Dst}{w:Bool}{d:D}{δ':Dst}(h:evS o s δ=.rt w d δ'):∃δ1,evSs o (.cons s l) δ=.rt w d δ1:=⟨δ',by simp only[evSs,h]⟩
noncomputable def isV:T->Bool
 | .var _=>true
 | _=>false
theorem retE{o:Orc}{δ:Dst}{e:T}(hv:isV e=false):evS o (.ret e) δ=SO.of (evF o δ e).1 (evF o δ e).2 fun r=>.rt r.1 r.2 (evF o δ e).1:=by cases e<;>first | rfl | exact nomatch hv
theorem forE{o:Orc}{δ δ1:Dst}{tg:List Nat}{tp:Bool}{it:TI}{b:SL}(h:cU δ it=δ1):evS o (.for_ tg tp it b) δ=SO.of δ1 (evI o δ1 false it) fun l=>cX (evSs o b) tg tp l δ1:=by subst h;simp only[evS]
noncomputable def cellFd:Fd:=⟨2,2,(SL.cons (S.ifs (T.op2 .lt (T.var 1) (T.b1 .len (T.var 0))) (SL.cons (S.ret (T.idx (T.var 0) (T.var 1))) SL.nil) SL.nil) (SL.cons (S.ret (T.cst (D.int 0))) SL.nil))⟩
theorem xZ(o:Orc)(ns:List Int)(k:Nat):bG o cellFd [.lst (ns.map .int),.int (k:Int)]=.ok (false,.int (ns.getD k 0)):=by
 by_cases h:k<ns.length
 ·have h':(k:Int)<(ns.length:Int):=by omega
  have h0:(0:Int)<=k:=by omega
  simp[bG,cellFd,evSs,evS,evF,ev,R.bind,o2,b1D,arith,truth,R.of,SO.of,h,h',idxD,place,h0,List.getD_eq_getElem?_getD,List.getElem?_eq_getElem h]
 ·have h':¬(k:Int)<(ns.length:Int):=by omega
  have h2:ns[k]?=none:=List.getElem?_eq_none (by omega);simp[bG,cellFd,evSs,evS,evF,ev,R.bind,o2,b1D,arith,truth,R.of,SO.of,h,h',List.getD_eq_getElem?_getD,h2]
noncomputable def PR:List Int:=[271828183,314159269,161803399,141421357,173205081,223606797,244948975,264575131,331662479,360555127]
noncomputable def Gs:S:=(S.set 3 (T.lst (TL.cons (T.cst (D.int 271828183)) (TL.cons (T.cst (D.int 314159269)) (TL.cons (T.cst (D.int 161803399)) (TL.cons (T.cst (D.int 141421357)) (TL.cons (T.cst (D.int 173205081)) TL.nil)))))))
noncomputable def Eo:S:=(S.set 3 (T.op2 .add (T.var 3) (T.lst (TL.cons (T.cst (D.int 223606797)) (TL.cons (T.cst (D.int 244948975)) (TL.cons (T.cst (D.int 264575131)) (TL.cons (T.cst (D.int 331662479)) (TL.cons (T.cst (D.int 360555127)) TL.nil))))))))
noncomputable def GJ:S:=(S.ret (T.op2 .mod (T.op2 .mod (T.op2 .mul (T.op2 .add (T.var 0) (T.cst (D.int 1))) (T.idx (T.var 3) (T.var 1))) (T.cst (D.int 1000000007))) (T.var 2)))
noncomputable def mixFd:Fd:=⟨3,4,(SL.cons Gs (SL.cons Eo (SL.cons GJ SL.nil)))⟩
noncomputable def mixV(c:Int)(k:Nat)(m:Int):Int:=(((c+1)*PR.getD k 0).fmod 1000000007).fmod m
theorem Hd:∀p∈PR,bits p<=64:=by decide
theorem yt(k:Nat)(hk:k<10):bits (PR.getD k 0)<=64:=by
 apply Hd
 rw[List.getD_eq_getElem?_getD,List.getElem?_eq_getElem (show k<PR.length from hk)];exact List.getElem_mem _
theorem idx_int(x:List Int)(k:Nat)(h:k<x.length):idxD (.lst (x.map .int)) (.int (k:Int))=.ok (false,.int (x.getD k 0)):=by
 have h0:(0:Int)<=k:=by omega
 simp[idxD,place,h0,h,R.of,List.getD_eq_getElem?_getD,List.getElem?_eq_getElem h]
theorem mix2(o:Orc)(c m:Int)(k:Nat)(hk:k<10)(hm:m≠0):evS o GJ [some (.sh,.int c),some (.sh,.int k),some (.sh,.int m),some (.ow,.lst (PR.map .int))]=.rt false (.int (mixV c k m)) [some (.sh,.int c),some (.sh,.int k),some (.sh,.int m),some (.ow,.lst (PR.map .int))]:=by
 have hi:=idx_int PR k hk;have hb:=yt k hk;unfold mixV;generalize PR.getD k 0=p at hi hb;generalize PR.map D.int=L at hi
 have hm':fX (c+1) p=true:=by simp[fX,hb]
 simp[GJ,evS,evF,ev,R.bind,o2,arith,hi,R.chk,hm,hm',SO.of]
theorem Et(o:Orc)(c m:Int)(k:Nat)(hk:k<10)(hm:m≠0):bG o mixFd [.int c,.int (k:Int),.int m]=.ok (false,.int (mixV c k m)):=by
 refine aD rfl (δ0:=[some (.sh,.int c),some (.sh,.int k),some (.sh,.int m),none]) rfl ?_;refine stp (s:=Gs) [some (.sh,.int c),some (.sh,.int k),some (.sh,.int m),some (.ow,.lst [.int 271828183,.int 314159269,.int 161803399,.int 141421357,.int 173205081])] ?_ ?_
 ·simp[Gs,evS,evF,ev,evL,bM,R.bind,R.chk,size,SO.of,setSlot,az]
 refine stp (s:=Eo) [some (.sh,.int c),some (.sh,.int k),some (.sh,.int m),some (.ow,.lst (PR.map .int))] ?_ ?_
 ·simp[Eo,evS,evF,ev,evL,bM,R.bind,R.chk,size,SO.of,setSlot,az,o2,PR]
 exact stpR (mix2 o c m k hk hm)
theorem cM(c:Int)(k:Nat)(m:Int)(hm:0<m):0<=mixV c k m/\mixV c k m<m:=aF _ m hm
noncomputable def numFd:Fd:=⟨1,2,(SL.cons (S.ifs (T.op2 .eq (T.op2 .mod (T.var 0) (T.cst (D.int 2))) (T.cst (D.int 0))) (SL.cons (S.ret (T.op2 .sub (T.op2 .mod (T.op2 .fdiv (T.var 0) (T.cst (D.int 2))) (T.cst (D.int 15))) (T.cst (D.int 7)))) SL.nil) SL.nil) (SL.cons (S.set 1 (T.op2 .add (T.op2 .mod (T.op2 .fdiv (T.var 0) (T.cst (D.int 4))) (T.op2 .pow (T.cst (D.int 10)) (T.cst (D.int 20)))) (T.op2 .mul (T.op2 .mod (T.op2 .fdiv (T.var 0) (T.cst (D.int 4))) (T.cst (D.int 3))) (T.op2 .pow (T.cst (D.int 10)) (T.cst (D.int 19)))))) (SL.cons (S.ret (T.op2 .sub (T.var 1) (T.op2 .mul (T.op2 .mul (T.cst (D.int 2)) (T.var 1)) (T.op2 .mod (T.op2 .fdiv (T.var 0) (T.cst (D.int 2))) (T.cst (D.int 2)))))) SL.nil)))⟩
noncomputable def lO(c:Int):Int:=(c.fdiv 4).fmod 100000000000000000000+(c.fdiv 4).fmod 3*10000000000000000000
noncomputable def numV(c:Int):Int:=if c.fmod 2=0 then(c.fdiv 2).fmod 15-7 else lO c-2*lO c*(c.fdiv 2).fmod 2
theorem J9(o:Orc)(c:Int):ev o [some (.sh,.int c),none] false (T.op2 .add (T.op2 .mod (T.op2 .fdiv (T.var 0) (T.cst (D.int 4))) (T.op2 .pow (T.cst (D.int 10)) (T.cst (D.int 20)))) (T.op2 .mul (T.op2 .mod (T.op2 .fdiv (T.var 0) (T.cst (D.int 4))) (T.cst (D.int 3))) (T.op2 .pow (T.cst (D.int 10)) (T.cst (D.int 19)))))=.ok (false,.int (lO c)):=by
 have l4:Nat.log2 4<9000:=by decide
 have p20:arith .pow 10 20=.ok (false,.int 100000000000000000000):=by rfl
 have p19:arith .pow 10 19=.ok (false,.int 10000000000000000000):=by rfl
 have hb:bits 10000000000000000000<=64:=by decide
 have hm:∀x,fX x 10000000000000000000=true:=fun x=>by simp[fX,hb]
 have md:arith .mod (c.fdiv 4) 100000000000000000000=.ok (false,.int ((c.fdiv 4).fmod 100000000000000000000)):=by simp[arith,R.chk]
 have mu:∀x,arith .mul x 10000000000000000000=.ok (false,.int (x*10000000000000000000)):=fun x=>by simp[arith,R.chk,hm]
 have ad:∀x y,arith .add x y=.ok (false,.int (x+y)):=fun x y=>rfl
 have m3:∀x,arith .mod x 3=.ok (false,.int (x.fmod 3)):=fun x=>by simp[arith,R.chk]
 have d4:arith .fdiv c 4=.ok (false,.int (c.fdiv 4)):=by simp[arith,R.chk,l4]
 unfold lO;generalize (100000000000000000000:Int)=A at p20 md ⊢;generalize (10000000000000000000:Int)=B at p19 mu ⊢;simp[ev,R.bind,o2,d4,p20,p19,md,mu,ad,m3]
theorem Af(o:Orc)(c v:Int):ev o [some (.sh,.int c),some (.sh,.int v)] false (T.op2 .sub (T.var 1) (T.op2 .mul (T.op2 .mul (T.cst (D.int 2)) (T.var 1)) (T.op2 .mod (T.op2 .fdiv (T.var 0) (T.cst (D.int 2))) (T.cst (D.int 2)))))=.ok (false,.int (v-2*v*(c.fdiv 2).fmod 2)):=by
 have l2:Nat.log2 2<9000:=by decide
 have b2:bits 2<=64:=by decide
 have m2:fX 2 v=true:=by simp[fX,b2]
 have hq:=aF (c.fdiv 2) 2 (by omega)
 have m3:fX (2*v) ((c.fdiv 2).fmod 2)=true:=by
  have:(c.fdiv 2).fmod 2=0\/(c.fdiv 2).fmod 2=1:=by omega
  have b0:bits 0<=64:=by decide
  have b1:bits 1<=64:=by decide
  rcases this with e | e<;>simp[fX,e,b0,b1]
 simp[ev,R.bind,o2,arith,R.chk,l2,m2,m3]
theorem CQ(o:Orc)(c:Int):bG o numFd [.int c]=.ok (false,.int (numV c)):=by
 unfold numV
 by_cases h:c.fmod 2=0
 ·rw[if_pos h]
  have l2:Nat.log2 2<9000:=by decide
  simp[bG,numFd,evSs,evS,evF,ev,R.bind,o2,arith,R.chk,eqA,eqS,R.of,truth,SO.of,h,l2]
 ·rw[if_neg h]
  have hv:=J9 o c;generalize lO c=v at hv ⊢;have hr:=Af o c v;generalize v-2*v*(c.fdiv 2).fmod 2=r at hr ⊢;refine aD rfl (δ0:=[some (.sh,.int c),none]) rfl ?_;refine stp [some (.sh,.int c),none] ?_ ?_
  ·simp[evSs,evS,ev,R.bind,o2,arith,R.chk,eqA,eqS,R.of,truth,SO.of,h]
  refine stp [some (.sh,.int c),some (.sh,.int v)] ?_ ?_
  ·simp only[evS,evF,hv]
   simp[SO.of,setSlot,az]
  refine stpR (δ':=[some (.sh,.int c),some (.sh,.int v)]) ?_;simp only[evS,evF,hr,SO.of]
noncomputable def sameFd(ix:Nat):Fd:=⟨2,2,(SL.cons (S.ifs (T.isin (T.var 1) .tup) (SL.cons (S.ifs (T.or (T.not (T.isin (T.var 0) .tup)) (T.op2 .ne (T.b1 .len (T.var 0)) (T.b1 .len (T.var 1)))) (SL.cons (S.ret (T.cst (D.bl false))) SL.nil) SL.nil) (SL.cons (S.ret (T.b1 .all (T.comp [1,0] 1 false (TI.rng1 (T.b1 .len (T.var 1))) (T.cst (D.bl true)) (T.call ix (TL.cons (T.idx (T.var 2) (T.var 0)) (TL.cons (T.idx (T.var 1) (T.var 0)) TL.nil)))))) SL.nil)) SL.nil) (SL.cons (S.ifs (T.isin (T.var 1) .str) (SL.cons (S.ret (T.and (T.isin (T.var 0) .str) (T.op2 .eq (T.var 0) (T.var 1)))) SL.nil) SL.nil) (SL.cons (S.ret (T.and (T.isin (T.var 0) .int) (T.and (T.not (T.isin (T.var 0) .bool)) (T.op2 .eq (T.var 0) (T.var 1))))) SL.nil)))⟩
noncomputable def okT:Nat->D->Prop
 | _,.int _=>True
 | _,.str _=>True
 | n+1,.tup l=>l.length<=1000000/\∀d∈l,okT n d
 | _,_=>False
theorem same_int(o:Orc)(ix:Nat)(i:Int):bG o (sameFd ix) [.int i,.int i]=.ok (false,.bl true):=by
 simp[bG,sameFd,evSs,evS,evF,ev,R.bind,isD,R.of,truth,SO.of,o2,eqA,eqS,bT]
theorem same_str(o:Orc)(ix:Nat)(i:List Nat):bG o (sameFd ix) [.str i,.str i]=.ok (false,.bl true):=by
 simp[bG,sameFd,evSs,evS,evF,ev,R.bind,isD,R.of,truth,SO.of,o2,eqA,eqS,bT]
theorem gJ:∀n:Nat,boolsOf (List.replicate n (.bl true))=some (List.replicate n true)
 | 0=>rfl
 | n+1=>by simp[List.replicate_succ,boolsOf,gJ n]
theorem Dg(x:List D)(k:Nat)(h:k<x.length):idxD (.tup x) (.int (k:Int))=.ok (false,x[k]):=by
 have h0:(0:Int)<=k:=by omega
 simp[idxD,place,h0,h,R.of,List.getElem?_eq_getElem h]
theorem lM:∀n:Nat,immL (List.replicate n (.bl true))=true
 | 0=>rfl
 | n+1=>by simp[List.replicate_succ,immL,D.imm,lM n]
theorem aL(o:Orc)(ix:Nat)(l:List D)(hl:l.length<=1000000)(h:∀d∈l,o.fn ix [d,d]=.ok (false,.bl true)):bG o (sameFd ix) [.tup l,.tup l]=.ok (false,.bl true):=by
 have hr:inR (l.length:Int)=true:=by simp[inR];omega
 have hcg:bA (fun x=>ev o ((x++[D.tup l,D.tup l]).map fun d=>some (Own.sh,d)) false (T.call ix (TL.cons (T.idx (T.var 2) (T.var 0)) (TL.cons (T.idx (T.var 1) (T.var 0)) TL.nil)))) (fun x=>ev o ((x++[D.tup l,D.tup l]).map fun d=>some (Own.sh,d)) true (T.cst (D.bl true))) 1 false (rngD 0 l.length)=.ok (List.replicate l.length (.bl true)):=by
  rw[km (g:=fun d=>.bl true)]
  ·rw[List.map_const'];simp[rngD]
  ·intro d _
   simp[ev]
  ·intro d hd
   obtain⟨k,hk,rfl⟩:=List.mem_map.mp hd
   have hk':k<l.length:=by have:=List.mem_range.mp hk;omega
   refine⟨false,?_⟩;simp[ev,evL,R.bind,Dg l k hk',bM,h _ (List.getElem_mem hk'),lent]
 have hs:size l.length=true:=by simp[size];omega
 have he:ev o [some (.sh,.tup l),some (.sh,.tup l)] true (T.comp [1,0] 1 false (TI.rng1 (T.b1 .len (T.var 1))) (T.cst (D.bl true)) (T.call ix (TL.cons (T.idx (T.var 2) (T.var 0)) (TL.cons (T.idx (T.var 1) (T.var 0)) TL.nil))))=.ok (true,.lst (List.replicate l.length (.bl true))):=by
  rw[ev]
  have h1:evI o [some (.sh,.tup l),some (.sh,.tup l)] true (TI.rng1 (T.b1 .len (T.var 1)))=.ok (rngD 0 l.length):=by simp[evI,ev,R.bind,R.chk,b1D,hr]
  have h2:cA [some (.sh,.tup l),some (.sh,.tup l)] [1,0]=some [.tup l,.tup l]:=by simp[cA,sI]
  rw[h1,h2];simp only[R.bind,R.of];rw[hcg];simp[R.chk,hs,lM]
 refine aD rfl (δ0:=[some (.sh,.tup l),some (.sh,.tup l)]) rfl ?_;refine stpR (δ':=[some (.sh,.tup l),some (.sh,.tup l)]) ?_;rw[evS]
 have hc:((ev o [some (.sh,.tup l),some (.sh,.tup l)] true (T.isin (T.var 1) .tup)).bind fun x=>R.of (truth x.2))=.ok true:=by simp[ev,R.bind,isD,R.of,truth]
 rw[hc];simp only[SO.of,if_true];rw[aq (δ':=[some (.sh,.tup l),some (.sh,.tup l)])]
 ·have he2:ev o [some (.sh,.tup l),some (.sh,.tup l)] false (T.b1 .all (T.comp [1,0] 1 false (TI.rng1 (T.b1 .len (T.var 1))) (T.cst (D.bl true)) (T.call ix (TL.cons (T.idx (T.var 2) (T.var 0)) (TL.cons (T.idx (T.var 1) (T.var 0)) TL.nil)))))=.ok (false,.bl true):=by
   rw[ev,he];simp[R.bind,b1D,gJ,R.of]
  simp only[evSs,evS,evF,he2,SO.of]
 ·simp[evSs,evS,ev,R.bind,isD,R.of,truth,SO.of,o2,eqA,eqS,bT,b1D]
theorem same_refl(P:Prg)(w ix:Nat)(hP:P.fns[ix]?=some (sameFd ix)):∀(n:Nat) (d:D) (m:Nat),okT n d->n<m->(orc P w m).fn ix [d,d]=.ok (false,.bl true):=by
 intro n
 induction n with
 | zero=>
   intro d m h hm
   obtain⟨m,rfl⟩:∃k,m=k+1:=⟨m-1,by omega⟩
   cases d<;>simp only[okT]at h
   ·rw[bF hP];exact same_int _ _ _
   ·rw[bF hP];exact same_str _ _ _
 | succ n ih=>
   intro d m h hm
   obtain⟨m,rfl⟩:∃k,m=k+1:=⟨m-1,by omega⟩
   cases d<;>simp only[okT]at h
   ·rw[bF hP];exact same_int _ _ _
   ·rw[bF hP];exact same_str _ _ _
   ·rw[bF hP]
    exact aL _ _ _ h.1 fun d hd=>ih d m (h.2 d hd) (by omega)
end KG
namespace KG
open Z
theorem eZ:∀x y,ltS x y=true->ltS y x=false
 | [],[],h=>by simp[ltS]at h
 | [],_::_,_=>by simp[ltS]
 | _::_,[],h=>by simp[ltS]at h
 | a::x,b::y,h=>by
   simp only[ltS]at h ⊢
   by_cases h1:a<b
   ·have:¬b<a:=by omega
    simp[this,h1]
   ·by_cases h2:b<a
    ·simp[h1,h2]at h
    ·simp only[h1,h2,if_false]at h ⊢
     exact eZ x y h
theorem cR:∀x y,ltS x y=false->ltS y x=false->x=y
 | [],[],_,_=>rfl
 | [],_::_,h,_=>by simp[ltS]at h
 | _::_,[],_,h=>by simp[ltS]at h
 | a::x,b::y,h,h'=>by
   simp only[ltS]at h h'
   by_cases h1:a<b
   ·simp[h1]at h
   ·by_cases h2:b<a
    ·simp[h2]at h'
    ·simp only[h1,h2,if_false]at h h'
     rw[cR x y h h',show a=b by omega]
theorem fJ:∀x y z,ltS x y=true->ltS y z=true->ltS x z=true
 | [],[],_,h,_=>by simp[ltS]at h
 | [],_::_,[],_,h=>by simp[ltS]at h
 | [],_::_,_::_,_,_=>rfl
 | _::_,[],_,h,_=>by simp[ltS]at h
 | _::_,_::_,[],_,h=>by simp[ltS]at h
 | a::x,b::y,c::z,h,h'=>by
   simp only[ltS]at h h' ⊢
   by_cases h1:a<b
   ·by_cases h3:b<c
    ·have:a<c:=by omega
     simp[this]
    ·by_cases h4:c<b
     ·simp[h3,h4]at h'
     ·have:a<c:=by omega
      simp[this]
   ·by_cases h2:b<a
    ·simp[h1,h2]at h
    ·simp only[h1,h2,if_false]at h
     by_cases h3:b<c
     ·have:a<c:=by omega
      simp[this]
     ·by_cases h4:c<b
      ·simp[h3,h4]at h'
      ·simp only[h3,h4,if_false]at h'
       have e1:¬a<c:=by omega
       have e2:¬c<a:=by omega
       simp only[e1,e2,if_false];exact fJ x y z h h'
theorem oE(x y:List Nat):∀l,insS x (insS y l)=insS y (insS x l)
 | []=>by
   simp only[insS];cases h1:ltS x y<;>cases h2:ltS y x<;>simp[insS]
   ·exact⟨(cR _ _ h1 h2).symm,cR _ _ h1 h2⟩
   ·have:=eZ _ _ h1;simp[this]at h2
 | a::l=>by
   have ih:=oE x y l;simp only[insS];cases hx:ltS x a<;>cases hy:ltS y a<;>simp only[insS,hx,hy,Bool.false_eq_true,if_false,if_true]
   ·rw[ih]
   ·cases h:ltS x y with
    | true=>have:=fJ _ _ _ h hy;simp[this]at hx
    | false=>simp[insS,hx]
   ·cases h:ltS y x with
    | true=>have:=fJ _ _ _ h hx;simp[this]at hy
    | false=>simp[insS,hy]
   ·cases h1:ltS x y<;>cases h2:ltS y x<;>simp[insS,hx,hy]
    ·exact⟨(cR _ _ h1 h2).symm,cR _ _ h1 h2⟩
    ·have:=eZ _ _ h1;simp[this]at h2
theorem rz{l l':List (List Nat)}(h:l.Perm l'):cC l=cC l':=by
 induction h with
 | nil=>rfl
 | cons x _ ih=>simp only[cC,ih]
 | swap x y l=>simp only[cC,oE]
 | trans _ _ h1 h2=>exact h1.trans h2
theorem insS_perm(x:List Nat):∀l,(insS x l).Perm (x::l)
 | []=>List.Perm.refl _
 | y::l=>by
   simp only[insS];split
   ·exact List.Perm.refl _
   ·exact((insS_perm x l).cons y).trans (List.Perm.swap x y l)
theorem sortS_perm:∀l,(cC l).Perm l
 | []=>List.Perm.refl _
 | x::l=>(insS_perm x _).trans ((sortS_perm l).cons x)
theorem eV{α:Type} [DecidableEq α]:∀{l m:List α},l.Nodup->(∀x∈l,x∈m)->l.length<=m.length
 | [],_,_,_=>by simp
 | a::l,m,hn,hs=>by
   have ha:a∈m:=hs a List.mem_cons_self;have hn':=List.nodup_cons.mp hn
   have:=eV (m:=m.erase a) hn'.2 fun x hx=>(List.mem_erase_of_ne (show x≠a from fun e=>hn'.1 (e▸hx))).mpr (hs x (List.mem_cons_of_mem _ hx))
   rw[List.length_erase_of_mem ha]at this;have hp:0<m.length:=List.length_pos_of_mem ha;simp only[List.length_cons];omega
theorem fQ{α:Type} [DecidableEq α]{l m:List α}(h1:l.Nodup)(h2:m.Nodup)(h:∀x,x∈l↔x∈m):l.Perm m:=by
 rw[List.perm_iff_count];intro a
 by_cases ha:a∈l
 ·rw[h1.count,h2.count,if_pos ha,if_pos ((h a).mp ha)]
 ·rw[List.count_eq_zero_of_not_mem ha,List.count_eq_zero_of_not_mem fun x=>ha ((h a).mpr x)]
noncomputable abbrev Pair:=List Nat×Int
noncomputable def addP:List Pair->Pair->List Pair
 | [],p=>[p]
 | (x,v)::m,p=>if x=p.1 then(x,v+p.2)::m else(x,v)::addP m p
noncomputable def ksD(m:List Pair):List DK:=m.map fun p=>.s p.1
noncomputable def vsD(m:List Pair):List D:=m.map fun p=>.int p.2
noncomputable def bY:List Pair->List Nat->Option Int
 | [],_=>none
 | (x,v)::m,n=>if x=n then some v else bY m n
theorem Bj(n:List Nat):∀m:List Pair,look (ksD m) (vsD m) (.s n)=(bY m n).map .int
 | []=>rfl
 | (x,v)::m=>by
   have ih:=Bj n m;simp only[ksD,vsD,List.map_cons,look,bY]at ih ⊢
   by_cases h:x=n
   ·simp[h]
   ·simp[h,ih]
theorem xV(p:Pair):∀m:List Pair,bI (ksD m) (.s p.1)=ksD (addP m p)
 | []=>rfl
 | (x,v)::m=>by
   have ih:=xV p m;simp only[ksD,List.map_cons,bI,addP]at ih ⊢
   by_cases h:x=p.1
   ·simp[h]
   ·simp[h,ih]
theorem Bf(p:Pair):∀m:List Pair,putV (ksD m) (vsD m) (.s p.1) (.int ((bY m p.1).getD 0+p.2))=vsD (addP m p)
 | []=>by simp[ksD,vsD,putV,addP,bY]
 | (x,v)::m=>by
   have ih:=Bf p m;simp only[ksD,vsD,List.map_cons,putV,addP,bY]at ih ⊢
   by_cases h:x=p.1
   ·simp[h]
   ·simp[h,ih]
noncomputable def tot(l:List Pair)(n:List Nat):Int:=((l.filter fun p=>p.1=n).map (·.2)).sum
noncomputable def gather(l:List Pair):List Pair:=l.foldl addP []
theorem jJ(p:Pair)(n:List Nat):∀m,bY (addP m p) n=if p.1=n then some ((bY m n).getD 0+p.2)else bY m n
 | []=>by simp[addP,bY]
 | (x,v)::m=>by
   have ih:=jJ p n m;simp only[addP]
   by_cases h:x=p.1
   ·simp only[h,if_true,bY]
    by_cases h2:p.1=n<;>simp[h2]
   ·simp only[h,if_false,bY]
    by_cases h2:x=n
    ·have:¬p.1=n:=fun e=>h (h2.trans e.symm)
     simp[h2,this]
    ·simp[h2,ih]
theorem ir(p:Pair)(n:List Nat):∀m:List Pair,n∈(addP m p).map (·.1)↔n=p.1\/n∈m.map (·.1)
 | []=>by simp[addP]
 | (x,v)::m=>by
   have ih:=ir p n m;simp only[addP]
   by_cases h:x=p.1
   ·simp[h]
   ·simp only[h,if_false,List.map_cons,List.mem_cons,ih]
    constructor
    all_goals(rintro(h | h | h)<;>simp[h])
theorem jL(p:Pair):∀m:List Pair,(m.map (·.1)).Nodup->((addP m p).map (·.1)).Nodup
 | [],_=>by simp[addP]
 | (x,v)::m,hn=>by
   have hn':=List.nodup_cons.mp (by simpa using hn:(x::m.map (·.1)).Nodup);simp only[addP]
   by_cases h:x=p.1
   ·simpa[h]using hn
   ·simp only[h,if_false,List.map_cons]
    refine List.nodup_cons.mpr ⟨?_,jL p m hn'.2⟩;rw[ir]
    rintro(e | e)
    ·exact h e
    ·exact hn'.1 e
theorem cP:∀(l m:List Pair),(m.map (·.1)).Nodup->((l.foldl addP m).map (·.1)).Nodup/\(∀n,n∈(l.foldl addP m).map (·.1)↔n∈l.map (·.1)\/n∈m.map (·.1))/\∀n,(bY (l.foldl addP m) n).getD 0=(bY m n).getD 0+tot l n
 | [],m,hn=>by simp[hn,tot]
 | p::l,m,hn=>by
   obtain⟨h1,h2,h3⟩:=cP l (addP m p) (jL p m hn);refine⟨h1,fun n=>?_,fun n=>?_⟩
   ·rw[List.foldl_cons,h2,ir]
    simp only[List.map_cons,List.mem_cons]
    constructor
    ·rintro(h | h | h)<;>simp[h]
    ·rintro((h | h) | h)<;>simp[h]
   ·rw[List.foldl_cons,h3,jJ]
    by_cases h:p.1=n
    ·simp[h,tot];omega
    ·simp[h,tot]
theorem mO(n:List Nat):∀m:List Pair,n∈m.map (·.1)->∃v,bY m n=some v
 | [],h=>by simp at h
 | (x,v)::m,h=>by
   simp only[bY]
   by_cases e:x=n
   ·exact⟨v,by simp[e]⟩
   ·obtain⟨v',h'⟩:=mO n m (by
     simp only[List.map_cons,List.mem_cons]at h;rcases h with h | h
     ·exact absurd h.symm e
     ·exact h)
    exact⟨v',by simp[e,h']⟩
noncomputable def keysOf(l:List Pair):List (List Nat):=(gather l).map (·.1)
theorem cD(l:List Pair):(keysOf l).Nodup:=(cP l [] (by simp)).1
theorem gj(l:List Pair)(n:List Nat):n∈keysOf l↔n∈l.map (·.1):=by
 have:=(cP l [] (by simp)).2.1 n;simpa[keysOf,gather]using this
theorem p8(l:List Pair)(n:List Nat)(h:n∈keysOf l):bY (gather l) n=some (tot l n):=by
 obtain⟨v,hv⟩:=mO n (gather l) h;have:=(cP l [] (by simp)).2.2 n;rw[show l.foldl addP []=gather l from rfl,hv]at this;simp[bY]at this;rw[hv,this]
noncomputable def prD(p:Pair):D:=.tup [.str p.1,.int p.2]
noncomputable def sumL(l:List Pair):List Pair:=((cC (keysOf l)).filter fun n=>tot l n≠0).map fun n=>(n,tot l n)
noncomputable def sumD(c:Int)(l:List Pair):D:=.tup [.int c,.tup ((sumL l).map prD)]
theorem jj:∀m:List Pair,strsOf ((ksD m).map keyD)=some (m.map (·.1))
 | []=>rfl
 | p::m=>by
   have:=jj m;simp only[ksD,List.map_cons,List.map_map,keyD,strsOf]at this ⊢;rw[this];rfl
end KG
namespace KG
open Z
theorem pY(n:List Nat):tot [] n=0:=rfl
theorem fD(p:Pair)(l:List Pair)(n:List Nat):tot (p::l) n=(if p.1=n then p.2 else 0)+tot l n:=by
 by_cases h:p.1=n<;>simp[tot,h]
theorem sZ(l m:List Pair)(n:List Nat):tot (l++m) n=tot l n+tot m n:=by
 induction l with
 | nil=>simp[pY]
 | cons p l ih=>rw[List.cons_append,fD,fD,ih];omega
theorem pA(l:List Pair)(n:List Nat)(h:n∉l.map (·.1)):tot l n=0:=by
 induction l with
 | nil=>rfl
 | cons p l ih=>
   simp only[List.map_cons,List.mem_cons,not_or]at h;rw[fD,ih h.2,if_neg fun e=>h.1 e.symm];rfl
theorem kO(l:List Pair)(p:Pair):p∈sumL l↔tot l p.1=p.2/\p.2≠0:=by
 constructor
 ·intro h
  obtain⟨n,hn,rfl⟩:=List.mem_map.mp h;have:=(List.mem_filter.mp hn).2;exact⟨rfl,by simpa using this⟩
 ·rintro⟨h1,h2⟩
  refine List.mem_map.mpr ⟨p.1,List.mem_filter.mpr ⟨?_,by simp[h1,h2]⟩,by rw[h1]⟩;rw[(sortS_perm _).mem_iff,gj]
  apply Classical.byContradiction
  intro hx;exact h2 (h1▸pA l _ hx)
theorem qF(m:List Pair)(hn:(m.map (·.1)).Nodup)(n:List Nat):(bY m n).getD 0=tot m n:=by
 induction m with
 | nil=>rfl
 | cons p m ih=>
   obtain⟨h1,h2⟩:=List.nodup_cons.mp (by simpa using hn:(p.1::m.map (·.1)).Nodup);obtain⟨x,v⟩:=p;rw[fD];simp only[bY]
   by_cases h:x=n
   ·subst h
    simp only[if_true,Option.getD_some];rw[pA m _ h1];omega
   ·simp only[h,if_false]
    rw[ih h2];omega
theorem v9(N:List (List Nat))(l:List Pair)(h:∀p∈l,p.1∈N):(keysOf l).length<=N.length:=by
 apply eV (cD l)
 intro x hx;rw[gj]at hx;obtain⟨p,hp,rfl⟩:=List.mem_map.mp hx;exact h p hp
theorem Cy(N:List (List Nat))(l:List Pair)(h:∀p∈l,p.1∈N):∀p∈sumL l,p.1∈N:=by
 intro p hp;obtain⟨h1,h2⟩:=(kO l p).mp hp
 apply Classical.byContradiction
 intro hx;refine h2 (h1▸pA l _ fun z=>?_);obtain⟨q,hq,e⟩:=List.mem_map.mp z;exact hx (e▸h q hq)
noncomputable def Bd(x:Int):Prop:=x.natAbs<2 ^ 70
theorem yJ(c:Int):0<=lO c/\lO c<=120000000000000000000:=by
 unfold lO;have h1:=aF (c.fdiv 4) 100000000000000000000 (by omega);have h2:=aF (c.fdiv 4) 3 (by omega);omega
theorem vY(c:Int):Bd (numV c):=by
 unfold numV Bd;have hz:=yJ c;have h2:=aF (c.fdiv 2) 2 (by omega);have h15:=aF (c.fdiv 2) 15 (by omega)
 have hp:(2:Nat) ^ 70=1180591620717411303424:=by decide
 rw[hp];split
 ·omega
 ·have:(c.fdiv 2).fmod 2=0\/(c.fdiv 2).fmod 2=1:=by omega
  rcases this with e | e<;>rw[e]<;>omega
end KG
namespace KG
open Z
noncomputable abbrev dctP(m:List Pair):D:=.dct (ksD m) (vsD m)
theorem Nz(m:List Pair)(p:Pair)(hm:m.length<=100000):putItem (dctP m) (.str p.1) (.int ((bY m p.1).getD 0+p.2))=some (dctP (addP m p)):=by
 have:(ksD m).length<=100000:=by simpa[ksD]using hm
 simp only[putItem,keyOf,Option.bind_some,this,if_true,xV,Bf]
theorem rG(m:List Pair)(hm:m.length<64):b1D .sorted (dctP m)=.ok (true,.lst ((cC (m.map (·.1))).map .str)):=by
 have:(m.map (·.1)).length<64:=by simpa using hm
 simp only[b1D,rn,Option.bind_some,jj,this,if_true,R.of]
noncomputable def cmC:T:=(T.op2 .ne (T.idx (T.var 1) (T.var 0)) (T.cst (D.int 0)))
noncomputable def cmE:T:=(T.tup (TL.cons (T.var 0) (TL.cons (T.idx (T.var 1) (T.var 0)) TL.nil)))
theorem KZ(l:List Pair)(n:List Nat)(h:n∈keysOf l):idxD (dctP (gather l)) (.str n)=.ok (false,.int (tot l n)):=by
 simp only[idxD,keyOf,Option.bind_some,Bj,p8 l n h,Option.map_some,R.of]
theorem O3:size 2=true:=by decide
theorem zj(o:Orc)(l:List Pair):bA (fun x=>ev o ((x++[dctP (gather l)]).map fun d=>some (Own.sh,d)) false cmE) (fun x=>ev o ((x++[dctP (gather l)]).map fun d=>some (Own.sh,d)) true cmC) 1 false ((cC (keysOf l)).map .str)=.ok ((sumL l).map prD):=by
 rw[jn (g:=fun d=>match d with | .str n=>prD (n,tot l n) | _=>.non) (q:=fun d=>match d with | .str n=>decide (tot l n≠0) | _=>false)]
 ·rw[List.filter_map]
  simp[sumL,Function.comp_def]
 ·intro d hd
  obtain⟨n,hn,rfl⟩:=List.mem_map.mp hd;have hk:n∈keysOf l:=(sortS_perm _).mem_iff.mp hn;have hi:=KZ l n hk;generalize dctP (gather l)=X at hi;simp[cmC,ev,R.bind,hi,o2,eqA,eqS,R.of]
 ·intro d hd _
  obtain⟨n,hn,rfl⟩:=List.mem_map.mp hd;have hk:n∈keysOf l:=(sortS_perm _).mem_iff.mp hn;have hi:=KZ l n hk;generalize dctP (gather l)=X at hi;refine⟨false,?_⟩;simp[cmE,ev,evL,bM,isOwn,R.bind,hi,R.chk,O3,prD]
theorem BJ:∀l:List Pair,immL (l.map prD)=true
 | []=>rfl
 | p::l=>by simp[immL,prD,D.imm,BJ l]
theorem qO(l:List Pair):(sumL l).length<=(keysOf l).length:=by
 unfold sumL;rw[List.length_map];refine Nat.le_trans (List.length_filter_le _ _) ?_;rw[(sortS_perm _).length_eq];exact Nat.le_refl _
theorem qN{α:Type}{f c:List D->R (Bool×D)}{a g:α->D}:∀{l:List α},(∀d∈l,c [a d]=.ok (false,.bl true))->(∀d∈l,∃w,f [a d]=.ok (w,g d))->bA f c 1 false (l.map a)=.ok (l.map g)
 | [],_,_=>rfl
 | d::l,hc,hf=>by
   obtain⟨w,h⟩:=hf d List.mem_cons_self;have ih:=qN (l:=l) (fun x hx=>hc x (List.mem_cons_of_mem _ hx)) (fun x hx=>hf x (List.mem_cons_of_mem _ hx));simp only[List.map_cons,bA,takes,Bool.false_eq_true,if_false,R.of,R.bind,hc d List.mem_cons_self,truth,if_true,h,ih]
theorem lC(o:Orc)(δ:Dst)(lk:Bool)(it:TI)(caps:List Nat)(cs l r:List D)(m:Nat)(tg:Bool)(c e:T)(hI:evI o δ true it=.ok l)(hs:cA δ caps=some cs)(ho:(caps.all fun i=>!isOwn δ i)=true)(hr:r.length<=1000)
 (hc:bA (fun x=>ev o ((x++cs).map fun d=>some (Own.sh,d)) false e) (fun x=>ev o ((x++cs).map fun d=>some (Own.sh,d)) true c) m tg l=.ok r):ev o δ lk (T.comp caps m tg it c e)=.ok (true,.lst r):=by
 rw[ev,hI,hs];simp only[R.bind,R.of];rw[hc]
 have hz:size r.length=true:=by simp[size];omega
 simp only[ho,hz,R.chk];simp
theorem bf{o:Orc}{δ δ':Dst}{i:Nat}{e:T}{w:Bool}{d:D}(h:ev o δ false e=.ok (w,d))(hs:setSlot δ i w d=some δ'):evS o (.set i e) δ=.nx δ':=by
 simp only[evS,evF,h,SO.of,hs,Option.map_some,az]
theorem dz{o:Orc}{δ:Dst}{c:T}{w b:Bool}{x y:SL}(h:ev o δ true c=.ok (w,.bl b)):evS o (.ifs c x y) δ=if b=true then evSs o x δ else evSs o y δ:=by
 simp only[evS,h,R.bind,truth,R.of,SO.of]
theorem eqi{o:Orc}{δ:Dst}{a:T}{x y:Int}{w:Bool}(h:ev o δ true a=.ok (w,.int x)):ev o δ true (T.op2 .eq a (T.cst (D.int y)))=.ok (false,.bl (decide (x=y))):=by
 simp only[ev,h,R.bind,o2,eqA,eqS,Option.map_some,R.of]
theorem aG{o:Orc}{δ:Dst}{lk:Bool}{p:O2}{a b:T}{w1 w2:Bool}{x y:D}(ha:ev o δ true a=.ok (w1,x))(hb:ev o δ true b=.ok (w2,y)):ev o δ lk (T.op2 p a b)=o2 p x y:=by
 simp only[ev,ha,hb,R.bind]
theorem aj{o:Orc}{δ:Dst}{lk:Bool}{i:Nat}{d:D}(h:δ[i]?=some (some (.sh,d))):ev o δ lk (T.var i)=.ok (false,d):=by simp only[ev,h]
theorem ao{o:Orc}{δ:Dst}{lk:Bool}{d:D}:ev o δ lk (T.cst d)=.ok (false,d):=by simp only[ev]
section
variable{o:Orc}{δ:Dst}{lk:Bool}
theorem aa{t:T}{l:TL}{x:D}{xs:List D}{w:Bool}(hk:bM δ t=false)(h:ev o δ false t=.ok (w,x))(hl:evL o δ l=.ok (false,xs)):evL o δ (.cons t l)=.ok (false,x::xs):=by
 simp only[evL,hk,h,hl,R.bind,Bool.or_false]
theorem bj{f:Nat}{l:TL}{xs:List D}{w:Bool}{x:D}(hl:evL o δ l=.ok (false,xs))(h:o.fn f xs=.ok (w,x)):ev o δ lk (T.call f l)=.ok (w,x):=by
 simp only[ev,hl,R.bind,h,lent,Bool.false_eq_true,if_false]
theorem bO{l:TL}{xs:List D}(hl:evL o δ l=.ok (false,xs))(hz:size xs.length=true):ev o δ lk (T.tup l)=.ok (false,.tup xs):=by
 simp only[ev,hl,R.bind,hz,Bool.not_false,Bool.and_self,R.chk,if_true]
theorem cJ{l:TL}{xs:List D}(hl:evL o δ l=.ok (false,xs))(hz:size xs.length=true):ev o δ lk (T.lst l)=.ok (true,.lst xs):=by
 simp only[ev,hl,R.bind,hz,Bool.not_false,Bool.and_self,R.chk,if_true]
theorem Az{a b:T}{w w' c:Bool}(ha:ev o δ true a=.ok (w,.bl true))(hb:ev o δ true b=.ok (w',.bl c)):ev o δ lk (T.and a b)=.ok (false,.bl c):=by simp only[ev,ha,hb,R.bind,bT]
theorem NZ{a b:T}{w:Bool}(ha:ev o δ true a=.ok (w,.bl false)):ev o δ lk (T.and a b)=.ok (false,.bl false):=by simp only[ev,ha,R.bind]
theorem ifN{c:T}{x:SL}{w:Bool}(h:ev o δ true c=.ok (w,.bl false)):evS o (.ifs c x .nil) δ=.nx δ:=by rw[dz h];rfl
theorem oW{a b:List D}(h:a.length+b.length<=1000):o2 .add (.lst a) (.lst b)=.ok (true,.lst (a++b)):=by
 have:size (a.length+b.length)=true:=decide_eq_true (Nat.le_trans h (by decide));simp only[o2,this,R.chk,if_true]
theorem retR{e:T}{w:Bool}{d:D}(h:ev o δ false e=.ok (w,d))(hv:isV e=false):evS o (.ret e) δ=.rt w d δ:=by
 rw[retE hv];simp only[evF,h,SO.of]
theorem ifR{c:T}{s:S}{l y:SL}{δ':Dst}{w b:Bool}{d:D}(h:ev o δ true c=.ok (b,.bl true))(k:evS o s δ=.rt w d δ'):evS o (.ifs c (.cons s l) y) δ=.rt w d δ':=by
 rw[dz h];simp only[if_true,evSs,k]
end
theorem iH{o:Orc}{δ:Dst}{lk:Bool}{a lo hi:T}{w1 w2 w3:Bool}{x y z:D}{l h:Option Int}{r:Bool×D}(ha:ev o δ true a=.ok (w1,x))(hl:ev o δ true lo=.ok (w2,y))(hh:ev o δ true hi=.ok (w3,z))(bl:bnd lo y=some l)(bh:bnd hi z=some h)(hr:slcD x l h=some r):ev o δ lk (T.slc a lo hi)=.ok r:=by
 simp only[ev,ha,hl,hh,R.bind,bl,bh,Option.bind_some,hr,R.of]
theorem Iz{o:Orc}{δ:Dst}{lk:Bool}{b:B2}{a c:T}{w1 w2:Bool}{x y:D}(ha:ev o δ true a=.ok (w1,x))(hc:ev o δ true c=.ok (w2,y)):ev o δ lk (T.b2 b a c)=b2D b x y:=by simp only[ev,ha,hc,R.bind]
theorem jb{o:Orc}{δ:Dst}{lk:Bool}{b:B1}{a:T}{w1:Bool}{x:D}(ha:ev o δ true a=.ok (w1,x)):ev o δ lk (T.b1 b a)=b1D b x:=by simp only[ev,ha,R.bind]
end KG
namespace KG
open Z
theorem Ie(c:Int)(n:Nat)(h0:n≠0)(h:n.log2<9000):arith .fdiv c (n:Int)=.ok (false,.int (c.fdiv n)):=by
 have:(n:Int)≠0:=by omega
 simp[arith,R.chk,h0,h]
noncomputable def Ni(c:Int):Int:=if c.fmod 3=0 then(c.fdiv 3).fmod 15-7 else(c.fdiv 3).fmod 2000000000000000000000000000000000000000000000000000000000001-1000000000000000000000000000000000000000000000000000000000000
noncomputable def Bq(x:Int):Prop:=x.natAbs<2 ^ 1000
set_option exponentiation.threshold 400 in
set_option exponentiation.threshold 400 in
theorem iW(m:List Pair)(n:List Nat)(h:n∉m.map (·.1)):bI (ksD m) (.s n)=ksD m++[.s n]/\∀v,putV (ksD m) (vsD m) (.s n) v=vsD m++[v]:=by
 induction m with
 | nil=>exact⟨rfl,fun v=>rfl⟩
 | cons p m ih=>
   simp only[List.map_cons,List.mem_cons,not_or]at h;obtain⟨i1,i2⟩:=ih h.2
   have ne:¬(DK.s p.1=DK.s n):=fun e=>h.1 (by cases e;rfl)
   refine⟨?_,fun v=>?_⟩
   ·show(if DK.s p.1=DK.s n then _ else _)=_
    rw[if_neg ne];show DK.s p.1::bI (ksD m) (.s n)=_;rw[i1];rfl
   ·show(if DK.s p.1=DK.s n then _ else _)=_
    rw[if_neg ne];show D.int p.2::putV (ksD m) (vsD m) (.s n) v=_;rw[i2 v];rfl
section
variable{o:Orc}{inum icell:Nat}{ns:List Int}(hc:∀k:Nat,o.fn icell [.lst (ns.map .int),.int (k:Int)]=.ok (false,.int (ns.getD k 0)))(hn:∀c,o.fn inum [.int c]=.ok (false,.int (Ni c)))
include hc hn
end
noncomputable def NT(x key:Int):Int:=if x.fmod 5=1 then(key+1)*(1-2*(x.fdiv 5).fmod 2)else((x.fdiv 5).fmod 7-3)*(1+(x.fdiv 35).fmod 4)
structure PtOk(N:List (List Nat))(m:List Pair):Prop where
 keys:m.map (·.1)=N
 nd:N.Nodup
 le:N.length<=4
 bd:∀p∈m,Bq p.2
theorem PtOk.len{N:List (List Nat)}{m:List Pair}(P:PtOk N m):m.length<=4:=by
 have:=congrArg List.length P.keys;have h:=P.le;simp at this;omega
theorem fC:∀(m:List Pair) (n:List Nat),n∈m.map (·.1)->∃v,(n,v)∈m/\look (ksD m) (vsD m) (.s n)=some (.int v)
 | [],_,h=>by simp at h
 | p::m,n,h=>by
   by_cases e:p.1=n
   ·exact⟨p.2,by subst e;simp,by simp[ksD,vsD,look,e]⟩
   ·obtain⟨v,h1,h2⟩:=fC m n (by simpa[Ne.symm e]using h)
    exact⟨v,List.mem_cons_of_mem _ h1,by simp only[ksD,vsD,List.map_cons,look,DK.s.injEq,e,if_false];exact h2⟩
theorem PtOk.get{N:List (List Nat)}{m:List Pair}(P:PtOk N m){n:List Nat}(h:n∈N):∃v,Bq v/\idxD (dctP m) (.str n)=.ok (false,.int v):=by
 obtain⟨v,h1,h2⟩:=fC m n (by rw[P.keys];exact h);exact⟨v,P.bd _ h1,by simp[idxD,dctP,keyOf,h2,R.of]⟩
theorem PtOk.sorted{N:List (List Nat)}{m:List Pair}(P:PtOk N m):b1D .sorted (dctP m)=.ok (true,.lst ((cC N).map .str)):=by
 rw[<-P.keys];exact rG m (by have:=P.len;omega)
section
variable{o:Orc}{imany inear:Nat}(hm:∀x k:Int,o.fn imany [.int x,.int k]=.ok (false,.int (NT x k)))(hnr:∀c:Int,∃v,o.fn inear [.int c]=.ok (false,.int v))
variable{N:List (List Nat)}{m:List Pair}(P:PtOk N m){sp:Int}(hsp:0<sp/\sp<=100000000000000000000)
include hm P hsp
include hnr
end
set_option exponentiation.threshold 400 in
noncomputable abbrev st4(cell:Int)(M:D)(sp:Int)(a:Option Slot):Dst:=[some (.sh,.int cell),some (.sh,M),some (.sh,.int sp),a]
end KG
namespace KG
open Z
noncomputable def sbB(imix inum iname:Nat):SL:=(SL.cons (S.set 4 (T.op2 .sub (T.call imix (TL.cons (T.var 0) (TL.cons (T.op2 .add (T.cst (D.int 1)) (T.var 3)) (TL.cons (T.cst (D.int 15)) TL.nil)))) (T.cst (D.int 7)))) (SL.cons (S.ifs (T.op2 .eq (T.call imix (TL.cons (T.var 0) (TL.cons (T.cst (D.int 7)) (TL.cons (T.cst (D.int 8)) TL.nil)))) (T.var 3)) (SL.cons (S.set 4 (T.call inum (TL.cons (T.var 0) TL.nil))) SL.nil) SL.nil) (SL.cons (S.seti 2 (T.call iname (TL.cons (T.call imix (TL.cons (T.var 0) (TL.cons (T.op2 .add (T.cst (D.int 4)) (T.var 3)) (TL.cons (T.cst (D.int 5)) TL.nil)))) (TL.cons (T.var 1) TL.nil))) (T.var 4)) SL.nil)))
noncomputable def sbC(imix:Nat):S:=(S.set 5 (T.op2 .sub (T.call imix (TL.cons (T.var 0) (TL.cons (T.cst (D.int 8)) (TL.cons (T.cst (D.int 21)) TL.nil)))) (T.cst (D.int 10))))
noncomputable def sbD(imix inum:Nat):S:=(S.ifs (T.op2 .eq (T.call imix (TL.cons (T.var 0) (TL.cons (T.cst (D.int 9)) (TL.cons (T.cst (D.int 4)) TL.nil)))) (T.cst (D.int 0))) (SL.cons (S.set 5 (T.call inum (TL.cons (T.op2 .fdiv (T.var 0) (T.cst (D.int 3))) TL.nil))) SL.nil) SL.nil)
noncomputable def sbE:T:=(T.tup (TL.cons (T.var 5) (TL.cons (T.b1 .tuple (T.comp [2] 1 false (TI.val (T.b1 .sorted (T.var 2))) cmC cmE)) TL.nil)))
noncomputable def sbI(imix:Nat):T:=T.call imix (TL.cons (T.var 0) (TL.cons (T.cst (D.int 0)) (TL.cons (T.cst (D.int 4)) TL.nil)))
noncomputable def sbFd(imix inum iname:Nat):Fd:=⟨2,6,(SL.cons (S.set 2 (T.dnew [] TL.nil)) (SL.cons (S.for_ [3] false (TI.rng1 (sbI imix)) (sbB imix inum iname)) (SL.cons (sbC imix) (SL.cons (sbD imix inum) (SL.cons (S.ret sbE) SL.nil)))))⟩
noncomputable def N5(base:Int):List (List Nat):=(List.range 5).map fun(j:Nat)=>nm (j:Int) base
theorem vd(base:Int):(N5 base).length=5:=by simp[N5]
theorem GF(c base:Int)(h:0<=c/\c<5):nm c base∈N5 base:=by
 refine List.mem_map.mpr ⟨c.toNat,List.mem_range.mpr (by omega),?_⟩;show nm (c.toNat:Int) base=_;rw[Int.toNat_of_nonneg h.1]
structure Shr(base:Int)(k:Nat)(l:List Pair):Prop where
 nm:∀p∈l,p.1∈N5 base
 tot:∀n,Bd (tot l n)
 len:l.length<=k
theorem DN(l:List Pair)(n:List Nat)(v:Int)(hl:l.length<=1000):putItem (dctP (gather l)) (.str n) (.int v)=some (dctP (gather (l++[(n,v-tot l n)]))):=by
 have hg:(gather l).length<=100000:=by
  have:=(eV (cD l) (fun x hx=>(gj l x).mp hx))
  simp[keysOf]at this;omega
 have h:=Nz (gather l) (n,v-tot l n) hg;have h3:=(cP l [] (by simp)).2.2 n
 have e:(bY (gather l) n).getD 0=tot l n:=by
  rw[qF (gather l) (cD l)];have h4:=qF (gather l) (cD l) n;rw[<-h4];show(bY (l.foldl addP []) n).getD 0=_;rw[h3];simp[bY,tot]
 simp only[e]at h;rw[show tot l n+(v-tot l n)=v by omega]at h;rw[h];simp[gather,List.foldl_append]
theorem Shr.put{base:Int}{k:Nat}{l:List Pair}(h:Shr base k l){n:List Nat}{v:Int}(hn:n∈N5 base)(hv:Bd v):Shr base (k+1) (l++[(n,v-KG.tot l n)])where
 nm:=fun p hp=>(List.mem_append.mp hp).elim (h.nm p) fun hp=>by simp only[List.mem_singleton]at hp;subst hp;exact hn
 tot:=fun x=>by
  rw[sZ,fD,pY]
  by_cases e:n=x
  ·subst e;rw[if_pos rfl,show KG.tot l n+(v-KG.tot l n+0)=v by omega];exact hv
  ·rw[if_neg e,show KG.tot l x+(0+0)=KG.tot l x by omega];exact h.tot x
 len:=by have:=h.len;simp;omega
theorem jR{x:Int}(h:x.natAbs<=1000):Bd x:=Nat.lt_of_le_of_lt h (by decide)
section
variable{o:Orc}{imix inum iname:Nat}(hmix:∀(c:Int) (k:Nat) (m:Int),k<10->m≠0->o.fn imix [.int c,.int (k:Int),.int m]=.ok (false,.int (mixV c k m)))(hnum:∀c,o.fn inum [.int c]=.ok (false,.int (numV c)))(hname:∀c b,o.fn iname [.int c,.int b]=.ok (false,.str (nm c b)))
include hmix hnum hname
theorem GP(cell base:Int)(k j:Nat)(hj:j<4)(l:List Pair)(hl:Shr base k l)(hk:k<=1000)(d e:Option Slot):∃l' d',Shr base (k+1) l'/\evSs o (sbB imix inum iname) [some (.sh,.int cell),some (.sh,.int base),some (.ow,dctP (gather l)),some (.sh,.int (j:Int)),d,e]=.nx [some (.sh,.int cell),some (.sh,.int base),some (.ow,dctP (gather l')),some (.sh,.int (j:Int)),d',e]:=by
 have m1:=hmix cell (1+j) 15 (by omega) (by omega);have m2:=hmix cell 7 8 (by omega) (by omega);have m3:=hmix cell (4+j) 5 (by omega) (by omega);have r1:=cM cell (1+j) 15 (by omega);have r3:=cM cell (4+j) 5 (by omega);rw[show((1+j:Nat):Int)=1+(j:Int) by omega]at m1;rw[show((4+j:Nat):Int)=4+(j:Int) by omega]at m3;generalize mixV cell (1+j) 15=a1 at m1 r1;generalize mixV cell (4+j) 5=a3 at m3 r3;generalize mixV cell 7 8=a2 at m2;have hn:=hname a3 base;have hN:=GF a3 base r3;generalize nm a3 base=n at hn hN;have hv:=hnum cell;have hvb:=vY cell;generalize numV cell=v at hv hvb
 have z:∀x:Int,putItem (dctP (gather l)) (.str n) (.int x)=some (dctP (gather (l++[(n,x-tot l n)]))):=fun x=>DN l n x (by have:=hl.len;omega)
 have w:=fun(x:Int) (hx:Bd x)=>hl.put hN hx
 have m2':o.fn imix [.int cell,.int 7,.int 8]=.ok (false,.int a2):=m2
 by_cases h:a2=j
 ·refine⟨_,some (.sh,.int v),w v hvb,?_⟩
  have z1:=z v;generalize dctP (gather (l++[(n,v-tot l n)]))=Y at z1 ⊢;generalize dctP (gather l)=X at z1 ⊢;rw[sbB,aq (δ':=[some (.sh,.int cell),some (.sh,.int base),some (.ow,X),some (.sh,.int (j:Int)),some (.sh,.int (a1-7)),e]) (by simp[evS,evF,ev,evL,bM,isOwn,R.bind,o2,arith,m1,lent,SO.of,setSlot,az])];rw[aq (δ':=[some (.sh,.int cell),some (.sh,.int base),some (.ow,X),some (.sh,.int (j:Int)),some (.sh,.int v),e]) (by simp[evS,evSs,evF,ev,evL,bM,isOwn,R.bind,o2,arith,m2',hv,h,eqA,eqS,bT,truth,R.of,lent,SO.of,setSlot,az])];rw[aq (δ':=[some (.sh,.int cell),some (.sh,.int base),some (.ow,Y),some (.sh,.int (j:Int)),some (.sh,.int v),e]) (by simp[evS,evF,ev,evL,bM,isOwn,R.bind,o2,arith,m3,hn,lent,SO.of,ownD,z1,az])]
  rfl
 ·refine⟨_,some (.sh,.int (a1-7)),w (a1-7) (jR (by omega)),?_⟩
  have z1:=z (a1-7);generalize dctP (gather (l++[(n,(a1-7)-tot l n)]))=Y at z1 ⊢;generalize dctP (gather l)=X at z1 ⊢;rw[sbB,aq (δ':=[some (.sh,.int cell),some (.sh,.int base),some (.ow,X),some (.sh,.int (j:Int)),some (.sh,.int (a1-7)),e]) (by simp[evS,evF,ev,evL,bM,isOwn,R.bind,o2,arith,m1,lent,SO.of,setSlot,az])];rw[aq (δ':=[some (.sh,.int cell),some (.sh,.int base),some (.ow,X),some (.sh,.int (j:Int)),some (.sh,.int (a1-7)),e]) (by simp[evS,evSs,evF,ev,evL,bM,isOwn,R.bind,o2,arith,m2',hv,h,eqA,eqS,bT,truth,R.of,lent,SO.of,setSlot,az])];rw[aq (δ':=[some (.sh,.int cell),some (.sh,.int base),some (.ow,Y),some (.sh,.int (j:Int)),some (.sh,.int (a1-7)),e]) (by simp[evS,evF,ev,evL,bM,isOwn,R.bind,o2,arith,m3,hn,lent,SO.of,ownD,z1,az])]
  rfl
theorem BX(cell base:Int)(e:Option Slot):∀(js:List Nat) (k:Nat) (l:List Pair) (c d:Option Slot),(∀j∈js,j<4)->Shr base k l->k+js.length<=1000->∃l' c' d',Shr base (k+js.length) l'/\cX (evSs o (sbB imix inum iname)) [3] false (js.map fun(j:Nat)=>D.int (j:Int)) [some (.sh,.int cell),some (.sh,.int base),some (.ow,dctP (gather l)),c,d,e]=.nx [some (.sh,.int cell),some (.sh,.int base),some (.ow,dctP (gather l')),c',d',e]
 | [],k,l,c,d,_,hl,_=>⟨l,c,d,hl,rfl⟩
 | j::js,k,l,c,d,hj,hl,hk=>by
   simp only[List.length_cons]at hk;obtain⟨l1,d1,g1,b1⟩:=GP hmix hnum hname cell base k j (hj j List.mem_cons_self) l hl (by omega) d e;obtain⟨l2,c2,d2,g2,b2⟩:=BX cell base e js (k+1) l1 (some (.sh,.int (j:Int))) d1 (fun x hx=>hj x (List.mem_cons_of_mem _ hx)) g1 (by omega);refine⟨l2,c2,d2,by simpa[Nat.add_assoc,Nat.add_comm 1]using g2,?_⟩
   have hs:aJ [some (.sh,.int cell),some (.sh,.int base),some (.ow,dctP (gather l)),c,d,e] [3] [.int (j:Int)]=some [some (.sh,.int cell),some (.sh,.int base),some (.ow,dctP (gather l)),some (.sh,.int (j:Int)),d,e]:=by simp[aJ,setSlot]
   have ht:takes 1 false (.int (j:Int))=some [.int (j:Int)]:=by simp[takes]
   simp only[List.map_cons,cX,List.length_cons,List.length_nil,Nat.zero_add,ht,hs,b1];exact b2
end
theorem BZ(o:Orc)(c:Int)(a b d e:Option Slot)(l:List Pair)(hk:(keysOf l).length<64):ev o [a,b,some (.ow,dctP (gather l)),d,e,some (.sh,.int c)] false sbE=.ok (false,sumD c l):=by
 have hg:=zj o l;have hs:=rG (gather l) (by simpa[keysOf]using hk);have hi:=BJ (sumL l)
 have hz:size ((sumL l).map prD).length=true:=by
  have:=qO l;simp[size];omega
 have hx:ev o [a,b,some (.ow,dctP (gather l)),d,e,some (.sh,.int c)] true (T.comp [2] 1 false (TI.val (T.b1 .sorted (T.var 2))) cmC cmE)=.ok (true,.lst ((sumL l).map prD)):=by
  rw[show(gather l).map (·.1)=keysOf l from rfl]at hs;rw[ev]
  have h1:evI o [a,b,some (.ow,dctP (gather l)),d,e,some (.sh,.int c)] true (TI.val (T.b1 .sorted (T.var 2)))=.ok ((cC (keysOf l)).map .str):=by
   generalize dctP (gather l)=X at hs;simp[evI,ev,R.bind,hs,qC,R.of]
  have h2:cA [a,b,some (.ow,dctP (gather l)),d,e,some (.sh,.int c)] [2]=some [dctP (gather l)]:=by simp[cA,sI]
  rw[h1,h2];simp only[R.bind,R.of];rw[hg];simp only[R.chk,hz,hi,Bool.true_or,Bool.and_self,if_true]
 unfold sumD;generalize (sumL l).map prD=L at hx;generalize dctP (gather l)=X at hx
 have hb:ev o [a,b,some (.ow,X),d,e,some (.sh,.int c)] false (T.b1 .tuple (T.comp [2] 1 false (TI.val (T.b1 .sorted (T.var 2))) cmC cmE))=.ok (false,.tup L):=by
  rw[ev,hx];rfl
 have h0:ev o [a,b,some (.ow,X),d,e,some (.sh,.int c)] false (T.var 5)=.ok (false,.int c):=by simp[ev]
 exact bO (aa rfl h0 (aa rfl hb rfl)) rfl
section
variable{o:Orc}{imix inum iname:Nat}(hmix:∀(c:Int) (k:Nat) (m:Int),k<10->m≠0->o.fn imix [.int c,.int (k:Int),.int m]=.ok (false,.int (mixV c k m)))(hnum:∀c,o.fn inum [.int c]=.ok (false,.int (numV c)))(hname:∀c b,o.fn iname [.int c,.int b]=.ok (false,.str (nm c b)))
include hmix hnum hname
theorem ud(cell base:Int):∃c l,Bd c/\Shr base 3 l/\bG o (sbFd imix inum iname) [.int cell,.int base]=.ok (false,sumD c l):=by
 have m0:=hmix cell 0 4 (by omega) (by omega);have r0:=cM cell 0 4 (by omega);generalize mixV cell 0 4=n at m0 r0;obtain⟨n,rfl⟩:=Int.eq_ofNat_of_zero_le r0.1
 have hn:n<4:=by omega
 have m0':o.fn imix [.int cell,.int 0,.int 4]=.ok (false,.int (n:Int)):=m0;have m8:o.fn imix [.int cell,.int 8,.int 21]=.ok (false,.int (mixV cell 8 21)):=hmix cell 8 21 (by omega) (by omega);have m9:o.fn imix [.int cell,.int 9,.int 4]=.ok (false,.int (mixV cell 9 4)):=hmix cell 9 4 (by omega) (by omega);have r8:=cM cell 8 21 (by omega);generalize mixV cell 8 21=c8 at m8 r8;generalize mixV cell 9 4=c9 at m9;obtain⟨l,c',d',g,hf⟩:=BX hmix hnum hname cell base none (List.range n) 0 [] none none (fun j hj=>by have:=List.mem_range.mp hj;omega) ⟨by simp,fun n=>jR (by simp[pY]),by simp⟩ (by simp;omega)
 have hk:(keysOf l).length<64:=by
  have:=v9 (N5 base) l g.nm;rw[vd]at this;omega
 have hv:=hnum (cell.fdiv 3);have hvb:=vY (cell.fdiv 3);generalize numV (cell.fdiv 3)=v at hv hvb
 have g3:Shr base 3 l:=⟨g.nm,g.tot,by have:=g.len;simp at this;omega⟩
 have fin:∀c,Bd c->(∀δ0:Option Slot,∃δ',evSs o (SL.cons (sbD imix inum) (SL.cons (S.ret sbE) SL.nil)) [some (.sh,.int cell),some (.sh,.int base),some (.ow,dctP (gather l)),c',d',some (.sh,.int (c8-10))]=.rt false (sumD c l) δ')->∃c l,Bd c/\Shr base 3 l/\bG o (sbFd imix inum iname) [.int cell,.int base]=.ok (false,sumD c l):=fun c hc h=>by
  refine⟨c,l,hc,g3,?_⟩;refine aD rfl (δ0:=[some (.sh,.int cell),some (.sh,.int base),none,none,none,none]) rfl ?_;refine stp [some (.sh,.int cell),some (.sh,.int base),some (.ow,dctP []),none,none,none] ?_ ?_
  ·simp[evS,evF,ev,evL,R.bind,R.chk,SO.of,setSlot,az,dctP,ksD,vsD]
  refine stp [some (.sh,.int cell),some (.sh,.int base),some (.ow,dctP (gather l)),c',d',none] ?_ ?_
  ·have h1:evI o [some (.sh,.int cell),some (.sh,.int base),some (.ow,dctP []),none,none,none] false (TI.rng1 (sbI imix))=.ok ((List.range n).map fun(j:Nat)=>D.int (j:Int)):=by
    have h2:ev o [some (.sh,.int cell),some (.sh,.int base),some (.ow,dctP []),none,none,none] true (sbI imix)=.ok (false,.int (n:Int)):=bj (aa rfl (aj rfl) (aa rfl ao (aa rfl ao rfl))) m0';simp only[evI,h2,R.bind]
    have:inR (n:Int)=true:=by simp[inR];omega
    simp[this,R.chk,rngD]
   rw[forE (δ1:=[some (.sh,.int cell),some (.sh,.int base),some (.ow,dctP []),none,none,none]) rfl,h1];exact hf
  refine stp [some (.sh,.int cell),some (.sh,.int base),some (.ow,dctP (gather l)),c',d',some (.sh,.int (c8-10))] ?_ ?_
  ·exact bf (aG (bj (aa rfl (aj rfl) (aa rfl ao (aa rfl ao rfl))) m8) ao) rfl
  exact h none
 have lk0:ev o [some (.sh,.int cell),some (.sh,.int base),some (.ow,dctP (gather l)),c',d',some (.sh,.int (c8-10))] true (T.op2 .eq (T.call imix (TL.cons (T.var 0) (TL.cons (T.cst (D.int 9)) (TL.cons (T.cst (D.int 4)) TL.nil)))) (T.cst (D.int 0)))=.ok (false,.bl (decide (c9=0))):=eqi (bj (aa rfl (aj rfl) (aa rfl ao (aa rfl ao rfl))) m9)
 by_cases h9:c9=0
 ·refine fin v hvb fun _=>stp [some (.sh,.int cell),some (.sh,.int base),some (.ow,dctP (gather l)),c',d',some (.sh,.int v)] ?_ (stpR (retR (BZ o v _ _ _ _ l hk) rfl))
  rw[sbD,dz lk0,if_pos (by simpa using h9)];have hd:ev o [some (.sh,.int cell),some (.sh,.int base),some (.ow,dctP (gather l)),c',d',some (.sh,.int (c8-10))] false (T.op2 .fdiv (T.var 0) (T.cst (D.int 3)))=.ok (false,.int (cell.fdiv 3)):=(aG (aj rfl) ao).trans (show o2 .fdiv (.int cell) (.int 3)=_ from Ie cell 3 (by decide) (by decide));rw[aq (bf (bj (aa rfl hd rfl) hv) rfl)]
  rfl
 ·refine fin (c8-10) (jR (by omega)) fun _=>stp [some (.sh,.int cell),some (.sh,.int base),some (.ow,dctP (gather l)),c',d',some (.sh,.int (c8-10))] ?_ (stpR (retR (BZ o (c8-10) _ _ _ _ l hk) rfl))
  rw[sbD,dz lk0,if_neg (by simpa using h9)]
  rfl
end
end KG
namespace KG
open Z
theorem ix{x:List Nat}{k c:Nat}(h:x[k]?=some c):idxD (.str x) (.int (k:Int))=.ok (false,.str [c]):=by
 have hk:=(List.getElem?_eq_some_iff.mp h).1
 have h0:(0:Int)<=k:=by omega
 have h1:(k:Int)<x.length:=by omega
 simp only[idxD,place,h0,h1,if_true,Int.toNat_natCast,Option.bind_some,h,Option.map_some,R.of]
theorem o_lt(a b:Int):o2 .lt (.int a) (.int b)=.ok (false,.bl (decide (a<b))):=rfl
theorem o_gt(a b:Int):o2 .gt (.int a) (.int b)=.ok (false,.bl (decide (b<a))):=rfl
theorem zy(a b:List Nat):o2 .eq (.str a) (.str b)=.ok (false,.bl (decide (a=b))):=rfl
theorem lz(a b:Int):o2 .add (.int a) (.int b)=.ok (false,.int (a+b)):=rfl
theorem bL{o:Orc}{δ:Dst}{lk:Bool}{a i:T}{w1 w2:Bool}{x y:D}(ha:ev o δ true a=.ok (w1,x))(hi:ev o δ true i=.ok (w2,y)):ev o δ lk (T.idx a i)=idxD x y:=by simp only[ev,ha,hi,R.bind]
theorem gW(n m:Nat):clip n (m:Int)=min m n:=by unfold clip;rw[if_pos (Int.natCast_nonneg m),Int.toNat_natCast]
theorem ifF{o:Orc}{δ:Dst}{c:T}{x:SL}{w b:Bool}(h:ev o δ true c=.ok (w,.bl b))(hb:b=false):evS o (.ifs c x .nil) δ=.nx δ:=by subst hb;exact ifN h
theorem ifT{o:Orc}{δ δ':Dst}{c:T}{s:S}{l y:SL}{w w' b:Bool}{d:D}(h:ev o δ true c=.ok (w,.bl b))(hb:b=true)(k:evS o s δ=.rt w' d δ'):evS o (.ifs c (.cons s l) y) δ=.rt w' d δ':=by subst hb;exact ifR h k
theorem MN{o:Orc}{δ:Dst}{lk:Bool}{a b:T}{w:Bool}(ha:ev o δ true a=.ok (w,.bl true)):ev o δ lk (T.or a b)=.ok (false,.bl true):=by simp only[ev,ha,R.bind]
theorem Mf{o:Orc}{δ:Dst}{lk:Bool}{a b:T}{w w' c:Bool}(ha:ev o δ true a=.ok (w,.bl false))(hb:ev o δ true b=.ok (w',.bl c)):ev o δ lk (T.or a b)=.ok (false,.bl c):=by simp only[ev,ha,hb,R.bind,bT]
theorem kJ{o:Orc}{δ:Dst}{lk:Bool}{a b:T}{w w' c c':Bool}(ha:ev o δ true a=.ok (w,.bl c))(hb:ev o δ true b=.ok (w',.bl c')):ev o δ lk (T.or a b)=.ok (false,.bl (c||c')):=by
 cases c
 ·exact Mf ha hb
 ·exact MN ha
theorem ifS{o:Orc}{δ δ':Dst}{c:T}{i:Nat}{e:T}{w b w':Bool}{d:D}(h:ev o δ true c=.ok (w,.bl b))(k:ev o δ false e=.ok (w',d))(hs:setSlot δ i w' d=some δ'):evS o (.ifs c (.cons (.set i e) .nil) .nil) δ=.nx (if b then δ' else δ):=by
 cases b
 ·exact ifN h
 ·rw[dz h,if_pos rfl,aq (bf k hs)];rfl
theorem Jx{o:Orc}{δ δ':Dst}{tg:List Nat}{it:TI}{b:SL}{l:List D}(hs:cU δ it=δ)(hi:evI o δ false it=.ok l)(h:cX (evSs o b) tg false l δ=.nx δ'):evS o (.for_ tg false it b) δ=.nx δ':=by
 rw[forE hs,hi];exact h
theorem gR(a b:Int)(h:b≠0):o2 .mod (.int a) (.int b)=.ok (false,.int (a.fmod b)):=by simp only[o2,arith,decide_eq_true h,R.chk,if_true]
theorem fU(a b:Int)(h:(decide (b≠0)&&decide (b.natAbs.log2<9000))=true):o2 .fdiv (.int a) (.int b)=.ok (false,.int (a.fdiv b)):=by simp only[o2,arith,h,R.chk,if_true]
theorem nA(a b:Int):o2 .eq (.int a) (.int b)=.ok (false,.bl (decide (a=b))):=rfl
theorem bx{o:Orc}{δ:Dst}{i:Nat}{d:D}(h:δ[i]?=some (some (.ow,d))):ev o δ true (T.var i)=.ok (false,d):=by simp only[ev,h,if_true]
theorem pI{a b:List Nat}(h:a.length+b.length<=16777216):o2 .add (.str a) (.str b)=.ok (false,.str (a++b)):=by
 have:size (a.length+b.length)=true:=decide_eq_true h;simp only[o2,this,R.chk,if_true]
theorem tZ{l:List D}{k:Int}{d:D}(h0:0<=k)(h:l[k.toNat]?=some d):idxD (.lst l) (.int k)=.ok (false,d):=by
 have hk:=(List.getElem?_eq_some_iff.mp h).1
 have h1:k<l.length:=by omega
 simp only[idxD,place,h0,h1,if_true,Option.bind_some,h,Option.map_some,R.of]
section
variable{o:Orc}{δ:Dst}{lk:Bool}
theorem gr{t:T}{l:TL}{x:D}{xs:List D}{w b:Bool}(hk:bM δ t=true)(h:ev o δ true t=.ok (w,x))(hl:evL o δ l=.ok (b,xs)):evL o δ (.cons t l)=.ok (true,x::xs):=by
 simp only[evL,hk,h,hl,R.bind,Bool.true_or]
theorem jY{t:T}{l:TL}{x:D}{xs:List D}{w b:Bool}(hk:bM δ t=false)(h:ev o δ false t=.ok (w,x))(hl:evL o δ l=.ok (b,xs)):evL o δ (.cons t l)=.ok (b,x::xs):=by
 simp only[evL,hk,h,hl,R.bind,Bool.false_or]
theorem yd{f:Nat}{l:TL}{xs:List D}{w:Bool}{x:D}(hl:evL o δ l=.ok (true,xs))(h:o.fn f xs=.ok (w,x))(hi:x.imm=true):ev o δ lk (T.call f l)=.ok (w,x):=by
 simp only[ev,hl,R.bind,h,lent,if_true,hi]
theorem fG{a:T}{w b:Bool}(h:ev o δ true a=.ok (w,.bl b)):ev o δ lk (T.not a)=.ok (false,.bl !b):=by simp only[ev,h,R.bind,truth,R.of]
theorem O6{m:M1}{a b:T}{w w':Bool}{x y:D}(ha:ev o δ true a=.ok (w,x))(hb:ev o δ true b=.ok (w',y)):ev o δ lk (T.m1 m a b)=m1D m x y:=by simp only[ev,ha,hb,R.bind]
theorem zH{a:T}{w:Bool}{l:List D}(h:ev o δ true a=.ok (w,.lst l)):ev o δ lk (T.isin a .lst)=.ok (false,.bl true):=by simp only[ev,h,R.bind,isD,Option.map_some,R.of]
theorem z6(it:TI)(l r:List D)(c e:T)(hI:evI o δ true it=.ok l)(hr:r.length<=100000)
 (hc:bA (fun x=>ev o ((x++[]).map fun d=>some (Own.sh,d)) false e) (fun x=>ev o ((x++[]).map fun d=>some (Own.sh,d)) true c) 1 false l=.ok r):ev o δ lk (T.comp [] 1 false it c e)=.ok (true,.lst r):=by
 have h2:cA δ []=some []:=rfl;rw[ev,hI,h2];simp only[R.bind,R.of];rw[hc]
 have hz:size r.length=true:=by simp[size];omega
 simp only[hz,R.chk];simp
end
theorem lD{o:Orc}{δ:Dst}{i:Nat}{k e:T}{w w':Bool}{d kd c c':D}{q:Own}(he:ev o δ false e=.ok (w,d))(hk:ev o δ true k=.ok (w',kd))(ho:ownD δ i=some (q,c))(hp:putItem c kd d=some c'):evS o (.seti i k e) δ=.nx (δ.set i (some (q,c'))):=by
 simp only[evS,evF,he,SO.of,hk,ho,Option.bind_some,hp,Option.map_some,az]
theorem xm{o:Orc}{δ:Dst}{i:Nat}{e:T}{w:Bool}{d:D}{q:Own}{l:List D}(he:ev o δ false e=.ok (w,d))(ho:ownD δ i=some (q,.lst l))(hz:l.length+1<=100000):evS o (.append i e) δ=.nx (δ.set i (some (q,.lst (l++[d])))):=by
 have:size (l.length+1)=true:=decide_eq_true (by omega);simp only[evS,evF,he,SO.of,ho,Option.bind_some,this,if_true,az]
theorem neg1{o:Orc}{δ:Dst}{lk:Bool}:ev o δ lk (T.neg (T.cst (D.int 1)))=.ok (false,.int (-1)):=by simp only[ev,R.bind]
theorem jE{n:Nat}:place (n+1) (-1)=some n:=by
 unfold place;rw[if_neg (by omega),if_pos (by omega)]
 congr 1
 omega
theorem lq(a:List D)(x v:D):putItem (.lst (a++[x])) (.int (-1)) v=some (.lst (a++[v])):=by
 simp only[putItem,List.length_append,List.length_cons,List.length_nil,jE,Option.map_some];simp
theorem kI(a:List D)(x:D):idxD (.lst (a++[x])) (.int (-1))=.ok (false,x):=by
 simp only[idxD,List.length_append,List.length_cons,List.length_nil,jE,Option.bind_some];simp[R.of]
end KG
namespace KG
open Z
inductive Stt where
 | least (c:Int) (l:List Pair)
 | rest (m c:Int) (l:List Pair)
 | nt (s:Stt)
 | grp (w:Bool) (ss:List Stt)
 | trn (w:Bool) (x:List Nat) (s:Stt)
noncomputable def fM:List Nat:=[108,101,97,115,116]
noncomputable def lY:List Nat:=[114,101,115,116]
noncomputable def sNot:List Nat:=[110,111,116]
noncomputable def sAnd:List Nat:=[97,110,100]
noncomputable def sOr:List Nat:=[111,114]
noncomputable def DW:List Nat:=[115,111,109,101]
noncomputable def sAll:List Nat:=[97,108,108]
noncomputable def gw(w:Bool):List Nat:=if w then sOr else sAnd
noncomputable def tww(w:Bool):List Nat:=if w then sAll else DW
noncomputable abbrev smT(c:Int)(l:List Pair):D:=.tup [.int c,.tup (l.map prD)]
mutual
noncomputable def toD:Stt->D
 | .least c l=>.tup [.str fM,smT c l]
 | .rest m c l=>.tup [.str lY,.int m,smT c l]
 | .nt s=>.tup [.str sNot,toD s]
 | .grp w ss=>.tup [.str (gw w),.tup (toDs ss)]
 | .trn w x s=>.tup [.str (tww w),.str x,toD s]
noncomputable def toDs:List Stt->List D
 | []=>[]
 | s::ss=>toD s::toDs ss
end
theorem fP:∀ss:List Stt,toDs ss=ss.map toD
 | []=>by rw[toDs];rfl
 | s::ss=>by rw[toDs,fP ss];rfl
noncomputable def Lw(l:List Pair):Prop:=l.length<=1000/\∀p∈l,Bd p.2
noncomputable def wf:Nat->Stt->Prop
 | _,.least _ l=>Lw l
 | _,.rest _ _ l=>Lw l
 | n+1,.nt s=>wf n s
 | n+1,.grp _ ss=>ss.length<=100/\∀s∈ss,wf n s
 | n+1,.trn _ _ s=>wf n s
 | 0,_=>False
theorem iJ:∀{n m:Nat} {s:Stt},wf n s->n<=m->wf m s:=by
 intro n
 induction n with
 | zero=>
   intro m s h _;cases s<;>simp only[wf]at h
   all_goals(cases m<;>exact h)
 | succ n ih=>
   intro m s h hm
   obtain⟨m,rfl⟩:∃k,m=k+1:=⟨m-1,by omega⟩
   cases s with
   | least c l=>exact h
   | rest a c l=>exact h
   | nt s=>simp only[wf]at h ⊢;exact ih h (by omega)
   | grp w ss=>simp only[wf]at h ⊢;exact⟨h.1,fun s hs=>ih (h.2 s hs) (by omega)⟩
   | trn w x s=>simp only[wf]at h ⊢;exact ih h (by omega)
theorem uY:∀(r:List Int) (y:Int),y<=r.foldl (fun m z=>if z>m then z else m) y/\(∀z∈r,z<=r.foldl (fun m z=>if z>m then z else m) y)/\(∀b,y<=b->(∀z∈r,z<=b)->r.foldl (fun m z=>if z>m then z else m) y<=b)
 | [],y=>⟨Int.le_refl _,fun z hz=>by simp at hz,fun b h _=>h⟩
 | x::r,y=>by
   obtain⟨h1,h2,h3⟩:=uY r (if x>y then x else y)
   have q1:x<=(if x>y then x else y)/\y<=(if x>y then x else y):=by split<;>omega
   have q2:∀b,y<=b->x<=b->(if x>y then x else y)<=b:=fun b h h'=>by split<;>omega
   rw[List.foldl_cons];generalize (if x>y then x else y)=q at *;refine⟨by omega,fun z hz=>?_,fun b hb hz=>h3 b (q2 b hb (hz x List.mem_cons_self)) fun z h=>hz z (List.mem_cons_of_mem _ h)⟩;rcases List.mem_cons.mp hz with rfl | hz
   ·omega
   ·exact h2 z hz
theorem ints_map(r:List Int):intsOf (r.map .int)=some r:=by
 induction r with
 | nil=>rfl
 | cons x r ih=>simp[intsOf,ih]
theorem qt(y:Int)(r:List Int):b1D .max (.lst ((y::r).map .int))=.ok (false,.int (r.foldl (fun m z=>if z>m then z else m) y)):=by
 simp only[b1D,ints_map,Option.bind_some,R.of]
noncomputable def abFd(imix isum:Nat):Fd:=⟨2,3,(SL.cons (S.ifs (T.op2 .gt (T.op2 .mod (T.var 0) (T.cst (D.int 3))) (T.cst (D.int 0))) (SL.cons (S.ret (T.tup (TL.cons (T.cst (D.str [108,101,97,115,116])) (TL.cons (T.call isum (TL.cons (T.op2 .fdiv (T.var 0) (T.cst (D.int 3))) (TL.cons (T.var 1) TL.nil))) TL.nil)))) SL.nil) SL.nil) (SL.cons (S.set 2 (T.op2 .add (T.cst (D.int 1)) (T.call imix (TL.cons (T.var 0) (TL.cons (T.cst (D.int 9)) (TL.cons (T.cst (D.int 12)) TL.nil)))))) (SL.cons (S.ifs (T.op2 .eq (T.op2 .mod (T.var 0) (T.cst (D.int 4))) (T.cst (D.int 3))) (SL.cons (S.set 2 (T.op2 .add (T.cst (D.int 1)) (T.op2 .mod (T.op2 .fdiv (T.var 0) (T.cst (D.int 12))) (T.op2 .pow (T.cst (D.int 10)) (T.cst (D.int 30)))))) SL.nil) SL.nil) (SL.cons (S.ret (T.tup (TL.cons (T.cst (D.str [114,101,115,116])) (TL.cons (T.var 2) (TL.cons (T.call isum (TL.cons (T.op2 .fdiv (T.var 0) (T.cst (D.int 3))) (TL.cons (T.var 1) TL.nil))) TL.nil))))) SL.nil))))⟩
noncomputable def P30:Int:=1000000000000000000000000000000
theorem LK:o2 .pow (.int 10) (.int 30)=.ok (false,.int P30):=by rfl
theorem HJ:P30≠0:=by decide
end KG
namespace KG
open Z
noncomputable def tbS0:S:=(S.set 6 (T.op2 .mod (T.var 5) (T.cst (D.int 7))))
noncomputable def tbC:T:=(T.or (T.op2 .gt (T.var 6) (T.cst (D.int 3))) (T.or (T.op2 .eq (T.b1 .len (T.var 3)) (T.cst (D.int 0))) (T.or (T.op2 .gt (T.b1 .max (T.var 4)) (T.cst (D.int 12))) (T.and (T.op2 .eq (T.var 6) (T.cst (D.int 1))) (T.not (T.var 2))))))
noncomputable def tbA1(iatom:Nat):S:=(S.append 3 (T.call iatom (TL.cons (T.op2 .fdiv (T.var 5) (T.cst (D.int 7))) (TL.cons (T.var 1) TL.nil))))
noncomputable def tbA2:S:=(S.append 4 (T.cst (D.int 0)))
noncomputable def tbN1:S:=(S.seti 3 (T.neg (T.cst (D.int 1))) (T.tup (TL.cons (T.cst (D.str [110,111,116])) (TL.cons (T.idx (T.var 3) (T.neg (T.cst (D.int 1)))) TL.nil))))
noncomputable def tbN2:S:=(S.seti 4 (T.neg (T.cst (D.int 1))) (T.op2 .add (T.idx (T.var 4) (T.neg (T.cst (D.int 1)))) (T.cst (D.int 1))))
noncomputable def tbT1(iname:Nat):S:=(S.seti 3 (T.neg (T.cst (D.int 1))) (T.tup (TL.cons (T.idx (T.lst (TL.cons (T.cst (D.str [115,111,109,101])) (TL.cons (T.cst (D.str [97,108,108])) TL.nil))) (T.op2 .mod (T.op2 .fdiv (T.var 5) (T.cst (D.int 7))) (T.cst (D.int 2)))) (TL.cons (T.call iname (TL.cons (T.op2 .mod (T.op2 .fdiv (T.var 5) (T.cst (D.int 14))) (T.cst (D.int 5))) (TL.cons (T.var 1) TL.nil))) (TL.cons (T.idx (T.var 3) (T.neg (T.cst (D.int 1)))) TL.nil)))))
noncomputable def tbG1:S:=(S.set 7 (T.op2 .sub (T.b1 .len (T.var 3)) (T.b2 .min (T.op2 .mod (T.op2 .fdiv (T.var 5) (T.cst (D.int 7))) (T.cst (D.int 4))) (T.b1 .len (T.var 3)))))
noncomputable def tbG2:S:=(S.set 3 (T.op2 .add (T.slc (T.var 3) (T.cst D.non) (T.var 7)) (T.lst (TL.cons (T.tup (TL.cons (T.idx (T.lst (TL.cons (T.cst (D.str [97,110,100])) (TL.cons (T.cst (D.str [111,114])) TL.nil))) (T.op2 .sub (T.var 6) (T.cst (D.int 2)))) (TL.cons (T.b1 .tuple (T.slc (T.var 3) (T.var 7) (T.cst D.non))) TL.nil))) TL.nil))))
noncomputable def tbG3:S:=(S.set 4 (T.op2 .add (T.slc (T.var 4) (T.cst D.non) (T.op2 .add (T.var 7) (T.cst (D.int 1)))) (T.lst (TL.cons (T.op2 .add (T.cst (D.int 1)) (T.b1 .max (T.op2 .add (T.lst (TL.cons (T.cst (D.int 0)) TL.nil)) (T.slc (T.var 4) (T.op2 .add (T.var 7) (T.cst (D.int 1))) (T.cst D.non))))) TL.nil))))
noncomputable def tbI(iatom iname:Nat):S:=(S.ifs tbC (SL.cons (tbA1 iatom) (SL.cons tbA2 SL.nil)) (SL.cons (S.ifs (T.op2 .eq (T.var 6) (T.cst (D.int 0))) (SL.cons tbN1 (SL.cons tbN2 SL.nil)) (SL.cons (S.ifs (T.op2 .eq (T.var 6) (T.cst (D.int 1))) (SL.cons (tbT1 iname) (SL.cons tbN2 SL.nil)) (SL.cons tbG1 (SL.cons tbG2 (SL.cons tbG3 SL.nil)))) SL.nil)) SL.nil))
noncomputable def tbB(iatom iname:Nat):SL:=(SL.cons tbS0 (SL.cons (tbI iatom iname) SL.nil))
noncomputable def tbFd(iatom iname:Nat):Fd:=⟨3,8,(SL.cons (S.set 3 (T.lst TL.nil)) (SL.cons (S.set 4 (T.lst (TL.cons (T.cst (D.int 0)) TL.nil))) (SL.cons (S.for_ [5] false (TI.val (T.var 0)) (tbB iatom iname)) (SL.cons (S.ifs (T.op2 .eq (T.b1 .len (T.var 3)) (T.cst (D.int 1))) (SL.cons (S.ret (T.idx (T.var 3) (T.cst (D.int 0)))) SL.nil) SL.nil) (SL.cons (S.ret (T.tup (TL.cons (T.idx (T.lst (TL.cons (T.cst (D.str [97,110,100])) (TL.cons (T.cst (D.str [111,114])) TL.nil))) (T.op2 .mod (T.var 1) (T.cst (D.int 2)))) (TL.cons (T.b1 .tuple (T.var 3)) TL.nil)))) SL.nil)))))⟩
noncomputable abbrev It:=Int×Stt
noncomputable def rwD(it:List It):List D:=it.map fun q=>toD q.2
noncomputable def dpI(it:List It):List Int:=it.map fun q=>q.1
noncomputable def dpD(it:List It):List D:=((0:Int)::dpI it).map .int
mutual
noncomputable def sz:Stt->Nat
 | .least _ _=>1
 | .rest _ _ _=>1
 | .nt s=>sz s+1
 | .grp _ ss=>szs ss+1
 | .trn _ _ s=>sz s+1
noncomputable def szs:List Stt->Nat
 | []=>0
 | s::ss=>sz s+szs ss
end
theorem jW(a b:List Stt):szs (a++b)=szs a+szs b:=by
 induction a with
 | nil=>simp[szs]
 | cons x a ih=>simp only[List.cons_append,szs,ih];omega
structure Cl(Φ:Int->Bool->Stt->Prop):Prop where
 nt:∀base t s,Φ base t s->Φ base t (.nt s)
 grp:∀base t w ss,(∀s∈ss,Φ base t s)->Φ base t (.grp w ss)
 trn:∀base w c s,0<=c->c<5->Φ base true s->Φ base true (.trn w (nm c base) s)
structure Inv7(Φ:Stt->Prop)(k:Nat)(it:List It):Prop where
 wf:∀q∈it,0<=q.1/\q.1<=13/\KG.wf q.1.toNat q.2
 len:it.length<=100
 ph:∀q∈it,Φ q.2
 sz:szs (it.map (·.2))<=k
noncomputable def mxD(it:List It):Int:=(dpI it).foldl (fun m z=>if z>m then z else m) 0
theorem jd(a b:List It):rwD (a++b)=rwD a++rwD b:=by simp[rwD]
theorem lg(a:List It)(q:It):dpD (a++[q])=dpD a++[.int q.1]:=by simp[dpD,dpI]
theorem iI(a:List It):(rwD a).length=a.length:=by simp[rwD]
theorem xq(a:List It):(dpD a).length=a.length+1:=by simp[dpD,dpI]
theorem Bm(l:List D)(m:Nat):slcD (.lst l) none (some (m:Int))=some (true,.lst (l.take m)):=by
 simp only[slcD,dM,bW,gW,cut,List.drop_zero];rw[<-List.take_eq_take_min]
theorem Ce(l:List D)(m:Nat)(h:m<=l.length):slcD (.lst l) (some (m:Int)) none=some (true,.lst (l.drop m)):=by
 simp only[slcD,dM,bW,gW,cut,List.take_length,Nat.min_eq_left h]
theorem lE{o:Orc}{δ:Dst}{lk:Bool}{t:T}{w:Bool}{i:Int}{x y:List Nat}{b:Bool}(h:ev o δ true t=.ok (w,.int i))(hi:i=if b then 1 else 0):ev o δ lk (T.idx (T.lst (TL.cons (T.cst (D.str x)) (TL.cons (T.cst (D.str y)) TL.nil))) t)=.ok (false,.str (if b then y else x)):=by
 subst hi;refine(bL (cJ (xs:=[.str x,.str y]) (aa rfl ao (aa rfl ao rfl)) rfl) h).trans ?_;cases b<;>rfl
section
variable{o:Orc}{iatom iname:Nat}{Φ:Int->Bool->Stt->Prop}(C:Cl Φ)(hatom:∀cell base:Int,∃s,wf 0 s/\sz s=1/\(∀t,Φ base t s)/\o.fn iatom [.int cell,.int base]=.ok (false,toD s))(hname:∀c b,o.fn iname [.int c,.int b]=.ok (false,.str (nm c b)))
noncomputable abbrev stB(A:Option Slot)(base:Int)(turns:Bool)(it:List It)(cell:Int)(w f:Option Slot):Dst:=[A,some (.sh,.int base),some (.sh,.bl turns),some (.ow,.lst (rwD it)),some (.ow,.lst (dpD it)),some (.sh,.int cell),w,f]
theorem Hk(A:Option Slot)(base:Int)(turns:Bool)(it:List It)(cell way:Int)(f:Option Slot):ev o (stB A base turns it cell (some (.sh,.int way)) f) true tbC=.ok (false,.bl (decide (3<way)||(decide ((it.length:Int)=0)||(decide (12<mxD it)||(decide (way=1)&&!turns))))):=by
 have e1:ev o (stB A base turns it cell (some (.sh,.int way)) f) true (T.op2 .gt (T.var 6) (T.cst (D.int 3)))=.ok (false,.bl (decide (3<way))):=(aG (aj rfl) ao).trans (o_gt _ _)
 have hl:b1D .len (.lst (rwD it))=.ok (false,.int (it.length:Int)):=by simp only[b1D,iI]
 have e2:ev o (stB A base turns it cell (some (.sh,.int way)) f) true (T.op2 .eq (T.b1 .len (T.var 3)) (T.cst (D.int 0)))=.ok (false,.bl (decide ((it.length:Int)=0))):=(aG ((jb (bx rfl)).trans hl) ao).trans (nA _ _);have e3:ev o (stB A base turns it cell (some (.sh,.int way)) f) true (T.op2 .gt (T.b1 .max (T.var 4)) (T.cst (D.int 12)))=.ok (false,.bl (decide (12<mxD it))):=(aG ((jb (bx rfl)).trans (qt _ _)) ao).trans (o_gt _ _)
 have e4:ev o (stB A base turns it cell (some (.sh,.int way)) f) true (T.and (T.op2 .eq (T.var 6) (T.cst (D.int 1))) (T.not (T.var 2)))=.ok (false,.bl (decide (way=1)&&!turns)):=by
  have q:ev o (stB A base turns it cell (some (.sh,.int way)) f) true (T.op2 .eq (T.var 6) (T.cst (D.int 1)))=.ok (false,.bl (decide (way=1))):=(aG (aj rfl) ao).trans (nA _ _)
  by_cases h:way=1
  ·rw[decide_eq_true h]at q ⊢
   exact(Az q (fG (aj rfl))).trans (by simp)
  ·rw[decide_eq_false h]at q ⊢
   exact NZ q
 exact kJ e1 (kJ e2 (kJ e3 e4))
theorem uK{it:List It}(h:it≠[]):∃a d s,it=a++[(d,s)]:=by
 refine⟨it.dropLast,(it.getLast h).1,(it.getLast h).2,?_⟩;exact(List.dropLast_concat_getLast h).symm
include C hatom hname
theorem CZ(A:Option Slot)(base:Int)(turns:Bool)(k0:Nat)(it:List It)(I:Inv7 (Φ base turns) k0 it)(hl:it.length+1<=100)(cell:Int)(w f:Option Slot) :
 ∃it' w' f',Inv7 (Φ base turns) (k0+1) it'/\it'.length<=it.length+1/\evSs o (tbB iatom iname) (stB A base turns it cell w f)=.nx (stB A base turns it' cell w' f'):=by
 have r7:=aF cell 7 (by decide);have s0:evS o tbS0 (stB A base turns it cell w f)=.nx (stB A base turns it cell (some (.sh,.int (cell.fmod 7))) f):=bf ((aG (aj rfl) ao).trans (gR _ 7 (by decide))) rfl;generalize cell.fmod 7=way at s0 r7;have hc:=Hk (o:=o) A base turns it cell way f
 have fin:∀{it':List It} {w' f':Option Slot},evS o (tbI iatom iname) (stB A base turns it cell (some (.sh,.int way)) f)=.nx (stB A base turns it' cell w' f')->evSs o (tbB iatom iname) (stB A base turns it cell w f)=.nx (stB A base turns it' cell w' f'):=fun{it' w' f'} h=>by
  rw[tbB,aq s0,aq h]
  rfl
 by_cases hb:(decide (3<way)||(decide ((it.length:Int)=0)||(decide (12<mxD it)||(decide (way=1)&&!turns))))=true
 ·obtain⟨s,hs,hz,hp,ha⟩:=hatom (cell.fdiv 7) base
  refine⟨it++[(0,s)],some (.sh,.int way),f,⟨fun q hq=>?_,by simpa using hl,fun q hq=>?_,?_⟩,by simp,fin ?_⟩
  ·rcases List.mem_append.mp hq with hq | hq
   ·exact I.wf q hq
   ·have:q=(0,s):=by simpa using hq
    subst this;exact⟨Int.le_refl _,(by decide:(0:Int)<=13),hs⟩
  ·rcases List.mem_append.mp hq with hq | hq
   ·exact I.ph q hq
   ·have:q=(0,s):=by simpa using hq
    subst this;exact hp turns
  ·have:=I.sz
   rw[List.map_append,jW];simp only[List.map_cons,List.map_nil,szs,hz];omega
  ·have a1:evS o (tbA1 iatom) (stB A base turns it cell (some (.sh,.int way)) f)=.nx [A,some (.sh,.int base),some (.sh,.bl turns),some (.ow,.lst (rwD it++[toD s])),some (.ow,.lst (dpD it)),some (.sh,.int cell),some (.sh,.int way),f]:=xm (bj (aa rfl ((aG (aj rfl) ao).trans (fU _ 7 (by decide))) (aa rfl (aj rfl) rfl)) ha) rfl (by rw[iI];omega)
   have a2:evS o tbA2 [A,some (.sh,.int base),some (.sh,.bl turns),some (.ow,.lst (rwD it++[toD s])),some (.ow,.lst (dpD it)),some (.sh,.int cell),some (.sh,.int way),f]=.nx [A,some (.sh,.int base),some (.sh,.bl turns),some (.ow,.lst (rwD it++[toD s])),some (.ow,.lst (dpD it++[.int 0])),some (.sh,.int cell),some (.sh,.int way),f]:=xm ao rfl (by rw[xq];omega);rw[tbI,dz hc,if_pos hb,aq a1,aq a2];rw[evSs,stB,jd,lg]
   rfl
 have hb:(decide (3<way)||(decide ((it.length:Int)=0)||(decide (12<mxD it)||(decide (way=1)&&!turns))))=false:=by simpa using hb
 simp only[Bool.or_eq_false_iff,decide_eq_false_iff_not]at hb;obtain⟨b1,b2,b3,b4⟩:=hb
 have hne:it≠[]:=fun z=>b2 (by rw[z];rfl)
 have hmx:=uY (dpI it) 0
 have h12:∀q∈it,q.1<=12:=fun q hq=>by
  have h1:=hmx.2.1 q.1 (List.mem_map_of_mem hq)
  have h2:mxD it<=12:=by omega
  unfold mxD at h2;omega
 have hcF:(decide (3<way)||(decide ((it.length:Int)=0)||(decide (12<mxD it)||(decide (way=1)&&!turns))))=false:=by
  simp only[Bool.or_eq_false_iff,decide_eq_false_iff_not];exact⟨b1,b2,b3,b4⟩
 rw[hcF]at hc
 have go:∀{it':List It} {w' f':Option Slot},evSs o (SL.cons (S.ifs (T.op2 .eq (T.var 6) (T.cst (D.int 0))) (SL.cons tbN1 (SL.cons tbN2 SL.nil)) (SL.cons (S.ifs (T.op2 .eq (T.var 6) (T.cst (D.int 1))) (SL.cons (tbT1 iname) (SL.cons tbN2 SL.nil)) (SL.cons tbG1 (SL.cons tbG2 (SL.cons tbG3 SL.nil)))) SL.nil)) SL.nil) (stB A base turns it cell (some (.sh,.int way)) f)=.nx (stB A base turns it' cell w' f')->evSs o (tbB iatom iname) (stB A base turns it cell w f)=.nx (stB A base turns it' cell w' f'):=fun{it' w' f'} h=>fin (by rw[tbI,dz hc,if_neg (by decide)];exact h)
 have ew:∀k:Int,ev o (stB A base turns it cell (some (.sh,.int way)) f) true (T.op2 .eq (T.var 6) (T.cst (D.int k)))=.ok (false,.bl (decide (way=k))):=fun k=>(aG (aj rfl) ao).trans (nA _ _)
 have deeper:∀(a:List It) (d:Int) (s x:Stt),it=a++[(d,s)]->evS o tbN2 [A,some (.sh,.int base),some (.sh,.bl turns),some (.ow,.lst (rwD a++[toD x])),some (.ow,.lst (dpD it)),some (.sh,.int cell),some (.sh,.int way),f]=.nx (stB A base turns (a++[(d+1,x)]) cell (some (.sh,.int way)) f):=fun a d s x e=>by
  rw[e,lg];have h1:evS o tbN2 [A,some (.sh,.int base),some (.sh,.bl turns),some (.ow,.lst (rwD a++[toD x])),some (.ow,.lst (dpD a++[.int d])),some (.sh,.int cell),some (.sh,.int way),f]=.nx _:=lD ((aG ((bL (bx rfl) neg1).trans (kI _ _)) ao).trans (lz _ _)) neg1 rfl (lq _ _ _);rw[h1,stB,jd,lg]
  rfl
 have inv1:∀(a:List It) (d:Int) (s x:Stt),it=a++[(d,s)]->(wf d.toNat s->wf (d.toNat+1) x)->sz x=sz s+1->(Φ base turns s->Φ base turns x)->Inv7 (Φ base turns) (k0+1) (a++[(d+1,x)]):=fun a d s x e hx hz hp=>by
  subst e;refine⟨fun q hq=>?_,by simpa using I.len,fun q hq=>?_,?_⟩
  rotate_left
  ·rcases List.mem_append.mp hq with hq | hq
   ·exact I.ph q (List.mem_append_left _ hq)
   ·have:q=(d+1,x):=by simpa using hq
    subst this;exact hp (I.ph (d,s) (by simp))
  ·have:=I.sz
   rw[List.map_append,jW]at this ⊢;simp only[List.map_cons,List.map_nil,szs,hz]at this ⊢;omega
  rcases List.mem_append.mp hq with hq | hq
  ·exact I.wf q (List.mem_append_left _ hq)
  ·have:q=(d+1,x):=by simpa using hq
   subst this;obtain⟨g1,g2,g3⟩:=I.wf (d,s) (by simp);have g4:=h12 (d,s) (by simp);simp only at g1 g2 g3 g4;refine⟨by simp only;omega,by simp only;omega,?_⟩
   have:(d+1).toNat=d.toNat+1:=by omega
   simp only[this];exact hx g3
 by_cases w0:way=0
 ·obtain⟨a,d,s,e⟩:=uK hne
  refine⟨a++[(d+1,.nt s)],some (.sh,.int way),f,inv1 a d s (.nt s) e (fun h=>by simp only[wf];exact h) (by rw[sz]) (C.nt base turns s),by rw[e];simp,go ?_⟩
  have h1:evS o tbN1 (stB A base turns it cell (some (.sh,.int way)) f)=.nx [A,some (.sh,.int base),some (.sh,.bl turns),some (.ow,.lst (rwD a++[toD (.nt s)])),some (.ow,.lst (dpD it)),some (.sh,.int cell),some (.sh,.int way),f]:=by
   have er:rwD it=rwD a++[toD s]:=by rw[e,jd];rfl
   rw[stB,er,toD];exact lD (bO (xs:=[.str sNot,toD s]) (aa rfl ao (aa rfl ((bL (bx rfl) neg1).trans (kI _ _)) rfl)) rfl) neg1 rfl (lq _ _ _)
  have h2:evS o (S.ifs (T.op2 .eq (T.var 6) (T.cst (D.int 0))) (SL.cons tbN1 (SL.cons tbN2 SL.nil)) (SL.cons (S.ifs (T.op2 .eq (T.var 6) (T.cst (D.int 1))) (SL.cons (tbT1 iname) (SL.cons tbN2 SL.nil)) (SL.cons tbG1 (SL.cons tbG2 (SL.cons tbG3 SL.nil)))) SL.nil)) (stB A base turns it cell (some (.sh,.int way)) f)=.nx (stB A base turns (a++[(d+1,.nt s)]) cell (some (.sh,.int way)) f):=by
   rw[dz (ew 0),if_pos (decide_eq_true w0),aq h1,aq (deeper a d s _ e)]
   rfl
  rw[aq h2]
  rfl
 have go2:∀{it':List It} {w' f':Option Slot},evS o (S.ifs (T.op2 .eq (T.var 6) (T.cst (D.int 1))) (SL.cons (tbT1 iname) (SL.cons tbN2 SL.nil)) (SL.cons tbG1 (SL.cons tbG2 (SL.cons tbG3 SL.nil)))) (stB A base turns it cell (some (.sh,.int way)) f)=.nx (stB A base turns it' cell w' f')->evSs o (tbB iatom iname) (stB A base turns it cell w f)=.nx (stB A base turns it' cell w' f'):=fun{it' w' f'} h=>go (by
  have h2:evS o (S.ifs (T.op2 .eq (T.var 6) (T.cst (D.int 0))) (SL.cons tbN1 (SL.cons tbN2 SL.nil)) (SL.cons (S.ifs (T.op2 .eq (T.var 6) (T.cst (D.int 1))) (SL.cons (tbT1 iname) (SL.cons tbN2 SL.nil)) (SL.cons tbG1 (SL.cons tbG2 (SL.cons tbG3 SL.nil)))) SL.nil)) (stB A base turns it cell (some (.sh,.int way)) f)=.nx (stB A base turns it' cell w' f'):=by
   rw[dz (ew 0),if_neg (by simp[w0]),aq h]
   rfl
  rw[aq h2]
  rfl)
 by_cases w1:way=1
 ·obtain⟨a,d,s,e⟩:=uK hne
  have r2:=aF (cell.fdiv 7) 2 (by decide)
  have hw2:(cell.fdiv 7).fmod 2=if decide ((cell.fdiv 7).fmod 2=1)then 1 else 0:=by
   by_cases z:(cell.fdiv 7).fmod 2=1
   ·simp[z]
   ·simp[z];omega
  generalize hbw:decide ((cell.fdiv 7).fmod 2=1)=bw at hw2;have hn:=hname ((cell.fdiv 14).fmod 5) base;have r5:=aF (cell.fdiv 14) 5 (by decide)
  have ht:turns=true:=by
   rw[decide_eq_true w1,Bool.true_and]at b4;simpa using b4
  have hpt:Φ base turns s->Φ base turns (.trn bw (nm ((cell.fdiv 14).fmod 5) base) s):=by
   rw[ht];exact C.trn base bw _ s r5.1 r5.2
  generalize nm ((cell.fdiv 14).fmod 5) base=x at hn hpt;refine⟨a++[(d+1,.trn bw x s)],some (.sh,.int way),f,inv1 a d s (.trn bw x s) e (fun h=>by simp only[wf];exact h) (by rw[sz]) hpt,by rw[e];simp,go2 ?_⟩
  have h1:evS o (tbT1 iname) (stB A base turns it cell (some (.sh,.int way)) f)=.nx [A,some (.sh,.int base),some (.sh,.bl turns),some (.ow,.lst (rwD a++[toD (.trn bw x s)])),some (.ow,.lst (dpD it)),some (.sh,.int cell),some (.sh,.int way),f]:=by
   have er:rwD it=rwD a++[toD s]:=by rw[e,jd];rfl
   rw[stB,er,toD];refine lD (bO (xs:=[.str (tww bw),.str x,toD s]) (aa rfl (lE (b:=bw) ((aG ((aG (aj rfl) ao).trans (fU _ 7 (by decide))) ao).trans (gR _ 2 (by decide))) hw2) (aa rfl (bj (aa rfl ((aG ((aG (aj rfl) ao).trans (fU _ 14 (by decide))) ao).trans (gR _ 5 (by decide))) (aa rfl (aj rfl) rfl)) hn) (aa rfl ((bL (bx rfl) neg1).trans (kI _ _)) rfl))) rfl) neg1 rfl (lq _ _ _)
  rw[dz (ew 1),if_pos (decide_eq_true w1),aq h1,aq (deeper a d s _ e)]
  rfl
 have r4:=aF (cell.fdiv 7) 4 (by decide)
 obtain⟨k,hk,hkl⟩:∃k:Nat,(it.length:Int)-(if(it.length:Int)<(cell.fdiv 7).fmod 4 then(it.length:Int)else(cell.fdiv 7).fmod 4)=(k:Int)/\k<=it.length:=by
  refine⟨((it.length:Int)-(if(it.length:Int)<(cell.fdiv 7).fmod 4 then(it.length:Int)else(cell.fdiv 7).fmod 4)).toNat,?_,?_⟩<;>split<;>omega
 have hw2:way-2=if decide (way=3)then 1 else 0:=by
  by_cases z:way=3
  ·simp[z]
  ·simp[z];omega
 generalize hbw:decide (way=3)=bw at hw2;have hmk:=uY (dpI (it.drop k)) 0;generalize hM:(dpI (it.drop k)).foldl (fun m z=>if z>m then z else m) 0=M at hmk
 have hM12:M<=12:=hmk.2.2 12 (by decide) fun z hz=>by
  obtain⟨q,hq,rfl⟩:=List.mem_map.mp hz;exact h12 q (List.mem_of_mem_drop hq)
 refine⟨it.take k++[(1+M,.grp bw ((it.drop k).map (·.2)))],some (.sh,.int way),some (.sh,.int (k:Int)),⟨fun q hq=>?_,?_,fun q hq=>?_,?_⟩,?_,go2 ?_⟩
 ·rcases List.mem_append.mp hq with hq | hq
  ·exact I.wf q (List.mem_of_mem_take hq)
  ·have:q=(1+M,.grp bw ((it.drop k).map (·.2))):=by simpa using hq
   subst this;refine⟨by simp only;omega,by simp only;omega,?_⟩
   have:(1+M).toNat=M.toNat+1:=by omega
   simp only[this,wf];refine⟨by have:=I.len;simp;omega,fun s hs=>?_⟩;obtain⟨q,hq,rfl⟩:=List.mem_map.mp hs;obtain⟨g1,g2,g3⟩:=I.wf q (List.mem_of_mem_drop hq);refine iJ g3 ?_;have:=hmk.2.1 q.1 (List.mem_map_of_mem hq);omega
 ·have:=I.len
  simp;omega
 ·rcases List.mem_append.mp hq with hq | hq
  ·exact I.ph q (List.mem_of_mem_take hq)
  ·have:q=(1+M,.grp bw ((it.drop k).map (·.2))):=by simpa using hq
   subst this
   refine C.grp base turns bw _ fun s hs=>?_
   obtain⟨q,hq,rfl⟩:=List.mem_map.mp hs;exact I.ph q (List.mem_of_mem_drop hq)
 ·have:=I.sz
  rw[<-List.take_append_drop k it,List.map_append,jW]at this;rw[List.map_append,jW];simp only[List.map_cons,List.map_nil,szs,sz];omega
 ·simp;omega
 have hlen:b1D .len (.lst (rwD it))=.ok (false,.int (it.length:Int)):=by simp only[b1D,iI]
 have g1:evS o tbG1 (stB A base turns it cell (some (.sh,.int way)) f)=.nx (stB A base turns it cell (some (.sh,.int way)) (some (.sh,.int (k:Int)))):=by
  have:=bf (o:=o) (δ:=stB A base turns it cell (some (.sh,.int way)) f) (i:=7) (e:=(T.op2 .sub (T.b1 .len (T.var 3)) (T.b2 .min (T.op2 .mod (T.op2 .fdiv (T.var 5) (T.cst (D.int 7))) (T.cst (D.int 4))) (T.b1 .len (T.var 3))))) ((aG ((jb (bx rfl)).trans hlen) ((Iz ((aG ((aG (aj rfl) ao).trans (fU _ 7 (by decide))) ao).trans (gR _ 4 (by decide))) ((jb (bx rfl)).trans hlen)).trans (show b2D .min (.int _) (.int _)=.ok (false,.int (if _<_ then _ else _))from rfl))).trans (show o2 .sub (.int _) (.int _)=.ok (false,.int (_-_))from rfl)) rfl;rw[tbG1,this,hk]
  rfl
 have tt:b1D .tuple (.lst (rwD (it.drop k)))=.ok (false,.tup (toDs ((it.drop k).map (·.2)))):=by
  rw[fP,List.map_map];rfl
 have g2:evS o tbG2 (stB A base turns it cell (some (.sh,.int way)) (some (.sh,.int (k:Int))))=.nx [A,some (.sh,.int base),some (.sh,.bl turns),some (.ow,.lst (rwD (it.take k)++[toD (.grp bw ((it.drop k).map (·.2)))])),some (.ow,.lst (dpD it)),some (.sh,.int cell),some (.sh,.int way),some (.sh,.int (k:Int))]:=by
  have h1:slcD (.lst (rwD it)) none (some (k:Int))=some (true,.lst (rwD (it.take k))):=by rw[Bm];simp[rwD,List.map_take]
  have h2:slcD (.lst (rwD it)) (some (k:Int)) none=some (true,.lst (rwD (it.drop k))):=by rw[Ce _ _ (by rw[iI];exact hkl)];simp[rwD,List.map_drop]
  rw[toD];refine bf ((aG (iH (bx rfl) ao (aj rfl) rfl rfl h1) (cJ (xs:=[.tup [.str (gw bw),.tup (toDs ((it.drop k).map (·.2)))]]) (aa rfl (bO (xs:=[.str (gw bw),.tup (toDs ((it.drop k).map (·.2)))]) (aa rfl (lE (b:=bw) ((aG (aj rfl) ao).trans (show o2 .sub (.int _) (.int _)=.ok (false,.int (_-_))from rfl)) hw2) (aa rfl ((jb (iH (bx rfl) (aj rfl) ao rfl rfl h2)).trans tt) rfl)) rfl) rfl) rfl)).trans (oW (by have:=I.len;simp[rwD];omega))) rfl
 have g3:evS o tbG3 [A,some (.sh,.int base),some (.sh,.bl turns),some (.ow,.lst (rwD (it.take k)++[toD (.grp bw ((it.drop k).map (·.2)))])),some (.ow,.lst (dpD it)),some (.sh,.int cell),some (.sh,.int way),some (.sh,.int (k:Int))]=.nx (stB A base turns (it.take k++[(1+M,.grp bw ((it.drop k).map (·.2)))]) cell (some (.sh,.int way)) (some (.sh,.int (k:Int)))):=by
  have hk1:((k:Int)+1)=((k+1:Nat):Int):=by omega
  have h1:slcD (.lst (dpD it)) none (some ((k:Int)+1))=some (true,.lst (dpD (it.take k))):=by rw[hk1,Bm];simp[dpD,dpI,List.map_take]
  have h2:slcD (.lst (dpD it)) (some ((k:Int)+1)) none=some (true,.lst ((dpI (it.drop k)).map .int)):=by rw[hk1,Ce _ _ (by rw[xq];omega)];simp[dpD,dpI,List.map_drop]
  have h3:o2 .add (.lst [.int 0]) (.lst ((dpI (it.drop k)).map .int))=.ok (true,.lst (((0:Int)::dpI (it.drop k)).map .int)):=oW (by have:=I.len;simp[dpI];omega)
  have h4:b1D .max (.lst (((0:Int)::dpI (it.drop k)).map .int))=.ok (false,.int M):=by rw[qt,hM]
  have:=bf (o:=o) (δ:=[A,some (.sh,.int base),some (.sh,.bl turns),some (.ow,.lst (rwD (it.take k)++[toD (.grp bw ((it.drop k).map (·.2)))])),some (.ow,.lst (dpD it)),some (.sh,.int cell),some (.sh,.int way),some (.sh,.int (k:Int))]) (i:=4) (e:=(T.op2 .add (T.slc (T.var 4) (T.cst D.non) (T.op2 .add (T.var 7) (T.cst (D.int 1)))) (T.lst (TL.cons (T.op2 .add (T.cst (D.int 1)) (T.b1 .max (T.op2 .add (T.lst (TL.cons (T.cst (D.int 0)) TL.nil)) (T.slc (T.var 4) (T.op2 .add (T.var 7) (T.cst (D.int 1))) (T.cst D.non))))) TL.nil)))) ((aG (iH (bx rfl) ao ((aG (aj rfl) ao).trans (lz _ _)) rfl rfl h1) (cJ (xs:=[.int (1+M)]) (aa rfl ((aG ao ((jb ((aG (cJ (xs:=[.int 0]) (aa rfl ao rfl) rfl) (iH (bx rfl) ((aG (aj rfl) ao).trans (lz _ _)) ao rfl rfl h2)).trans h3)).trans h4)).trans (lz _ _)) rfl) rfl)).trans (oW (by have:=I.len;simp[dpD,dpI];omega))) rfl;rw[tbG3,this,stB,jd,lg]
  rfl
 rw[dz (ew 1),if_neg (by simp[w1]),aq g1,aq g2,aq g3]
 rfl
end
end KG
namespace KG
open Z
section
variable{o:Orc}{iatom iname:Nat}{Φ:Int->Bool->Stt->Prop}(C:Cl Φ)(hatom:∀cell base:Int,∃s,wf 0 s/\sz s=1/\(∀t,Φ base t s)/\o.fn iatom [.int cell,.int base]=.ok (false,toD s))(hname:∀c b,o.fn iname [.int c,.int b]=.ok (false,.str (nm c b)))
include C hatom hname
theorem Cg(A:Option Slot)(base:Int)(turns:Bool):∀(cells:List Int) (k:Nat) (it:List It) (c w f:Option Slot),Inv7 (Φ base turns) k it->it.length+cells.length<=100 ->
 ∃it' c' w' f',Inv7 (Φ base turns) (k+cells.length) it'/\cX (evSs o (tbB iatom iname)) [5] false (cells.map .int) [A,some (.sh,.int base),some (.sh,.bl turns),some (.ow,.lst (rwD it)),some (.ow,.lst (dpD it)),c,w,f]=.nx [A,some (.sh,.int base),some (.sh,.bl turns),some (.ow,.lst (rwD it')),some (.ow,.lst (dpD it')),c',w',f']
 | [],k,it,c,w,f,I,_=>⟨it,c,w,f,I,rfl⟩
 | x::cells,k,it,c,w,f,I,hl=>by
   simp only[List.length_cons]at hl;obtain⟨it1,w1,f1,I1,l1,e1⟩:=CZ C hatom hname A base turns k it I (by omega) x w f;obtain⟨it',c',w',f',I',e2⟩:=Cg A base turns cells (k+1) it1 (some (.sh,.int x)) w1 f1 I1 (by omega);refine⟨it',c',w',f',by rw[List.length_cons,show k+(cells.length+1)=k+1+cells.length by omega];exact I',?_⟩;have hs:aJ [A,some (.sh,.int base),some (.sh,.bl turns),some (.ow,.lst (rwD it)),some (.ow,.lst (dpD it)),c,w,f] [5] [.int x]=some (stB A base turns it x w f):=rfl;simp only[List.map_cons,cX,takes,Bool.false_eq_true,if_false,List.length_cons,List.length_nil,hs,e1];exact e2
theorem sO(cells:List Int)(base:Int)(turns:Bool)(hc:cells.length<=100):∃s,wf 14 s/\sz s<=cells.length+1/\Φ base turns s/\bG o (tbFd iatom iname) [.lst (cells.map .int),.int base,.bl turns]=.ok (false,toD s):=by
 obtain⟨it,c',w',f',I,hf⟩:=Cg C hatom hname (some (.sh,.lst (cells.map .int))) base turns cells 0 [] none none none ⟨by simp,by simp,by simp,by simp[szs]⟩ (by simpa using hc)
 have hI:evI o [some (.sh,.lst (cells.map .int)),some (.sh,.int base),some (.sh,.bl turns),some (.ow,.lst (rwD [])),some (.ow,.lst (dpD [])),none,none,none] false (TI.val (T.var 0))=.ok (cells.map .int):=by rw[evI,aj rfl];rfl
 have hlen:b1D .len (.lst (rwD it))=.ok (false,.int (it.length:Int)):=by simp only[b1D,iI]
 have e1:ev o [some (.sh,.lst (cells.map .int)),some (.sh,.int base),some (.sh,.bl turns),some (.ow,.lst (rwD it)),some (.ow,.lst (dpD it)),c',w',f'] true (T.op2 .eq (T.b1 .len (T.var 3)) (T.cst (D.int 1)))=.ok (false,.bl (decide ((it.length:Int)=1))):=(aG ((jb (bx rfl)).trans hlen) ao).trans (nA _ _)
 have pre:∀s,(∃δ1,evSs o (SL.cons (S.ifs (T.op2 .eq (T.b1 .len (T.var 3)) (T.cst (D.int 1))) (SL.cons (S.ret (T.idx (T.var 3) (T.cst (D.int 0)))) SL.nil) SL.nil) (SL.cons (S.ret (T.tup (TL.cons (T.idx (T.lst (TL.cons (T.cst (D.str [97,110,100])) (TL.cons (T.cst (D.str [111,114])) TL.nil))) (T.op2 .mod (T.var 1) (T.cst (D.int 2)))) (TL.cons (T.b1 .tuple (T.var 3)) TL.nil)))) SL.nil)) [some (.sh,.lst (cells.map .int)),some (.sh,.int base),some (.sh,.bl turns),some (.ow,.lst (rwD it)),some (.ow,.lst (dpD it)),c',w',f']=.rt false (toD s) δ1)->bG o (tbFd iatom iname) [.lst (cells.map .int),.int base,.bl turns]=.ok (false,toD s):=fun s h=>
  aD rfl rfl (stp [some (.sh,.lst (cells.map .int)),some (.sh,.int base),some (.sh,.bl turns),some (.ow,.lst []),none,none,none,none] (bf (cJ (xs:=[]) rfl rfl) rfl) (stp [some (.sh,.lst (cells.map .int)),some (.sh,.int base),some (.sh,.bl turns),some (.ow,.lst (rwD [])),some (.ow,.lst (dpD [])),none,none,none] (bf (cJ (xs:=[.int 0]) (aa rfl ao rfl) rfl) rfl) (stp _ (Jx rfl hI hf) h)))
 by_cases h:(it.length:Int)=1
 ·match it,h,I,hlen,e1,pre with
  | [q],h,I,hlen,e1,pre=>
    obtain⟨g1,g2,g3⟩:=I.wf q (by simp);refine⟨q.2,iJ g3 (by omega),by have:=I.sz;simp only[List.map_cons,List.map_nil,szs]at this;omega,I.ph q (by simp),pre _ (stpR (ifT e1 (decide_eq_true h) (retR ((bL (bx rfl) ao).trans (tZ (d:=toD q.2) (by decide) rfl)) rfl)))⟩
  | [],h,_,_,_,_=>simp at h
  | _::_::_,h,_,_,_,_=>simp at h;omega
 ·have r2:=aF base 2 (by decide)
  have hw2:base.fmod 2=if decide (base.fmod 2=1)then 1 else 0:=by
   by_cases z:base.fmod 2=1
   ·simp[z]
   ·simp[z];omega
  generalize hbw:decide (base.fmod 2=1)=bw at hw2
  have tt:b1D .tuple (.lst (rwD it))=.ok (false,.tup (toDs (it.map (·.2)))):=by
   rw[fP,List.map_map];rfl
  have hT:ev o [some (.sh,.lst (cells.map .int)),some (.sh,.int base),some (.sh,.bl turns),some (.ow,.lst (rwD it)),some (.ow,.lst (dpD it)),c',w',f'] false (T.tup (TL.cons (T.idx (T.lst (TL.cons (T.cst (D.str [97,110,100])) (TL.cons (T.cst (D.str [111,114])) TL.nil))) (T.op2 .mod (T.var 1) (T.cst (D.int 2)))) (TL.cons (T.b1 .tuple (T.var 3)) TL.nil)))=.ok (false,.tup [.str (gw bw),.tup (toDs (it.map (·.2)))]) :=
   bO (xs:=[.str (gw bw),.tup (toDs (it.map (·.2)))]) (aa rfl (lE (b:=bw) ((aG (aj rfl) ao).trans (gR _ 2 (by decide))) hw2) (aa rfl ((jb (bx rfl)).trans tt) rfl)) rfl
  refine⟨.grp bw (it.map (·.2)),?_,by have:=I.sz;rw[sz];omega,C.grp base turns bw _ fun s hs=>?_,pre _ (stp _ (ifF e1 (decide_eq_false h)) ?_)⟩
  ·simp only[wf]
   refine⟨by have:=I.len;simpa using this,fun s hs=>?_⟩;obtain⟨q,hq,rfl⟩:=List.mem_map.mp hs;obtain⟨g1,g2,g3⟩:=I.wf q hq;exact iJ g3 (by omega)
  ·obtain⟨q,hq,rfl⟩:=List.mem_map.mp hs
   exact I.ph q hq
  ·rw[toD]
   exact stpR (retR hT rfl)
end
noncomputable def kS:List Nat:=[115,116,97,116,101,109,101,110,116]
noncomputable def kT:List Nat:=[116,111,116,97,108]
noncomputable def kD:List Nat:=[100,105,118,105,115,111,114]
noncomputable def kP:List Nat:=[112,97,114,116]
noncomputable def kW:List Nat:=[119,111,114,100]
noncomputable def kPs:List Nat:=[112,97,114,116,115]
noncomputable def kN:List Nat:=[110,97,109,101]
mutual
noncomputable def aZ:Stt->D
 | .least c l=>.obj 2 [kS,kT] [toD (.least c l),smT c l]
 | .rest m c l=>.obj 3 [kS,kT,kD] [toD (.rest m c l),smT c l,.int m]
 | .nt s=>.obj 4 [kS,kP] [toD (.nt s),aZ s]
 | .grp w ss=>.obj (if w then 7 else 6) [kS,kW,kPs] [toD (.grp w ss),.str (gw w),.lst (iu ss)]
 | .trn w x s=>.obj 8 [kS,kW,kN,kP] [toD (.trn w x s),.str (tww w),.str x,aZ s]
noncomputable def iu:List Stt->List D
 | []=>[]
 | s::ss=>aZ s::iu ss
end
theorem fW:∀ss:List Stt,iu ss=ss.map aZ
 | []=>by rw[iu];rfl
 | s::ss=>by rw[iu,fW ss];rfl
noncomputable def iniB:Fd:=⟨2,2,(SL.cons (S.setf 0 [115,116,97,116,101,109,101,110,116] (T.var 1)) SL.nil)⟩
noncomputable def iniA:Fd:=⟨3,3,(SL.cons (S.ini 0 (TL.cons (T.var 1) TL.nil)) (SL.cons (S.setf 0 [116,111,116,97,108] (T.var 2)) SL.nil))⟩
noncomputable def iniR:Fd:=⟨4,4,(SL.cons (S.ini 1 (TL.cons (T.var 1) (TL.cons (T.var 3) TL.nil))) (SL.cons (S.setf 0 [100,105,118,105,115,111,114] (T.var 2)) SL.nil))⟩
noncomputable def iniN:Fd:=⟨3,3,(SL.cons (S.ini 0 (TL.cons (T.var 1) TL.nil)) (SL.cons (S.setf 0 [112,97,114,116] (T.var 2)) SL.nil))⟩
noncomputable def iniM:Fd:=⟨4,4,(SL.cons (S.ini 0 (TL.cons (T.var 1) TL.nil)) (SL.cons (S.setf 0 [119,111,114,100] (T.var 2)) (SL.cons (S.setf 0 [112,97,114,116,115] (T.var 3)) SL.nil)))⟩
noncomputable def iniX:Fd:=⟨5,5,(SL.cons (S.ini 0 (TL.cons (T.var 1) TL.nil)) (SL.cons (S.setf 0 [119,111,114,100] (T.var 2)) (SL.cons (S.setf 0 [110,97,109,101] (T.var 3)) (SL.cons (S.setf 0 [112,97,114,116] (T.var 4)) SL.nil))))⟩
noncomputable def trFd(itree:Nat):Fd:=⟨1,2,(SL.cons (S.set 1 (T.idx (T.var 0) (T.cst (D.int 0)))) (SL.cons (S.ifs (T.op2 .eq (T.var 1) (T.cst (D.str [108,101,97,115,116]))) (SL.cons (S.ret (T.mk 2 (TL.cons (T.var 0) (TL.cons (T.idx (T.var 0) (T.cst (D.int 1))) TL.nil)))) SL.nil) SL.nil) (SL.cons (S.ifs (T.op2 .eq (T.var 1) (T.cst (D.str [114,101,115,116]))) (SL.cons (S.ret (T.mk 3 (TL.cons (T.var 0) (TL.cons (T.idx (T.var 0) (T.cst (D.int 1))) (TL.cons (T.idx (T.var 0) (T.cst (D.int 2))) TL.nil))))) SL.nil) SL.nil) (SL.cons (S.ifs (T.op2 .eq (T.var 1) (T.cst (D.str [110,111,116]))) (SL.cons (S.ret (T.mk 4 (TL.cons (T.var 0) (TL.cons (T.call itree (TL.cons (T.idx (T.var 0) (T.cst (D.int 1))) TL.nil)) TL.nil)))) SL.nil) SL.nil) (SL.cons (S.ifs (T.op2 .eq (T.var 1) (T.cst (D.str [97,110,100]))) (SL.cons (S.ret (T.mk 6 (TL.cons (T.var 0) (TL.cons (T.var 1) (TL.cons (T.comp [] 1 false (TI.val (T.idx (T.var 0) (T.cst (D.int 1)))) (T.cst (D.bl true)) (T.call itree (TL.cons (T.var 0) TL.nil))) TL.nil))))) SL.nil) SL.nil) (SL.cons (S.ifs (T.op2 .eq (T.var 1) (T.cst (D.str [111,114]))) (SL.cons (S.ret (T.mk 7 (TL.cons (T.var 0) (TL.cons (T.var 1) (TL.cons (T.comp [] 1 false (TI.val (T.idx (T.var 0) (T.cst (D.int 1)))) (T.cst (D.bl true)) (T.call itree (TL.cons (T.var 0) TL.nil))) TL.nil))))) SL.nil) SL.nil) (SL.cons (S.ret (T.mk 8 (TL.cons (T.var 0) (TL.cons (T.var 1) (TL.cons (T.idx (T.var 0) (T.cst (D.int 1))) (TL.cons (T.call itree (TL.cons (T.idx (T.var 0) (T.cst (D.int 2))) TL.nil)) TL.nil)))))) SL.nil)))))))⟩
structure Trees(P:Prg)(i0 i1 i3 i4 i5 i8:Nat):Prop where
 b:P.fns[i0]?=some iniB
 a:P.fns[i1]?=some iniA
 r:P.fns[i3]?=some iniR
 n:P.fns[i4]?=some iniN
 m:P.fns[i5]?=some iniM
 x:P.fns[i8]?=some iniX
 i:P.init=iR [(0,i0),(1,i1),(2,i1),(3,i3),(4,i4),(5,i5),(6,i5),(7,i5),(8,i8)]
section
variable{P:Prg}{w i0 i1 i3 i4 i5 i8:Nat}(C:Trees P i0 i1 i3 i4 i5 i8)
include C
theorem gK(n:Nat):(orc P w n).init=iR [(0,i0),(1,i1),(2,i1),(3,i3),(4,i4),(5,i5),(6,i5),(7,i5),(8,i8)]:=by
 cases n<;>exact C.i
theorem zJ(n:Nat)(c:Nat)(hc:c<=8)(ns:List (List Nat))(hn:ns.length<800)(vs:List D)(a:D)(h0:ns=[])(hv:vs=[]):(orc P w (n+2)).ini i0 (.obj c ns vs) [a]=.ok (.obj c [kS] [a]):=by
 subst h0 hv;rw[eF C.b]
 have hi:((orc P w n).init c).isSome=true:=by
  rw[gK C]
  have:c=0\/c=1\/c=2\/c=3\/c=4\/c=5\/c=6\/c=7\/c=8:=by omega
  rcases this with rfl | rfl | rfl | rfl | rfl | rfl | rfl | rfl | rfl<;>rfl
 simp[cz,iniB,evSs,evS,evF,ev,SO.of,az,ownD,cu,hi,selfOf,kS,bI,putV]
omit C in
theorem dB{o:Orc}{f:Fd}{self d:D}{args:List D}{δ0 δ:Dst}(ha:args.length+1=f.np)(h0:some (Own.me,self)::(args.map (fun d=>some (Own.sh,d))++List.replicate (f.ns-f.np) none)=δ0)(h:evSs o f.body δ0=.nx δ)(hs:selfOf δ=.ok d):cz o f self args=.ok d:=by
 simp only[cz,ha,if_true,h0,h,hs]
omit C in
theorem iniS{o:Orc}{δ:Dst}{c f:Nat}{l:TL}{xs:List D}{d d':D}(h0:ownD δ 0=some (.me,d))(hl:evL o δ l=.ok (false,xs))(hi:o.init c=some f)(h:o.ini f d xs=.ok d'):evS o (.ini c l) δ=.nx (δ.set 0 (some (.me,d'))):=by
 simp only[evS,hl,h0,hi,h,R.bind,R.of,R.chk,Bool.not_false,if_true,SO.of]
omit C in
theorem mD{o:Orc}{δ:Dst}{f:List Nat}{e:T}{w:Bool}{v d d':D}(h0:ownD δ 0=some (.me,d))(he:ev o δ false e=.ok (w,v))(hp:cu (fun c=>(o.init c).isSome) d f v=some d'):evS o (.setf 0 f e) δ=.nx (δ.set 0 (some (.me,d'))):=by
 simp only[evS,evF,he,SO.of,h0,Option.bind_some,hp,Option.map_some,az]
theorem has(n c:Nat)(hc:c<=8):((orc P w n).init c).isSome=true:=by
 rw[gK C]
 have:c=0\/c=1\/c=2\/c=3\/c=4\/c=5\/c=6\/c=7\/c=8:=by omega
 rcases this with rfl | rfl | rfl | rfl | rfl | rfl | rfl | rfl | rfl<;>rfl
theorem Ib(n c:Nat)(hc:c<=8)(a t:D):(orc P w (n+4)).ini i1 (.obj c [] []) [a,t]=.ok (.obj c [kS,kT] [a,t]):=by
 rw[eF C.a];have h1:=zJ (w:=w) C n c hc [] (by decide) [] a rfl rfl;have hh:=has (w:=w) C (n+2) c hc
 have hi:(orc P w (n+2)).init 0=some i0:=by rw[gK C];rfl
 refine dB rfl rfl ((aq (iniS rfl (aa rfl (aj rfl) rfl) hi h1)).trans (aq (mD rfl (aj rfl) (d':=.obj c [kS,kT] [a,t]) ?_))) rfl;simp[cu,hh,bI,putV,kS,kT]
theorem Nt(n:Nat)(a m t:D):(orc P w (n+6)).ini i3 (.obj 3 [] []) [a,m,t]=.ok (.obj 3 [kS,kT,kD] [a,t,m]):=by
 rw[eF C.r];have h1:=Ib (w:=w) C n 3 (by decide) a t;have hh:=has (w:=w) C (n+4) 3 (by decide)
 have hi:(orc P w (n+4)).init 1=some i1:=by rw[gK C];rfl
 refine dB rfl rfl ((aq (iniS rfl (aa rfl (aj rfl) (aa rfl (aj rfl) rfl)) hi h1)).trans (aq (mD rfl (aj rfl) (d':=.obj 3 [kS,kT,kD] [a,t,m]) ?_))) rfl;simp[cu,hh,bI,putV,kS,kT,kD]
theorem My(n:Nat)(a t:D):(orc P w (n+4)).ini i4 (.obj 4 [] []) [a,t]=.ok (.obj 4 [kS,kP] [a,t]):=by
 rw[eF C.n];have h1:=zJ (w:=w) C n 4 (by decide) [] (by decide) [] a rfl rfl;have hh:=has (w:=w) C (n+2) 4 (by decide)
 have hi:(orc P w (n+2)).init 0=some i0:=by rw[gK C];rfl
 refine dB rfl rfl ((aq (iniS rfl (aa rfl (aj rfl) rfl) hi h1)).trans (aq (mD rfl (aj rfl) (d':=.obj 4 [kS,kP] [a,t]) ?_))) rfl;simp[cu,hh,bI,putV,kS,kP]
theorem Mi(n c:Nat)(hc:c<=8)(a x t:D):(orc P w (n+4)).ini i5 (.obj c [] []) [a,x,t]=.ok (.obj c [kS,kW,kPs] [a,x,t]):=by
 rw[eF C.m];have h1:=zJ (w:=w) C n c hc [] (by decide) [] a rfl rfl;have hh:=has (w:=w) C (n+2) c hc
 have hi:(orc P w (n+2)).init 0=some i0:=by rw[gK C];rfl
 refine dB rfl rfl ((aq (iniS rfl (aa rfl (aj rfl) rfl) hi h1)).trans ((aq (mD rfl (aj rfl) (d':=.obj c [kS,kW] [a,x]) ?_)).trans (aq (mD rfl (aj rfl) (d':=.obj c [kS,kW,kPs] [a,x,t]) ?_)))) rfl
 ·simp[cu,hh,bI,putV,kS,kW]
 ·simp[cu,hh,bI,putV,kS,kW,kPs]
theorem Mr(n:Nat)(a x y t:D):(orc P w (n+4)).ini i8 (.obj 8 [] []) [a,x,y,t]=.ok (.obj 8 [kS,kW,kN,kP] [a,x,y,t]):=by
 rw[eF C.x];have h1:=zJ (w:=w) C n 8 (by decide) [] (by decide) [] a rfl rfl;have hh:=has (w:=w) C (n+2) 8 (by decide)
 have hi:(orc P w (n+2)).init 0=some i0:=by rw[gK C];rfl
 refine dB rfl rfl ((aq (iniS rfl (aa rfl (aj rfl) rfl) hi h1)).trans ((aq (mD rfl (aj rfl) (d':=.obj 8 [kS,kW] [a,x]) ?_)).trans ((aq (mD rfl (aj rfl) (d':=.obj 8 [kS,kW,kN] [a,x,y]) ?_)).trans (aq (mD rfl (aj rfl) (d':=.obj 8 [kS,kW,kN,kP] [a,x,y,t]) ?_))))) rfl
 ·simp[cu,hh,bI,putV,kS,kW]
 ·simp[cu,hh,bI,putV,kS,kW,kN]
 ·simp[cu,hh,bI,putV,kS,kW,kN,kP]
omit C in
theorem rO{o:Orc}{δ:Dst}{lk:Bool}{c f:Nat}{l:TL}{xs:List D}{d:D}(hl:evL o δ l=.ok (false,xs))(hi:o.init c=some f)(h:o.ini f (.obj c [] []) xs=.ok d):ev o δ lk (.mk c l)=.ok (true,d):=by
 simp only[ev,hl,hi,h,R.bind,R.of,R.chk,Bool.not_false,if_true]
theorem Ag{itree:Nat}(ht:P.fns[itree]?=some (trFd itree)):∀(n:Nat) (s:Stt),wf n s->∀m,n+8<=m->(orc P w m).fn itree [toD s]=.ok (true,aZ s):=by
 intro n
 induction n using Nat.strongRecOn with
 | ind n ih=>
 intro s hs m hm
 obtain⟨k,rfl⟩:∃k,m=k+7:=⟨m-7,by omega⟩
 rw[bF ht]
 have ew:∀(t:D) (x y:List Nat),ev (orc P w (k+6)) [some (.sh,t),some (.sh,.str x)] true (T.op2 .eq (T.var 1) (T.cst (D.str y)))=.ok (false,.bl (decide (x=y))):=fun t x y=>(aG (aj rfl) ao).trans (zy _ _)
 have hi:∀c f,iR [(0,i0),(1,i1),(2,i1),(3,i3),(4,i4),(5,i5),(6,i5),(7,i5),(8,i8)] c=some f->(orc P w (k+6)).init c=some f:=fun c f h=>by rw[gK C];exact h
 cases s with
 | least c l=>
   rw[aZ];have e0:=ew (toD (.least c l)) fM;have hI:=Ib (w:=w) C (k+2) 2 (by decide) (toD (.least c l)) (smT c l);rw[toD]at e0 hI ⊢;exact aD rfl rfl (stp [some (.sh,.tup [.str fM,smT c l]),some (.sh,.str fM)] (bf ((bL (aj rfl) ao).trans rfl) rfl) (stpR (ifT (e0 _) (by decide) (retR (rO (aa rfl (aj rfl) (aa rfl ((bL (aj rfl) ao).trans rfl) rfl)) (hi 2 i1 rfl) hI) rfl))))
 | rest q c l=>
   rw[aZ];have e0:=ew (toD (.rest q c l)) lY;have hI:=Nt (w:=w) C k (toD (.rest q c l)) (.int q) (smT c l);rw[toD]at e0 hI ⊢;exact aD rfl rfl (stp [some (.sh,.tup [.str lY,.int q,smT c l]),some (.sh,.str lY)] (bf ((bL (aj rfl) ao).trans rfl) rfl) (stp _ (ifF (e0 _) (by decide)) (stpR (ifT (e0 _) (by decide) (retR (rO (aa rfl (aj rfl) (aa rfl ((bL (aj rfl) ao).trans rfl) (aa rfl ((bL (aj rfl) ao).trans rfl) rfl))) (hi 3 i3 rfl) hI) rfl)))))
 | nt s=>
   obtain⟨n,rfl⟩:∃j,n=j+1:=by
    cases n with
    | zero=>simp only[wf]at hs
    | succ j=>exact⟨j,rfl⟩
   simp only[wf]at hs;have hc:=ih n (by omega) s hs (k+6) (by omega);rw[aZ];have e0:=ew (toD (.nt s)) sNot;have hI:=My (w:=w) C (k+2) (toD (.nt s)) (aZ s);rw[toD]at e0 hI ⊢;exact aD rfl rfl (stp [some (.sh,.tup [.str sNot,toD s]),some (.sh,.str sNot)] (bf ((bL (aj rfl) ao).trans rfl) rfl) (stp _ (ifF (e0 _) (by decide)) (stp _ (ifF (e0 _) (by decide)) (stpR (ifT (e0 _) (by decide) (retR (rO (aa rfl (aj rfl) (aa rfl (bj (aa rfl ((bL (aj rfl) ao).trans rfl) rfl) hc) rfl)) (hi 4 i4 rfl) hI) rfl))))))
 | trn b x s=>
   obtain⟨n,rfl⟩:∃j,n=j+1:=by
    cases n with
    | zero=>simp only[wf]at hs
    | succ j=>exact⟨j,rfl⟩
   simp only[wf]at hs;have hc:=ih n (by omega) s hs (k+6) (by omega);rw[aZ];have e0:=ew (toD (.trn b x s)) (tww b);have hI:=Mr (w:=w) C (k+2) (toD (.trn b x s)) (.str (tww b)) (.str x) (aZ s)
   have hw:tww b≠fM/\tww b≠lY/\tww b≠sNot/\tww b≠sAnd/\tww b≠sOr:=by cases b<;>decide
   rw[toD]at e0 hI ⊢;generalize tww b=W at *;exact aD rfl rfl (stp [some (.sh,.tup [.str W,.str x,toD s]),some (.sh,.str W)] (bf ((bL (aj rfl) ao).trans rfl) rfl) (stp _ (ifF (e0 _) (decide_eq_false hw.1)) (stp _ (ifF (e0 _) (decide_eq_false hw.2.1)) (stp _ (ifF (e0 _) (decide_eq_false hw.2.2.1)) (stp _ (ifF (e0 _) (decide_eq_false hw.2.2.2.1)) (stp _ (ifF (e0 _) (decide_eq_false hw.2.2.2.2)) (stpR (retR (rO (aa rfl (aj rfl) (aa rfl (aj rfl) (aa rfl ((bL (aj rfl) ao).trans rfl) (aa rfl (bj (aa rfl ((bL (aj rfl) ao).trans rfl) rfl) hc) rfl)))) (hi 8 i8 rfl) hI) rfl))))))))
 | grp b ss=>
   obtain⟨n,rfl⟩:∃j,n=j+1:=by
    cases n with
    | zero=>simp only[wf]at hs
    | succ j=>exact⟨j,rfl⟩
   simp only[wf]at hs
   have hc:∀s∈ss,(orc P w (k+6)).fn itree [toD s]=.ok (true,aZ s):=fun s h=>ih n (by omega) s (hs.2 s h) (k+6) (by omega)
   rw[aZ];have e0:=ew (toD (.grp b ss)) (gw b);have hI:=Mi (w:=w) C (k+2) (if b then 7 else 6) (by cases b<;>decide) (toD (.grp b ss)) (.str (gw b)) (.lst (iu ss));rw[toD]at e0 hI ⊢
   have hcomp:ev (orc P w (k+6)) [some (.sh,.tup [.str (gw b),.tup (toDs ss)]),some (.sh,.str (gw b))] false (T.comp [] 1 false (TI.val (T.idx (T.var 0) (T.cst (D.int 1)))) (T.cst (D.bl true)) (T.call itree (TL.cons (T.var 0) TL.nil)))=.ok (true,.lst (iu ss)):=by
    rw[fW,fP];refine z6 _ (ss.map toD) _ _ _ ?_ (by have:=hs.1;simp;omega) (qN (fun d _=>ao) fun d hd=>⟨true,bj (aa rfl (aj rfl) rfl) (hc d hd)⟩);rw[evI,(bL (aj rfl) ao).trans (show idxD (.tup [.str (gw b),.tup (ss.map toD)]) (.int 1)=.ok (false,.tup (ss.map toD))from rfl)]
    rfl
   cases b with
   | false=>
     exact aD rfl rfl (stp [some (.sh,.tup [.str sAnd,.tup (toDs ss)]),some (.sh,.str sAnd)] (bf ((bL (aj rfl) ao).trans rfl) rfl) (stp _ (ifF (e0 _) (by decide)) (stp _ (ifF (e0 _) (by decide)) (stp _ (ifF (e0 _) (by decide)) (stpR (ifT (e0 _) (by decide) (retR (rO (aa rfl (aj rfl) (aa rfl (aj rfl) (aa rfl hcomp rfl))) (hi 6 i5 rfl) hI) rfl)))))))
   | true=>
     exact aD rfl rfl (stp [some (.sh,.tup [.str sOr,.tup (toDs ss)]),some (.sh,.str sOr)] (bf ((bL (aj rfl) ao).trans rfl) rfl) (stp _ (ifF (e0 _) (by decide)) (stp _ (ifF (e0 _) (by decide)) (stp _ (ifF (e0 _) (by decide)) (stp _ (ifF (e0 _) (by decide)) (stpR (ifT (e0 _) (by decide) (retR (rO (aa rfl (aj rfl) (aa rfl (aj rfl) (aa rfl hcomp rfl))) (hi 7 i5 rfl) hI) rfl))))))))
end
end KG
namespace KG
open Z
section
variable{o:Orc}{δ δ':Dst}{lk:Bool}
theorem wG{p:O2}{a b:T}{w1 w2:Bool}{x y:D}{r:R (Bool×D)}(ha:ev o δ true a=.ok (w1,x))(hb:ev o δ true b=.ok (w2,y))(h:o2 p x y=r):ev o δ lk (T.op2 p a b)=r:=(aG ha hb).trans h
theorem e_b1{b:B1}{a:T}{w:Bool}{x:D}{r:R (Bool×D)}(ha:ev o δ true a=.ok (w,x))(h:b1D b x=r):ev o δ lk (T.b1 b a)=r:=(jb ha).trans h
theorem e_b2{b:B2}{a c:T}{w1 w2:Bool}{x y:D}{r:R (Bool×D)}(ha:ev o δ true a=.ok (w1,x))(hb:ev o δ true c=.ok (w2,y))(h:b2D b x y=r):ev o δ lk (T.b2 b a c)=r:=(Iz ha hb).trans h
theorem CV{a b:T}{w1 w2:Bool}{x y:D}{r:R (Bool×D)}(ha:ev o δ true a=.ok (w1,x))(hb:ev o δ true b=.ok (w2,y))(h:idxD x y=r):ev o δ lk (T.idx a b)=r:=(bL ha hb).trans h
theorem e_m1{m:M1}{a b:T}{w1 w2:Bool}{x y:D}{r:R (Bool×D)}(ha:ev o δ true a=.ok (w1,x))(hb:ev o δ true b=.ok (w2,y))(h:m1D m x y=r):ev o δ lk (T.m1 m a b)=r:=(O6 ha hb).trans h
theorem Dc{a:T}{w:Bool}{i:Int}(ha:ev o δ true a=.ok (w,.int i)):ev o δ lk (T.neg a)=.ok (false,.int (-i)):=by simp only[ev,ha,R.bind]
theorem n8{a:T}{f:List Nat}{w:Bool}{c:Nat}{ns:List (List Nat)}{vs:List D}{d:D}(ha:ev o δ true a=.ok (w,.obj c ns vs))(hi:(o.init c).isSome=true)(hl:look (ns.map .s) vs (.s f)=some d):ev o δ lk (T.fld a f)=.ok (false,d):=by
 simp only[ev,ha,R.bind,fldD,hi,hl,R.chk,if_true,Option.map_some,R.of]
theorem g8{a:T}{l:TL}{m:List Nat}{w w':Bool}{c f:Nat}{ns:List (List Nat)}{vs xs:List D}{x d:D}(hk:bM δ a=false)(ha:ev o δ false a=.ok (w,x))(hx:x=.obj c ns vs)(hl:evL o δ l=.ok (false,xs))(hn:ns.contains m=false)(hm:o.meth c m=some f)(h:o.fn f (x::xs)=.ok (w',d)):ev o δ lk (T.meth m a l)=.ok (w',d):=by
 subst hx;simp only[ev,hk,ha,R.bind,hl,hn,hm,h,R.of,R.chk,lent,Bool.not_false,Bool.or_self,Bool.false_eq_true,if_true,if_false]
theorem jq:evL o δ TL.nil=.ok (false,[]):=rfl
theorem Av{i:Nat}{d:D}(h:δ[i]?=some (some (.ow,d))):evS o (.ret (.var i)) δ=.rt true d δ:=by simp only[evS,h]
theorem fV{t:T}{w:Bool}{x:D}{l:List D}(h:ev o δ lk t=.ok (w,x))(hi:qC x=some l):evI o δ lk (.val t)=.ok l:=by simp only[evI,h,R.bind,hi,R.of]
theorem fors{δ':Dst}{tg:List Nat}{tp:Bool}{it:TI}{b:SL}{l:List D}(hs:cU δ it=δ)(hi:evI o δ false it=.ok l)(h:cX (evSs o b) tg tp l δ=.nx δ'):evS o (.for_ tg tp it b) δ=.nx δ':=by
 rw[forE hs,hi];exact h
theorem one{s:S}{r:Dst}(h:evS o s δ=.nx r):evSs o (.cons s .nil) δ=.nx r:=by rw[aq h];rfl
theorem qx{f:Dst->SO}{tg:List Nat}{tp:Bool}{d:D}{l ds:List D}{δ1 δ2:Dst}{r:SO}(ht:takes tg.length tp d=some ds)(hs:aJ δ tg ds=some δ1)(hb:f δ1=.nx δ2)(k:cX f tg tp l δ2=r):cX f tg tp (d::l) δ=r:=by
 simp only[cX,ht,hs,hb,k]
theorem wz{a:T}{ty:Ty}{w b:Bool}{x:D}(ha:ev o δ true a=.ok (w,x))(h:isD o ty x=some b):ev o δ lk (T.isin a ty)=.ok (false,.bl b):=by simp only[ev,ha,R.bind,h,Option.map_some,R.of]
end
theorem FZ(a b:Int):o2 .sub (.int a) (.int b)=.ok (false,.int (a-b)):=rfl
theorem o_le(a b:Int):o2 .le (.int a) (.int b)=.ok (false,.bl (decide (a<=b))):=rfl
theorem o_ge(a b:Int):o2 .ge (.int a) (.int b)=.ok (false,.bl (decide (b<=a))):=rfl
theorem Gp(a b:Int):o2 .ne (.int a) (.int b)=.ok (false,.bl !(decide (a=b))):=rfl
theorem za(a b:List Nat):o2 .ne (.str a) (.str b)=.ok (false,.bl !(decide (a=b))):=rfl
theorem dI{l:List D}{i:Int}{d:D}(h:l[i.toNat]?=some d)(h0:decide (0<=i)=true):idxD (.tup l) (.int i)=.ok (false,d):=by
 have hk:=(List.getElem?_eq_some_iff.mp h).1;have h0:=of_decide_eq_true h0
 have h1:i<l.length:=by omega
 simp only[idxD,place,h0,h1,if_true,Option.bind_some,h,Option.map_some,R.of]
theorem lH{l:List D}{i:Int}{d:D}(h:l[i.toNat]?=some d)(h0:decide (0<=i)=true):idxD (.lst l) (.int i)=.ok (false,d):=tZ (of_decide_eq_true h0) h
theorem uF(l:List D):b1D .len (.lst l)=.ok (false,.int l.length):=rfl
theorem vm(l:List D):b1D .len (.tup l)=.ok (false,.int l.length):=rfl
theorem uZ(l:List Nat):b1D .len (.str l)=.ok (false,.int l.length):=rfl
theorem ut(l:List D):b1D .tuple (.lst l)=.ok (false,.tup l):=rfl
end KG
namespace KG
open Z
structure Sok(base c:Int)(l:List Pair):Prop where
 c:Bd c
 len:l.length<=5
 nm:∀p∈l,p.1∈N5 base
 bd:∀p∈l,Bd p.2
 ne:∀p∈l,p.2≠0
mutual
noncomputable def Fine(base:Int)(t:Bool):Stt->Prop
 | .least c l=>Sok base c l
 | .rest m c l=>1<=m/\m<=P30/\Sok base c l
 | .nt s=>Fine base t s
 | .grp _ ss=>nC base t ss
 | .trn _ x s=>t=true/\x∈N5 base/\Fine base t s
noncomputable def nC(base:Int)(t:Bool):List Stt->Prop
 | []=>True
 | s::ss=>Fine base t s/\nC base t ss
end
theorem Fines_iff{base:Int}{t:Bool}:∀{ss:List Stt},nC base t ss↔∀s∈ss,Fine base t s
 | []=>by simp[nC]
 | s::ss=>by simp[nC,Fines_iff (ss:=ss)]
theorem JB:Cl Fine where
 nt:=fun base t s h=>by rw[Fine];exact h
 grp:=fun base t w ss h=>by rw[Fine];exact Fines_iff.mpr h
 trn:=fun base w c s h0 h5 h=>by rw[Fine];exact⟨rfl,GF c base ⟨h0,h5⟩,h⟩
theorem Hw{o:Orc}{imix inum iname:Nat}(hmix:∀(c:Int) (k:Nat) (m:Int),k<10->m≠0->o.fn imix [.int c,.int (k:Int),.int m]=.ok (false,.int (mixV c k m)))(hnum:∀c,o.fn inum [.int c]=.ok (false,.int (numV c)))(hname:∀c b,o.fn iname [.int c,.int b]=.ok (false,.str (nm c b)))(cell base:Int) :
 ∃c l,Sok base c l/\bG o (sbFd imix inum iname) [.int cell,.int base]=.ok (false,smT c l):=by
 obtain⟨c,l,hc,hl,h⟩:=ud hmix hnum hname cell base;refine⟨c,sumL l,⟨hc,?_,Cy _ l hl.nm,fun p hp=>?_,fun p hp=>?_⟩,h⟩
 ·have h1:=qO l
  have h2:=v9 (N5 base) l hl.nm;rw[vd]at h2;omega
 ·rw[<-((kO l p).mp hp).1];exact hl.tot _
 ·exact((kO l p).mp hp).2
theorem Sok.lw{base c:Int}{l:List Pair}(h:Sok base c l):Lw l:=⟨by have:=h.len;omega,h.bd⟩
theorem Hj:(0:Int)<P30:=by decide
theorem Hs{o:Orc}{imix isum:Nat}(hmix:∀(c:Int) (k:Nat) (m:Int),k<10->m≠0->o.fn imix [.int c,.int (k:Int),.int m]=.ok (false,.int (mixV c k m)))(hsum:∀cell base:Int,∃c l,Sok base c l/\o.fn isum [.int cell,.int base]=.ok (false,smT c l))(cell base:Int) :
 ∃s,wf 0 s/\sz s=1/\(∀t,Fine base t s)/\bG o (abFd imix isum) [.int cell,.int base]=.ok (false,toD s):=by
 obtain⟨c,l,hl,hs⟩:=hsum (cell.fdiv 3) base;have m9:o.fn imix [.int cell,.int 9,.int 12]=.ok (false,.int (mixV cell 9 12)):=hmix cell 9 12 (by omega) (by omega);have r9:=cM cell 9 12 (by omega);generalize mixV cell 9 12=m at m9 r9
 have call:∀x:Option Slot,ev o [some (.sh,.int cell),some (.sh,.int base),x] false (T.call isum (TL.cons (T.op2 .fdiv (T.var 0) (T.cst (D.int 3))) (TL.cons (T.var 1) TL.nil)))=.ok (false,smT c l):=fun x=>bj (aa rfl ((aG (aj rfl) ao).trans (fU _ 3 (by decide))) (aa rfl (aj rfl) rfl)) hs
 have e0:ev o [some (.sh,.int cell),some (.sh,.int base),none] true (T.op2 .gt (T.op2 .mod (T.var 0) (T.cst (D.int 3))) (T.cst (D.int 0)))=.ok (false,.bl (decide (0<cell.fmod 3))):=(aG ((aG (aj rfl) ao).trans (gR _ 3 (by decide))) ao).trans (o_gt _ _)
 by_cases h:0<cell.fmod 3
 ·refine⟨.least c l,hl.lw,by rw[sz],fun t=>by rw[Fine];exact hl,?_⟩
  rw[toD];exact aD rfl rfl (stpR (ifT e0 (decide_eq_true h) (retR (bO (xs:=[.str fM,smT c l]) (aa rfl ao (aa rfl (call _) rfl)) rfl) rfl)))
 have hE:evS o (S.ifs (T.op2 .eq (T.op2 .mod (T.var 0) (T.cst (D.int 4))) (T.cst (D.int 3))) (SL.cons (S.set 2 (T.op2 .add (T.cst (D.int 1)) (T.op2 .mod (T.op2 .fdiv (T.var 0) (T.cst (D.int 12))) (T.op2 .pow (T.cst (D.int 10)) (T.cst (D.int 30)))))) SL.nil) SL.nil) [some (.sh,.int cell),some (.sh,.int base),some (.sh,.int (1+m))]=.nx [some (.sh,.int cell),some (.sh,.int base),some (.sh,.int (if cell.fmod 4=3 then 1+(cell.fdiv 12).fmod P30 else 1+m))]:=by
  rw[ifS ((aG ((aG (aj rfl) ao).trans (gR _ 4 (by decide))) ao).trans (nA _ _)) ((aG ao ((aG ((aG (aj rfl) ao).trans (fU _ 12 (by decide))) ((aG ao ao).trans LK)).trans (gR _ P30 HJ))).trans (lz _ _)) rfl]
  by_cases h4:cell.fmod 4=3
  ·rw[if_pos (decide_eq_true h4),if_pos h4];rfl
  ·rw[if_neg (by simp[h4]),if_neg h4]
 have hq:1<=(if cell.fmod 4=3 then 1+(cell.fdiv 12).fmod P30 else 1+m)/\(if cell.fmod 4=3 then 1+(cell.fdiv 12).fmod P30 else 1+m)<=P30:=by
  have r:=aF (cell.fdiv 12) P30 Hj
  have:(13:Int)<=P30:=by decide
  split<;>omega
 refine⟨.rest (if cell.fmod 4=3 then 1+(cell.fdiv 12).fmod P30 else 1+m) c l,hl.lw,by rw[sz],fun t=>by rw[Fine];exact⟨hq.1,hq.2,hl⟩,?_⟩;rw[toD];generalize (if cell.fmod 4=3 then 1+(cell.fdiv 12).fmod P30 else 1+m)=q at hE;exact aD rfl rfl (stp _ (ifF e0 (decide_eq_false h)) (stp [some (.sh,.int cell),some (.sh,.int base),some (.sh,.int (1+m))] (bf ((aG ao (bj (aa rfl (aj rfl) (aa rfl ao (aa rfl ao rfl))) m9)).trans (lz _ _)) rfl) (stp _ hE (stpR (retR (bO (xs:=[.str lY,.int q,smT c l]) (aa rfl ao (aa rfl (aj rfl) (aa rfl (call _) rfl))) rfl) rfl)))))
structure Dr(P:Prg)(icell imix iname inum isum iatom itold:Nat):Prop where
 c:P.fns[icell]?=some cellFd
 m:P.fns[imix]?=some mixFd
 n:P.fns[iname]?=some nmFd
 u:P.fns[inum]?=some numFd
 s:P.fns[isum]?=some (sbFd imix inum iname)
 a:P.fns[iatom]?=some (abFd imix isum)
 t:P.fns[itold]?=some (tbFd iatom iname)
section
variable{P:Prg}{icell imix iname inum isum iatom itold:Nat}(H:Dr P icell imix iname inum isum iatom itold)(w m:Nat)
include H
theorem K7(ns:List Int)(k:Nat):(orc P w (m+1)).fn icell [.lst (ns.map .int),.int (k:Int)]=.ok (false,.int (ns.getD k 0)):=by
 rw[bF H.c];exact xZ _ ns k
theorem Ky(c:Int)(k:Nat)(q:Int)(hk:k<10)(hq:q≠0):(orc P w (m+1)).fn imix [.int c,.int (k:Int),.int q]=.ok (false,.int (mixV c k q)):=by
 rw[bF H.m];exact Et _ c q k hk hq
theorem uc(c b:Int):(orc P w (m+1)).fn iname [.int c,.int b]=.ok (false,.str (nm c b)):=by
 rw[bF H.n];exact Jr _ c b
theorem M9(c:Int):(orc P w (m+1)).fn inum [.int c]=.ok (false,.int (numV c)):=by
 rw[bF H.u];exact CQ _ c
theorem LR(cell base:Int):∃c l,Sok base c l/\(orc P w (m+2)).fn isum [.int cell,.int base]=.ok (false,smT c l):=by
 rw[bF H.s];exact Hw (Ky H w m) (M9 H w m) (uc H w m) cell base
theorem Jp(cell base:Int):∃s,wf 0 s/\sz s=1/\(∀t,Fine base t s)/\(orc P w (m+3)).fn iatom [.int cell,.int base]=.ok (false,toD s):=by
 rw[bF H.a];exact Hs (Ky H w (m+1)) (LR H w m) cell base
theorem Hv(cells:List Int)(base:Int)(turns:Bool)(hc:cells.length<=100):∃s,wf 14 s/\sz s<=cells.length+1/\Fine base turns s/\(orc P w (m+4)).fn itold [.lst (cells.map .int),.int base,.bl turns]=.ok (false,toD s):=by
 rw[bF H.t];exact sO JB (Jp H w m) (uc H w (m+2)) cells base turns hc
end
end KG
namespace P06
open Z
noncomputable def f0:Fd:=⟨2,3,(SL.cons (S.set 2 (T.b1 .dict (T.var 0))) (SL.cons (S.seti 2 (T.var 1) (T.cst (D.bl true))) (SL.cons (S.ret (T.var 2)) SL.nil)))⟩
noncomputable def f1:Fd:=KG.trFd 1
noncomputable def f2:Fd:=KG.cellFd
noncomputable def f3:Fd:=KG.mixFd
noncomputable def f4:Fd:=KG.nmFd
noncomputable def f5:Fd:=KG.numFd
noncomputable def f6:Fd:=KG.sbFd 3 5 4
noncomputable def f7:Fd:=KG.abFd 3 6
noncomputable def f8:Fd:=KG.tbFd 7 4
noncomputable def f9:Fd:=KG.sameFd 9
noncomputable def f10:Fd:=⟨2,4,(SL.cons (S.ifs (T.op2 .eq (T.idx (T.var 0) (T.cst (D.int 0))) (T.cst (D.str [108,101,97,115,116]))) (SL.cons (S.ret (T.comp [1] 2 true (TI.val (T.idx (T.idx (T.var 0) (T.cst (D.int 1))) (T.cst (D.int 1)))) (T.op2 .notin (T.var 0) (T.var 2)) (T.var 0))) SL.nil) SL.nil) (SL.cons (S.ifs (T.op2 .eq (T.idx (T.var 0) (T.cst (D.int 0))) (T.cst (D.str [114,101,115,116]))) (SL.cons (S.ret (T.comp [1] 2 true (TI.val (T.idx (T.idx (T.var 0) (T.cst (D.int 2))) (T.cst (D.int 1)))) (T.op2 .notin (T.var 0) (T.var 2)) (T.var 0))) SL.nil) SL.nil) (SL.cons (S.ifs (T.op2 .eq (T.idx (T.var 0) (T.cst (D.int 0))) (T.cst (D.str [110,111,116]))) (SL.cons (S.ret (T.call 10 (TL.cons (T.idx (T.var 0) (T.cst (D.int 1))) (TL.cons (T.var 1) TL.nil)))) SL.nil) SL.nil) (SL.cons (S.ifs (T.or (T.op2 .eq (T.idx (T.var 0) (T.cst (D.int 0))) (T.cst (D.str [115,111,109,101]))) (T.op2 .eq (T.idx (T.var 0) (T.cst (D.int 0))) (T.cst (D.str [97,108,108])))) (SL.cons (S.ret (T.call 10 (TL.cons (T.idx (T.var 0) (T.cst (D.int 2))) (TL.cons (T.op2 .add (T.var 1) (T.lst (TL.cons (T.idx (T.var 0) (T.cst (D.int 1))) TL.nil))) TL.nil)))) SL.nil) SL.nil) (SL.cons (S.set 2 (T.lst TL.nil)) (SL.cons (S.for_ [3] false (TI.val (T.idx (T.var 0) (T.cst (D.int 1)))) (SL.cons (S.set 2 (T.op2 .add (T.var 2) (T.call 10 (TL.cons (T.var 3) (TL.cons (T.var 1) TL.nil))))) SL.nil)) (SL.cons (S.ret (T.var 2)) SL.nil)))))))⟩
noncomputable def f11:Fd:=⟨2,2,(SL.cons (S.ret (T.and (T.isin (T.var 0) .lst) (T.call 9 (TL.cons (T.b1 .tuple (T.var 0)) (TL.cons (T.b1 .tuple (T.var 1)) TL.nil))))) SL.nil)⟩
noncomputable def f12:Fd:=⟨1,9,(SL.cons (S.set 1 (T.call 2 (TL.cons (T.var 0) (TL.cons (T.cst (D.int 0)) TL.nil)))) (SL.cons (S.set 2 (T.call 8 (TL.cons (T.slc (T.var 0) (T.cst (D.int 1)) (T.cst (D.int 51))) (TL.cons (T.var 1) (TL.cons (T.cst (D.bl true)) TL.nil))))) (SL.cons (S.set 3 (T.b1 .sortedSet (T.call 10 (TL.cons (T.var 2) (TL.cons (T.lst TL.nil) TL.nil))))) (SL.cons (S.set 4 (T.call 1 (TL.cons (T.var 2) TL.nil))) (SL.cons (S.set 5 (T.meth [108,111,111,115,101] (T.var 4) TL.nil)) (SL.cons (S.ifs (T.not (T.call 11 (TL.cons (T.var 5) (TL.cons (T.var 3) TL.nil)))) (SL.cons (S.ret (T.cst (D.bl false))) SL.nil) SL.nil) (SL.cons (S.append 5 (T.cst (D.str [113]))) (SL.cons (S.ifs (T.or (T.not (T.call 11 (TL.cons (T.meth [108,111,111,115,101] (T.var 4) TL.nil) (TL.cons (T.var 3) TL.nil)))) (T.not (T.call 11 (TL.cons (T.meth [108,111,111,115,101] (T.call 1 (TL.cons (T.tup (TL.cons (T.cst (D.str [110,111,116])) (TL.cons (T.var 2) TL.nil))) TL.nil)) TL.nil) (TL.cons (T.var 3) TL.nil))))) (SL.cons (S.ret (T.cst (D.bl false))) SL.nil) SL.nil) (SL.cons (S.set 6 (T.call 4 (TL.cons (T.op2 .mod (T.var 1) (T.cst (D.int 5))) (TL.cons (T.var 1) TL.nil)))) (SL.cons (S.set 7 (T.comp [6] 1 false (TI.val (T.var 3)) (T.op2 .ne (T.var 0) (T.var 1)) (T.var 0))) (SL.cons (S.ifs (T.not (T.call 11 (TL.cons (T.meth [108,111,111,115,101] (T.call 1 (TL.cons (T.tup (TL.cons (T.cst (D.str [115,111,109,101])) (TL.cons (T.var 6) (TL.cons (T.var 2) TL.nil)))) TL.nil)) TL.nil) (TL.cons (T.var 7) TL.nil)))) (SL.cons (S.ret (T.cst (D.bl false))) SL.nil) SL.nil) (SL.cons (S.ifs (T.not (T.call 11 (TL.cons (T.meth [108,111,111,115,101] (T.call 1 (TL.cons (T.tup (TL.cons (T.cst (D.str [97,108,108])) (TL.cons (T.var 6) (TL.cons (T.var 2) TL.nil)))) TL.nil)) TL.nil) (TL.cons (T.var 7) TL.nil)))) (SL.cons (S.ret (T.cst (D.bl false))) SL.nil) SL.nil) (SL.cons (S.set 8 (T.tup (TL.cons (T.cst (D.str [111,114])) (TL.cons (T.tup (TL.cons (T.tup (TL.cons (T.cst (D.str [97,108,108])) (TL.cons (T.var 6) (TL.cons (T.var 2) TL.nil)))) (TL.cons (T.tup (TL.cons (T.cst (D.str [97,110,100])) (TL.cons (T.tup (TL.cons (T.var 2) (TL.cons (T.tup (TL.cons (T.cst (D.str [108,101,97,115,116])) (TL.cons (T.tup (TL.cons (T.cst (D.int 0)) (TL.cons (T.tup (TL.cons (T.tup (TL.cons (T.var 6) (TL.cons (T.cst (D.int 1)) TL.nil))) TL.nil)) TL.nil))) TL.nil))) TL.nil))) TL.nil))) TL.nil))) TL.nil)))) (SL.cons (S.ret (T.call 11 (TL.cons (T.meth [108,111,111,115,101] (T.call 1 (TL.cons (T.var 8) TL.nil)) TL.nil) (TL.cons (T.b1 .sortedSet (T.op2 .add (T.var 3) (T.lst (TL.cons (T.var 6) TL.nil)))) TL.nil)))) SL.nil))))))))))))))⟩
noncomputable def f13:Fd:=⟨2,2,(SL.cons (S.setf 0 [115,116,97,116,101,109,101,110,116] (T.var 1)) SL.nil)⟩
noncomputable def f14:Fd:=⟨1,1,(SL.cons (S.ret (T.fld (T.var 0) [115,116,97,116,101,109,101,110,116])) SL.nil)⟩
noncomputable def f15:Fd:=⟨1,1,(SL.cons (S.ret (T.b1 .sortedSet (T.meth [117,110,98,111,117,110,100] (T.var 0) (TL.cons (T.dnew [] TL.nil) TL.nil)))) SL.nil)⟩
noncomputable def f16:Fd:=⟨3,3,(SL.cons (S.ini 0 (TL.cons (T.var 1) TL.nil)) (SL.cons (S.setf 0 [116,111,116,97,108] (T.var 2)) SL.nil))⟩
noncomputable def f17:Fd:=⟨2,2,(SL.cons (S.ret (T.comp [1] 1 false (TI.val (T.idx (T.fld (T.var 0) [116,111,116,97,108]) (T.cst (D.int 1)))) (T.op2 .notin (T.idx (T.var 0) (T.cst (D.int 0))) (T.var 1)) (T.idx (T.var 0) (T.cst (D.int 0))))) SL.nil)⟩
noncomputable def f18:Fd:=⟨4,4,(SL.cons (S.ini 1 (TL.cons (T.var 1) (TL.cons (T.var 3) TL.nil))) (SL.cons (S.setf 0 [100,105,118,105,115,111,114] (T.var 2)) SL.nil))⟩
noncomputable def f19:Fd:=⟨3,3,(SL.cons (S.ini 0 (TL.cons (T.var 1) TL.nil)) (SL.cons (S.setf 0 [112,97,114,116] (T.var 2)) SL.nil))⟩
noncomputable def f20:Fd:=⟨2,2,(SL.cons (S.ret (T.meth [117,110,98,111,117,110,100] (T.fld (T.var 0) [112,97,114,116]) (TL.cons (T.var 1) TL.nil))) SL.nil)⟩
noncomputable def f21:Fd:=⟨4,4,(SL.cons (S.ini 0 (TL.cons (T.var 1) TL.nil)) (SL.cons (S.setf 0 [119,111,114,100] (T.var 2)) (SL.cons (S.setf 0 [112,97,114,116,115] (T.var 3)) SL.nil)))⟩
noncomputable def f22:Fd:=⟨2,4,(SL.cons (S.set 2 (T.lst TL.nil)) (SL.cons (S.for_ [3] false (TI.val (T.fld (T.var 0) [112,97,114,116,115])) (SL.cons (S.extend 2 (T.meth [117,110,98,111,117,110,100] (T.var 3) (TL.cons (T.var 1) TL.nil))) SL.nil)) (SL.cons (S.ret (T.var 2)) SL.nil)))⟩
noncomputable def f23:Fd:=⟨5,5,(SL.cons (S.ini 0 (TL.cons (T.var 1) TL.nil)) (SL.cons (S.setf 0 [119,111,114,100] (T.var 2)) (SL.cons (S.setf 0 [110,97,109,101] (T.var 3)) (SL.cons (S.setf 0 [112,97,114,116] (T.var 4)) SL.nil))))⟩
noncomputable def f24:Fd:=⟨2,2,(SL.cons (S.ret (T.meth [117,110,98,111,117,110,100] (T.fld (T.var 0) [112,97,114,116]) (TL.cons (T.call 0 (TL.cons (T.var 1) (TL.cons (T.fld (T.var 0) [110,97,109,101]) TL.nil))) TL.nil))) SL.nil)⟩
noncomputable def mtab:List (Nat×List Nat×Nat):=[(0,[116,111,108,100],14),(0,[108,111,111,115,101],15),(1,[116,111,108,100],14),(1,[108,111,111,115,101],15),(1,[117,110,98,111,117,110,100],17),(2,[116,111,108,100],14),(2,[108,111,111,115,101],15),(2,[117,110,98,111,117,110,100],17),(3,[116,111,108,100],14),(3,[108,111,111,115,101],15),(3,[117,110,98,111,117,110,100],17),(4,[116,111,108,100],14),(4,[108,111,111,115,101],15),(4,[117,110,98,111,117,110,100],20),(5,[116,111,108,100],14),(5,[108,111,111,115,101],15),(5,[117,110,98,111,117,110,100],22),(6,[116,111,108,100],14),(6,[108,111,111,115,101],15),(6,[117,110,98,111,117,110,100],22),(7,[116,111,108,100],14),(7,[108,111,111,115,101],15),(7,[117,110,98,111,117,110,100],22),(8,[116,111,108,100],14),(8,[108,111,111,115,101],15),(8,[117,110,98,111,117,110,100],24)]
noncomputable def itab:List (Nat×Nat):=[(0,13),(1,16),(2,16),(3,18),(4,19),(5,21),(6,21),(7,21),(8,23)]
noncomputable def meth:Nat->List Nat->Option Nat:=tabOf mtab
noncomputable def init:Nat->Option Nat:=iR itab
noncomputable def sub:Nat->Nat->Bool:=fun _ _=>false
noncomputable def prg:Prg:=⟨[f0,f1,f2,f3,f4,f5,f6,f7,f8,f9,f10,f11,f12,f13,f14,f15,f16,f17,f18,f19,f20,f21,f22,f23,f24],meth,init,sub⟩
noncomputable def O8:Nat:=12
end P06
namespace K6
open Z KG P06
local macro_rules | `(tactic| array_get_dec)=>`(tactic| first | assumption | exact aj rfl | exact bx rfl | exact ao | exact neg1 | (refine' wG ?a ?b ?c;(case a=>array_get_dec);(case b=>array_get_dec);(case c=>sizeOf_list_dec)) | (refine' e_b1 ?a ?c;(case a=>array_get_dec);(case c=>sizeOf_list_dec)) | (refine' CV ?a ?b ?c;(case a=>array_get_dec);(case b=>array_get_dec);(case c=>sizeOf_list_dec)) | (refine' Dc ?a;(case a=>array_get_dec)) | (refine' fG ?a;(case a=>array_get_dec)) | (refine' bO ?a ?b;(case a=>array_mem_dec);(case b=>exact rfl)) | (refine' cJ ?a ?b;(case a=>array_mem_dec);(case b=>exact rfl)) | (refine' bj ?a ?b;(case a=>array_mem_dec);(case b=>assumption)) | (refine' e_m1 ?a ?b ?c;(case a=>array_get_dec);(case b=>array_get_dec);(case c=>sizeOf_list_dec)) | (refine' e_b2 ?a ?b ?c;(case a=>array_get_dec);(case b=>array_get_dec);(case c=>sizeOf_list_dec)) | (refine' iH ?a ?b ?c ?d ?e ?f;(case a=>array_get_dec);(case b=>array_get_dec);(case c=>array_get_dec);(case d=>exact rfl);(case e=>exact rfl);(case f=>sizeOf_list_dec)) | (refine' wz ?a ?b;(case a=>array_get_dec);(case b=>exact rfl)))
local macro_rules | `(tactic| array_mem_dec)=>`(tactic| first | exact jq | (refine' aa rfl ?a ?b;(case a=>array_get_dec);(case b=>array_mem_dec)))
local macro_rules | `(tactic| sizeOf_list_dec)=>`(tactic| first | assumption | exact lz _ _ | exact FZ _ _ | exact o_lt _ _ | exact o_gt _ _ | exact o_le _ _ | exact o_ge _ _ | exact nA _ _ | exact zy _ _ | exact Gp _ _ | exact za _ _ | exact gR _ _ (by decide) | exact fU _ _ (by decide) | exact dI rfl rfl | exact lH rfl rfl | exact uF _ | exact vm _ | exact uZ _ | exact ut _ | (refine' pI ?_;(try simp only[List.length_append,List.length_cons,List.length_nil]);omega))
mutual
noncomputable def fr(B:List (List Nat)):Stt->List (List Nat)
 | .least _ l=>(l.map (·.1)).filter fun n=>!decide (n∈B)
 | .rest _ _ l=>(l.map (·.1)).filter fun n=>!decide (n∈B)
 | .nt s=>fr B s
 | .grp _ ss=>frs B ss
 | .trn _ x s=>fr (B++[x]) s
noncomputable def frs(B:List (List Nat)):List Stt->List (List Nat)
 | []=>[]
 | s::ss=>fr B s++frs B ss
end
mutual
theorem nu:∀(s:Stt) (B B':List (List Nat)),(∀n,n∈B↔n∈B')->fr B s=fr B' s
 | .least _ l,B,B',h=>by
   rw[fr,fr]
   exact List.filter_congr fun n _=>by rw[decide_eq_decide.mpr (h n)]
 | .rest _ _ l,B,B',h=>by
   rw[fr,fr]
   exact List.filter_congr fun n _=>by rw[decide_eq_decide.mpr (h n)]
 | .nt s,B,B',h=>by rw[fr,fr];exact nu s B B' h
 | .grp _ ss,B,B',h=>by rw[fr,fr];exact uA ss B B' h
 | .trn _ x s,B,B',h=>by rw[fr,fr];exact nu s _ _ fun n=>by simp[h n]
theorem uA:∀(ss:List Stt) (B B':List (List Nat)),(∀n,n∈B↔n∈B')->frs B ss=frs B' ss
 | [],_,_,_=>by rw[frs,frs]
 | s::ss,B,B',h=>by rw[frs,frs,nu s B B' h,uA ss B B' h]
end
mutual
theorem mL:∀(s:Stt) (B:List (List Nat)) (x:List Nat),fr (B++[x]) s=(fr B s).filter fun n=>!decide (n=x)
 | .least _ l,B,x=>by
   rw[fr,fr,List.filter_filter]
   exact List.filter_congr fun n _=>by
    rw[<-Bool.not_or]
    congr 1
    by_cases h1:n∈B<;>by_cases h2:n=x<;>simp[h1,h2]
 | .rest _ _ l,B,x=>by
   rw[fr,fr,List.filter_filter]
   exact List.filter_congr fun n _=>by
    rw[<-Bool.not_or]
    congr 1
    by_cases h1:n∈B<;>by_cases h2:n=x<;>simp[h1,h2]
 | .nt s,B,x=>by rw[fr,fr];exact mL s B x
 | .grp _ ss,B,x=>by rw[fr,fr];exact v8 ss B x
 | .trn _ y s,B,x=>by
   rw[fr,fr,<-mL s (B++[y]) x]
   exact nu s _ _ fun n=>by simp only[List.mem_append,List.mem_singleton];exact⟨fun h=>by rcases h with(h | h) | h<;>simp[h],fun h=>by rcases h with(h | h) | h<;>simp[h]⟩
theorem v8:∀(ss:List Stt) (B:List (List Nat)) (x:List Nat),frs (B++[x]) ss=(frs B ss).filter fun n=>!decide (n=x)
 | [],_,_=>by rw[frs,frs];rfl
 | s::ss,B,x=>by rw[frs,frs,List.filter_append,mL s B x,v8 ss B x]
end
mutual
theorem oX{base:Int}{t:Bool}:∀(s:Stt) (B:List (List Nat)),Fine base t s->(∀n∈fr B s,n∈N5 base)/\(fr B s).length<=5*sz s
 | .least _ l,B,h=>by
   rw[Fine]at h;rw[fr,sz];refine⟨fun n hn=>?_,?_⟩
   ·obtain⟨p,hp,rfl⟩:=List.mem_map.mp (List.mem_filter.mp hn).1
    exact h.nm p hp
   ·have:=List.length_filter_le (fun n=>!decide (n∈B)) (l.map (·.1))
    have:=h.len;rw[List.length_map]at *;omega
 | .rest _ _ l,B,h=>by
   rw[Fine]at h;rw[fr,sz];refine⟨fun n hn=>?_,?_⟩
   ·obtain⟨p,hp,rfl⟩:=List.mem_map.mp (List.mem_filter.mp hn).1
    exact h.2.2.nm p hp
   ·have:=List.length_filter_le (fun n=>!decide (n∈B)) (l.map (·.1))
    have:=h.2.2.len;rw[List.length_map]at *;omega
 | .nt s,B,h=>by
   rw[Fine]at h;rw[fr,sz];have:=oX s B h;exact⟨this.1,by omega⟩
 | .grp _ ss,B,h=>by
   rw[Fine]at h;rw[fr,sz];have:=Bs ss B h;exact⟨this.1,by omega⟩
 | .trn _ x s,B,h=>by
   rw[Fine]at h;rw[fr,sz];have:=oX s (B++[x]) h.2.2;exact⟨this.1,by omega⟩
theorem Bs{base:Int}{t:Bool}:∀(ss:List Stt) (B:List (List Nat)),nC base t ss->(∀n∈frs B ss,n∈N5 base)/\(frs B ss).length<=5*szs ss
 | [],B,_=>by rw[frs,szs];simp
 | s::ss,B,h=>by
   rw[nC]at h;rw[frs,szs];have h1:=oX s B h.1;have h2:=Bs ss B h.2;refine⟨fun n hn=>?_,by rw[List.length_append];omega⟩;rcases List.mem_append.mp hn with hn | hn
   ·exact h1.1 n hn
   ·exact h2.1 n hn
end
theorem jk{α:Type} [DecidableEq α](k:α):∀l:List α,k∈bZ l↔k∈l
 | []=>by simp[bZ]
 | x::l=>by
   have ih:=jk k l;rw[bZ];split
   ·rename_i h
    rw[ih,List.mem_cons];exact⟨.inr,fun z=>z.elim (fun e=>e▸h) id⟩
   ·rw[List.mem_cons,List.mem_cons,ih]
theorem rP{α:Type} [DecidableEq α]:∀l:List α,(bZ l).Nodup
 | []=>List.nodup_nil
 | x::l=>by
   have ih:=rP l;rw[bZ];split
   ·exact ih
   ·rename_i h
    exact List.nodup_cons.mpr ⟨fun z=>h ((jk x l).mp z),ih⟩
noncomputable def nms(l:List (List Nat)):List (List Nat):=cC (bZ l)
theorem pF(l:List (List Nat))(k:List Nat):k∈nms l↔k∈l:=(KG.sortS_perm _).mem_iff.trans (jk k l)
theorem Dk{l l':List (List Nat)}(h:∀k,k∈l↔k∈l'):nms l=nms l':=rz (fQ (rP l) (rP l') fun k=>by rw[jk,jk,h k])
theorem qQ(x:List Nat):∀{l:List (List Nat)},l.Pairwise (fun a b=>ltS b a=false)->(insS x l).Pairwise (fun a b=>ltS b a=false)
 | [],_=>by simp[insS]
 | y::l,h=>by
   obtain⟨h1,h2⟩:=List.pairwise_cons.mp h;rw[insS];split
   ·rename_i hx
    refine List.pairwise_cons.mpr ⟨fun z hz=>?_,h⟩;rcases List.mem_cons.mp hz with rfl | hz
    ·exact eZ _ _ hx
    ·cases e:ltS z x with
     | false=>rfl
     | true=>
       have:=h1 z hz;rw[fJ z x y e hx]at this;cases this
   ·rename_i hx
    have hx:ltS x y=false:=by simpa using hx
    refine List.pairwise_cons.mpr ⟨fun z hz=>?_,qQ x h2⟩;rcases List.mem_cons.mp ((KG.insS_perm x l).mem_iff.mp hz)with rfl | hz
    ·exact hx
    ·exact h1 z hz
theorem oO:∀l:List (List Nat),(cC l).Pairwise (fun a b=>ltS b a=false)
 | []=>by simp[cC]
 | x::l=>qQ x (oO l)
theorem FJ{l:List (List Nat)}(h:l.Pairwise (fun a b=>ltS b a=false)):cC l=l :=
 List.Perm.eq_of_pairwise (fun a b _ _ h1 h2=>cR a b h2 h1) (oO l) h (KG.sortS_perm l)
theorem sW(l:List (List Nat))(p:List Nat->Bool):nms (l.filter p)=(nms l).filter p:=by
 have h1:((nms l).filter p).Pairwise (fun a b=>ltS b a=false):=(oO _).filter _;rw[<-FJ h1];refine rz (fQ (rP _) ?_ fun k=>?_)
 ·exact((KG.sortS_perm _).nodup_iff.mpr (rP l)).filter _
 ·rw[jk,List.mem_filter,List.mem_filter,pF]
theorem wX{base:Int}{l:List (List Nat)}(h:∀n∈l,n∈N5 base):(bZ l).length<=5:=by
 have:=eV (rP l) (m:=N5 base) fun x hx=>h x ((jk x l).mp hx)
 rw[vd]at this;exact this
theorem JQ(xs:List (List Nat)):strsOf (xs.map D.str)=some xs:=by
 induction xs with
 | nil=>rfl
 | cons x xs ih=>simp[strsOf,ih]
theorem pC{base:Int}{l:List (List Nat)}(h:∀n∈l,n∈N5 base)(hl:l.length<4000):b1D .sortedSet (.lst (l.map .str))=.ok (true,.lst ((nms l).map .str)):=by
 have h5:=wX h
 have hc:(l.map D.str).length<4000/\(bZ l).length<64:=⟨by rw[List.length_map];exact hl,by omega⟩
 simp only[b1D,ssD,JQ,if_pos hc,R.of]
 rfl
end K6
namespace K6
open Z KG P06
local macro_rules | `(tactic| array_get_dec)=>`(tactic| first | assumption | exact aj rfl | exact bx rfl | exact ao | exact neg1 | (refine' wG ?a ?b ?c;(case a=>array_get_dec);(case b=>array_get_dec);(case c=>sizeOf_list_dec)) | (refine' e_b1 ?a ?c;(case a=>array_get_dec);(case c=>sizeOf_list_dec)) | (refine' CV ?a ?b ?c;(case a=>array_get_dec);(case b=>array_get_dec);(case c=>sizeOf_list_dec)) | (refine' Dc ?a;(case a=>array_get_dec)) | (refine' fG ?a;(case a=>array_get_dec)) | (refine' bO ?a ?b;(case a=>array_mem_dec);(case b=>exact rfl)) | (refine' cJ ?a ?b;(case a=>array_mem_dec);(case b=>exact rfl)) | (refine' bj ?a ?b;(case a=>array_mem_dec);(case b=>assumption)) | (refine' e_m1 ?a ?b ?c;(case a=>array_get_dec);(case b=>array_get_dec);(case c=>sizeOf_list_dec)) | (refine' e_b2 ?a ?b ?c;(case a=>array_get_dec);(case b=>array_get_dec);(case c=>sizeOf_list_dec)) | (refine' iH ?a ?b ?c ?d ?e ?f;(case a=>array_get_dec);(case b=>array_get_dec);(case c=>array_get_dec);(case d=>exact rfl);(case e=>exact rfl);(case f=>sizeOf_list_dec)) | (refine' wz ?a ?b;(case a=>array_get_dec);(case b=>exact rfl)))
local macro_rules | `(tactic| array_mem_dec)=>`(tactic| first | exact jq | (refine' aa rfl ?a ?b;(case a=>array_get_dec);(case b=>array_mem_dec)))
local macro_rules | `(tactic| sizeOf_list_dec)=>`(tactic| first | assumption | exact lz _ _ | exact FZ _ _ | exact o_lt _ _ | exact o_gt _ _ | exact o_le _ _ | exact o_ge _ _ | exact nA _ _ | exact zy _ _ | exact Gp _ _ | exact za _ _ | exact gR _ _ (by decide) | exact fU _ _ (by decide) | exact dI rfl rfl | exact lH rfl rfl | exact uF _ | exact vm _ | exact uZ _ | exact ut _ | (refine' pI ?_;(try simp only[List.length_append,List.length_cons,List.length_nil]);omega))
theorem trees:Trees prg 13 16 18 19 21 23:=⟨rfl,rfl,rfl,rfl,rfl,rfl,rfl⟩
theorem drs:Dr prg 2 3 4 5 6 7 8:=⟨rfl,rfl,rfl,rfl,rfl,rfl,rfl⟩
theorem mth(w n:Nat):(orc prg w n).meth=prg.meth:=by cases n<;>rfl
noncomputable def txs(l:List (List Nat)):D:=.lst (l.map .str)
noncomputable def bdD(B:List (List Nat)):D:=.dct (B.map .s) (B.map fun _=>.bl true)
theorem GX(B:List (List Nat))(n:List Nat):o2 .notin (.str n) (bdD B)=.ok (false,.bl !(decide (n∈B))):=by
 have h:(DK.s n∈B.map DK.s)↔n∈B:=⟨fun z=>by obtain⟨x,hx,e⟩:=List.mem_map.mp z;injection e with e;exact e▸hx,fun z=>List.mem_map_of_mem z⟩
 simp only[o2,isIn,bdD,keyOf,Option.map,R.of,decide_eq_decide.mpr h]
theorem eX(n:List Nat):∀B:List (List Nat),inS (.str n) (B.map .str)=some (decide (n∈B))
 | []=>rfl
 | x::B=>by
   rw[List.map_cons,inS,eX n B];simp only[eqS]
   by_cases h:x=n
   ·simp[h]
   ·have h':¬n=x:=fun e=>h e.symm
    simp[h,h']
theorem wY(B:List (List Nat))(n:List Nat):o2 .notin (.str n) (txs B)=.ok (false,.bl !(decide (n∈B))):=by
 simp only[o2,isIn,txs,fL,if_true,eX,Option.map,R.of]
theorem fu{α:Type}{f c:List D->R (Bool×D)}{m:Nat}{tg:Bool}{a g:α->D}{ts:α->List D}{p:α->Bool}:∀{l:List α},(∀d∈l,takes m tg (a d)=some (ts d))->(∀d∈l,c (ts d)=.ok (false,.bl (p d)))->(∀d∈l,∃w,f (ts d)=.ok (w,g d))->bA f c m tg (l.map a)=.ok ((l.filter p).map g)
 | [],_,_,_=>rfl
 | d::l,ht,hc,hf=>by
   obtain⟨w,h⟩:=hf d List.mem_cons_self;have ih:=fu (l:=l) (fun x hx=>ht x (List.mem_cons_of_mem _ hx)) (fun x hx=>hc x (List.mem_cons_of_mem _ hx)) (fun x hx=>hf x (List.mem_cons_of_mem _ hx));rw[List.map_cons,bA,ht d List.mem_cons_self];simp only[R.of,R.bind,hc d List.mem_cons_self,truth,h,ih];cases e:p d
   all_goals(simp[e])
theorem j7(l:List Pair)(B:List (List Nat)):(((l.map (·.1)).filter fun n=>!decide (n∈B)).map D.str)=(l.filter fun p=>!decide (p.1∈B)).map fun p=>D.str p.1:=by
 rw[List.filter_map,List.map_map];rfl
noncomputable def addB(B:List (List Nat))(x:List Nat):List (List Nat):=if x∈B then B else B++[x]
theorem yQ(B:List (List Nat))(x n:List Nat):n∈addB B x↔n∈B++[x]:=by
 unfold addB;split
 ·rename_i h
  simp only[List.mem_append,List.mem_singleton];exact⟨.inl,fun z=>z.elim id fun e=>e▸h⟩
 ·exact Iff.rfl
theorem z9(B:List (List Nat))(x:List Nat):(addB B x).length<=B.length+1:=by unfold addB;split<;>simp
theorem Bc(x:List Nat):∀B:List (List Nat),bI (B.map .s) (.s x)=(addB B x).map .s/\putV (B.map .s) (B.map fun _=>D.bl true) (.s x) (.bl true)=(addB B x).map fun _=>D.bl true
 | []=>⟨rfl,rfl⟩
 | y::B=>by
   obtain⟨h1,h2⟩:=Bc x B;simp only[List.map_cons,bI,putV]
   by_cases e:y=x
   ·subst e
    simp[addB]
   ·have e1:¬DK.s y=DK.s x:=fun z=>e (by injection z)
    have e2:addB (y::B) x=y::addB B x:=by
     unfold addB
     by_cases h:x∈B
     ·rw[if_pos h,if_pos (List.mem_cons_of_mem _ h)]
     ·rw[if_neg h,if_neg (by simp[h,Ne.symm e])];rfl
    rw[if_neg e1,if_neg e1,h1,h2,e2];exact⟨rfl,rfl⟩
theorem mF(w m:Nat)(B:List (List Nat))(x:List Nat)(hB:B.length<=1000):(orc prg w (m+1)).fn 0 [bdD B,.str x]=.ok (true,bdD (addB B x)):=by
 rw[bF (d:=f0) rfl];obtain⟨h1,h2⟩:=Bc x B
 have hp:putItem (bdD B) (.str x) (.bl true)=some (bdD (addB B x)):=by
  have hl:(B.map DK.s).length<=100000:=by simp;omega
  simp only[bdD,putItem,keyOf,Option.bind_some,hl,if_true,h1,h2]
 exact aD rfl rfl (stp [some (.sh,bdD B),some (.sh,.str x),some (.ow,bdD B)] (bf ((jb (aj rfl)).trans rfl) rfl) (stp [some (.sh,bdD B),some (.sh,.str x),some (.ow,bdD (addB B x))] (lD ao (aj rfl) rfl hp) (stpR rfl)))
theorem Fw{a b:List (List Nat)}(h:a.length+b.length<=100000):o2 .add (txs a) (txs b)=.ok (true,txs (a++b)):=by
 have:size ((a.map D.str).length+(b.map D.str).length)=true:=by simp[size];omega
 simp only[o2,txs,this,R.chk,if_true,List.map_append]
noncomputable def frB:SL:=(SL.cons (S.set 2 (T.op2 .add (T.var 2) (T.call 10 (TL.cons (T.var 3) (TL.cons (T.var 1) TL.nil))))) SL.nil)
theorem rD(o:Orc)(A:Option Slot)(B:List (List Nat)):∀(ss:List Stt) (row:List (List Nat)) (p:Option Slot),(∀s∈ss,o.fn 10 [toD s,txs B]=.ok (true,txs (fr B s)))->row.length+(frs B ss).length<=100000 ->
 ∃p',cX (evSs o frB) [3] false (ss.map toD) [A,some (.sh,txs B),some (.ow,txs row),p]=.nx [A,some (.sh,txs B),some (.ow,txs (row++frs B ss)),p']
 | [],row,p,_,_=>⟨p,by rw[frs,List.append_nil];rfl⟩
 | s::ss,row,p,h,hl=>by
   rw[frs,List.length_append]at hl;obtain⟨p',ih⟩:=rD o A B ss (row++fr B s) (some (.sh,toD s)) (fun x hx=>h x (List.mem_cons_of_mem _ hx)) (by rw[List.length_append];omega);have hc:=h s List.mem_cons_self;have ho:=Fw (a:=row) (b:=fr B s) (by omega);refine⟨p',qx (ds:=[toD s]) rfl rfl (one (bf (w:=true) (d:=txs (row++fr B s)) (by array_get_dec) rfl)) (ih.trans ?_)⟩;rw[frs,List.append_assoc]
theorem um{s:Stt}:∀{ss:List Stt},s∈ss->sz s<=szs ss
 | [],h=>by cases h
 | x::ss,h=>by
   rw[szs];rcases List.mem_cons.mp h with rfl | h
   ·omega
   ·have:=um h;omega
theorem zc(w:Nat)(base:Int)(t:Bool):∀(n:Nat) (s:Stt),wf n s->Fine base t s->sz s<=300->∀(m:Nat) (B:List (List Nat)),n+1<=m->B.length+n<=500->(orc prg w m).fn 10 [toD s,txs B]=.ok (true,txs (fr B s)):=by
 intro n
 induction n using Nat.strongRecOn with
 | ind n ih=>
 intro s hs hf hz m B hm hB
 obtain⟨k,rfl⟩:∃k,m=k+1:=⟨m-1,by omega⟩
 rw[bF (d:=f10) rfl]
 have e0:∀(x y:List Nat) (r:List D) (b:Option Slot) (q:List (Option Slot)),ev (orc prg w k) (some (.sh,.tup (.str x::r))::b::q) true (T.op2 .eq (T.idx (T.var 0) (T.cst (D.int 0))) (T.cst (D.str y)))=.ok (false,.bl (decide (x=y))):=fun x y r b q=>by array_get_dec
 have hin:=(oX s B hf).2
 cases s with
 | least c l=>
   rw[fr,sz]at hin;rw[toD,fr];refine aD rfl rfl (stpR (ifT (e0 _ _ _ _ _) (by decide) (retR (w:=true) ?_ rfl)));rw[<-List.length_map (f:=D.str),j7]at hin;show ev _ _ _ _=R.ok (true,D.lst _);rw[j7];refine lC _ _ _ _ [1] [txs B] (l.map prD) _ 2 true _ _ (fV (w:=false) (x:=.tup (l.map prD)) ?_ rfl) rfl rfl ?_ (fu (ts:=fun p:Pair=>[.str p.1,.int p.2]) (fun p _=>rfl) (fun p _=>(aG (aj rfl) (aj rfl)).trans (wY B p.1)) fun p _=>⟨false,aj rfl⟩)
   ·array_get_dec
   ·omega
 | rest q c l=>
   rw[fr,sz]at hin;rw[toD,fr];refine aD rfl rfl (stp _ (ifF (e0 _ _ _ _ _) (by decide)) (stpR (ifT (e0 _ _ _ _ _) (by decide) (retR (w:=true) ?_ rfl))));rw[<-List.length_map (f:=D.str),j7]at hin;show ev _ _ _ _=R.ok (true,D.lst _);rw[j7];refine lC _ _ _ _ [1] [txs B] (l.map prD) _ 2 true _ _ (fV (w:=false) (x:=.tup (l.map prD)) ?_ rfl) rfl rfl ?_ (fu (ts:=fun p:Pair=>[.str p.1,.int p.2]) (fun p _=>rfl) (fun p _=>(aG (aj rfl) (aj rfl)).trans (wY B p.1)) fun p _=>⟨false,aj rfl⟩)
   ·array_get_dec
   ·omega
 | nt s=>
   obtain⟨n,rfl⟩:∃j,n=j+1:=by
    cases n with
    | zero=>simp only[wf]at hs
    | succ j=>exact⟨j,rfl⟩
   simp only[wf]at hs;rw[Fine]at hf;rw[sz]at hz;have hc:=ih n (by omega) s hs hf (by omega) k B (by omega) (by omega);rw[toD,fr];refine aD rfl rfl (stp _ (ifF (e0 _ _ _ _ _) (by decide)) (stp _ (ifF (e0 _ _ _ _ _) (by decide)) (stpR (ifT (e0 _ _ _ _ _) (by decide) (retR (w:=true) ?_ rfl)))))
   array_get_dec
 | trn b x s=>
   obtain⟨n,rfl⟩:∃j,n=j+1:=by
    cases n with
    | zero=>simp only[wf]at hs
    | succ j=>exact⟨j,rfl⟩
   simp only[wf]at hs;rw[Fine]at hf;rw[sz]at hz;have hc:=ih n (by omega) s hs hf.2.2 (by omega) k (B++[x]) (by omega) (by rw[List.length_append];simp only[List.length_cons,List.length_nil];omega);have ho:o2 .add (txs B) (.lst [.str x])=.ok (true,txs (B++[x])):=Fw (b:=[x]) (by simp only[List.length_cons,List.length_nil];omega);rw[toD,fr]
   have hw:tww b≠fM/\tww b≠lY/\tww b≠sNot/\(decide (tww b=DW)||decide (tww b=sAll))=true:=by cases b<;>decide
   generalize tww b=W at *;refine aD rfl rfl (stp _ (ifF (e0 _ _ _ _ _) (decide_eq_false hw.1)) (stp _ (ifF (e0 _ _ _ _ _) (decide_eq_false hw.2.1)) (stp _ (ifF (e0 _ _ _ _ _) (decide_eq_false hw.2.2.1)) (stpR (ifT (kJ (e0 _ _ _ _ _) (e0 _ _ _ _ _)) hw.2.2.2 (retR (w:=true) ?_ rfl))))))
   array_get_dec
 | grp b ss=>
   obtain⟨n,rfl⟩:∃j,n=j+1:=by
    cases n with
    | zero=>simp only[wf]at hs
    | succ j=>exact⟨j,rfl⟩
   simp only[wf]at hs;rw[Fine]at hf;rw[fr]at hin;rw[sz]at hz hin;have hff:=Fines_iff.mp hf
   have hc:∀s∈ss,(orc prg w k).fn 10 [toD s,txs B]=.ok (true,txs (fr B s)):=fun s h=>ih n (by omega) s (hs.2 s h) (hff s h) (by have:=um h;omega) k B (by omega) (by omega)
   have hw:gw b≠fM/\gw b≠lY/\gw b≠sNot/\(decide (gw b=DW)||decide (gw b=sAll))=false:=by cases b<;>decide
   obtain⟨p',hl⟩:=rD (orc prg w k) (some (.sh,toD (.grp b ss))) B ss [] none hc (by simp only[List.length_nil];omega);rw[toD,fP]at *;rw[fr];generalize gw b=W at *;refine aD rfl rfl (stp _ (ifF (e0 _ _ _ _ _) (decide_eq_false hw.1)) (stp _ (ifF (e0 _ _ _ _ _) (decide_eq_false hw.2.1)) (stp _ (ifF (e0 _ _ _ _ _) (decide_eq_false hw.2.2.1)) (stp _ (ifF (kJ (e0 _ _ _ _ _) (e0 _ _ _ _ _)) hw.2.2.2) (stp _ (bf (w:=true) (d:=txs []) (cJ (xs:=[]) rfl rfl) rfl) (stp _ (fors rfl (fV (w:=false) (x:=.tup (ss.map toD)) ?_ rfl) hl) (stpR (Av rfl))))))))
   array_get_dec
noncomputable def kU:List Nat:=[117,110,98,111,117,110,100]
noncomputable def ub:Stt->Nat
 | .least _ _=>17
 | .rest _ _ _=>17
 | .nt _=>20
 | .grp _ _=>22
 | .trn _ _ _=>24
noncomputable def kL:List Nat:=[108,111,111,115,101]
theorem su(s:Stt):∃c ns vs,aZ s=.obj c ns vs/\ns.contains kU=false/\prg.meth c kU=some (ub s)/\ns.contains kL=false/\prg.meth c kL=some 15:=by
 cases s with
 | grp w ss=>cases w<;>(rw[aZ];exact⟨_,_,_,rfl,rfl,rfl,rfl,rfl⟩)
 | _=>rw[aZ];exact⟨_,_,_,rfl,rfl,rfl,rfl,rfl⟩
theorem IV{o:Orc}{δ:Dst}{i:Nat}{e:T}{q:Own}{a b:List (List Nat)}(he:ev o δ false e=.ok (true,txs b))(ho:ownD δ i=some (q,txs a))(hz:a.length+b.length<=100000):evS o (.extend i e) δ=.nx (δ.set i (some (q,txs (a++b)))):=by
 have:size ((a.map D.str).length+(b.map D.str).length)=true:=by simp[size];omega
 unfold txs at he ho;simp only[evS,evF,he,SO.of,ho,Option.bind_some,this,Bool.and_self,if_true,az,txs,List.map_append]
noncomputable def ubB:SL:=(SL.cons (S.extend 2 (T.meth [117,110,98,111,117,110,100] (T.var 3) (TL.cons (T.var 1) TL.nil))) SL.nil)
theorem Ao(o:Orc)(A:Option Slot)(B:List (List Nat))(ho:o.meth=prg.meth):∀(ss:List Stt) (row:List (List Nat)) (p:Option Slot),(∀s∈ss,o.fn (ub s) [aZ s,bdD B]=.ok (true,txs (fr B s)))->row.length+(frs B ss).length<=100000 ->
 ∃p',cX (evSs o ubB) [3] false (ss.map aZ) [A,some (.sh,bdD B),some (.ow,txs row),p]=.nx [A,some (.sh,bdD B),some (.ow,txs (row++frs B ss)),p']
 | [],row,p,_,_=>⟨p,by rw[frs,List.append_nil];rfl⟩
 | s::ss,row,p,h,hl=>by
   rw[frs,List.length_append]at hl;obtain⟨p',ih⟩:=Ao o A B ho ss (row++fr B s) (some (.sh,aZ s)) (fun x hx=>h x (List.mem_cons_of_mem _ hx)) (by rw[List.length_append];omega);obtain⟨c,ns,vs,z1,z2,z3,_⟩:=su s;refine⟨p',qx (ds:=[aZ s]) rfl rfl (one (IV (b:=fr B s) (g8 rfl (aj rfl) z1 (aa rfl (aj rfl) rfl) z2 (by rw[ho];exact z3) (h s List.mem_cons_self)) rfl (by omega))) (ih.trans ?_)⟩;rw[frs,List.append_assoc]
theorem J8(w:Nat)(base:Int)(t:Bool):∀(n:Nat) (s:Stt),wf n s->Fine base t s->sz s<=300->∀(m:Nat) (B:List (List Nat)),n+2<=m->B.length+n<=500->(orc prg w m).fn (ub s) [aZ s,bdD B]=.ok (true,txs (fr B s)):=by
 intro n
 induction n using Nat.strongRecOn with
 | ind n ih=>
 intro s hs hf hz m B hm hB
 obtain⟨k,rfl⟩:∃k,m=k+2:=⟨m-2,by omega⟩
 have hi:∀c,c<=8->((orc prg w (k+1)).init c).isSome=true:=fun c h=>has (w:=w) trees (k+1) c h
 have hin:=(oX s B hf).2
 have hatom:∀(c:Int) (l:List Pair) (cl:Nat) (ns:List (List Nat)) (vs:List D),cl<=8->look (ns.map .s) vs (.s kT)=some (smT c l)->((l.map (·.1)).filter fun n=>!decide (n∈B)).length<=1000->bG (orc prg w (k+1)) f17 [.obj cl ns vs,bdD B]=.ok (true,txs ((l.map (·.1)).filter fun n=>!decide (n∈B))):=fun c l cl ns vs h1 h2 h3=>by
  refine aD rfl rfl (stpR (retR (w:=true) ?_ rfl));unfold txs at *;rw[<-List.length_map (f:=D.str)]at h3;rw[j7]at h3 ⊢;exact lC _ _ _ _ [1] [bdD B] (l.map prD) _ 1 false _ _ (fV (w:=false) (x:=.tup (l.map prD)) ((bL (n8 (aj rfl) (hi cl h1) h2) ao).trans (dI rfl rfl)) rfl) rfl rfl h3 (fu (ts:=fun p:Pair=>[prD p]) (fun p _=>rfl) (fun p _=>(aG ((bL (aj rfl) ao).trans (dI rfl rfl)) (aj rfl)).trans (GX B p.1)) fun p _=>⟨false,(bL (aj rfl) ao).trans (dI rfl rfl)⟩)
 cases s with
 | least c l=>
   rw[fr,sz]at hin;rw[fr,ub,bF (d:=f17) rfl,aZ];exact hatom c l 2 _ _ (by decide) rfl (by omega)
 | rest q c l=>
   rw[fr,sz]at hin;rw[fr,ub,bF (d:=f17) rfl,aZ];exact hatom c l 3 _ _ (by decide) rfl (by omega)
 | nt s=>
   obtain⟨n,rfl⟩:∃j,n=j+1:=by
    cases n with
    | zero=>simp only[wf]at hs
    | succ j=>exact⟨j,rfl⟩
   simp only[wf]at hs;rw[Fine]at hf;rw[sz]at hz;have hc:=ih n (by omega) s hs hf (by omega) (k+1) B (by omega) (by omega);obtain⟨c,ns,vs,z1,z2,z3,_⟩:=su s;rw[fr,ub,bF (d:=f20) rfl,aZ];exact aD rfl rfl (stpR (retR (g8 rfl (n8 (aj rfl) (hi 4 (by decide)) rfl) z1 (aa rfl (aj rfl) rfl) z2 (by rw[mth];exact z3) hc) rfl))
 | trn b x s=>
   obtain⟨n,rfl⟩:∃j,n=j+1:=by
    cases n with
    | zero=>simp only[wf]at hs
    | succ j=>exact⟨j,rfl⟩
   simp only[wf]at hs;rw[Fine]at hf;rw[sz]at hz;have hlen:=z9 B x;have hc:=ih n (by omega) s hs hf.2.2 (by omega) (k+1) (addB B x) (by omega) (by omega);rw[nu s _ _ (yQ B x)]at hc;have hn:=mF w k B x (by omega);obtain⟨c,ns,vs,z1,z2,z3,_⟩:=su s;rw[fr,ub,bF (d:=f24) rfl,aZ];exact aD rfl rfl (stpR (retR (g8 rfl (n8 (aj rfl) (hi 8 (by decide)) rfl) z1 (aa rfl (bj (aa rfl (aj rfl) (aa rfl (n8 (aj rfl) (hi 8 (by decide)) rfl) rfl)) hn) rfl) z2 (by rw[mth];exact z3) hc) rfl))
 | grp b ss=>
   obtain⟨n,rfl⟩:∃j,n=j+1:=by
    cases n with
    | zero=>simp only[wf]at hs
    | succ j=>exact⟨j,rfl⟩
   simp only[wf]at hs;rw[Fine]at hf;rw[fr]at hin;rw[sz]at hz hin;have hff:=Fines_iff.mp hf
   have hc:∀s∈ss,(orc prg w (k+1)).fn (ub s) [aZ s,bdD B]=.ok (true,txs (fr B s)):=fun s h=>ih n (by omega) s (hs.2 s h) (hff s h) (by have:=um h;omega) (k+1) B (by omega) (by omega)
   obtain⟨p',hl⟩:=Ao (orc prg w (k+1)) (some (.sh,aZ (.grp b ss))) B (mth w (k+1)) ss [] none hc (by simp only[List.length_nil];omega);rw[fr,ub,bF (d:=f22) rfl];rw[aZ,fW]at *
   have hcl:(if b then 7 else 6)<=8:=by cases b<;>decide
   generalize (if b then 7 else 6)=cl at *;exact aD rfl rfl (stp _ (bf (w:=true) (d:=txs []) (cJ (xs:=[]) rfl rfl) rfl) (stp _ (fors rfl (fV (w:=false) (x:=.lst (ss.map aZ)) (n8 (aj rfl) (hi cl hcl) rfl) rfl) hl) (stpR (Av rfl))))
theorem vX(w:Nat)(base:Int)(t:Bool)(n:Nat)(s:Stt)(hs:wf n s)(hf:Fine base t s)(hz:sz s<=300)(m:Nat)(hm:n+3<=m)(hn:n<=500):(orc prg w m).fn 15 [aZ s]=.ok (true,txs (nms (fr [] s))):=by
 obtain⟨k,rfl⟩:∃k,m=k+1:=⟨m-1,by omega⟩
 have hc:=J8 w base t n s hs hf hz k [] (by omega) (by simp;omega);obtain⟨h1,h2⟩:=oX s [] hf;obtain⟨c,ns,vs,z1,z2,z3,_⟩:=su s;rw[bF (d:=f15) rfl];exact aD rfl rfl (stpR (retR ((jb (g8 rfl (aj rfl) z1 (aa rfl (show ev _ _ false (T.dnew [] TL.nil)=.ok (true,bdD [])from rfl) rfl) z2 (by rw[mth];exact z3) hc)).trans (pC h1 (by omega))) rfl))
end K6
namespace K6
open Z KG P06
local macro_rules | `(tactic| array_get_dec)=>`(tactic| first | assumption | exact aj rfl | exact bx rfl | exact ao | exact neg1 | (refine' wG ?a ?b ?c;(case a=>array_get_dec);(case b=>array_get_dec);(case c=>sizeOf_list_dec)) | (refine' e_b1 ?a ?c;(case a=>array_get_dec);(case c=>sizeOf_list_dec)) | (refine' CV ?a ?b ?c;(case a=>array_get_dec);(case b=>array_get_dec);(case c=>sizeOf_list_dec)) | (refine' Dc ?a;(case a=>array_get_dec)) | (refine' fG ?a;(case a=>array_get_dec)) | (refine' bO ?a ?b;(case a=>array_mem_dec);(case b=>exact rfl)) | (refine' cJ ?a ?b;(case a=>array_mem_dec);(case b=>exact rfl)) | (refine' bj ?a ?b;(case a=>array_mem_dec);(case b=>assumption)) | (refine' e_m1 ?a ?b ?c;(case a=>array_get_dec);(case b=>array_get_dec);(case c=>sizeOf_list_dec)) | (refine' e_b2 ?a ?b ?c;(case a=>array_get_dec);(case b=>array_get_dec);(case c=>sizeOf_list_dec)) | (refine' iH ?a ?b ?c ?d ?e ?f;(case a=>array_get_dec);(case b=>array_get_dec);(case c=>array_get_dec);(case d=>exact rfl);(case e=>exact rfl);(case f=>sizeOf_list_dec)) | (refine' wz ?a ?b;(case a=>array_get_dec);(case b=>exact rfl)))
local macro_rules | `(tactic| array_mem_dec)=>`(tactic| first | exact jq | (refine' aa rfl ?a ?b;(case a=>array_get_dec);(case b=>array_mem_dec)))
local macro_rules | `(tactic| sizeOf_list_dec)=>`(tactic| first | assumption | exact lz _ _ | exact FZ _ _ | exact o_lt _ _ | exact o_gt _ _ | exact o_le _ _ | exact o_ge _ _ | exact nA _ _ | exact zy _ _ | exact Gp _ _ | exact za _ _ | exact gR _ _ (by decide) | exact fU _ _ (by decide) | exact dI rfl rfl | exact lH rfl rfl | exact uF _ | exact vm _ | exact uZ _ | exact ut _ | (refine' pI ?_;(try simp only[List.length_append,List.length_cons,List.length_nil]);omega))
theorem okS(l:List (List Nat))(h:l.length<=1000):okT 1 (.tup (l.map .str)):=by
 refine⟨by simp;omega,fun d hd=>?_⟩;obtain⟨x,_,rfl⟩:=List.mem_map.mp hd
 trivial
theorem tQ(w m:Nat)(l:List (List Nat))(h:l.length<=1000):(orc prg w (m+3)).fn 11 [txs l,txs l]=.ok (false,.bl true):=by
 have hs:(orc prg w (m+2)).fn 9 [.tup (l.map .str),.tup (l.map .str)]=.ok (false,.bl true):=same_refl prg w 9 rfl 1 _ _ (okS l h) (by omega);rw[bF (d:=f11) rfl];refine aD rfl rfl (stpR (retR (Az (zH (aj rfl)) (w':=false) ?_) rfl))
 array_get_dec
theorem wI{base:Int}{l:List (List Nat)}(h:∀n∈l,n∈N5 base):(nms l).length<=5:=by
 have:=wX h;rw[nms,(KG.sortS_perm _).length_eq];exact this
theorem La{o:Orc}{δ δ1 δ':Dst}{i:Nat}{e:T}{w:Bool}{d:D}(h0:ev o δ false e=.stuck)(hs:share δ (aP e)=δ1)(h:ev o δ1 false e=.ok (w,d))(hp:setSlot δ1 i w d=some δ'):evS o (.set i e) δ=.nx δ':=by
 simp only[evS,evF,h0,hs,h,SO.of,hp,Option.map_some,az]
theorem rY{o:Orc}{δ:Dst}{lk:Bool}{i:Nat}{m:List Nat}{w':Bool}{c f:Nat}{ns:List (List Nat)}{vs:List D}{x d:D}(hδ:δ[i]?=some (some (.ow,x)))(hx:x=.obj c ns vs)(hn:ns.contains m=false)(hm:o.meth c m=some f)(h:o.fn f [x]=.ok (w',d))(hi:d.imm=false):ev o δ lk (T.meth m (T.var i) TL.nil)=.stuck:=by
 have hk:bM δ (T.var i)=true:=by simp only[bM,isOwn,hδ]
 subst hx;simp only[ev,hk,hδ,evL,R.bind,hn,hm,h,R.of,R.chk,lent,Bool.not_false,if_true,hi,Bool.true_or,Bool.false_eq_true,if_false]
noncomputable def cellsV(ns:List Int):List Int:=cut ns (min 1 ns.length) (min 51 ns.length)
theorem ww(ns:List Int)(h:ns.length<=63):(cellsV ns).length<=100:=by
 unfold cellsV cut;simp;omega
theorem wJ(ns:List Int):slcD (.lst (ns.map .int)) (some 1) (some 51)=some (true,.lst ((cellsV ns).map .int)):=by
 have h3:clip ns.length 1=min 1 ns.length:=gW ns.length 1;have h5:clip ns.length 51=min 51 ns.length:=gW ns.length 51
 have cm:∀(a b:Nat),cut (ns.map D.int) a b=(cut ns a b).map D.int:=fun a b=>by simp[cut,List.map_drop,List.map_take]
 simp only[slcD,dM,bW,List.length_map,h3,h5,cm]
 rfl
theorem zO{x n:List Nat}{s:Stt}(h:n∈fr ([]++[x]) s):n∈fr [] s:=by
 rw[mL]at h;exact(List.mem_filter.mp h).1
set_option maxHeartbeats 0 in
theorem law_run(w:Nat)(ns:List Int)(h:ns.length<=63):(orc prg w 45).fn 12 [.lst (ns.map .int)]=.ok (false,.bl true):=by
 rw[bF (d:=f12) rfl];have hc0:(orc prg w 44).fn 2 [.lst (ns.map .int),.int 0]=.ok (false,.int (ns.getD 0 0)):=K7 drs w 43 ns 0;generalize ns.getD 0 0=base at hc0;have hcl:=ww ns h
 have hlc:(cellsV ns).length<=50:=by unfold cellsV cut;simp;omega
 have hsl:=wJ ns;generalize cellsV ns=cells at hcl hsl hlc;obtain⟨s,hs,hz,hf,ht⟩:=Hv drs w 40 cells base true hcl;have hfree:=zc w base true 14 s hs hf (by omega) 44 [] (by omega) (by simp);have hin:=oX s [] hf;have hss:b1D .sortedSet (txs (fr [] s))=.ok (true,txs (nms (fr [] s))):=pC hin.1 (by omega);have hname:=uc drs w 43 (base.fmod 5) base;have hN:=GF (base.fmod 5) base (aF base 5 (by decide));generalize nm (base.fmod 5) base=nam at hname hN
 have go:∀(s':Stt),wf 20 s'->Fine base true s'->sz s'<=300->(orc prg w 44).fn 1 [toD s']=.ok (true,aZ s')/\(orc prg w 44).fn 15 [aZ s']=.ok (true,txs (nms (fr [] s'))):=fun s' h1 h2 h3=>
  ⟨Ag (w:=w) trees rfl 20 s' h1 44 (by omega),vX w base true 20 s' h1 h2 h3 44 (by omega) (by omega)⟩
 have hs20:∀{n:Nat},14<=n->wf n s:=fun q=>iJ hs q
 have hlist:∀l:List (List Nat),(∀n∈l,n∈N5 base)->(orc prg w 44).fn 11 [txs (nms l),txs (nms l)]=.ok (false,.bl true):=fun l hl=>tQ w 41 (nms l) (by have:=wI hl;omega)
 have mkl:∀(s':Stt) (δ:Dst) (e:T) (lk:Bool),wf 20 s'->Fine base true s'->sz s'<=300->bM δ e=false->(∀lk,ev (orc prg w 44) δ lk e=.ok (false,toD s'))->ev (orc prg w 44) δ lk (T.meth kL (T.call 1 (TL.cons e TL.nil)) TL.nil)=.ok (true,txs (nms (fr [] s'))):=fun s' δ e lk h1 h2 h3 h4 h5=>by
  obtain⟨c,fs,vs,z1,_,_,z2,z3⟩:=su s';exact g8 rfl (bj (aa h4 (h5 false) rfl) (go s' h1 h2 h3).1) z1 jq z2 (by rw[mth];exact z3) (go s' h1 h2 h3).2
 have cmp:∀(δ:Dst) (a b:T) (l:List (List Nat)) (wa wb ba bb:Bool),(∀n∈l,n∈N5 base)->evL (orc prg w 44) δ (TL.cons a (TL.cons b TL.nil))=.ok (ba,[txs (nms l),txs (nms l)])->∀lk,ev (orc prg w 44) δ lk (T.call 11 (TL.cons a (TL.cons b TL.nil)))=.ok (false,.bl true):=fun δ a b l wa wb ba bb hl he lk=>by
  cases ba with
  | false=>exact bj he (hlist l hl)
  | true=>exact yd he (hlist l hl) rfl
 obtain⟨g1,g2⟩:=go s (hs20 (by decide)) hf (by omega);obtain⟨c,fs,vs,z1,_,_,z2,z3⟩:=su s
 have gm:∀(δ:Dst) (lk:Bool),δ[4]?=some (some (.sh,aZ s))->ev (orc prg w 44) δ lk (T.meth kL (T.var 4) TL.nil)=.ok (true,txs (nms (fr [] s))):=fun δ lk hδ=>by
  have hk:bM δ (T.var 4)=false:=by simp only[bM,isOwn,hδ]
  exact g8 hk (aj hδ) z1 jq z2 (by rw[mth];exact z3) g2
 have iS:=hin.1;have hdl:=wI iS
 have fN:fr [] (.nt s)=fr [] s:=by rw[fr]
 have fT:∀b,fr [] (.trn b nam s)=(fr [] s).filter fun n=>!decide (n=nam):=fun b=>by rw[fr];exact mL s [] nam
 have iL:∀n∈(fr [] s).filter (fun n=>!decide (n=nam)),n∈N5 base:=fun n hn=>iS n (List.mem_filter.mp hn).1
 have hleft:=sW (fr [] s) (fun n=>!decide (n=nam))
 let both:Stt:=.grp true [.trn true nam s,.grp false [s,.least 0 [(nam,1)]]]
 have fB:nms (fr [] both)=nms (nms (fr [] s)++[nam]):=by
  refine Dk fun k=>?_
  simp only[both,fr,frs,List.append_nil,List.mem_append,pF,List.map_cons,List.map_nil,List.not_mem_nil,decide_false,Bool.not_false,List.filter_cons_of_pos,List.filter_nil,List.mem_singleton]
  constructor
  ·rintro(q | q | q)
   ·exact .inl (zO q)
   ·exact .inl q
   ·exact .inr q
  ·rintro(q | q)
   ·exact .inr (.inl q)
   ·exact .inr (.inr q)
 have iB:∀n∈nms (fr [] s)++[nam],n∈N5 base:=fun n hn=>by
  rcases List.mem_append.mp hn with q | q
  ·exact iS n ((pF _ n).mp q)
  ·rw[List.mem_singleton.mp q];exact hN
 have hsb:b1D .sortedSet (txs (nms (fr [] s)++[nam]))=.ok (true,txs (nms (nms (fr [] s)++[nam]))):=pC iB (by rw[List.length_append];simp only[List.length_cons,List.length_nil];omega);have hcat:o2 .add (txs (nms (fr [] s))) (.lst [.str nam])=.ok (true,txs (nms (fr [] s)++[nam])):=Fw (b:=[nam]) (by simp only[List.length_cons,List.length_nil];omega)
 have hBd:Bd 1/\Bd 0:=by unfold Bd;decide
 have wB:wf 20 both:=by
  refine iJ (n:=16) ?_ (by decide);simp only[both,wf];refine⟨by show 2<=100;decide,fun q hq=>?_⟩;simp only[List.mem_cons,List.not_mem_nil,or_false]at hq;rcases hq with rfl | rfl
  ·simp only[wf];exact hs
  ·simp only[wf]
   refine⟨by show 2<=100;decide,fun q hq=>?_⟩;simp only[List.mem_cons,List.not_mem_nil,or_false]at hq;rcases hq with rfl | rfl
   ·exact hs
   ·simp only[wf]
    exact⟨by show 1<=1000;decide,fun p hp=>by rw[List.mem_singleton.mp hp];exact hBd.1⟩
 have FB:Fine base true both:=by
  simp only[both,Fine,nC,and_true,true_and];exact⟨⟨hN,hf⟩,hf,⟨hBd.2,by show 1<=5;decide,fun p hp=>by rw[List.mem_singleton.mp hp];exact hN,fun p hp=>by rw[List.mem_singleton.mp hp];exact hBd.1,fun p hp=>by rw[List.mem_singleton.mp hp];show(1:Int)≠0;decide⟩⟩
 have zB:sz both<=300:=by simp only[both,sz,szs];omega
 have wT:∀b,wf 20 (.trn b nam s):=fun b=>by simp only[wf];exact hs20 (by decide)
 have FT:∀b,Fine base true (.trn b nam s):=fun b=>by simp only[Fine,true_and];exact⟨hN,hf⟩
 have zT:∀b,sz (.trn b nam s)<=300:=fun b=>by simp only[sz];omega
 have wN:wf 20 (.nt s):=by simp only[wf];exact hs20 (by decide)
 have FN:Fine base true (.nt s):=by simp only[Fine];exact hf
 have zN:sz (.nt s)<=300:=by simp only[sz];omega
 have hne:∀x:List Nat,o2 .ne (.str x) (.str nam)=.ok (false,.bl !(decide (x=nam))):=fun x=>za x nam
 generalize hF:fr [] s=F at *;generalize hL:F.filter (fun n=>!decide (n=nam))=L at *;refine aD (δ0:=[some (.sh,.lst (ns.map .int)),none,none,none,none,none,none,none,none]) rfl rfl ?_;refine stp [some (.sh,.lst (ns.map .int)),some (.sh,.int base),none,none,none,none,none,none,none] (bf (w:=false) (d:=.int base) (by array_get_dec) rfl) ?_;refine stp [some (.sh,.lst (ns.map .int)),some (.sh,.int base),some (.sh,toD s),none,none,none,none,none,none] (bf (w:=false) (d:=toD s) (by array_get_dec) rfl) ?_;refine stp [some (.sh,.lst (ns.map .int)),some (.sh,.int base),some (.sh,toD s),some (.ow,txs (nms F)),none,none,none,none,none] (bf (w:=true) (d:=txs (nms F)) (e_b1 (bj (aa rfl (aj rfl) (aa rfl (cJ (xs:=[]) rfl rfl) rfl)) hfree) hss) rfl) ?_;refine stp [some (.sh,.lst (ns.map .int)),some (.sh,.int base),some (.sh,toD s),some (.ow,txs (nms F)),some (.ow,aZ s),none,none,none,none] (bf (w:=true) (d:=aZ s) (bj (aa rfl (aj rfl) rfl) g1) rfl) ?_;refine stp [some (.sh,.lst (ns.map .int)),some (.sh,.int base),some (.sh,toD s),some (.ow,txs (nms F)),some (.sh,aZ s),some (.ow,txs (nms F)),none,none,none] (La (rY rfl z1 z2 (by rw[mth];exact z3) g2 rfl) rfl (gm _ _ rfl) rfl) ?_;refine stp [some (.sh,.lst (ns.map .int)),some (.sh,.int base),some (.sh,toD s),some (.ow,txs (nms F)),some (.sh,aZ s),some (.ow,txs (nms F)),none,none,none] (ifF (fG (cmp _ _ _ F true true true true iS (gr rfl (bx rfl) (gr rfl (bx rfl) rfl)) true)) rfl) ?_;refine stp [some (.sh,.lst (ns.map .int)),some (.sh,.int base),some (.sh,toD s),some (.ow,txs (nms F)),some (.sh,aZ s),some (.ow,.lst ((nms F).map .str++[.str [113]])),none,none,none] (xm ao rfl (by simp only[List.length_map];omega)) ?_;refine stp _ (ifF (kJ (fG (cmp _ _ _ F true true true true iS (jY rfl (gm _ _ rfl) (gr rfl (bx rfl) rfl)) true)) (fG (cmp _ _ _ F true true true true iS (jY rfl ((mkl (.nt s) _ _ _ wN FN zN rfl fun lk=>by rw[toD];exact bO (xs:=[.str sNot,toD s]) (aa rfl ao (aa rfl (aj rfl) rfl)) rfl).trans (by rw[fN])) (gr rfl (bx rfl) rfl)) true))) rfl) ?_;refine stp [some (.sh,.lst (ns.map .int)),some (.sh,.int base),some (.sh,toD s),some (.ow,txs (nms F)),some (.sh,aZ s),some (.ow,.lst ((nms F).map .str++[.str [113]])),some (.sh,.str nam),none,none] (bf (w:=false) (d:=.str nam) (bj (aa rfl (wG (aj rfl) ao (gR _ _ (by decide))) (aa rfl (aj rfl) rfl)) hname) rfl) ?_;refine stp [some (.sh,.lst (ns.map .int)),some (.sh,.int base),some (.sh,toD s),some (.ow,txs (nms F)),some (.sh,aZ s),some (.ow,.lst ((nms F).map .str++[.str [113]])),some (.sh,.str nam),some (.ow,txs (nms L)),none] (bf (w:=true) (d:=txs (nms L)) ?_ rfl) ?_
 ·rw[hleft]
  exact lC _ _ _ _ [6] [.str nam] ((nms F).map .str) _ 1 false _ _ (fV (bx rfl) rfl) rfl rfl (by have:=wI iL;rw[hleft]at this;rw[List.length_map];omega) (fu (ts:=fun p:List Nat=>[.str p]) (fun p _=>rfl) (fun p _=>(aG (aj rfl) (aj rfl)).trans (hne p)) fun p _=>⟨false,aj rfl⟩)
 have ct:∀(b:Bool) (δ:Dst) (x:D),δ[2]?=some (some (.sh,toD s))->δ[6]?=some (some (.sh,.str nam))->∀lk,ev (orc prg w 44) δ lk (T.tup (TL.cons (T.cst (D.str (tww b))) (TL.cons (T.var 6) (TL.cons (T.var 2) TL.nil))))=.ok (false,toD (.trn b nam s)):=fun b δ x h2 h6 lk=>by
  rw[toD]
  have k2:bM δ (T.var 2)=false:=by simp only[bM,isOwn,h2]
  have k6:bM δ (T.var 6)=false:=by simp only[bM,isOwn,h6]
  exact bO (aa rfl ao (aa k6 (aj h6) (aa k2 (aj h2) rfl))) rfl
 refine stp _ (ifF (fG (cmp _ _ _ L true true true true iL (jY rfl ((mkl (.trn false nam s) _ _ _ (wT _) (FT _) (zT _) rfl (ct false _ .non rfl rfl)).trans (by rw[fT])) (gr rfl (bx rfl) rfl)) true)) rfl) ?_;refine stp _ (ifF (fG (cmp _ _ _ L true true true true iL (jY rfl ((mkl (.trn true nam s) _ _ _ (wT _) (FT _) (zT _) rfl (ct true _ .non rfl rfl)).trans (by rw[fT])) (gr rfl (bx rfl) rfl)) true)) rfl) ?_;refine stp [some (.sh,.lst (ns.map .int)),some (.sh,.int base),some (.sh,toD s),some (.ow,txs (nms F)),some (.sh,aZ s),some (.ow,.lst ((nms F).map .str++[.str [113]])),some (.sh,.str nam),some (.ow,txs (nms L)),some (.sh,toD both)] (bf (w:=false) (d:=toD both) ?_ rfl) ?_
 ·have e1:=ct true [some (.sh,.lst (ns.map .int)),some (.sh,.int base),some (.sh,toD s),some (.ow,txs (nms F)),some (.sh,aZ s),some (.ow,.lst ((nms F).map .str++[.str [113]])),some (.sh,.str nam),some (.ow,txs (nms L)),none] .non rfl rfl false
  have ed:toD both=.tup [.str sOr,.tup [toD (.trn true nam s),.tup [.str sAnd,.tup [toD s,.tup [.str fM,.tup [.int 0,.tup [.tup [.str nam,.int 1]]]]]]]]:=by
   simp only[both,toD,toDs];rfl
  rw[ed];generalize toD (.trn true nam s)=Q at e1;generalize toD s=Q2 at *;refine bO (aa rfl ao (aa rfl (bO (aa rfl e1 (aa (w:=false) rfl ?_ rfl)) rfl) rfl)) rfl;exact bO (aa rfl ao (aa rfl (bO (aa rfl (aj rfl) (aa rfl (bO (aa rfl ao (aa rfl (bO (aa rfl ao (aa rfl (bO (aa rfl (bO (aa rfl (aj rfl) (aa rfl ao rfl)) rfl) rfl) rfl) rfl)) rfl) rfl)) rfl) rfl)) rfl) rfl)) rfl
 refine stpR (retR (cmp _ _ _ (nms F++[nam]) true true false true iB (aa rfl ((mkl both _ _ _ wB FB zB rfl fun lk=>aj rfl).trans (by rw[fB])) (aa rfl (e_b1 (wG (bx rfl) (cJ (xs:=[.str nam]) (aa rfl (aj rfl) rfl) rfl) hcat) hsb) rfl)) false) rfl)
end K6
namespace P06
open Z
theorem pure(ns:List Int)(h:ns.length<=63):∃w0,(orc prg w0 45).fn 12 [.lst (ns.map .int)]=.ok (false,.bl true):=⟨0,K6.law_run 0 ns h⟩
end P06
namespace K06
open PySem L2 Z P06
noncomputable def top(i:Nat):Stmt:=PySem.Challenge.pw_sumlaw_k06_free_names.main.body.getD i (.Pass ⟨0,0,0,0⟩)
noncomputable def m0:Df:=⟨"__init__","Branch.__init__",(bodyOf (top 3)).getD 0 (.Pass ⟨0,0,0,0⟩),["self","told"],["self","told"],f13⟩
noncomputable def m1:Df:=⟨"told","Branch.told",(bodyOf (top 3)).getD 1 (.Pass ⟨0,0,0,0⟩),["self"],["self"],f14⟩
noncomputable def m2:Df:=⟨"loose","Branch.loose",(bodyOf (top 3)).getD 2 (.Pass ⟨0,0,0,0⟩),["self"],["self"],f15⟩
noncomputable def m3:Df:=⟨"__init__","Atom.__init__",(bodyOf (top 4)).getD 0 (.Pass ⟨0,0,0,0⟩),["self","told","total"],["self","told","total"],f16⟩
noncomputable def m4:Df:=⟨"unbound","Atom.unbound",(bodyOf (top 4)).getD 1 (.Pass ⟨0,0,0,0⟩),["self","bound"],["self","bound"],f17⟩
noncomputable def m5:Df:=⟨"__init__","Rest.__init__",(bodyOf (top 6)).getD 0 (.Pass ⟨0,0,0,0⟩),["self","told","divisor","total"],["self","told","divisor","total"],f18⟩
noncomputable def m6:Df:=⟨"__init__","Not.__init__",(bodyOf (top 7)).getD 0 (.Pass ⟨0,0,0,0⟩),["self","told","part"],["self","told","part"],f19⟩
noncomputable def m7:Df:=⟨"unbound","Not.unbound",(bodyOf (top 7)).getD 1 (.Pass ⟨0,0,0,0⟩),["self","bound"],["self","bound"],f20⟩
noncomputable def m8:Df:=⟨"__init__","Many.__init__",(bodyOf (top 8)).getD 0 (.Pass ⟨0,0,0,0⟩),["self","told","word","parts"],["self","told","word","parts"],f21⟩
noncomputable def m9:Df:=⟨"unbound","Many.unbound",(bodyOf (top 8)).getD 1 (.Pass ⟨0,0,0,0⟩),["self","bound","names","part"],["self","bound"],f22⟩
noncomputable def m10:Df:=⟨"__init__","Binder.__init__",(bodyOf (top 11)).getD 0 (.Pass ⟨0,0,0,0⟩),["self","told","word","name","part"],["self","told","word","name","part"],f23⟩
noncomputable def m11:Df:=⟨"unbound","Binder.unbound",(bodyOf (top 11)).getD 1 (.Pass ⟨0,0,0,0⟩),["self","bound"],["self","bound"],f24⟩
noncomputable def ms:List Df:=[m0,m1,m2,m3,m4,m5,m6,m7,m8,m9,m10,m11]
noncomputable def d0:Df:=⟨"with_name","with_name",top 2,["bound","name","inner"],["bound","name"],f0⟩
noncomputable def d1:Df:=⟨"tree_of","tree_of",top 12,["told","word"],["told"],f1⟩
noncomputable def d2:Df:=⟨"_law_cell_at","_law_cell_at",top 14,["_law_script","_law_k"],["_law_script","_law_k"],f2⟩
noncomputable def d3:Df:=⟨"_law_mix","_law_mix",top 15,["_law_cell","_law_k","_law_many","_law_some"],["_law_cell","_law_k","_law_many"],f3⟩
noncomputable def d4:Df:=⟨"_law_name_by","_law_name_by",top 16,["_law_cell","_law_base","_law_letters","_law_signs","_law_size","_law_row","_law_place","_law_name"],["_law_cell","_law_base"],f4⟩
noncomputable def d5:Df:=⟨"_law_number","_law_number",top 17,["_law_cell","_law_size"],["_law_cell"],f5⟩
noncomputable def d6:Df:=⟨"_law_sum_by","_law_sum_by",top 18,["_law_cell","_law_base","_law_shares","_law_j","_law_k","_law_c"],["_law_cell","_law_base"],f6⟩
noncomputable def d7:Df:=⟨"_law_atom_by","_law_atom_by",top 19,["_law_cell","_law_base","_law_m"],["_law_cell","_law_base"],f7⟩
noncomputable def d8:Df:=⟨"_law_told_by","_law_told_by",top 20,["_law_cells","_law_base","_law_turns","_law_row","_law_deeps","_law_cell","_law_way","_law_first"],["_law_cells","_law_base","_law_turns"],f8⟩
noncomputable def d9:Df:=⟨"_law_same","_law_same",top 21,["_law_got","_law_due"],["_law_got","_law_due"],f9⟩
noncomputable def d10:Df:=⟨"_law_free","_law_free",top 22,["_law_told","_law_bound","_law_row","_law_part"],["_law_told","_law_bound"],f10⟩
noncomputable def d11:Df:=⟨"_law_listed","_law_listed",top 23,["_law_got","_law_due"],["_law_got","_law_due"],f11⟩
noncomputable def d12:Df:=⟨"law","law",top 24,["_law_script","_law_base","_law_told","_law_due","_law_tree","_law_got","_law_name","_law_left","_law_both"],["_law_script"],f12⟩
noncomputable def cs:List (Str×Gk):=[("!f",.names [[115,116,97,116,101,109,101,110,116],[116,111,116,97,108],[100,105,118,105,115,111,114],[112,97,114,116],[119,111,114,100],[112,97,114,116,115],[110,97,109,101]]),("!m",.names [[116,111,108,100],[108,111,111,115,101],[117,110,98,111,117,110,100]]),("Branch",.ocl 0),("Atom",.ocl 1),("Least",.ocl 2),("Rest",.ocl 3),("Not",.ocl 4),("Many",.ocl 5),("And",.ocl 6),("Or",.ocl 7),("Binder",.ocl 8)]
noncomputable def ds:List Df:=[d0,d1,d2,d3,d4,d5,d6,d7,d8,d9,d10,d11,d12]
theorem sc0:FnScope d0.N d0.ps (ak d0.st):=⟨rfl,rfl,rfl,by decide +kernel,rfl,by decide +kernel,by decide +kernel⟩
theorem ok0:DfOk (glOf 0 ds++cs) d0:=⟨sc0,rfl,rfl,.inl (by kernel_rfl)⟩
theorem sc1:FnScope d1.N d1.ps (ak d1.st):=⟨rfl,rfl,rfl,by decide +kernel,rfl,by decide +kernel,by decide +kernel⟩
theorem ok1:DfOk (glOf 0 ds++cs) d1:=⟨sc1,rfl,rfl,.inl (by kernel_rfl)⟩
theorem sc2:FnScope d2.N d2.ps (ak d2.st):=⟨rfl,rfl,rfl,by decide +kernel,rfl,by decide +kernel,by decide +kernel⟩
theorem ok2:DfOk (glOf 0 ds++cs) d2:=⟨sc2,rfl,rfl,.inl (by kernel_rfl)⟩
theorem sc3:FnScope d3.N d3.ps (ak d3.st):=⟨rfl,rfl,rfl,by decide +kernel,rfl,by decide +kernel,by decide +kernel⟩
theorem ok3:DfOk (glOf 0 ds++cs) d3:=⟨sc3,rfl,rfl,.inl (by kernel_rfl)⟩
theorem sc4:FnScope d4.N d4.ps (ak d4.st):=⟨rfl,rfl,rfl,by decide +kernel,rfl,by decide +kernel,by decide +kernel⟩
theorem ok4:DfOk (glOf 0 ds++cs) d4:=⟨sc4,rfl,rfl,.inl (by kernel_rfl)⟩
theorem sc5:FnScope d5.N d5.ps (ak d5.st):=⟨rfl,rfl,rfl,by decide +kernel,rfl,by decide +kernel,by decide +kernel⟩
theorem ok5:DfOk (glOf 0 ds++cs) d5:=⟨sc5,rfl,rfl,.inl (by kernel_rfl)⟩
theorem sc6:FnScope d6.N d6.ps (ak d6.st):=⟨rfl,rfl,rfl,by decide +kernel,rfl,by decide +kernel,by decide +kernel⟩
theorem ok6:DfOk (glOf 0 ds++cs) d6:=⟨sc6,rfl,rfl,.inl (by kernel_rfl)⟩
theorem sc7:FnScope d7.N d7.ps (ak d7.st):=⟨rfl,rfl,rfl,by decide +kernel,rfl,by decide +kernel,by decide +kernel⟩
theorem ok7:DfOk (glOf 0 ds++cs) d7:=⟨sc7,rfl,rfl,.inl (by kernel_rfl)⟩
theorem sc8:FnScope d8.N d8.ps (ak d8.st):=⟨rfl,rfl,rfl,by decide +kernel,rfl,by decide +kernel,by decide +kernel⟩
theorem ok8:DfOk (glOf 0 ds++cs) d8:=⟨sc8,rfl,rfl,.inl (by kernel_rfl)⟩
theorem sc9:FnScope d9.N d9.ps (ak d9.st):=⟨rfl,rfl,rfl,by decide +kernel,rfl,by decide +kernel,by decide +kernel⟩
theorem ok9:DfOk (glOf 0 ds++cs) d9:=⟨sc9,rfl,rfl,.inl (by kernel_rfl)⟩
theorem sc10:FnScope d10.N d10.ps (ak d10.st):=⟨rfl,rfl,rfl,by decide +kernel,rfl,by decide +kernel,by decide +kernel⟩
theorem ok10:DfOk (glOf 0 ds++cs) d10:=⟨sc10,rfl,rfl,.inl (by kernel_rfl)⟩
theorem sc11:FnScope d11.N d11.ps (ak d11.st):=⟨rfl,rfl,rfl,by decide +kernel,rfl,by decide +kernel,by decide +kernel⟩
theorem ok11:DfOk (glOf 0 ds++cs) d11:=⟨sc11,rfl,rfl,.inl (by kernel_rfl)⟩
theorem sc12:FnScope d12.N d12.ps (ak d12.st):=⟨rfl,rfl,rfl,by decide +kernel,rfl,by decide +kernel,by decide +kernel⟩
theorem ok12:DfOk (glOf 0 ds++cs) d12:=⟨sc12,rfl,rfl,.inl (by kernel_rfl)⟩
theorem scm0:FnScope m0.N m0.ps (ak m0.st):=⟨rfl,rfl,rfl,by decide +kernel,rfl,by decide +kernel,by decide +kernel⟩
theorem okm0:DfOk (glOf 0 ds++cs) m0:=⟨scm0,rfl,rfl,.inl (by kernel_rfl)⟩
theorem bm0:bK m0:=cI rfl fun _ _ _ _ _ _ _ _=>rfl
theorem scm1:FnScope m1.N m1.ps (ak m1.st):=⟨rfl,rfl,rfl,by decide +kernel,rfl,by decide +kernel,by decide +kernel⟩
theorem okm1:DfOk (glOf 0 ds++cs) m1:=⟨scm1,rfl,rfl,.inl (by kernel_rfl)⟩
theorem bm1:bK m1:=lR rfl fun _ _ _ _ _ _ _=>rfl
theorem scm2:FnScope m2.N m2.ps (ak m2.st):=⟨rfl,rfl,rfl,by decide +kernel,rfl,by decide +kernel,by decide +kernel⟩
theorem okm2:DfOk (glOf 0 ds++cs) m2:=⟨scm2,rfl,rfl,.inl (by kernel_rfl)⟩
theorem bm2:bK m2:=lR rfl fun _ _ _ _ _ _ _=>rfl
theorem scm3:FnScope m3.N m3.ps (ak m3.st):=⟨rfl,rfl,rfl,by decide +kernel,rfl,by decide +kernel,by decide +kernel⟩
theorem okm3:DfOk (glOf 0 ds++cs) m3:=⟨scm3,rfl,rfl,.inl (by kernel_rfl)⟩
theorem bm3:bK m3:=qb rfl fun _ _ _ _ _ _ _ _ _=>rfl
theorem scm4:FnScope m4.N m4.ps (ak m4.st):=⟨rfl,rfl,rfl,by decide +kernel,rfl,by decide +kernel,by decide +kernel⟩
theorem okm4:DfOk (glOf 0 ds++cs) m4:=⟨scm4,rfl,rfl,.inl (by kernel_rfl)⟩
theorem bm4:bK m4:=cI rfl fun _ _ _ _ _ _ _ _=>rfl
theorem scm5:FnScope m5.N m5.ps (ak m5.st):=⟨rfl,rfl,rfl,by decide +kernel,rfl,by decide +kernel,by decide +kernel⟩
theorem okm5:DfOk (glOf 0 ds++cs) m5:=⟨scm5,rfl,rfl,.inl (by kernel_rfl)⟩
theorem bm5:bK m5:=BW rfl fun _ _ _ _ _ _ _ _ _ _=>rfl
theorem scm6:FnScope m6.N m6.ps (ak m6.st):=⟨rfl,rfl,rfl,by decide +kernel,rfl,by decide +kernel,by decide +kernel⟩
theorem okm6:DfOk (glOf 0 ds++cs) m6:=⟨scm6,rfl,rfl,.inl (by kernel_rfl)⟩
theorem bm6:bK m6:=qb rfl fun _ _ _ _ _ _ _ _ _=>rfl
theorem scm7:FnScope m7.N m7.ps (ak m7.st):=⟨rfl,rfl,rfl,by decide +kernel,rfl,by decide +kernel,by decide +kernel⟩
theorem okm7:DfOk (glOf 0 ds++cs) m7:=⟨scm7,rfl,rfl,.inl (by kernel_rfl)⟩
theorem bm7:bK m7:=cI rfl fun _ _ _ _ _ _ _ _=>rfl
theorem scm8:FnScope m8.N m8.ps (ak m8.st):=⟨rfl,rfl,rfl,by decide +kernel,rfl,by decide +kernel,by decide +kernel⟩
theorem okm8:DfOk (glOf 0 ds++cs) m8:=⟨scm8,rfl,rfl,.inl (by kernel_rfl)⟩
theorem bm8:bK m8:=BW rfl fun _ _ _ _ _ _ _ _ _ _=>rfl
theorem scm9:FnScope m9.N m9.ps (ak m9.st):=⟨rfl,rfl,rfl,by decide +kernel,rfl,by decide +kernel,by decide +kernel⟩
theorem okm9:DfOk (glOf 0 ds++cs) m9:=⟨scm9,rfl,rfl,.inl (by kernel_rfl)⟩
theorem bm9:bK m9:=cI rfl fun _ _ _ _ _ _ _ _=>rfl
theorem Mj:FnScope m10.N m10.ps (ak m10.st):=⟨rfl,rfl,rfl,by decide +kernel,rfl,by decide +kernel,by decide +kernel⟩
theorem Mm:DfOk (glOf 0 ds++cs) m10:=⟨Mj,rfl,rfl,.inl (by kernel_rfl)⟩
theorem bm10:bK m10:=HR rfl fun _ _ _ _ _ _ _ _ _ _ _=>rfl
theorem Nf:FnScope m11.N m11.ps (ak m11.st):=⟨rfl,rfl,rfl,by decide +kernel,rfl,by decide +kernel,by decide +kernel⟩
theorem Np:DfOk (glOf 0 ds++cs) m11:=⟨Nf,rfl,rfl,.inl (by kernel_rfl)⟩
theorem bm11:bK m11:=cI rfl fun _ _ _ _ _ _ _ _=>rfl
theorem mos:∀d∈ms,DfOk (glOf 0 ds++cs) d:=by
 intro d hd;simp only[ms,List.mem_cons,List.not_mem_nil,or_false]at hd;rcases hd with rfl | rfl | rfl | rfl | rfl | rfl | rfl | rfl | rfl | rfl | rfl | rfl
 ·exact okm0
 ·exact okm1
 ·exact okm2
 ·exact okm3
 ·exact okm4
 ·exact okm5
 ·exact okm6
 ·exact okm7
 ·exact okm8
 ·exact okm9
 ·exact Mm
 ·exact Np
theorem oks:∀d∈ds,DfOk (glOf 0 ds++cs) d:=by
 intro d hd;simp only[ds,List.mem_cons,List.not_mem_nil,or_false]at hd;rcases hd with rfl | rfl | rfl | rfl | rfl | rfl | rfl | rfl | rfl | rfl | rfl | rfl | rfl
 ·exact ok0
 ·exact ok1
 ·exact ok2
 ·exact ok3
 ·exact ok4
 ·exact ok5
 ·exact ok6
 ·exact ok7
 ·exact ok8
 ·exact ok9
 ·exact ok10
 ·exact ok11
 ·exact ok12
theorem b0:bK d0:=cI rfl fun _ _ _ _ _ _ _ _=>rfl
theorem b1:bK d1:=lR rfl fun _ _ _ _ _ _ _=>rfl
theorem b2:bK d2:=cI rfl fun _ _ _ _ _ _ _ _=>rfl
theorem b3:bK d3:=qb rfl fun _ _ _ _ _ _ _ _ _=>rfl
theorem b4:bK d4:=cI rfl fun _ _ _ _ _ _ _ _=>rfl
theorem b5:bK d5:=lR rfl fun _ _ _ _ _ _ _=>rfl
theorem b6:bK d6:=cI rfl fun _ _ _ _ _ _ _ _=>rfl
theorem b7:bK d7:=cI rfl fun _ _ _ _ _ _ _ _=>rfl
theorem b8:bK d8:=qb rfl fun _ _ _ _ _ _ _ _ _=>rfl
theorem b9:bK d9:=cI rfl fun _ _ _ _ _ _ _ _=>rfl
theorem b10:bK d10:=cI rfl fun _ _ _ _ _ _ _ _=>rfl
theorem b11:bK d11:=cI rfl fun _ _ _ _ _ _ _ _=>rfl
theorem b12:bK d12:=lR rfl fun _ _ _ _ _ _ _=>rfl
open PySem.W
noncomputable def ge(P:Params)(x:Str)(t:Tok)(v:Value):DictEntry:=⟨PyData.keyHash P x,.str x t,v⟩
noncomputable def co(a:Addr)(x:Str)(t:Nat)(l n f:Int)(r:Addr)(b:Bool)(r2:Addr)(v1 v2 v3:Value)(r3:Addr)(u:Nat):Addr×Obj:=(a,⟨.type "code",none,.fields #[.str x t,.str x (t+1),.str "/claim/cut.py" (t+2),.int l 0,.int n 0,.int 0 0,.int 0 0,.int f 0,.ref r,.bool b,.int 181 0,.ref r2,v1,v2,v3,.ref r3,.int u 0,.int l 0,.str "/claim/cut.py" (u+1)],#[]⟩)
noncomputable def fo(a:Addr)(x:Str)(i:Nat)(m:Str)(t:Tok)(c:Addr):Addr×Obj:=(a,⟨.type "function",none,.func (fnOf x x (aQ (top i)) (aH (top i)) (ak (top i)) .none .none .none (.str m t) none (.ref c) .none),#[]⟩)
noncomputable def cm(a:Addr)(x q:Str)(t:Nat)(l n f:Int)(r:Addr)(b:Bool)(r2:Addr)(v1 v2 v3:Value)(r3:Addr)(u:Nat):Addr×Obj:=(a,⟨.type "code",none,.fields #[.str x t,.str q (t+1),.str "/claim/cut.py" (t+2),.int l 0,.int n 0,.int 0 0,.int 0 0,.int f 0,.ref r,.bool b,.int 181 0,.ref r2,v1,v2,v3,.ref r3,.int u 0,.int l 0,.str "/claim/cut.py" (u+1)],#[]⟩)
noncomputable def fm(a:Addr)(x q:Str)(st:Stmt)(m:Str)(t:Tok)(c:Addr):Addr×Obj:=(a,⟨.type "function",none,.func (fnOf x q (aQ st) (aH st) (ak st) .none .none .none (.str m t) none (.ref c) .none),#[]⟩)
noncomputable def KK:Params->Frag:=fun P=>[(2,Obj.mk .none none (Data.dict #[]) #[]),(3,⟨.type "dict",none,.dict #[ge P "__name__" 165 (.str "law_sumlaw_k06_free_names" 615),ge P "__doc__" 166 .none,ge P "__package__" 167 .none,ge P "__loader__" 168 (.builtin "__main__.__loader__#opaque"),ge P "__spec__" 169 .none,ge P "__annotations__" 170 (.ref 6),ge P "__builtins__" 171 (.ref 4),ge P "__file__" 173 (.str "/claim/cut.py" 172),ge P "__cached__" 174 .none,ge P "_wall" 193 (.ref 21),ge P "with_name" 204 (.ref 28),ge P "Branch" 263 (.ref 73),ge P "Atom" 295 (.ref 99),ge P "Least" 335 (.ref 132),ge P "Rest" 386 (.ref 172),ge P "Not" 444 (.ref 219),ge P "Many" 498 (.ref 259),ge P "And" 522 (.ref 278),ge P "Or" 546 (.ref 297),ge P "Binder" 608 (.ref 344),ge P "tree_of" 614 (.ref 351),ge P "_law_cell_at" 624 (.ref 358),ge P "_law_mix" 634 (.ref 365),ge P "_law_name_by" 640 (.ref 370),ge P "_law_number" 648 (.ref 377),ge P "_law_sum_by" 654 (.ref 382),ge P "_law_atom_by" 663 (.ref 389),ge P "_law_told_by" 677 (.ref 396),ge P "_law_same" 683 (.ref 401),ge P "_law_free" 689 (.ref 406),ge P "_law_listed" 697 (.ref 413),ge P "law" 703 (.ref 418)] 32,#[]⟩),co 27 "with_name" 196 5 2 3 22 true 23 .none (.ref 24) (.ref 25) 26 202,fo 28 "with_name" 2 "sumlaw.trees" 194 27,co 350 "tree_of" 609 119 1 3 347 true 348 .none .none .none 349 612,fo 351 "tree_of" 12 "sumlaw.trees" 194 350,co 357 "_law_cell_at" 617 133 2 3 352 true 353 .none (.ref 354) (.ref 355) 356 622,fo 358 "_law_cell_at" 14 "law_sumlaw_k06_free_names" 615 357,co 364 "_law_mix" 625 137 3 3 359 true 360 .none (.ref 361) (.ref 362) 363 632,fo 365 "_law_mix" 15 "law_sumlaw_k06_free_names" 615 364,co 369 "_law_name_by" 635 141 2 3 366 true 367 .none .none .none 368 638,fo 370 "_law_name_by" 16 "law_sumlaw_k06_free_names" 615 369,co 376 "_law_number" 641 158 1 3 371 true 372 .none (.ref 373) (.ref 374) 375 646,fo 377 "_law_number" 17 "law_sumlaw_k06_free_names" 615 376,co 381 "_law_sum_by" 649 163 2 3 378 true 379 .none .none .none 380 652,fo 382 "_law_sum_by" 18 "law_sumlaw_k06_free_names" 615 381,co 388 "_law_atom_by" 655 174 2 3 383 true 384 .none (.ref 385) (.ref 386) 387 661,fo 389 "_law_atom_by" 19 "law_sumlaw_k06_free_names" 615 388,co 395 "_law_told_by" 664 181 3 3 390 true 391 .none (.ref 392) (.ref 393) 394 675,fo 396 "_law_told_by" 20 "law_sumlaw_k06_free_names" 615 395,co 400 "_law_same" 678 202 2 3 397 true 398 .none .none .none 399 681,fo 401 "_law_same" 21 "law_sumlaw_k06_free_names" 615 400,co 405 "_law_free" 684 210 2 3 402 true 403 .none .none .none 404 687,fo 406 "_law_free" 22 "law_sumlaw_k06_free_names" 615 405,co 412 "_law_listed" 690 223 2 3 407 true 408 .none (.ref 409) (.ref 410) 411 695,fo 413 "_law_listed" 23 "law_sumlaw_k06_free_names" 615 412,co 417 "law" 698 225 1 3 414 true 415 .none .none .none 416 701,fo 418 "law" 24 "law_sumlaw_k06_free_names" 615 417,cm 41 "__init__" "Branch.__init__" 217 11 2 3 36 true 37 .none (.ref 38) (.ref 39) 40 222,fm 42 "__init__" "Branch.__init__" m0.st "sumlaw.trees" 194 41,cm 48 "told" "Branch.told" 225 14 1 3 43 true 44 .none (.ref 45) (.ref 46) 47 229,fm 49 "told" "Branch.told" m1.st "sumlaw.trees" 194 48,cm 55 "loose" "Branch.loose" 232 17 1 3 50 true 51 .none (.ref 52) (.ref 53) 54 236,fm 56 "loose" "Branch.loose" m2.st "sumlaw.trees" 194 55,cm 90 "__init__" "Atom.__init__" 276 27 3 3 85 true 86 .none (.ref 87) (.ref 88) 89 282,fm 91 "__init__" "Atom.__init__" m3.st "sumlaw.trees" 194 90,cm 95 "unbound" "Atom.unbound" 285 31 2 3 92 true 93 .none .none .none 94 288,fm 96 "unbound" "Atom.unbound" m4.st "sumlaw.trees" 194 95,cm 147 "__init__" "Rest.__init__" 348 45 4 3 142 true 143 .none (.ref 144) (.ref 145) 146 355,fm 148 "__init__" "Rest.__init__" m5.st "sumlaw.trees" 194 147,cm 187 "__init__" "Not.__init__" 399 59 3 3 182 true 183 .none (.ref 184) (.ref 185) 186 405,fm 188 "__init__" "Not.__init__" m6.st "sumlaw.trees" 194 187,cm 194 "unbound" "Not.unbound" 408 63 2 3 189 true 190 .none (.ref 191) (.ref 192) 193 413,fm 195 "unbound" "Not.unbound" m7.st "sumlaw.trees" 194 194,cm 234 "__init__" "Many.__init__" 457 76 4 3 229 true 230 .none (.ref 231) (.ref 232) 233 464,fm 235 "__init__" "Many.__init__" m8.st "sumlaw.trees" 194 234,cm 241 "unbound" "Many.unbound" 467 81 2 3 236 true 237 .none (.ref 238) (.ref 239) 240 474,fm 242 "unbound" "Many.unbound" m9.st "sumlaw.trees" 194 241,cm 312 "__init__" "Binder.__init__" 559 102 5 3 307 true 308 .none (.ref 309) (.ref 310) 311 567,fm 313 "__init__" "Binder.__init__" m10.st "sumlaw.trees" 194 312,cm 319 "unbound" "Binder.unbound" 570 108 2 3 314 true 315 .none (.ref 316) (.ref 317) 318 575,fm 320 "unbound" "Binder.unbound" m11.st "sumlaw.trees" 194 319,(72,⟨.type "dict",none,.dict #[ge P "__module__" 212 (.str "sumlaw.trees" 194),ge P "__firstlineno__" 216 (.int 9 215),ge P "__init__" 224 (.ref 42),ge P "told" 231 (.ref 49),ge P "loose" 238 (.ref 56),ge P "worth" 246 (.ref 63),ge P "filled" 254 (.ref 70),ge P "__static_attributes__" 256 (.ref 71),ge P "__dict__" 258 (.ref 74),ge P "__weakref__" 260 (.ref 75),ge P "__doc__" 261 .none] 4,#[]⟩),(73,Obj.mk (.type "type") none (Data.cls (ClassData.mk "Branch" [.type "object"] [.ref 73,.type "object"] 72 "Branch" true [] [.ref 99,.ref 219,.ref 259,.ref 344] false none false)) #[none,none,Option.some (.str "Branch" 205),Option.some (.str "Branch" 213),Option.some (.builtin "object.__new__"),Option.some (.bool true)]),(74,Obj.mk (.type "getset_descriptor") none (Data.fields #[.str "__dict__" 257,.ref 73,.builtin "function.__dict__",.builtin "function.__dict__#set"]) #[]),(75,Obj.mk (.type "getset_descriptor") none (Data.fields #[.str "__weakref__" 259,.ref 73,.builtin "ExceptionGroup.__weakref__",.none]) #[]),(98,⟨.type "dict",none,.dict #[ge P "__module__" 271 (.str "sumlaw.trees" 194),ge P "__firstlineno__" 275 (.int 25 274),ge P "__init__" 284 (.ref 91),ge P "unbound" 290 (.ref 96),ge P "__static_attributes__" 292 (.ref 97),ge P "__doc__" 293 .none] 2,#[]⟩),(99,Obj.mk (.type "type") none (Data.cls (ClassData.mk "Atom" [.ref 73] [.ref 99,.ref 73,.type "object"] 98 "Atom" true [] [.ref 132,.ref 172] false none false)) #[Option.some (.ref 78),none,Option.some (.str "Atom" 264),Option.some (.str "Atom" 272),Option.some (.builtin "object.__new__"),Option.some (.bool true)]),(131,⟨.type "dict",none,.dict #[ge P "__module__" 303 (.str "sumlaw.trees" 194),ge P "__firstlineno__" 307 (.int 33 306),ge P "wording" 314 (.ref 115),ge P "holds" 322 (.ref 122),ge P "put" 331 (.ref 129),ge P "__static_attributes__" 332 (.ref 130),ge P "__doc__" 333 .none] 2,#[]⟩),(132,Obj.mk (.type "type") none (Data.cls (ClassData.mk "Least" [.ref 99] [.ref 132,.ref 99,.ref 73,.type "object"] 131 "Least" true [] [] false none false)) #[Option.some (.ref 102),none,Option.some (.str "Least" 296),Option.some (.str "Least" 304),Option.some (.builtin "object.__new__"),Option.some (.bool true)]),(171,⟨.type "dict",none,.dict #[ge P "__module__" 343 (.str "sumlaw.trees" 194),ge P "__firstlineno__" 347 (.int 43 346),ge P "__init__" 357 (.ref 148),ge P "wording" 364 (.ref 155),ge P "holds" 372 (.ref 162),ge P "put" 381 (.ref 169),ge P "__static_attributes__" 383 (.ref 170),ge P "__doc__" 384 .none] 2,#[]⟩),(172,Obj.mk (.type "type") none (Data.cls (ClassData.mk "Rest" [.ref 99] [.ref 172,.ref 99,.ref 73,.type "object"] 171 "Rest" true [] [] false none false)) #[Option.some (.ref 135),none,Option.some (.str "Rest" 336),Option.some (.str "Rest" 344),Option.some (.builtin "object.__new__"),Option.some (.bool true)]),(218,⟨.type "dict",none,.dict #[ge P "__module__" 394 (.str "sumlaw.trees" 194),ge P "__firstlineno__" 398 (.int 57 397),ge P "__init__" 407 (.ref 188),ge P "unbound" 415 (.ref 195),ge P "wording" 422 (.ref 202),ge P "holds" 430 (.ref 209),ge P "put" 439 (.ref 216),ge P "__static_attributes__" 441 (.ref 217),ge P "__doc__" 442 .none] 2,#[]⟩),(219,Obj.mk (.type "type") none (Data.cls (ClassData.mk "Not" [.ref 73] [.ref 219,.ref 73,.type "object"] 218 "Not" true [] [] false none false)) #[Option.some (.ref 175),none,Option.some (.str "Not" 387),Option.some (.str "Not" 395),Option.some (.builtin "object.__new__"),Option.some (.bool true)]),(258,⟨.type "dict",none,.dict #[ge P "__module__" 452 (.str "sumlaw.trees" 194),ge P "__firstlineno__" 456 (.int 74 455),ge P "__init__" 466 (.ref 235),ge P "unbound" 476 (.ref 242),ge P "wording" 483 (.ref 249),ge P "put" 492 (.ref 256),ge P "__static_attributes__" 495 (.ref 257),ge P "__doc__" 496 .none] 2,#[]⟩),(259,Obj.mk (.type "type") none (Data.cls (ClassData.mk "Many" [.ref 73] [.ref 259,.ref 73,.type "object"] 258 "Many" true [] [.ref 278,.ref 297] false none false)) #[Option.some (.ref 222),none,Option.some (.str "Many" 445),Option.some (.str "Many" 453),Option.some (.builtin "object.__new__"),Option.some (.bool true)]),(277,⟨.type "dict",none,.dict #[ge P "__module__" 506 (.str "sumlaw.trees" 194),ge P "__firstlineno__" 510 (.int 92 509),ge P "holds" 518 (.ref 275),ge P "__static_attributes__" 519 (.ref 276),ge P "__doc__" 520 .none] 2,#[]⟩),(278,Obj.mk (.type "type") none (Data.cls (ClassData.mk "And" [.ref 259] [.ref 278,.ref 259,.ref 73,.type "object"] 277 "And" true [] [] false none false)) #[Option.some (.ref 262),none,Option.some (.str "And" 499),Option.some (.str "And" 507),Option.some (.builtin "object.__new__"),Option.some (.bool true)]),(296,⟨.type "dict",none,.dict #[ge P "__module__" 530 (.str "sumlaw.trees" 194),ge P "__firstlineno__" 534 (.int 96 533),ge P "holds" 542 (.ref 294),ge P "__static_attributes__" 543 (.ref 295),ge P "__doc__" 544 .none] 2,#[]⟩),(297,Obj.mk (.type "type") none (Data.cls (ClassData.mk "Or" [.ref 259] [.ref 297,.ref 259,.ref 73,.type "object"] 296 "Or" true [] [] false none false)) #[Option.some (.ref 281),none,Option.some (.str "Or" 523),Option.some (.str "Or" 531),Option.some (.builtin "object.__new__"),Option.some (.bool true)]),(343,⟨.type "dict",none,.dict #[ge P "__module__" 554 (.str "sumlaw.trees" 194),ge P "__firstlineno__" 558 (.int 100 557),ge P "__init__" 569 (.ref 313),ge P "unbound" 577 (.ref 320),ge P "wording" 584 (.ref 327),ge P "holds" 592 (.ref 334),ge P "put" 601 (.ref 341),ge P "__static_attributes__" 605 (.ref 342),ge P "__doc__" 606 .none] 2,#[]⟩),(344,Obj.mk (.type "type") none (Data.cls (ClassData.mk "Binder" [.ref 73] [.ref 344,.ref 73,.type "object"] 343 "Binder" true [] [] false none false)) #[Option.some (.ref 300),none,Option.some (.str "Binder" 547),Option.some (.str "Binder" 555),Option.some (.builtin "object.__new__"),Option.some (.bool true)])]
noncomputable def Kas:List Addr:=[2,3,27,28,350,351,357,358,364,365,369,370,376,377,381,382,388,389,395,396,400,401,405,406,412,413,417,418,41,42,48,49,55,56,90,91,95,96,147,148,187,188,194,195,234,235,241,242,312,313,319,320,72,73,74,75,98,99,131,132,171,172,218,219,258,259,277,278,296,297,343,344]
theorem dk{K:Frag}{h:Heap}{mg:Str->Option Value}(d:Df)(a c:Addr)(m:Str)(t:Tok)(X:K.In h)(G:h.Ns mainGlobals mg)(hb:bK d)(n:nsIn K mainGlobals d.name=some (some (.ref a)))(l:K.lookup a=some ⟨.type "function",none,.func (fnOf d.name d.qual (aQ d.st) (aH d.st) (ak d.st) .none .none .none (.str m t) none (.ref c) .none),#[]⟩)(e:codeIn K (.ref c) d.qual=true)(k:keepIn K (.ref a)=true):DfAt K mg d:=Lf X G n l e k hb
theorem mk'{K:Frag}(d:Df)(a c:Addr)(m:Str)(t:Tok)(hb:bK d)(l:K.lookup a=some ⟨.type "function",none,.func (fnOf d.name d.qual (aQ d.st) (aH d.st) (ak d.st) .none .none .none (.str m t) none (.ref c) .none),#[]⟩)(e:codeIn K (.ref c) d.qual=true)(k:keepIn K (.ref a)=true):∃fd,Fun K d.name d.qual d.st a fd/\Binds K fd d.ps []:=N8 l e k hb
noncomputable def cts:List Addr:=[73,99,132,172,219,259,278,297,344]
noncomputable def ams:List Addr:=[42,49,56,91,96,148,188,195,235,242,313,320]
theorem all_mk{lw:PySem.W.OpenLaw}{w:World}{h:Heap}{mg:Str->Option Value}{fa:Addr}(X:(KK w.params).In h)(G:h.Ns mainGlobals mg)(hfa:mg "law"=some (.ref fa)):∃(fd:FuncData) (CT:Nat->Addr),(∀(s:Shared) (u:Value),BindsTo s fd ⟨[u],[]⟩ [("_law_script",u)])/\∀(base:Heap) (w0:Nat),FnOk lw.prog w (KK w.params) mg base CX0 (44+1) fa fd ["_law_script"] (spFn ⟨(KK w.params),CT⟩ ((orc prg w0 (44+1)).fn 12) 1):=by
 have e:=hfa.symm.trans (PySem.W.mg_of X G (show nsIn (KK w.params) mainGlobals "law"=some (some (.ref 418)) by kernel_rfl));cases e
 have hat:∀d∈ds,DfAt (KK w.params) mg d:=by
  intro d hd;simp only[ds,List.mem_cons,List.not_mem_nil,or_false]at hd;rcases hd with rfl | rfl | rfl | rfl | rfl | rfl | rfl | rfl | rfl | rfl | rfl | rfl | rfl
  ·exact dk d0 28 27 "sumlaw.trees" 194 X G b0 (by kernel_rfl) (by kernel_rfl) (by kernel_rfl) (by kernel_rfl)
  ·exact dk d1 351 350 "sumlaw.trees" 194 X G b1 (by kernel_rfl) (by kernel_rfl) (by kernel_rfl) (by kernel_rfl)
  ·exact dk d2 358 357 "law_sumlaw_k06_free_names" 615 X G b2 (by kernel_rfl) (by kernel_rfl) (by kernel_rfl) (by kernel_rfl)
  ·exact dk d3 365 364 "law_sumlaw_k06_free_names" 615 X G b3 (by kernel_rfl) (by kernel_rfl) (by kernel_rfl) (by kernel_rfl)
  ·exact dk d4 370 369 "law_sumlaw_k06_free_names" 615 X G b4 (by kernel_rfl) (by kernel_rfl) (by kernel_rfl) (by kernel_rfl)
  ·exact dk d5 377 376 "law_sumlaw_k06_free_names" 615 X G b5 (by kernel_rfl) (by kernel_rfl) (by kernel_rfl) (by kernel_rfl)
  ·exact dk d6 382 381 "law_sumlaw_k06_free_names" 615 X G b6 (by kernel_rfl) (by kernel_rfl) (by kernel_rfl) (by kernel_rfl)
  ·exact dk d7 389 388 "law_sumlaw_k06_free_names" 615 X G b7 (by kernel_rfl) (by kernel_rfl) (by kernel_rfl) (by kernel_rfl)
  ·exact dk d8 396 395 "law_sumlaw_k06_free_names" 615 X G b8 (by kernel_rfl) (by kernel_rfl) (by kernel_rfl) (by kernel_rfl)
  ·exact dk d9 401 400 "law_sumlaw_k06_free_names" 615 X G b9 (by kernel_rfl) (by kernel_rfl) (by kernel_rfl) (by kernel_rfl)
  ·exact dk d10 406 405 "law_sumlaw_k06_free_names" 615 X G b10 (by kernel_rfl) (by kernel_rfl) (by kernel_rfl) (by kernel_rfl)
  ·exact dk d11 413 412 "law_sumlaw_k06_free_names" 615 X G b11 (by kernel_rfl) (by kernel_rfl) (by kernel_rfl) (by kernel_rfl)
  ·exact dk d12 418 417 "law_sumlaw_k06_free_names" 615 X G b12 (by kernel_rfl) (by kernel_rfl) (by kernel_rfl) (by kernel_rfl)
 have hgb:∀x∈cF,(glOf 0 ds++cs).lookup x=none->mg x=none:=by
  intro x hx _;simp only[cF,List.mem_cons,List.not_mem_nil,or_false]at hx;rcases hx with rfl | rfl | rfl | rfl | rfl | rfl | rfl | rfl | rfl | rfl | rfl | rfl | rfl | rfl | rfl | rfl | rfl | rfl | rfl | rfl
  all_goals(exact PySem.W.mg_none_of X G (by kernel_rfl))
 have hcs:∀q∈cs,CsOk lw.prog w ⟨(KK w.params),ctOf cts⟩ mg q:=by
  intro q hq;simp only[cs,List.mem_cons,List.not_mem_nil,or_false]at hq;rcases hq with rfl | rfl | rfl | rfl | rfl | rfl | rfl | rfl | rfl | rfl | rfl
  all_goals(exact⟨fun d e=>(by cases e),fun ks vs e=>(by cases e)⟩)
 obtain⟨hgv,hgd⟩:=Kf (ds:=ds) hcs
 have hno:NoFn cs:=by
  intro q hq i np;simp only[cs,List.mem_cons,List.not_mem_nil,or_false]at hq;rcases hq with rfl | rfl | rfl | rfl | rfl | rfl | rfl | rfl | rfl | rfl | rfl<;>simp
 have xf:XFacts (KK w.params) mg ⟨(KK w.params),ctOf cts⟩ prg.sub (clOf (glOf 0 ds++cs)):=by
  refine Dh (fun q hq c=>?_) fun _ _=>rfl
  simp only[cs,List.mem_cons,List.not_mem_nil,or_false]at hq;rcases hq with rfl | rfl | rfl | rfl | rfl | rfl | rfl | rfl | rfl | rfl | rfl<;>simp
 have GR0:Ground lw.prog w (KK w.params) mg ⟨(KK w.params),ctOf cts⟩ prg (glOf 0 ds++cs):=⟨rfl,hgb,hgv,hgd,xf⟩
 have CF0:ClFacts (KK w.params) mg ⟨(KK w.params),ctOf cts⟩ prg (glOf 0 ds++cs) ms (fun i=>ams.getD i 0) ds.length:=by
  refine⟨Fi (P:=fun x c=>mg x=some (.ref (ctOf cts c))) fun q hq c e=>?_,fun fl f h1 h2 c h3=>?_,fun c f h=>?_,fun c m f h=>?_⟩
  ·simp only[cs,List.mem_cons,List.not_mem_nil,or_false]at hq
   rcases hq with rfl | rfl | rfl | rfl | rfl | rfl | rfl | rfl | rfl | rfl | rfl
   ·cases e
   ·cases e
   all_goals(cases e;exact PySem.W.mg_of X G (by kernel_rfl))
  ·have e:(glOf 0 ds++cs).lookup ("!f":Str)=some (.names ([[115,116,97,116,101,109,101,110,116],[116,111,116,97,108],[100,105,118,105,115,111,114],[112,97,114,116],[119,111,114,100],[112,97,114,116,115],[110,97,109,101]]:List (List Nat))):=by kernel_rfl
   rw[e]at h1;cases h1;obtain⟨j,h3⟩:=Option.isSome_iff_exists.mp h3;have h3:=gA (l:=itab) h3;simp only[itab,List.mem_cons,List.not_mem_nil,or_false,Prod.mk.injEq]at h3;rcases h3 with⟨rfl,rfl⟩ | ⟨rfl,rfl⟩ | ⟨rfl,rfl⟩ | ⟨rfl,rfl⟩ | ⟨rfl,rfl⟩ | ⟨rfl,rfl⟩ | ⟨rfl,rfl⟩ | ⟨rfl,rfl⟩ | ⟨rfl,rfl⟩
   all_goals(exact⟨bH (by kernel_rfl),eU (by kernel_rfl) _ (List.mem_map_of_mem h2)⟩)
  ·have h:=gA (l:=itab) h
   simp only[itab,List.mem_cons,List.not_mem_nil,or_false,Prod.mk.injEq]at h;rcases h with⟨rfl,rfl⟩ | ⟨rfl,rfl⟩ | ⟨rfl,rfl⟩ | ⟨rfl,rfl⟩ | ⟨rfl,rfl⟩ | ⟨rfl,rfl⟩ | ⟨rfl,rfl⟩ | ⟨rfl,rfl⟩ | ⟨rfl,rfl⟩
   ·exact⟨0,m0,rfl,rfl,mk_k (by kernel_rfl),⟨(by kernel_rfl),⟨.type "type",(by kernel_rfl),(by kernel_rfl)⟩,rfl,(by kernel_rfl)⟩⟩
   ·exact⟨3,m3,rfl,rfl,mk_k (by kernel_rfl),⟨(by kernel_rfl),⟨.type "type",(by kernel_rfl),(by kernel_rfl)⟩,rfl,(by kernel_rfl)⟩⟩
   ·exact⟨3,m3,rfl,rfl,mk_k (by kernel_rfl),⟨(by kernel_rfl),⟨.type "type",(by kernel_rfl),(by kernel_rfl)⟩,rfl,(by kernel_rfl)⟩⟩
   ·exact⟨5,m5,rfl,rfl,mk_k (by kernel_rfl),⟨(by kernel_rfl),⟨.type "type",(by kernel_rfl),(by kernel_rfl)⟩,rfl,(by kernel_rfl)⟩⟩
   ·exact⟨6,m6,rfl,rfl,mk_k (by kernel_rfl),⟨(by kernel_rfl),⟨.type "type",(by kernel_rfl),(by kernel_rfl)⟩,rfl,(by kernel_rfl)⟩⟩
   ·exact⟨8,m8,rfl,rfl,mk_k (by kernel_rfl),⟨(by kernel_rfl),⟨.type "type",(by kernel_rfl),(by kernel_rfl)⟩,rfl,(by kernel_rfl)⟩⟩
   ·exact⟨8,m8,rfl,rfl,mk_k (by kernel_rfl),⟨(by kernel_rfl),⟨.type "type",(by kernel_rfl),(by kernel_rfl)⟩,rfl,(by kernel_rfl)⟩⟩
   ·exact⟨8,m8,rfl,rfl,mk_k (by kernel_rfl),⟨(by kernel_rfl),⟨.type "type",(by kernel_rfl),(by kernel_rfl)⟩,rfl,(by kernel_rfl)⟩⟩
   ·exact⟨10,m10,rfl,rfl,mk_k (by kernel_rfl),⟨(by kernel_rfl),⟨.type "type",(by kernel_rfl),(by kernel_rfl)⟩,rfl,(by kernel_rfl)⟩⟩
  ·have h:=mQ (l:=mtab) h
   simp only[mtab,List.mem_cons,List.not_mem_nil,or_false,Prod.mk.injEq]at h;rcases h with⟨rfl,rfl,rfl⟩ | ⟨rfl,rfl,rfl⟩ | ⟨rfl,rfl,rfl⟩ | ⟨rfl,rfl,rfl⟩ | ⟨rfl,rfl,rfl⟩ | ⟨rfl,rfl,rfl⟩ | ⟨rfl,rfl,rfl⟩ | ⟨rfl,rfl,rfl⟩ | ⟨rfl,rfl,rfl⟩ | ⟨rfl,rfl,rfl⟩ | ⟨rfl,rfl,rfl⟩ | ⟨rfl,rfl,rfl⟩ | ⟨rfl,rfl,rfl⟩ | ⟨rfl,rfl,rfl⟩ | ⟨rfl,rfl,rfl⟩ | ⟨rfl,rfl,rfl⟩ | ⟨rfl,rfl,rfl⟩ | ⟨rfl,rfl,rfl⟩ | ⟨rfl,rfl,rfl⟩ | ⟨rfl,rfl,rfl⟩ | ⟨rfl,rfl,rfl⟩ | ⟨rfl,rfl,rfl⟩ | ⟨rfl,rfl,rfl⟩ | ⟨rfl,rfl,rfl⟩ | ⟨rfl,rfl,rfl⟩ | ⟨rfl,rfl,rfl⟩
   ·exact⟨1,m1,rfl,rfl,bH (by kernel_rfl),bu (by kernel_rfl)⟩
   ·exact⟨2,m2,rfl,rfl,bH (by kernel_rfl),bu (by kernel_rfl)⟩
   ·exact⟨1,m1,rfl,rfl,bH (by kernel_rfl),bu (by kernel_rfl)⟩
   ·exact⟨2,m2,rfl,rfl,bH (by kernel_rfl),bu (by kernel_rfl)⟩
   ·exact⟨4,m4,rfl,rfl,bH (by kernel_rfl),bu (by kernel_rfl)⟩
   ·exact⟨1,m1,rfl,rfl,bH (by kernel_rfl),bu (by kernel_rfl)⟩
   ·exact⟨2,m2,rfl,rfl,bH (by kernel_rfl),bu (by kernel_rfl)⟩
   ·exact⟨4,m4,rfl,rfl,bH (by kernel_rfl),bu (by kernel_rfl)⟩
   ·exact⟨1,m1,rfl,rfl,bH (by kernel_rfl),bu (by kernel_rfl)⟩
   ·exact⟨2,m2,rfl,rfl,bH (by kernel_rfl),bu (by kernel_rfl)⟩
   ·exact⟨4,m4,rfl,rfl,bH (by kernel_rfl),bu (by kernel_rfl)⟩
   ·exact⟨1,m1,rfl,rfl,bH (by kernel_rfl),bu (by kernel_rfl)⟩
   ·exact⟨2,m2,rfl,rfl,bH (by kernel_rfl),bu (by kernel_rfl)⟩
   ·exact⟨7,m7,rfl,rfl,bH (by kernel_rfl),bu (by kernel_rfl)⟩
   ·exact⟨1,m1,rfl,rfl,bH (by kernel_rfl),bu (by kernel_rfl)⟩
   ·exact⟨2,m2,rfl,rfl,bH (by kernel_rfl),bu (by kernel_rfl)⟩
   ·exact⟨9,m9,rfl,rfl,bH (by kernel_rfl),bu (by kernel_rfl)⟩
   ·exact⟨1,m1,rfl,rfl,bH (by kernel_rfl),bu (by kernel_rfl)⟩
   ·exact⟨2,m2,rfl,rfl,bH (by kernel_rfl),bu (by kernel_rfl)⟩
   ·exact⟨9,m9,rfl,rfl,bH (by kernel_rfl),bu (by kernel_rfl)⟩
   ·exact⟨1,m1,rfl,rfl,bH (by kernel_rfl),bu (by kernel_rfl)⟩
   ·exact⟨2,m2,rfl,rfl,bH (by kernel_rfl),bu (by kernel_rfl)⟩
   ·exact⟨9,m9,rfl,rfl,bH (by kernel_rfl),bu (by kernel_rfl)⟩
   ·exact⟨1,m1,rfl,rfl,bH (by kernel_rfl),bu (by kernel_rfl)⟩
   ·exact⟨2,m2,rfl,rfl,bH (by kernel_rfl),bu (by kernel_rfl)⟩
   ·exact⟨11,m11,rfl,rfl,bH (by kernel_rfl),bu (by kernel_rfl)⟩
 have hma:∀(i:Nat) (d:Df),ms[i]?=some d->∃fd,Fun (KK w.params) d.name d.qual d.st ((fun i=>ams.getD i 0) i) fd/\Binds (KK w.params) fd d.ps []:=by
  intro i d h;rcases i with _ | i
  ·cases h;exact mk' m0 42 41 "sumlaw.trees" 194 bm0 (by kernel_rfl) (by kernel_rfl) (by kernel_rfl)
  rcases i with _ | i
  ·cases h;exact mk' m1 49 48 "sumlaw.trees" 194 bm1 (by kernel_rfl) (by kernel_rfl) (by kernel_rfl)
  rcases i with _ | i
  ·cases h;exact mk' m2 56 55 "sumlaw.trees" 194 bm2 (by kernel_rfl) (by kernel_rfl) (by kernel_rfl)
  rcases i with _ | i
  ·cases h;exact mk' m3 91 90 "sumlaw.trees" 194 bm3 (by kernel_rfl) (by kernel_rfl) (by kernel_rfl)
  rcases i with _ | i
  ·cases h;exact mk' m4 96 95 "sumlaw.trees" 194 bm4 (by kernel_rfl) (by kernel_rfl) (by kernel_rfl)
  rcases i with _ | i
  ·cases h;exact mk' m5 148 147 "sumlaw.trees" 194 bm5 (by kernel_rfl) (by kernel_rfl) (by kernel_rfl)
  rcases i with _ | i
  ·cases h;exact mk' m6 188 187 "sumlaw.trees" 194 bm6 (by kernel_rfl) (by kernel_rfl) (by kernel_rfl)
  rcases i with _ | i
  ·cases h;exact mk' m7 195 194 "sumlaw.trees" 194 bm7 (by kernel_rfl) (by kernel_rfl) (by kernel_rfl)
  rcases i with _ | i
  ·cases h;exact mk' m8 235 234 "sumlaw.trees" 194 bm8 (by kernel_rfl) (by kernel_rfl) (by kernel_rfl)
  rcases i with _ | i
  ·cases h;exact mk' m9 242 241 "sumlaw.trees" 194 bm9 (by kernel_rfl) (by kernel_rfl) (by kernel_rfl)
  rcases i with _ | i
  ·cases h;exact mk' m10 313 312 "sumlaw.trees" 194 bm10 (by kernel_rfl) (by kernel_rfl) (by kernel_rfl)
  rcases i with _ | i
  ·cases h;exact mk' m11 320 319 "sumlaw.trees" 194 bm11 (by kernel_rfl) (by kernel_rfl) (by kernel_rfl)
  cases h
 refine⟨PySem.W.fnOf "law" "law" (aQ (top 24)) (aH (top 24)) (ak (top 24)) .none .none .none (.str "law_sumlaw_k06_free_names" 615) none (.ref 417) .none,ctOf cts,fun s v=>.of_eq rfl,fun base w0=>?_⟩;exact Ld (d:=d12) (i:=12) (n:=44) (W:=⟨(KK w.params),ctOf cts⟩) (p:=prg) (ds:=ds) (cs:=cs) (ms:=ms) hno GR0 rfl oks hat CF0 mos hma (lU (st:=top 24) (show(KK w.params).lookup 418=some ⟨.type "function",none,.func (fnOf "law" "law" (aQ (top 24)) (aH (top 24)) (ak (top 24)) .none .none .none (.str "law_sumlaw_k06_free_names" 615) none (.ref 417) .none),#[]⟩ by kernel_rfl) (show codeIn (KK w.params) (.ref 417) "law"=true by kernel_rfl) (by kernel_rfl)) ok12 rfl
end K06
open PySem PySem.W PyProof.Rows
namespace K06
open PySem PySem.W L2
noncomputable def Q:Program:={ PySem.Challenge.pw_sumlaw_k06_free_names with main:={ PySem.Challenge.pw_sumlaw_k06_free_names.main with body:=[0,2,3,4,5,6,7,8,9,10,11,12,14,15,16,17,18,19,20,21,22,23,24].filterMap fun i=>PySem.Challenge.pw_sumlaw_k06_free_names.main.body[i]? } }
theorem Kz:∀P,Kas=(KK P).map (·.1):=fun P=>by kernel_rfl
noncomputable def HH:Hook:=kHook KK Kas Kz
set_option maxHeartbeats 0 in
theorem left:LeftO PySem.Challenge.rw_sumlaw_k06_free_names.row.prog Q [] (fun s=>xlAt Q [] s&&recOk (RowW.records (OpenRow.toRowW PySem.Challenge.rw_sumlaw_k06_free_names.row)) s) (Hook.obs HH) (Hook.val HH) 6802 :=
 Fq (by kernel_rfl) (by kernel_rfl) (fun s=>by kernel_rfl) (fun w os=>by kernel_rfl)
end K06
set_option maxRecDepth 100000 in
set_option maxHeartbeats 0 in
theorem PySem.Challenge.cw_sumlaw_k06_free_names_holds : PySem.Challenge.rw_sumlaw_k06_free_names.Holds := by
 refine PySem.W.holds_law (by kernel_rfl) fun said=>?_
 refine PySem.W.holds_open (q:=K06.Q) (YP:=PySem.W.Hook.says K06.HH) (XP:=PySem.W.XL K06.Q []) K06.left (PySem.W.Hook.of K06.HH) (PySem.W.Hook.keeps K06.HH) (fun s e=>PySem.W.xl_of s (Bool.and_eq_true_iff.mp e).1) PySem.W.XL.keeps (by rfl) (by rfl) (by rfl) (fun s e=>PySem.W.recFacts_of (Bool.and_eq_true_iff.mp e).2) (by rfl) (by first | assumption | decide +kernel) (by decide +kernel) ⟨rfl,rfl,rfl,rfl,rfl,by decide +kernel⟩ ?hw ?hc
 case hw=>w_witness2
 case hc=>
  refine Z.walkZ (l:=PySem.Challenge.rw_sumlaw_k06_free_names) (p:=P06.prg) (n:=44+1) (i:=12) (x:="_law_script") rfl rfl ⟨rfl,by decide,by decide⟩ (fun w h Y=>PySem.W.kIn_of Y) ?F P06.pure
  case F=>
   intro w mg fa h KX G hmg;exact K06.all_mk KX G hmg
