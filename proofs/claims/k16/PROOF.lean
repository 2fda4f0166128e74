import PyProof.Rows.All
import Wide.All
import OpenK.AllK
import Wide.FinOn
import Lean
import PyProof.EqAt
import PyProof.EqKinds
import PyProof.TupleCall
import KE.KEqDict
import PyProof.Rows.SumAny
import PyProof.DictUpdate
import PyProof.RaisesDict
import PySem.Challenge.RW_sumlaw_k16_what_fits
set_option Elab.async false
set_option linter.all false
set_option maxRecDepth 100000
namespace L2
open PySem PySem.Spec PyProof.Rows
noncomputable abbrev Key:=Sum Int Str
noncomputable def j7:Key->Value->Bool
 | .inl k,v=>Value.isInt k v
 | .inr x,v=>Value.isStrOf x v
noncomputable def keyH(w:World):Key->Int
 | .inl k=>hashInt k
 | .inr x=>hashStr w x
theorem aW:∀{k:Key} {v:Value},j7 k v=true->(∃i t,k=Sum.inl i/\v=Value.int i t)\/(∃x t,k=Sum.inr x/\v=Value.str x t)
 | .inl i,v,h=>by
   obtain⟨t,e⟩:=Value.isInt_shape (k:=i) (v:=v) h;exact .inl ⟨i,t,rfl,e⟩
 | .inr x,v,h=>by
   obtain⟨t,e⟩:=Value.isStrOf_shape (x:=x) (v:=v) h;exact .inr ⟨x,t,rfl,e⟩
theorem rG(i:Int)(t:Tok):j7 (.inl i) (.int i t)=true:=by simp[j7,Value.isInt]
theorem sH(x:Str)(t:Tok):j7 (.inr x) (.str x t)=true:=by simp[j7,Value.isStrOf]
theorem Jb(a b:Int):decide ((Sum.inl a:Key)=Sum.inl b)=(a==b):=by
 by_cases e:a=b
 ·subst e;simp
 ·have h:¬(Sum.inl a:Key)=Sum.inl b:=fun q=>e (Sum.inl.inj q)
  rw[decide_eq_false h];exact(beq_eq_false_iff_ne.mpr e).symm
theorem FW(a b:Str):decide ((Sum.inr a:Key)=Sum.inr b)=decide (a=b):=by
 by_cases e:a=b
 ·subst e;simp
 ·have h:¬(Sum.inr a:Key)=Sum.inr b:=fun q=>e (Sum.inr.inj q)
  rw[decide_eq_false h,decide_eq_false e]
theorem JP(a:Int)(b:Str):decide ((Sum.inl a:Key)=Sum.inr b)=false:=decide_eq_false (fun q=>nomatch q)
theorem Fx(a:Str)(b:Int):decide ((Sum.inr a:Key)=Sum.inl b)=false:=decide_eq_false (fun q=>nomatch q)
noncomputable def bB(prog:Program)(w:World):PySem.KeyKind prog w Key where
 is:=j7
 hash:=keyH w
 inj:=fun v a b ha hb=>by
  rcases aW ha with⟨i,t,rfl,rfl⟩ | ⟨x,t,rfl,rfl⟩
  ·rcases aW hb with⟨j,u,rfl,e⟩ | ⟨y,u,rfl,e⟩
   ·injection e with e1 _;rw[e1]
   ·exact nomatch e
  ·rcases aW hb with⟨j,u,rfl,e⟩ | ⟨y,u,rfl,e⟩
   ·exact nomatch e
   ·injection e with e1 _;rw[e1]
 byValue:=fun k v h=>by
  rcases aW h with⟨i,t,rfl,rfl⟩ | ⟨x,t,rfl,rfl⟩<;>rfl
 pyHash:=fun hv h=>by
  rcases aW hv with⟨i,t,rfl,rfl⟩ | ⟨x,t,rfl,rfl⟩
  ·exact wpAny_pyHash_int h
  ·exact wpAny_pyHash_str h
 eqBool:=fun hu hv h=>by
  rcases aW hu with⟨i,t,rfl,rfl⟩ | ⟨x,t,rfl,rfl⟩
  ·rcases aW hv with⟨j,u,rfl,rfl⟩ | ⟨y,u,rfl,rfl⟩
   ·rw[Jb]at h;exact wpAny_eqBool_int h
   ·rw[JP]at h;exact SeqAt.EqAt.int_str i t y u _ _ _ _ h
  ·rcases aW hv with⟨j,u,rfl,rfl⟩ | ⟨y,u,rfl,rfl⟩
   ·rw[Fx]at h;exact SeqAt.EqAt.str_int x t j u _ _ _ _ h
   ·rw[FW]at h;exact wpAny_eqBool_str h
 «strs»:=fun k x t v h=>by
  rcases aW h with⟨i,u,rfl,e⟩ | ⟨y,u,rfl,e⟩
  ·exact nomatch e
  ·injection e with e1 _
   subst e1;cases v<;>rfl
theorem mQ(prog:Program)(w:World)(i:Int)(t:Tok):(bB prog w).is (.inl i) (.int i t)=true:=rG i t
theorem nG(prog:Program)(w:World)(x:Str)(t:Tok):(bB prog w).is (.inr x) (.str x t)=true:=sH x t
end L2
namespace L2
open PySem PySem.Spec PyProof.Rows
inductive V where
 | non | bl (b:Bool) | int (i:Int) | str (x:Str) | byt (b:Array UInt8) | flt (b:UInt64) | ref (a:Addr) | ty (n:String)
 deriving DecidableEq
noncomputable def RelV:V->Value->Prop
 | .non,u=>u=Value.none
 | .bl b,u=>u=Value.bool b
 | .int i,u=>∃t,u=Value.int i t
 | .str x,u=>∃t,u=Value.str x t
 | .byt b,u=>∃t,u=Value.bytes b t
 | .flt b,u=>∃t,u=Value.float b t
 | .ref a,u=>u=Value.ref a
 | .ty n,u=>u=Value.type n
noncomputable abbrev Vals:List V->List Value->Prop:=Paired RelV
theorem Vals.length{xs:List V}{us:List Value}(r:Vals xs us):xs.length=us.length:=Paired.length r
theorem Vals.get:∀{xs:List V} {us:List Value} {i:Nat} {x:V},Vals xs us->xs[i]?=some x->∃u,us[i]?=some u/\RelV x u
 | _,_,_,_,.nil,e=>by simp at e
 | _,_,0,_,.cons r _,e=>by simp at e;subst e;exact⟨_,rfl,r⟩
 | _,_,i+1,x,.cons _ t,e=>by
   obtain⟨u,h1,h2⟩:=Vals.get (i:=i) (x:=x) t (by simpa using e);exact⟨u,by simpa using h1,h2⟩
theorem Vals.append:∀{xs ys:List V} {us ws:List Value},Vals xs us->Vals ys ws->Vals (xs++ys) (us++ws)
 | _,_,_,_,.nil,s=>s
 | _,_,_,_,.cons r t,s=>.cons r (Vals.append t s)
theorem Vals.take:∀{xs:List V} {us:List Value} (n:Nat),Vals xs us->Vals (xs.take n) (us.take n)
 | _,_,0,_=>.nil
 | _,_,_+1,.nil=>.nil
 | _,_,n+1,.cons r t=>.cons r (Vals.take n t)
theorem Vals.drop:∀{xs:List V} {us:List Value} (n:Nat),Vals xs us->Vals (xs.drop n) (us.drop n)
 | _,_,0,r=>r
 | _,_,_+1,.nil=>.nil
 | _,_,n+1,.cons _ t=>Vals.drop n t
noncomputable def RelO:Option V->Option Value->Prop
 | some v,some u=>RelV v u
 | none,none=>True
 | _,_=>False
noncomputable def KV{κ:Type}:List (κ×V)->List (κ×Value)->Prop:=Paired fun(p:κ×V) (q:κ×Value)=>p.1=q.1/\RelV p.2 q.2
noncomputable def kV:Key->V
 | .inl i=>.int i
 | .inr x=>.str x
inductive HO where
 | lst (xs:List V)
 | tup (xs:List V)
 | dK (kvs:List (Key×V)) (ep:Nat) | dT (kvs:List (List Key×V))
 | set (S:Int->Bool) (n:Nat)
 | ins (C dx:Addr) (fs:List (Str×V))
 | own (x:Addr)
 | xd (fs:List (Str×V))
 | met (f x:Addr)
 | rng (lo hi:Int)
 | frz (o:Obj) (u:HO)
 | tbl (ps:Array Value)
 | ext (φ:Heap->Prop)
noncomputable abbrev Hp:=Addr->Option HO
noncomputable def upd(H:Hp)(a:Addr)(o:HO):Hp:=fun b=>if b=a then some o else H b
theorem bG{H:Hp}{a:Addr}{o:HO}:upd H a o a=some o:=by unfold upd;rw[if_pos rfl]
theorem aV{H:Hp}{a b:Addr}{o:HO}(h:b≠a):upd H a o b=H b:=by unfold upd;rw[if_neg h]
theorem bH{H:Hp}{a b:Addr}{o:HO}(h:H a=some o)(h':H b=none):a≠b:=by
 intro e;subst e;rw[h]at h';cases h'
section
variable(P:Program)(w:World)
noncomputable def ObjOk(H:Hp)(h:Heap)(a:Addr):HO->Prop
 | .lst xs=>xs.length<=sizeLine/\∃(its:List Value) (n:Nat),Vals xs its/\h.get? a=some { cls:=.type "list",data:=.seq its.toArray n }
 | .tup xs=>xs.length<=sizeLine/\∃its:List Value,Vals xs its/\IsTup h a its.toArray
 | .dK kvs ep=>kvs.length<=sizeLine/\(a==sysModules)=false/\∃vs,KV kvs vs/\h.DictAt (bB P w) a vs ep
 | .dT kvs=>kvs.length<=sizeLine/\(a==sysModules)=false/\∃xs:List (List Key×Addr×Value),
  Paired (fun(p:List Key×V) (q:List Key×Addr×Value)=>p.1=q.1/\H q.2.1=some (.tup (p.1.map kV))/\RelV p.2 q.2.2) kvs xs /\
  ∃o es ep,h.get? a=some o/\o.ExactDict/\o.data=.dict es ep/\es.toList=xs.map (entryOfKey (tupleKind (bB P w)))/\(xs.map (·.1)).Nodup
 | .set S n=>h.SetOf (intKind P w) a S n
 | .ins C dx fs=>H dx=some (.own a)/\fs.length<=1000/\dx≠a/\h.get? a=some (PySem.W.instObj C dx) /\
  ∃mA,h.Ns1 dx mA/\(∀f,RelO (fs.lookup f) (mA f))/\PySem.Within mA (fs.map (·.1))
 | .own _=>∃o,h.get? a=some o
 | .xd fs=>∃mA,h.Ns1 a mA/\∀f,RelO (fs.lookup f) (mA f)
 | .rng lo hi=>∃t u v,h.get? a=some { cls:=.type "range",data:=.fields #[.int lo t,.int hi u,.int 1 v] }
 | .frz o u=>h.get? a=some o/\ObjOk H h a u
 | .tbl ps=>h.get? a=some { cls:=.none,data:=.fields ps }
 | .met f x=>h.get? a=some (PySem.W.methodObj (.ref f) (.ref x))
 | .ext φ=>φ h/\(∃o,h.get? a=some o)/\∀h1 h2:Heap,φ h1->(∀o,h1.get? a=some o->h2.get? a=some o)->φ h2
noncomputable def HOk(H:Hp)(h:Heap):Prop:=∀a o,H a=some o->ObjOk P w H h a o
end
section
variable{P:Program}{w:World}{H H':Hp}{h h':Heap}{a:Addr}{o:HO}
theorem ObjOk.lt(x:ObjOk P w H h a o):a<h.objs.size:=by
 cases o with
 | lst xs=>obtain⟨_,_,_,_,e⟩:=x;exact Heap.lt_size e
 | tup xs=>obtain⟨_,_,_,p⟩:=x;exact p.lt
 | dK kvs ep=>obtain⟨_,_,_,_,o,_,e,_⟩:=x;exact Heap.lt_size e
 | dT kvs=>obtain⟨_,_,_,_,o,_,_,e,_⟩:=x;exact Heap.lt_size e
 | set S n=>obtain⟨o,_,_,_,e,_⟩:=x;exact Heap.lt_size e
 | ins C dx fs=>obtain⟨_,_,_,e,_⟩:=x;exact Heap.lt_size e
 | own y=>obtain⟨_,e⟩:=x;exact Heap.lt_size e
 | xd fs=>obtain⟨_,⟨_,_,_,e,_⟩,_⟩:=x;exact Heap.lt_size e
 | rng lo hi=>obtain⟨_,_,_,e⟩:=x;exact Heap.lt_size e
 | frz ob u=>obtain⟨e,_⟩:=x;exact Heap.lt_size e
 | tbl ps=>exact Heap.lt_size (show h.get? a=some _ from x)
 | met f y=>exact Heap.lt_size (show h.get? a=some _ from x)
 | ext φ=>obtain⟨_,⟨_,e⟩,_⟩:=x;exact Heap.lt_size e
theorem Paired.mapP{α β:Type}{F G:α->β->Prop}:∀{l₁:List α} {l₂:List β},Paired F l₁ l₂->(∀a b,F a b->G a b)->Paired G l₁ l₂
 | _,_,.nil,_=>.nil
 | _,_,.cons r t,f=>.cons (f _ _ r) (Paired.mapP t f)
theorem ObjOk.stay(x:ObjOk P w H h a o)(k:∀b u,(b=a\/H b=some (.own a))->h.get? b=some u->h'.get? b=some u)
 (ho:∀b,H b=some (.own a)->H' b=some (.own a)) (ht:∀b xs,H b=some (.tup xs)->H' b=some (.tup xs)):ObjOk P w H' h' a o:=by
 induction o with
 | lst xs=>obtain⟨z,its,n,r,e⟩:=x;exact⟨z,its,n,r,k _ _ (.inl rfl) e⟩
 | tup xs=>obtain⟨z,its,r,ob,e,c⟩:=x;exact⟨z,its,r,ob,k _ _ (.inl rfl) e,c⟩
 | dK kvs ep=>obtain⟨z,y,vs,r,ob,es,e,c⟩:=x;exact⟨z,y,vs,r,ob,es,k _ _ (.inl rfl) e,c⟩
 | dT kvs=>
   obtain⟨z,y,xs,r,ob,es,ep,e,c⟩:=x;exact⟨z,y,xs,Paired.mapP r fun p q z=>⟨z.1,ht _ _ z.2.1,z.2.2⟩,ob,es,ep,k _ _ (.inl rfl) e,c⟩
 | set S n=>obtain⟨ob,es,ep,t,e,c⟩:=x;exact⟨ob,es,ep,t,k _ _ (.inl rfl) e,c⟩
 | ins C dx fs=>
   obtain⟨d,z,ne,e,mA,⟨od,es,ep,e2,c⟩,r⟩:=x;exact⟨ho _ d,z,ne,k _ _ (.inl rfl) e,mA,⟨od,es,ep,k _ _ (.inr d) e2,c⟩,r⟩
 | own y=>obtain⟨ob,e⟩:=x;exact⟨ob,k _ _ (.inl rfl) e⟩
 | xd fs=>obtain⟨mA,⟨od,es,ep,e,c⟩,r⟩:=x;exact⟨mA,⟨od,es,ep,k _ _ (.inl rfl) e,c⟩,r⟩
 | rng lo hi=>obtain⟨t,u,v,e⟩:=x;exact⟨t,u,v,k _ _ (.inl rfl) e⟩
 | frz ob u ih=>obtain⟨e,q⟩:=x;exact⟨k _ _ (.inl rfl) e,ih q⟩
 | tbl ps=>
   have e:h.get? a=some { cls:=.none,data:=.fields ps }:=x;show h'.get? a=some { cls:=.none,data:=.fields ps };exact k a _ (.inl rfl) e
 | met f y=>
   have e:h.get? a=some (PySem.W.methodObj (.ref f) (.ref y)):=x;show h'.get? a=some (PySem.W.methodObj (.ref f) (.ref y));exact k a _ (.inl rfl) e
 | ext φ=>obtain⟨p,⟨o,e⟩,st⟩:=x;exact⟨st _ _ p fun o q=>k _ _ (.inl rfl) q,⟨o,k _ _ (.inl rfl) e⟩,st⟩
theorem HOk.lt(x:HOk P w H h)(e:H a=some o):a<h.objs.size:=(x a o e).lt
theorem HOk.fresh(x:HOk P w H h)(e:h.objs.size<=a):H a=none:=by
 cases q:H a with
 | none=>rfl
 | some u=>exact absurd (Nat.lt_of_lt_of_le (x.lt q) e) (Nat.lt_irrefl _)
theorem HOk.kept(x:HOk P w H h)(k:∀b u,h.get? b=some u->h'.get? b=some u):HOk P w H h':=fun a o e=>
 (x a o e).stay (fun b u _ q=>k b u q) (fun _ q=>q) fun _ _ q=>q
theorem HOk.laid(x:HOk P w H h)(k:∀b u,h.get? b=some u->h'.get? b=some u)(hp:h.objs.size<=a)(new:ObjOk P w (upd H a o) h' a o):HOk P w (upd H a o) h':=fun b u e=>by
 have hn:=x.fresh hp
 by_cases hb:b=a
 ·subst hb;rw[bG]at e;cases e;exact new
 ·rw[aV hb]at e
  exact(x b u e).stay (fun c v _ q=>k c v q) (fun c q=>by rw[aV (bH q hn)];exact q) fun c xs q=>by rw[aV (bH q hn)];exact q
end
noncomputable def Rd(H:Hp)(a:Addr)(u:HO):Prop:=H a=some u\/∃o,H a=some (.frz o u)
theorem Rd.ok{P:Program}{w:World}{H:Hp}{h:Heap}{a:Addr}{u:HO}(r:Rd H a u)(x:HOk P w H h):ObjOk P w H h a u:=by
 rcases r with r | ⟨o,r⟩
 ·exact x a u r
 ·obtain⟨_,q⟩:=x a _ r
  exact q
noncomputable def Mut:Option HO->Prop
 | some (.lst _)=>True
 | some (.dK _ _)=>True
 | some (.dT _)=>True
 | some (.set _ _)=>True
 | some (.ins _ _ _)=>True
 | some (.ext _)=>True
 | _=>False
section
variable{P:Program}{w:World}{H:Hp}{h h':Heap}{x e:Addr}{o':HO}
theorem HOk.write(ok:HOk P w H h)(mu:Mut (H x))(he:e=x\/H e=some (.own x))(k:∀b u,b≠e->h.get? b=some u->h'.get? b=some u)(heo:∃u,h'.get? e=some u)
 (new:ObjOk P w (upd H x o') h' x o'):HOk P w (upd H x o') h':=fun b u q=>by
 have nown:∀c y,H c=some (.own y)->c≠x:=fun c y r z=>by subst z;rw[r]at mu;exact mu
 have ntup:∀c xs,H c=some (.tup xs)->c≠x:=fun c xs r z=>by subst z;rw[r]at mu;exact mu
 by_cases hb:b=x
 ·subst hb;rw[bG]at q;cases q;exact new
 ·rw[aV hb]at q
  by_cases hbe:b=e
  ·have q':H b=some (.own x):=by
    rcases he with z | z
    ·exact absurd (hbe.trans z) hb
    ·rw[hbe];exact z
   rw[q]at q';cases q';obtain⟨v,hv⟩:=heo;exact⟨v,by rw[hbe];exact hv⟩
  ·refine(ok b u q).stay (fun c v hc r=>k c v ?_ r) (fun c r=>by rw[aV (nown c b r)];exact r) fun c xs r=>by rw[aV (ntup c xs r)];exact r
   rcases hc with rfl | hc
   ·exact hbe
   ·rintro rfl
    rcases he with z | z
    ·exact nown c b hc z
    ·rw[hc]at z;cases z;exact hb rfl
end
structure Un(fs ex:List Addr)(H H':Hp)(h h':Heap):Prop where
 keep:∀b o,h.get? b=some o->H b=none->b∉fs->b∉ex->h'.get? b=some o
 slot:∀b o,h.get? b=some o->H b=none->b∈fs->b∉ex->∃sl,h'.get? b=some { o with slots:=sl }
 free:∀b o,h.get? b=some o->H b=none->b∉ex->H' b=none
 there:∀b o,h.get? b=some o->b∉ex->∃o',h'.get? b=some o'
 tups:∀b xs,H b=some (.tup xs)->H' b=some (.tup xs)
 frzs:∀b o u,H b=some (.frz o u)->H' b=some (.frz o u)
 tbls:∀b ps,H b=some (.tbl ps)->∃more,H' b=some (.tbl (ps++more))
section
variable{fs fs' ex ex':List Addr}{H H1 H2:Hp}{h h1 h2 h':Heap}{a x e:Addr}{o:HO}
theorem Un.any(u:Un fs ex H H1 h h1){b:Addr}{ob:Obj}(q:h.get? b=some ob)(n:H b=none)(hx:b∉ex):∃sl,h1.get? b=some { ob with slots:=sl }:=by
 by_cases hb:b∈fs
 ·exact u.slot b ob q n hb hx
 ·exact⟨ob.slots,u.keep b ob q n hb hx⟩
theorem Un.kept(k:∀b u,h.get? b=some u->h'.get? b=some u):Un fs ex H H h h' :=
 ⟨fun b ob q _ _ _=>k b ob q,fun b ob q _ _ _=>⟨ob.slots,k b ob q⟩,fun _ _ _ n _=>n,fun b ob q _=>⟨ob,k b ob q⟩,fun _ _ q=>q,fun _ _ _ q=>q,fun _ ps q=>⟨#[],by rw[q];simp⟩⟩
theorem Un.refl:Un fs ex H H h h:=Un.kept fun _ _ q=>q
theorem Un.laid(k:∀b u,h.get? b=some u->h'.get? b=some u)(hp:h.objs.size<=a)(hn:H a=none):Un fs ex H (upd H a o) h h' where
 keep:=fun b u q _ _ _=>k b u q
 slot:=fun b u q _ _ _=>⟨u.slots,k b u q⟩
 free:=fun b u q n _=>by rw[aV (Nat.ne_of_lt (Nat.lt_of_lt_of_le (Heap.lt_size q) hp))];exact n
 there:=fun b u q _=>⟨u,k b u q⟩
 tups:=fun b xs q=>by rw[aV (bH q hn)];exact q
 frzs:=fun b u xs q=>by rw[aV (bH q hn)];exact q
 tbls:=fun b ps q=>⟨#[],by rw[aV (bH q hn),q];simp⟩
theorem Un.write(mu:Mut (H x))(he:e=x\/H e=some (.own x))(k:∀b u,b≠e->h.get? b=some u->h'.get? b=some u)(heo:∃u,h'.get? e=some u):Un fs ex H (upd H x o) h h':=by
 have hx:∀b,H b=none->b≠x:=fun b n z=>by subst z;rw[n]at mu;exact mu
 have hb:∀b,H b=none->b≠e:=fun b n z=>by
  subst z;rcases he with r | r
  ·exact hx b n r
  ·rw[n]at r;cases r
 have hm:∀b u,H b=some u->¬Mut (some u)->b≠x:=fun b u q nm z=>by subst z;rw[q]at mu;exact nm mu
 refine⟨fun b u q n _ _=>k b u (hb b n) q,fun b u q n _ _=>⟨u.slots,k b u (hb b n) q⟩,fun b u q n _=>by rw[aV (hx b n)];exact n,fun b u q _=>?_,
  fun b xs q=>by rw[aV (hm b _ q fun z=>z)];exact q,fun b u xs q=>by rw[aV (hm b _ q fun z=>z)];exact q,fun b ps q=>⟨#[],by rw[aV (hm b _ q fun z=>z),q];simp⟩⟩
 by_cases hbe:b=e
 ·subst hbe;exact heo
 ·exact⟨u,k b u hbe q⟩
end
noncomputable def trk(h:Heap)(H:Hp):List Addr:=(List.range h.objs.size).filter fun a=>(H a).isSome
noncomputable def hidT(h:Heap)(H:Hp):Heap:=PySem.W.hideAll h (trk h H)
theorem vy(h:Heap)(H:Hp):(hidT h H).objs.size=h.objs.size:=PySem.W.hideAll_size _ _
theorem yO{h:Heap}{H:Hp}{b:Addr}{o:Obj}(e:h.get? b=some o)(n:H b=none):(hidT h H).get? b=some o :=
 PySem.W.hideAll_get _ e fun hm=>by
  have q:(H b).isSome=true:=(List.mem_filter.mp hm).2;rw[n]at q;simp at q
theorem Bf{h:Heap}{H:Hp}{b:Addr}{o:Obj}(e:(hidT h H).get? b=some o):h.get? b=some o/\H b=none:=by
 have e':h.get? b=some o:=PySem.W.of_hideAll (trk h H) e;refine⟨e',?_⟩
 cases q:H b with
 | none=>rfl
 | some x=>
   have hm:b∈trk h H:=List.mem_filter.mpr ⟨List.mem_range.mpr (Heap.lt_size e'),by simp[q]⟩;have z:(hidT h H).get? b=none:=PySem.W.hideAll_none (trk h H) hm;rw[z]at e;cases e
end L2
namespace L2
open PySem PySem.Spec PyProof.Rows
structure Mod(K:PySem.W.Frag)(mg:Str->Option Value)(base:Heap):Prop where
 kin:K.In base
 glob:base.Ns mainGlobals mg
 blt:∃mb,base.Ns builtinsNs mb/\∀x:Str,x≠"__name__"->mb x=bootBuiltins x
 nolimit:base.NoLimit
structure Cx where
 prog:Program
 w:World
 K:PySem.W.Frag
 mg:Str->Option Value
 base:Heap
 A:Around
 N:List Str
 s₀:Shared
 H₀:Hp
 env:Env
 outer:List Env
 stack:List Env
 ex:List Addr
 fn:Str->Bool
 calm:Bool
 pn:List (Addr×Obj)
 xe:Value->Shared->Prop
noncomputable def frs(l:List Env):List Addr:=l.filterMap (·.frame)
noncomputable abbrev Cx.fs(X:Cx):List Addr:=frs X.outer
noncomputable def Vis(sc:Scope)(x:Str):Prop:=sc.names.lookup x=some .local\/sc.names.lookup x=some .cell\/sc.names.lookup x=some .free
noncomputable def Loc(sc:Scope)(x:Str):Prop:=sc.names.lookup x=some .local\/sc.names.lookup x=some .cell
noncomputable def Look(env:Env)(h:Heap)(m:Str->Option Value)(x:Str)(u:Value):Prop :=
 (env.kindOf x=some .local/\m x=some u)\/((env.kindOf x=some .cell\/env.kindOf x=some .free)/\∃c,env.cells.lookup x=some c/\h.IsCell c (some u))
structure Cx.Ok(X:Cx):Prop where
 mod:Mod X.K X.mg X.base
 kind:X.env.scope.kind=.function
 glob:X.env.globals=mainGlobals
 blt:X.env.builtins=builtinsNs
 above:X.s₀.heap.objs.size<=X.env.locals
 inj:∀x y c,X.env.cells.lookup x=some c->X.env.cells.lookup y=some c->x=y
 has:∀x,(X.env.kindOf x=some .cell\/X.env.kindOf x=some .free)->∃c,X.env.cells.lookup x=some c
 cab:∀x c,X.fn x=true->X.env.cells.lookup x=some c->X.s₀.heap.objs.size<=c
 hd:X.calm=true->X.A.handled=none
 frames:X.A.frames=some X.stack
 stk:X.stack=X.outer\/(X.stack=X.env::X.outer/\X.env.frame=some X.env.locals)
 exf:∀b∈X.ex,b≠X.env.locals/\∀x c,X.env.cells.lookup x=some c->c≠b
 bs:∀b o,X.base.get? b=some o->X.s₀.heap.get? b=some o/\X.H₀ b=none
 bsz:X.base.objs.size<=X.s₀.heap.objs.size
 noex:∀b o,X.base.get? b=some o->b∉X.ex
 exfs:∀b∈X.ex,b∉X.fs
 funs:X.s₀.heap.FunFrames X.base X.outer
 frf:∀b∈X.fs,X.H₀ b=none
structure Inv(X:Cx)(pins:List (Addr×Obj))(σ:List (Option V))(H:Hp)(s:Shared):Prop where
 ok:X.Ok
 os:s.os=X.s₀.os
 bare:AllBare s.gens
 base:Un X.fs X.ex X.H₀ H X.s₀.heap s.heap
 loc:∃m,s.heap.Ns X.env.locals m/\∀(i:Nat) (x:Str) (v:V),X.N[i]?=some x->σ[i]?=some (some v)->Vis X.env.scope x->∃u,RelV v u/\Look X.env s.heap m x u
 cell:∀x c,X.env.cells.lookup x=some c->∃v,s.heap.IsCell c v
 free:H X.env.locals=none
 freeC:∀x c,X.env.cells.lookup x=some c->H c=none
 pin:∀p∈X.pn++pins,s.heap.get? p.1=some p.2/\H p.1=none/\p.1≠X.env.locals/\p.1∉X.fs/\∀v,p.2.data≠.cell v
 hok:HOk X.prog X.w H s.heap
 len:σ.length=X.N.length
section
variable{X:Cx}{pins:List (Addr×Obj)}{σ:List (Option V)}{H H':Hp}{s:Shared}{h':Heap}
theorem Cx.Ok.nofr(ok:X.Ok){b:Addr}{o:Obj}(e:X.base.get? b=some o):b∉X.fs:=fun hb=>by
 have:=(ok.funs.mem hb).1;rw[e]at this;cases this
theorem Inv.bs(I:Inv X pins σ H s):∀b o,X.base.get? b=some o->s.heap.get? b=some o/\H b=none:=fun b o e=>
 ⟨I.base.keep b o (I.ok.bs b o e).1 (I.ok.bs b o e).2 (I.ok.nofr e) (I.ok.noex b o e),I.base.free b o (I.ok.bs b o e).1 (I.ok.bs b o e).2 (I.ok.noex b o e)⟩
theorem Inv.bk(I:Inv X pins σ H s):∀b o,X.base.get? b=some o->s.heap.get? b=some o:=fun b o e=>(I.bs b o e).1
theorem Inv.mod(I:Inv X pins σ H s):Mod X.K X.mg X.base:=I.ok.mod
theorem Inv.kIn(I:Inv X pins σ H s):X.K.In s.heap:=I.ok.mod.kin.keeps I.bk
theorem Inv.lt(I:Inv X pins σ H s):X.env.locals<s.heap.objs.size:=let⟨_,hn,_⟩:=I.loc;hn.lt
theorem Inv.sz(I:Inv X pins σ H s):X.s₀.heap.objs.size<=s.heap.objs.size:=Nat.le_trans I.ok.above (Nat.le_of_lt I.lt)
theorem Inv.nofs(I:Inv X pins σ H s){a:Addr}(h:s.heap.objs.size<=a):a∉X.fs:=fun hb=>by
 obtain⟨_,o,ho,_⟩:=I.ok.funs.mem hb;exact absurd (Nat.lt_of_lt_of_le (Heap.lt_size ho) (Nat.le_trans I.sz h)) (Nat.lt_irrefl _)
theorem Inv.cne(I:Inv X pins σ H s):∀x c,X.env.cells.lookup x=some c->c≠X.env.locals:=fun x c e z=>by
 obtain⟨v,o,ho,hd⟩:=I.cell x c e;obtain⟨m,⟨o',es,ep,ho',hd',_⟩,_⟩:=I.loc;rw[z,ho']at ho;cases ho;rw[hd']at hd;cases hd
theorem Inv.funs(I:Inv X pins σ H s):s.heap.FunFrames X.base X.outer:=by
 have all:∀(l:List Env),(∀b∈frs l,b∈X.fs)->X.s₀.heap.FunFrames X.base l->s.heap.FunFrames X.base l:=by
  intro l
  induction l with
  | nil=>intro _ _;trivial
  | cons env r ih=>
    intro hs hl;obtain⟨hk,⟨L,o,hf,hn,ho,hd⟩,hr⟩:=hl;have hL:L∈X.fs:=hs L (by unfold frs;rw[List.filterMap_cons,hf];exact List.mem_cons_self)
    obtain⟨sl,e⟩:=I.base.slot L o ho (I.ok.frf L hL) hL fun z=>I.ok.exfs L z hL
    exact⟨hk,⟨L,_,hf,hn,e,hd⟩,ih (fun b hb=>hs b (by unfold frs;rw[List.filterMap_cons,hf];exact List.mem_cons_of_mem _ hb)) hr⟩
 exact all X.outer (fun _ hb=>hb) I.ok.funs
theorem Inv.stack(I:Inv X pins σ H s):s.heap.FunFrames X.base X.stack:=by
 rcases I.ok.stk with e | ⟨e,hf⟩
 ·rw[e];exact I.funs
 ·rw[e]
  obtain⟨m,hn,_⟩:=I.loc;refine .cons (by rw[I.ok.kind];decide) hf hn ?_ I.funs;exact Heap.get?_none_of_le (Nat.le_trans I.ok.bsz I.ok.above)
theorem Inv.stkSub(I:Inv X pins σ H s):∀b∈frs X.stack,b∈X.env.locals::X.fs:=fun b hb=>by
 rcases I.ok.stk with e | ⟨e,hf⟩
 ·rw[e]at hb;exact List.mem_cons_of_mem _ hb
 ·rw[e]at hb
  unfold frs at hb;rw[List.filterMap_cons,hf]at hb;exact hb
theorem Inv.stkFree(I:Inv X pins σ H s):∀b∈frs X.stack,H b=none:=fun b hb=>by
 rcases List.mem_cons.mp (I.stkSub b hb)with e | hb
 ·rw[e];exact I.free
 ·obtain⟨_,o,ho,_⟩:=I.ok.funs.mem hb
  exact I.base.free b o ho (I.ok.frf b hb) fun z=>I.ok.exfs b z hb
theorem Inv.step{g':Array GenState}{t':Nat}{d':Drawn}{ch:List Addr}(I:Inv X pins σ H s)
 (hch:∀b∈ch,(b∈X.ex\/X.s₀.heap.objs.size<=b)/\b≠X.env.locals/\(∀x c,X.env.cells.lookup x=some c->c≠b)/\∀p∈X.pn++pins,p.1≠b)
 (keep:∀b o,b≠X.env.locals->b∉X.fs->b∉ch->s.heap.get? b=some o->H b=none->h'.get? b=some o)
 (slot:∀b o,b≠X.env.locals->b∈X.fs->b∉ch->s.heap.get? b=some o->H b=none->∃sl,h'.get? b=some { o with slots:=sl }) (free:∀b o,b∉ch->s.heap.get? b=some o->H b=none->H' b=none)
 (there:∀b o,b∉ch->s.heap.get? b=some o->∃o',h'.get? b=some o')
 (tups:∀b xs,H b=some (.tup xs)->H' b=some (.tup xs)) (frzs:∀b o u,H b=some (.frz o u)->H' b=some (.frz o u)) (tbls:∀b ps,H b=some (.tbl ps)->∃more,H' b=some (.tbl (ps++more)))
 (ns:∀m,s.heap.Ns X.env.locals m->h'.Ns X.env.locals m) (hok:HOk X.prog X.w H' h') (hg:AllBare g') :
 Inv X pins σ H' { s with heap:=h',gens:=g',drawn:=d',toks:=t' }:=by
 have neL:∀b o,X.s₀.heap.get? b=some o->b≠X.env.locals:=fun b o e=>Nat.ne_of_lt (Nat.lt_of_lt_of_le (Heap.lt_size e) I.ok.above)
 have neC:∀b o,X.s₀.heap.get? b=some o->b∉X.ex->b∉ch:=fun b o e hx hb=>by
  rcases(hch b hb).1 with z | z
  ·exact hx z
  ·exact absurd (Nat.lt_of_lt_of_le (Heap.lt_size e) z) (Nat.lt_irrefl _)
 have cellK:∀x c,X.env.cells.lookup x=some c->∀v,s.heap.IsCell c v->h'.IsCell c v:=fun x c e v ⟨o,ho,hd⟩=>by
  have nch:c∉ch:=fun z=>(hch c z).2.2.1 x c e rfl
  by_cases hc:c∈X.fs
  ·obtain⟨sl,q⟩:=slot c o (I.cne x c e) hc nch ho (I.freeC x c e)
   exact⟨_,q,hd⟩
  ·exact⟨o,keep c o (I.cne x c e) hc nch ho (I.freeC x c e),hd⟩
 refine⟨I.ok,I.os,hg,⟨fun b o e n hb hx=>?_,fun b o e n hb hx=>?_,fun b o e n hx=>?_,fun b o e hx=>?_,fun b xs e=>tups b xs (I.base.tups b xs e),fun b o xs e=>frzs b o xs (I.base.frzs b o xs e),fun b ps e=>?_⟩,?_,fun x c e=>?_,?_,fun x c e=>?_,fun p hp=>?_,hok,I.len⟩
 ·exact keep b o (neL b o e) hb (neC b o e hx) (I.base.keep b o e n hb hx) (I.base.free b o e n hx)
 ·obtain⟨sl,e1⟩:=I.base.slot b o e n hb hx
  obtain⟨sl',e2⟩:=slot b _ (neL b o e) hb (neC b o e hx) e1 (I.base.free b o e n hx);exact⟨sl',e2⟩
 ·obtain⟨o',e1⟩:=I.base.there b o e hx
  exact free b o' (neC b o e hx) e1 (I.base.free b o e n hx)
 ·obtain⟨o',e1⟩:=I.base.there b o e hx
  exact there b o' (neC b o e hx) e1
 ·obtain⟨m1,e1⟩:=I.base.tbls b ps e
  obtain⟨m2,e2⟩:=tbls b _ e1;exact⟨m1++m2,by rw[e2,Array.append_assoc]⟩
 ·obtain⟨m,hn,hl⟩:=I.loc
  refine⟨m,ns m hn,fun i x v e1 e2 e3=>?_⟩;obtain⟨u,r,l⟩:=hl i x v e1 e2 e3;refine⟨u,r,?_⟩;rcases l with l | ⟨k,c,e,z⟩
  ·exact .inl l
  ·exact .inr ⟨k,c,e,cellK x c e _ z⟩
 ·obtain⟨v,z⟩:=I.cell x c e
  exact⟨v,cellK x c e v z⟩
 ·obtain⟨m,⟨o,_,_,ho,_⟩,_⟩:=I.loc
  exact free _ o (fun z=>(hch _ z).2.1 rfl) ho I.free
 ·obtain⟨v,o,ho,hd⟩:=I.cell x c e
  exact free c o (fun z=>(hch c z).2.2.1 x c e rfl) ho (I.freeC x c e)
 ·obtain⟨e,n,ne,nf,d⟩:=I.pin p hp
  have nch:p.1∉ch:=fun z=>(hch p.1 z).2.2.2 p hp rfl
  exact⟨keep p.1 p.2 ne nf nch e n,free p.1 p.2 nch e n,ne,nf,d⟩
theorem Inv.un{t':Nat}(I:Inv X pins σ H s)(u:Un X.fs [] H H' s.heap h')(hok:HOk X.prog X.w H' h'):Inv X pins σ H' { s with heap:=h',toks:=t' }:=by
 obtain⟨m,⟨o,es,ep,ho,r⟩,_⟩:=id I.loc;obtain⟨sl,hL⟩:=u.any ho I.free (by simp)
 exact I.step (g':=s.gens) (d':=s.drawn) (ch:=[]) (fun _ z=>nomatch z) (fun b o _ hb _ e n=>u.keep b o e n hb (by simp)) (fun b o _ hb _ e n=>u.slot b o e n hb (by simp)) (fun b o _ e n=>u.free b o e n (by simp)) (fun b o _ e=>u.there b o e (by simp)) u.tups u.frzs u.tbls (fun m' hm=>by
  obtain⟨o',es',ep',ho',r'⟩:=hm;rw[ho]at ho';cases ho'
  exact⟨_,es',ep',hL,r'⟩) hok I.bare
theorem Inv.call{g':Array GenState}{t':Nat}{d':Drawn}{ch:List Addr}(I:Inv X pins σ H s)(u:Un (frs X.stack) ch H H' s.heap h')(hok:HOk X.prog X.w H' h')(hg:AllBare g')
 (hch:∀b∈ch,(b∈X.ex\/X.s₀.heap.objs.size<=b)/\b≠X.env.locals/\(∀x c,X.env.cells.lookup x=some c->c≠b)/\∀p∈X.pn++pins,p.1≠b) :
 Inv X pins σ H' { s with heap:=h',gens:=g',drawn:=d',toks:=t' }:=by
 obtain⟨m,⟨o,es,ep,ho,r⟩,_⟩:=id I.loc
 obtain⟨sl,hL⟩:=u.any ho I.free fun z=>(hch _ z).2.1 rfl
 exact I.step (ch:=ch) hch (fun b o hL hb hc e n=>u.keep b o e n (fun z=>(List.mem_cons.mp (I.stkSub b z)).elim hL hb) hc) (fun b o _ _ hc e n=>u.any e n hc) (fun b o hc e n=>u.free b o e n hc) (fun b o hc e=>u.there b o e hc) u.tups u.frzs u.tbls (fun m' hm=>by
  obtain⟨o',es',ep',ho',r'⟩:=hm;rw[ho]at ho';cases ho'
  exact⟨_,es',ep',hL,r'⟩) hok hg
theorem Inv.turned{t':Nat}{it:Addr}(I:Inv X pins σ H s)(k:∀b o,b≠it->s.heap.get? b=some o->h'.get? b=some o)(hn:H it=none)(hL:it≠X.env.locals)
 (h1:it∈X.ex\/X.s₀.heap.objs.size<=it) (h2:∀x c,X.env.cells.lookup x=some c->c≠it) (h3:∀p∈X.pn++pins,p.1≠it):Inv X pins σ H { s with heap:=h',toks:=t' }:=by
 have nit:∀b u,H b=some u->b≠it:=fun b u e z=>by rw[z,hn]at e;cases e
 refine I.step (g':=s.gens) (d':=s.drawn) (ch:=[it]) (fun b hb=>?_) (fun b o _ _ hc e _=>k b o (fun z=>hc (by simp[z])) e) (fun b o _ _ hc e _=>⟨o.slots,k b o (fun z=>hc (by simp[z])) e⟩) (fun _ _ _ _ n=>n)
  (fun b o hc e=>⟨o,k b o (fun z=>hc (by simp[z])) e⟩) (fun _ _ e=>e) (fun _ _ _ e=>e) (fun b ps e=>⟨#[],by rw[e];simp⟩) (fun m hm=>?_) (fun b u e=>?_) I.bare
 ·have e:b=it:=by simpa using hb
  subst e;exact⟨h1,hL,h2,h3⟩
 ·obtain⟨o,es,ep,ho,r⟩:=hm
  exact⟨o,es,ep,k _ o (Ne.symm hL) ho,r⟩
 ·refine(I.hok b u e).stay (fun c v hc q=>k c v ?_ q) (fun _ q=>q) fun _ _ q=>q
  rcases hc with z | z
  ·rw[z];exact nit b u e
  ·exact nit c _ z
theorem Inv.tok(I:Inv X pins σ H s)(t:Nat):Inv X pins σ H { s with toks:=t }:=I.un (h':=s.heap) (t':=t) Un.refl I.hok
theorem Inv.kept{t':Nat}(I:Inv X pins σ H s)(k:∀b u,s.heap.get? b=some u->h'.get? b=some u):Inv X pins σ H { s with heap:=h',toks:=t' }:=I.un (Un.kept k) (I.hok.kept k)
theorem Inv.laid{a:Addr}{o:HO}{t':Nat}(I:Inv X pins σ H s)(k:∀b u,s.heap.get? b=some u->h'.get? b=some u)(hp:s.heap.objs.size<=a)(new:ObjOk X.prog X.w (upd H a o) h' a o) :
 Inv X pins σ (upd H a o) { s with heap:=h',toks:=t' }:=I.un (Un.laid k hp (I.hok.fresh hp)) (I.hok.laid k hp new)
theorem Inv.write{x e:Addr}{o:HO}{t':Nat}(I:Inv X pins σ H s)(mu:Mut (H x))(he:e=x\/H e=some (.own x))(k:∀b u,b≠e->s.heap.get? b=some u->h'.get? b=some u)(heo:∃u,h'.get? e=some u)
 (new:ObjOk X.prog X.w (upd H x o) h' x o):Inv X pins σ (upd H x o) { s with heap:=h',toks:=t' }:=I.un (Un.write mu he k heo) (I.hok.write mu he k heo new)
theorem Inv.pins_of{pins':List (Addr×Obj)}(I:Inv X pins σ H s)(h:∀p∈pins',s.heap.get? p.1=some p.2/\H p.1=none/\p.1≠X.env.locals/\p.1∉X.fs/\∀v,p.2.data≠.cell v):Inv X pins' σ H s :=
 ⟨I.ok,I.os,I.bare,I.base,I.loc,I.cell,I.free,I.freeC,fun p hp=>(List.mem_append.mp hp).elim (fun z=>I.pin p (List.mem_append_left _ z)) (h p),I.hok,I.len⟩
theorem pU{N:List Str}(hN:N.Nodup){i j:Nat}{x:Str}(a:N[i]?=some x)(b:N[j]?=some x):i=j:=by
 obtain⟨h1,e1⟩:=List.getElem?_eq_some_iff.mp a;obtain⟨h2,e2⟩:=List.getElem?_eq_some_iff.mp b;exact(List.getElem_inj hN).mp (e1.trans e2.symm)
theorem kY{M:Model}{A:Around}{E:Value->Shared->Prop}{i:Nat}{x:Str}{v:V}{u:Value}{Q:Unit->Shared->Prop}(I:Inv X pins σ H s)(hN:X.N.Nodup)(hi:X.N[i]?=some x)(hx:Loc X.env.scope x)(r:RelV v u)
 (h:∀s',Inv X pins (σ.set i (some v)) H s'->(∃a,Heap.SameBut a s.heap s'.heap/\(a=X.env.locals\/X.env.cells.lookup x=some a))->Q () s') (hf:X.fn x=true\/X.env.scope.names.lookup x=some .local:=by first | exact .inl rfl | exact .inr rfl | assumption):wpAny M A (storeName X.env x u) Q E s:=by
 obtain⟨m,hn,hl⟩:=id I.loc
 have hcls:(X.env.scope.kind==.class||(X.env.scope.kind==.module&&X.env.locals !=X.env.globals))=false:=by rw[I.ok.kind];rfl
 have hiσ:i<σ.length:=by rw[I.len];exact(List.getElem?_eq_some_iff.mp hi).1
 have cne:=I.cne
 have tracked:∀{a:Addr} {h':Heap},(∃o,s.heap.get? a=some o/\H a=none)->Heap.SameBut a s.heap h'->HOk X.prog X.w H h':=fun{a h'} ha hs b ob e=>by
  obtain⟨_,_,hfree⟩:=ha
  refine(I.hok b ob e).stay (fun c w' hc q=>(hs.2 c ?_).trans q) (fun _ q=>q) fun _ _ q=>q
  rintro rfl
  rcases hc with rfl | hc
  ·rw[hfree]at e;cases e
  ·rw[hfree]at hc;cases hc
 rcases hx with hk | hk
 ·refine wpAny_storeName_local hk hn (fun h' hn' hs=>?_) hcls
  obtain⟨oL,_,_,hoL,_⟩:=id hn;refine h _ ⟨I.ok,I.os,I.bare,⟨fun b o e n hb hx=>?_,fun b o e n hb hx=>?_,I.base.free,fun b o e hx=>?_,I.base.tups,I.base.frzs,I.base.tbls⟩,⟨_,hn',fun j y v' e1 e2 e3=>?_⟩,fun y c e=>?_,I.free,I.freeC,fun p hp=>?_,tracked ⟨oL,hoL,I.free⟩ hs,by simpa using I.len⟩ ⟨_,hs,.inl rfl⟩
  ·exact(hs.2 b (Nat.ne_of_lt (Nat.lt_of_lt_of_le (Heap.lt_size e) I.ok.above))).trans (I.base.keep b o e n hb hx)
  ·obtain⟨sl,e1⟩:=I.base.slot b o e n hb hx
   exact⟨sl,(hs.2 b (Nat.ne_of_lt (Nat.lt_of_lt_of_le (Heap.lt_size e) I.ok.above))).trans e1⟩
  ·obtain⟨o',e1⟩:=I.base.there b o e hx
   exact⟨o',(hs.2 b (Nat.ne_of_lt (Nat.lt_of_lt_of_le (Heap.lt_size e) I.ok.above))).trans e1⟩
  ·by_cases hj:j=i
   ·subst hj
    rw[hi]at e1;cases e1;rw[List.getElem?_set_self hiσ]at e2;cases e2;exact⟨u,r,.inl ⟨hk,by simp⟩⟩
   ·rw[List.getElem?_set_ne (Ne.symm hj)]at e2
    obtain⟨u',r',q⟩:=hl j y v' e1 e2 e3;refine⟨u',r',?_⟩;rcases q with⟨k,e⟩ | ⟨k,c,e,z⟩
    ·refine .inl ⟨k,?_⟩
     have:y≠x:=fun e=>hj (pU hN e1 (e▸hi))
     simp[this,e]
    ·exact .inr ⟨k,c,e,z.sameBut hs (cne y c e)⟩
  ·obtain⟨w',z⟩:=I.cell y c e
   exact⟨w',z.sameBut hs (cne y c e)⟩
  ·obtain⟨e,n,ne,nf,d⟩:=I.pin p hp
   exact⟨(hs.2 p.1 ne).trans e,n,ne,nf,d⟩
 ·have hfn:X.fn x=true:=by
   rcases hf with z | z
   ·exact z
   ·rw[z]at hk;cases hk
  obtain⟨c,hc⟩:=I.ok.has x (.inl hk);obtain⟨w',z⟩:=I.cell x c hc;refine wpAny_storeName_cell I.ok.kind hk hc z (fun h' hc' hs=>?_);obtain⟨oc,hoc,hocd⟩:=id z;refine h { s with heap:=h' } ⟨I.ok,I.os,I.bare,⟨fun b o e n hb hx=>?_,fun b o e n hb hx=>?_,I.base.free,fun b o e hx=>?_,I.base.tups,I.base.frzs,I.base.tbls⟩,⟨m,hn.sameBut hs (Ne.symm (cne x c hc)),fun j y v' e1 e2 e3=>?_⟩,fun y c' e=>?_,I.free,I.freeC,fun p hp=>?_,tracked ⟨oc,hoc,I.freeC x c hc⟩ hs,by simpa using I.len⟩ ⟨c,hs,.inr hc⟩
  ·exact(hs.2 b (Nat.ne_of_lt (Nat.lt_of_lt_of_le (Heap.lt_size e) (I.ok.cab x c hfn hc)))).trans (I.base.keep b o e n hb hx)
  ·obtain⟨sl,e1⟩:=I.base.slot b o e n hb hx
   exact⟨sl,(hs.2 b (Nat.ne_of_lt (Nat.lt_of_lt_of_le (Heap.lt_size e) (I.ok.cab x c hfn hc)))).trans e1⟩
  ·obtain⟨o',e1⟩:=I.base.there b o e hx
   exact⟨o',(hs.2 b (Nat.ne_of_lt (Nat.lt_of_lt_of_le (Heap.lt_size e) (I.ok.cab x c hfn hc)))).trans e1⟩
  ·by_cases hj:j=i
   ·subst hj
    rw[hi]at e1;cases e1;rw[List.getElem?_set_self hiσ]at e2;cases e2;exact⟨u,r,.inr ⟨.inl hk,c,hc,hc'⟩⟩
   ·rw[List.getElem?_set_ne (Ne.symm hj)]at e2
    obtain⟨u',r',q⟩:=hl j y v' e1 e2 e3;refine⟨u',r',?_⟩;rcases q with q | ⟨k,c',e,z'⟩
    ·exact .inl q
    ·refine .inr ⟨k,c',e,z'.sameBut hs ?_⟩
     rintro rfl
     exact hj (pU hN e1 (I.ok.inj _ _ _ e hc▸hi))
  ·by_cases hcc:c'=c
   ·subst hcc;exact⟨_,hc'⟩
   ·obtain⟨w2,z2⟩:=I.cell y c' e
    exact⟨w2,z2.sameBut hs hcc⟩
  ·obtain⟨e,n,ne,nf,d⟩:=I.pin p hp
   refine⟨(hs.2 p.1 ?_).trans e,n,ne,nf,d⟩;intro q;rw[q,hoc]at e;have q':oc=p.2:=Option.some.inj e;exact d w' (by rw[<-q'];exact hocd)
theorem oX{M:Model}{A:Around}{E:Value->Shared->Prop}{i:Nat}{x:Str}{v:V}{u:Value}{Q:Unit->Shared->Prop}(I:Inv X pins σ H s)(hN:X.N.Nodup)(hi:X.N[i]?=some x)(hx:Loc X.env.scope x)(r:RelV v u)
 (h:∀s',Inv X pins (σ.set i (some v)) H s'->Q () s') (hf:X.fn x=true\/X.env.scope.names.lookup x=some .local:=by first | exact .inl rfl | exact .inr rfl | assumption):wpAny M A (storeName X.env x u) Q E s :=
 kY I hN hi hx r (fun s' I' _=>h s' I') hf
end
noncomputable abbrev XK:=Value->Option Addr->Hp->Prop
noncomputable abbrev St:=List (Option V)
noncomputable abbrev VK:=V->Hp->Prop
noncomputable abbrev TE:=St->Hp->VK->Prop
noncomputable abbrev TT:=St->Hp->(Bool->Hp->Prop)->Prop
noncomputable abbrev TA:=St->Hp->(List V->Hp->Prop)->Prop
structure Ends where
 nx:St->Hp->Prop
 rt:VK
 bk:St->Hp->Prop:=fun _ _=>False
 ct:St->Hp->Prop:=fun _ _=>False
noncomputable abbrev TS:=Ends->St->Hp->Prop
noncomputable def EP(X:Cx)(pins:List (Addr×Obj))(σ:St)(Q:VK)(u:Value)(s':Shared):Prop:=∃v H',Inv X pins σ H' s'/\RelV v u/\Q v H'
noncomputable def TP(X:Cx)(pins:List (Addr×Obj))(σ:St)(Q:Bool->Hp->Prop)(b:Bool)(s':Shared):Prop:=∃H',Inv X pins σ H' s'/\Q b H'
noncomputable def AP(X:Cx)(pins:List (Addr×Obj))(σ:St)(Q:List V->Hp->Prop)(us:List Value)(s':Shared):Prop:=∃vs H',Inv X pins σ H' s'/\Vals vs us/\Q vs H'
noncomputable def SP(X:Cx)(pins:List (Addr×Obj))(D:Ends)(f:Flow)(s':Shared):Prop :=
 match f with
 | .next=>∃σ' H',Inv X pins σ' H' s'/\D.nx σ' H'
 | .brk=>∃σ' H',Inv X pins σ' H' s'/\D.bk σ' H'
 | .cont=>∃σ' H',Inv X pins σ' H' s'/\D.ct σ' H'
 | .ret u=>∃v σ' H',Inv X pins σ' H' s'/\RelV v u/\D.rt v H'
noncomputable def PE(X:Cx)(e:Expr)(t:TE):Prop :=
 ∀(pins:List (Addr×Obj)) (s:Shared) (σ:St) (H:Hp) (Q:VK),Inv X pins σ H s->t σ H Q->wpAny (model X.prog X.w) X.A (eval e X.env) (EP X pins σ Q) X.xe s
noncomputable def PT(X:Cx)(e:Expr)(t:TT):Prop :=
 ∀(pins:List (Addr×Obj)) (s:Shared) (σ:St) (H:Hp) (Q:Bool->Hp->Prop),Inv X pins σ H s->t σ H Q->wpAny (model X.prog X.w) X.A (isTrue e X.env (eval e X.env)) (TP X pins σ Q) X.xe s
noncomputable def PW(X:Cx)(e:Expr)(t:TT):Prop :=
 ∀(whole:Sem Value) (pins:List (Addr×Obj)) (s:Shared) (σ:St) (H:Hp) (Q:Bool->Hp->Prop),Inv X pins σ H s->t σ H Q->wpAny (model X.prog X.w) X.A (isTrue e X.env whole) (TP X pins σ Q) X.xe s
theorem PW.pt{X:Cx}{e:Expr}{t:TT}(h:PW X e t):PT X e t:=h _
noncomputable def PA(X:Cx)(es:List Expr)(t:TA):Prop :=
 ∀(pos:Pos) (pins:List (Addr×Obj)) (s:Shared) (σ:St) (H:Hp) (Q:List V->Hp->Prop),Inv X pins σ H s->t σ H Q->wpAny (model X.prog X.w) X.A (spliced (backTo pos (starEach es X.env))) (AP X pins σ Q) X.xe s
noncomputable def PS(X:Cx)(st:Stmt)(t:TS):Prop :=
 ∀(pins:List (Addr×Obj)) (s:Shared) (σ:St) (H:Hp) (D:Ends),Inv X pins σ H s->t D σ H->wpAny (model X.prog X.w) X.A (exec st X.env) (SP X pins D) X.xe s
noncomputable def PSs(X:Cx)(st:List Stmt)(t:TS):Prop :=
 ∀(pins:List (Addr×Obj)) (s:Shared) (σ:St) (H:Hp) (D:Ends),Inv X pins σ H s->t D σ H->wpAny (model X.prog X.w) X.A (execs st X.env) (SP X pins D) X.xe s
theorem thn{α:Type}{t:Sem α}{Q Q':α->Shared->Prop}{M:Model}{A:Around}{E:Value->Shared->Prop}{s:Shared}(h:wpAny M A t Q E s)(hQ:∀a s,Q a s->Q' a s):wpAny M A t Q' E s:=wpAny_mono h hQ fun _ _ x=>x
end L2
namespace L2
open PySem PySem.Spec PyProof.Rows
section
variable{X:Cx}
noncomputable def tVar(i:Nat):TE:=fun σ H Q=>∃v,σ[i]?=some (some v)/\Q v H
noncomputable def tC(v:V):TE:=fun _ H Q=>Q v H
theorem pH{i:Nat}{x:Str}{pos:Pos}(hN:X.N[i]?=some x)(hv:Vis X.env.scope x)(hd:(x==("__debug__":Str))=false:=by decide)(hcd:(x==("__classdict__":Str))=false:=by decide):PE X (.Name x pos) (tVar i):=by
 intro pins s σ H Q I h;obtain⟨v,e,h⟩:=h;obtain⟨m,hn,hl⟩:=I.loc;obtain⟨u,r,l⟩:=hl i x v hN e hv
 have fin:EP X pins σ Q u s:=⟨v,H,I,r,h⟩
 rcases l with⟨hk,hm⟩ | ⟨hk,c,hc,hcell⟩
 ·exact wpAny_Name (wpAny_loadName_local I.ok.kind hk hn hm fin) hd
 ·rcases hk with hk | hk
  ·exact wpAny_Name (wpAny_loadName_cell I.ok.kind hk hc hcell fin) hd
  ·exact wpAny_Name (wpAny_loadName_free I.ok.kind hk hc hcell fin hcd) hd
theorem Hl{i j pos}:PE X (.Constant (.int i) j pos) (tC (.int i)):=fun _ _ _ H _ I h=>wpAny_Constant_int ⟨.int i,H,I.tok _,⟨_,rfl⟩,h⟩
theorem K4{b j pos}:PE X (.Constant (.bool b) j pos) (tC (.bl b)):=fun _ _ _ H _ I h=>Constant_bool ⟨.bl b,H,I,rfl,h⟩
theorem Ju{j pos}:PE X (.Constant .none j pos) (tC .non):=fun _ _ _ H _ I h=>Constant_none ⟨.non,H,I,rfl,h⟩
theorem GP{x j pos}:PE X (.Constant (.str x) j pos) (tC (.str x)):=fun _ _ _ H _ I h=>Calls.Constant_str ⟨.str x,H,I.tok _,⟨_,rfl⟩,h⟩
noncomputable def Gl(X:Cx)(x:Str):Prop:=X.env.kindOf x=some .globalImplicit
theorem jR{E:Value->Shared->Prop}{pins:List (Addr×Obj)}{s:Shared}{σ:St}{H:Hp}{x:Str}{u:Value}{pos:Pos}{Q:Value->Shared->Prop}(I:Inv X pins σ H s)(hg:Gl X x)(hm:X.mg x=some u)(h:Q u s)
 (hd:(x==("__debug__":Str))=false:=by decide):wpAny (model X.prog X.w) X.A (eval (.Name x pos) X.env) Q E s :=
 Calls.Name_function_global I.ok.kind hg (Calls.loadGlobal_global (by rw[I.ok.glob];exact I.mod.glob.keeps I.bk) hm h) hd
theorem jd{E:Value->Shared->Prop}{pins:List (Addr×Obj)}{s:Shared}{σ:St}{H:Hp}{x:Str}{u:Value}{pos:Pos}{Q:Value->Shared->Prop}(I:Inv X pins σ H s)(hg:Gl X x)(hm:X.mg x=none)(hv:bootBuiltins x=some u)(h:Q u s)
 (hn:x≠"__name__":=by decide) (hd:(x==("__debug__":Str))=false:=by decide):wpAny (model X.prog X.w) X.A (eval (.Name x pos) X.env) Q E s:=by
 obtain⟨mb,h1,h2⟩:=I.mod.blt;exact Calls.Name_function_global I.ok.kind hg (Calls.loadGlobal_builtin (by rw[I.ok.glob];exact I.mod.glob.keeps I.bk) hm (by rw[I.ok.blt];exact h1.keeps I.bk) ((h2 x hn).trans hv) h) hd
theorem Ck{x:Str}{v:V}{u:Value}{pos:Pos}(hg:Gl X x)(hm:X.mg x=some u)(r:RelV v u)(hd:(x==("__debug__":Str))=false:=by decide):PE X (.Name x pos) (tC v) :=
 fun _ _ _ H _ I h=>jR I hg hm ⟨v,H,I,r,h⟩ hd
theorem Ex{x:Str}{v:V}{u:Value}{pos:Pos}(hg:Gl X x)(hm:X.mg x=none)(hv:bootBuiltins x=some u)(r:RelV v u)(hn:x≠"__name__":=by decide)(hd:(x==("__debug__":Str))=false:=by decide):PE X (.Name x pos) (tC v) :=
 fun _ _ _ H _ I h=>jd I hg hm hv ⟨v,H,I,r,h⟩ hn hd
variable{a b:Expr}{ta tb:TE}{pos:Pos}
noncomputable def PC(X:Cx)(op:CmpOp)(a b:Expr)(t:TE):Prop :=
 ∀(pins:List (Addr×Obj)) (s:Shared) (σ:St) (H:Hp) (Q:VK),Inv X pins σ H s->t σ H Q ->
  wpAny (model X.prog X.w) X.A (eval a X.env) (fun v s₁=>wpAny (model X.prog X.w) X.A (eval b X.env) (fun u s₂=>wpAny (model X.prog X.w) X.A (compareOp op v u) (EP X pins σ Q) X.xe s₂) X.xe s₁) X.xe s
noncomputable def tB(t:TE):TT:=fun σ H Q=>t σ H fun x H1=>∃c,x=.bl c/\Q c H1
theorem sG{op:CmpOp}{t:TE}(h:PC X op a b t)(h1:behindInMarks op b=false:=by first | exact nobehind _ (by decide) (by decide) | rfl):PE X (.Compare a [op] [b] pos) t:=fun pins s σ H Q I hw=>wpAny_Compare1 (h pins s σ H Q I hw) h1
theorem uL{op:CmpOp}{t:TE}(h:PC X op a b t)(h1:behindInMarks op b=false:=by first | exact nobehind _ (by decide) (by decide) | rfl):PT X (.Compare a [op] [b] pos) (tB t):=by
 intro pins s σ H Q I hw;refine wpAny_isTrue_Compare1 (thn (h pins s σ H _ I hw) fun v s1 h1=>thn h1 fun u s2 h2=>thn h2 fun c s3 ⟨x,H1,I1,r1,q1⟩=>?_) h1;obtain⟨d,rfl,q⟩:=q1;cases r1;exact wpAny_truthy_bool ⟨H1,I1,q⟩
variable{tA tB':TT}{rest:List Expr}
noncomputable def tAnd(t u:TT):TT:=fun σ H Q=>t σ H fun c H1=>if c=true then u σ H1 Q else Q false H1
noncomputable def tOr(t u:TT):TT:=fun σ H Q=>t σ H fun c H1=>if c=true then Q true H1 else u σ H1 Q
noncomputable def tNot(t:TT):TT:=fun σ H Q=>t σ H fun c H1=>Q (!c) H1
theorem BL(ha:PT X a tA):PW X (.BoolOp .And [a] pos) tA:=by
 intro wh pins s σ H Q I h;refine isTrue_and (thn (ha pins s σ H Q I h) fun c s1 e=>?_)
 cases c with
 | true=>exact isTrue_and_nil e
 | false=>exact e
theorem Ji(ha:PT X a tA):PW X (.BoolOp .Or [a] pos) tA:=by
 intro wh pins s σ H Q I h;refine isTrue_or (thn (ha pins s σ H Q I h) fun c s1 e=>?_)
 cases c with
 | false=>exact isTrue_or_nil e
 | true=>exact e
theorem Jc(ha:PT X a tA)(hb:PW X (.BoolOp .And (b::rest) pos) tB'):PW X (.BoolOp .And (a::b::rest) pos) (tAnd tA tB'):=by
 intro wh pins s σ H Q I h;refine isTrue_and (thn (ha pins s σ H _ I h) fun c s1 ⟨H1,I1,q1⟩=>?_)
 cases c with
 | true=>exact hb wh pins s1 σ H1 Q I1 q1
 | false=>exact⟨H1,I1,q1⟩
theorem KY(ha:PT X a tA)(hb:PW X (.BoolOp .Or (b::rest) pos) tB'):PW X (.BoolOp .Or (a::b::rest) pos) (tOr tA tB'):=by
 intro wh pins s σ H Q I h;refine isTrue_or (thn (ha pins s σ H _ I h) fun c s1 ⟨H1,I1,q1⟩=>?_)
 cases c with
 | true=>exact⟨H1,I1,q1⟩
 | false=>exact hb wh pins s1 σ H1 Q I1 q1
theorem Ga(ha:PT X a tA):PT X (.UnaryOp .Not a pos) (tNot tA):=by
 intro pins s σ H Q I h;exact isTrue_not (ha pins s σ H (fun c H1=>Q (!c) H1) I h)
noncomputable def Kl(ta tb:TE):TE:=fun σ H Q=>ta σ H fun x H1=>∃c,x=.bl c/\if c=true then tb σ H1 Q else Q (.bl false) H1
noncomputable def tOrV(ta tb:TE):TE:=fun σ H Q=>ta σ H fun x H1=>∃c,x=.bl c/\if c=true then Q (.bl true) H1 else tb σ H1 Q
theorem Jg{op}{t:TE}(h:PE X a t):PE X (.BoolOp op [a] pos) t:=fun pins s σ H Q I hw=>BoolOp_one (h pins s σ H Q I hw)
theorem Iz(ha:PE X a ta)(hb:PE X (.BoolOp .And (b::rest) pos) tb):PE X (.BoolOp .And (a::b::rest) pos) (Kl ta tb):=by
 intro pins s σ H Q I h;refine BoolOp_and (thn (ha pins s σ H _ I h) fun v s1 ⟨x,H1,I1,r1,q1⟩=>?_);obtain⟨c,rfl,q1⟩:=q1;cases r1;refine wpAny_truthy_bool ?_
 cases c with
 | true=>exact hb pins s1 σ H1 Q I1 q1
 | false=>exact⟨.bl false,H1,I1,rfl,q1⟩
theorem Ls(ha:PE X a ta)(hb:PE X (.BoolOp .Or (b::rest) pos) tb):PE X (.BoolOp .Or (a::b::rest) pos) (tOrV ta tb):=by
 intro pins s σ H Q I h;refine BoolOp_or (thn (ha pins s σ H _ I h) fun v s1 ⟨x,H1,I1,r1,q1⟩=>?_);obtain⟨c,rfl,q1⟩:=q1;cases r1;refine wpAny_truthy_bool ?_
 cases c with
 | false=>exact hb pins s1 σ H1 Q I1 q1
 | true=>exact⟨.bl true,H1,I1,rfl,q1⟩
noncomputable def tIf(t:TT)(ta tb:TE):TE:=fun σ H Q=>t σ H fun c H1=>if c=true then ta σ H1 Q else tb σ H1 Q
theorem wA{c:Expr}(hc:PT X c tA)(ha:PE X a ta)(hb:PE X b tb):PE X (.IfExp c a b pos) (tIf tA ta tb):=by
 intro pins s σ H Q I h;refine wpAny_IfExp (thn (hc pins s σ H _ I h) fun d s1 ⟨H1,I1,q1⟩=>?_)
 cases d with
 | true=>exact ha pins s1 σ H1 Q I1 q1
 | false=>exact hb pins s1 σ H1 Q I1 q1
end
end L2
namespace L2
open PySem PySem.Spec PyProof.Rows
noncomputable def SqL(K:PySem.W.Frag)(H:Hp)(a:Addr)(xs:List V):Prop :=
 Rd H a (.lst xs) \/
  ∃(o:Obj) (its:Array Value) (n:Nat),K.lookup a=some o/\o.cls=.type "list"/\o.dict=none/\o.data=.seq its n/\its.size<=sizeLine/\Vals xs its.toList
noncomputable def SqT(K:PySem.W.Frag)(H:Hp)(a:Addr)(xs:List V):Prop :=
 Rd H a (.tup xs) \/
  ∃(o:Obj) (its:Array Value) (n:Nat),K.lookup a=some o/\o.cls=.type "tuple"/\o.data=.seq its n/\its.size<=sizeLine/\Vals xs its.toList
noncomputable def absV:Value->Option V
 | .none=>some .non
 | .bool b=>some (.bl b)
 | .int i _=>some (.int i)
 | .str x _=>some (.str x)
 | .bytes b _=>some (.byt b)
 | .float b _=>some (.flt b)
 | .ref a=>some (.ref a)
 | .type n=>some (.ty n)
 | _=>none
theorem RelV.abs{x:V}{u:Value}(r:RelV x u):absV u=some x:=by
 cases x with
 | non=>cases r;rfl
 | bl _=>cases r;rfl
 | int _=>obtain⟨t,rfl⟩:=r;rfl
 | str _=>obtain⟨t,rfl⟩:=r;rfl
 | byt _=>obtain⟨t,rfl⟩:=r;rfl
 | flt _=>obtain⟨t,rfl⟩:=r;rfl
 | ref _=>cases r;rfl
 | ty _=>cases r;rfl
theorem RelV.inj{x y:V}{u:Value}(r:RelV x u)(q:RelV y u):x=y:=Option.some.inj (r.abs.symm.trans q.abs)
theorem Vals.inj:∀{xs ys:List V} {us:List Value},Vals xs us->Vals ys us->xs=ys
 | _,_,_,.nil,.nil=>rfl
 | _,_,_,.cons r t,.cons r' t'=>by rw[r.inj r',Vals.inj t t']
section
variable{X:Cx}{pins:List (Addr×Obj)}{σ:St}{H:Hp}{s:Shared}{a:Addr}{xs ys:List V}
theorem SqL.of{K:PySem.W.Frag}(h:H a=some (.lst xs)):SqL K H a xs:=.inl (.inl h)
theorem Inv.list(I:Inv X pins σ H s)(h:SqL X.K H a xs):∃its:List Value,Vals xs its/\PlainL s.heap a its.toArray/\xs.length<=sizeLine:=by
 rcases h with h | ⟨o,its,n,hk,hc,hd,hs,hz,r⟩
 ·obtain⟨z,its,n,r,e⟩:=h.ok I.hok
  exact⟨its,r,⟨_,n,e,rfl,rfl,rfl⟩,z⟩
 ·refine⟨its.toList,r,⟨o,n,I.kIn a o hk,hc,hd,by simpa using hs⟩,?_⟩
  have e:=r.length;simp only[Array.length_toList]at e;omega
theorem Inv.tuple(I:Inv X pins σ H s)(h:SqT X.K H a xs):∃its:List Value,Vals xs its/\IsTup s.heap a its.toArray/\xs.length<=sizeLine:=by
 rcases h with h | ⟨o,its,n,hk,hc,hs,hz,r⟩
 ·obtain⟨z,its,r,p⟩:=h.ok I.hok
  exact⟨its,r,p,z⟩
 ·refine⟨its.toList,r,⟨o,I.kIn a o hk,hc,n,by simpa using hs⟩,?_⟩
  have e:=r.length;simp only[Array.length_toList]at e;omega
theorem Inv.list_inj(I:Inv X pins σ H s)(h:SqL X.K H a xs)(h':SqL X.K H a ys):xs=ys:=by
 obtain⟨its,r,⟨o,n,e,_,_,d⟩,_⟩:=I.list h;obtain⟨its',r',⟨o',n',e',_,_,d'⟩,_⟩:=I.list h';rw[e]at e';cases e';rw[d]at d';injection d' with d1 _
 have:its=its':=by simpa using congrArg Array.toList d1
 subst this;exact r.inj r'
theorem Inv.tuple_inj(I:Inv X pins σ H s)(h:SqT X.K H a xs)(h':SqT X.K H a ys):xs=ys:=by
 obtain⟨its,r,⟨o,e,_,n,d⟩,_⟩:=I.tuple h;obtain⟨its',r',⟨o',e',_,n',d'⟩,_⟩:=I.tuple h';rw[e]at e';cases e';rw[d]at d';injection d' with d1 _
 have:its=its':=by simpa using congrArg Array.toList d1
 subst this;exact r.inj r'
end
noncomputable abbrev Cx.wish(X:Cx)(E:Value->Shared->Prop):Cx:={ X with xe:=E }
noncomputable abbrev Cx.nox(X:Cx):Cx:=X.wish fun _ _=>False
theorem Cx.Ok.wish{X:Cx}(ok:X.Ok)(E:Value->Shared->Prop):(X.wish E).Ok :=
 ⟨ok.mod,ok.kind,ok.glob,ok.blt,ok.above,ok.inj,ok.has,ok.cab,ok.hd,ok.frames,ok.stk,ok.exf,ok.bs,ok.bsz,ok.noex,ok.exfs,ok.funs,ok.frf⟩
theorem Cx.Ok.unwish{X:Cx}{E:Value->Shared->Prop}(ok:(X.wish E).Ok):X.Ok :=
 ⟨ok.mod,ok.kind,ok.glob,ok.blt,ok.above,ok.inj,ok.has,ok.cab,ok.hd,ok.frames,ok.stk,ok.exf,ok.bs,ok.bsz,ok.noex,ok.exfs,ok.funs,ok.frf⟩
section
variable{X:Cx}{pins:List (Addr×Obj)}{σ:St}{H:Hp}{s:Shared}{E:Value->Shared->Prop}
theorem Inv.wish(I:Inv X pins σ H s)(E:Value->Shared->Prop):Inv (X.wish E) pins σ H s:=⟨I.ok.wish E,I.os,I.bare,I.base,I.loc,I.cell,I.free,I.freeC,I.pin,I.hok,I.len⟩
theorem Inv.unwish(I:Inv (X.wish E) pins σ H s):Inv X pins σ H s:=⟨I.ok.unwish,I.os,I.bare,I.base,I.loc,I.cell,I.free,I.freeC,I.pin,I.hok,I.len⟩
theorem SP.unwish{D:Ends}{f:Flow}{s':Shared}(h:SP (X.wish E) pins D f s'):SP X pins D f s':=by
 cases f with
 | next=>obtain⟨σ',H',I,q⟩:=h;exact⟨σ',H',I.unwish,q⟩
 | brk=>obtain⟨σ',H',I,q⟩:=h;exact⟨σ',H',I.unwish,q⟩
 | cont=>obtain⟨σ',H',I,q⟩:=h;exact⟨σ',H',I.unwish,q⟩
 | ret u=>obtain⟨v,σ',H',I,r,q⟩:=h;exact⟨v,σ',H',I.unwish,r,q⟩
theorem PE.nox{e:Expr}{t:TE}(h:PE X.nox e t):PE X e t:=fun pins s σ H Q I hw=>
 wpAny_mono (h pins s σ H Q (I.wish _) hw) (fun _ _ ⟨v,H',I',r,q⟩=>⟨v,H',I'.unwish,r,q⟩) fun _ _ z=>False.elim z
theorem PT.nox{e:Expr}{t:TT}(h:PT X.nox e t):PT X e t:=fun pins s σ H Q I hw=>
 wpAny_mono (h pins s σ H Q (I.wish _) hw) (fun _ _ ⟨H',I',q⟩=>⟨H',I'.unwish,q⟩) fun _ _ z=>False.elim z
theorem PSs.nox{st:List Stmt}{t:TS}(h:PSs X.nox st t):PSs X st t:=fun pins s σ H D I hw=>
 wpAny_mono (h pins s σ H D (I.wish _) hw) (fun _ _ q=>q.unwish) fun _ _ z=>False.elim z
end
section
variable{X:Cx}{st:Stmt}{rest:List Stmt}{t u:TS}{e:Expr}{te:TE}{pos:Pos}
noncomputable def Gq:TS:=fun D σ H=>D.nx σ H
noncomputable def tSeq(t u:TS):TS:=fun D σ H=>t { D with nx:=u D } σ H
theorem Dk:PSs X [] Gq:=fun _ _ σ H _ I h=>wpAny_execs_nil ⟨σ,H,I,h⟩
theorem xr(h1:PS X st t)(h2:PSs X rest u):PSs X (st::rest) (tSeq t u):=by
 intro pins s σ H D I h;refine wpAny_execs_cons (thn (h1 pins s σ H { D with nx:=u D } I h) fun f s1 q=>?_)
 cases f with
 | next=>
   obtain⟨σ',H',I',q⟩:=q;exact h2 pins s1 σ' H' D I' q
 | ret v=>exact q
 | brk=>exact q
 | cont=>exact q
noncomputable def Fy:TS:=fun D σ H=>D.bk σ H
noncomputable def Lh:TS:=fun D σ H=>D.ct σ H
theorem Ds:PS X (.Pass pos) Gq:=fun _ _ σ H _ I h=>wpAny_Pass ⟨σ,H,I,h⟩
theorem yS:PS X (.Break pos) Fy:=fun _ _ σ H _ I h=>wpAny_Break ⟨σ,H,I,h⟩
theorem n6:PS X (.Continue pos) Lh:=fun _ _ σ H _ I h=>wpAny_Continue ⟨σ,H,I,h⟩
theorem Inv.quiet{pins:List (Addr×Obj)}{σ:St}{H:Hp}{s:Shared}(I:Inv X pins σ H s):interactive X.env=false:=by simp[interactive,I.ok.kind]
noncomputable def Mg(te:TE):TS:=fun D σ H=>te σ H fun _ H1=>D.nx σ H1
theorem tZ(he:PE X e te)(hs:swapsWith e none pos.line X.env=pure false:=by rfl):PS X (.Expr e pos) (Mg te):=by
 intro pins s σ H D I h;exact wpAny_Expr_any (thn (he pins s σ H _ I h) fun v s1 ⟨x,H1,I1,r1,q1⟩=>⟨σ,H1,I1,q1⟩) I.quiet hs
noncomputable def tRet(te:TE):TS:=fun D σ H=>te σ H D.rt
theorem zx(he:PE X e te):PS X (.Return (some e) pos) (tRet te):=by
 intro pins s σ H D I h;exact wpAny_Return_some (thn (he pins s σ H _ I h) fun v s1 ⟨x,H1,I1,r1,q1⟩=>⟨x,σ,H1,I1,r1,q1⟩)
noncomputable def Ld:TS:=fun D _ H=>D.rt .non H
theorem Ej:PS X (.Return none pos) Ld:=fun _ _ σ H _ I h=>wpAny_Return_none ⟨.non,σ,H,I,rfl,h⟩
noncomputable def tIfS(c:TT)(t u:TS):TS:=fun D σ H=>c σ H fun b H1=>if b=true then t D σ H1 else u D σ H1
theorem G8{c:Expr}{a b:List Stmt}{tc:TT}(hc:PT X c tc)(ha:PSs X a t)(hb:PSs X b u):PS X (.If c a b pos) (tIfS tc t u):=by
 intro pins s σ H D I h;refine wpAny_If (thn (hc pins s σ H _ I h) fun d s1 ⟨H1,I1,q1⟩=>?_)
 cases d with
 | true=>exact ha pins s1 σ H1 D I1 q1
 | false=>exact hb pins s1 σ H1 D I1 q1
end
noncomputable abbrev TG:=V->St->Hp->(St->Hp->Prop)->Prop
noncomputable abbrev TGs:=List V->St->Hp->(St->Hp->Prop)->Prop
noncomputable def PG(X:Cx)(target:Expr)(t:TG):Prop :=
 ∀(pins:List (Addr×Obj)) (s:Shared) (σ:St) (H:Hp) (v:V) (u:Value) (Q:St->Hp->Prop),Inv X pins σ H s->RelV v u->t v σ H Q ->
  wpAny (model X.prog X.w) X.A (assign target X.env u) (fun _ s'=>∃σ' H',Inv X pins σ' H' s'/\Q σ' H') X.xe s
noncomputable def PGs(X:Cx)(ts:List Expr)(t:TGs):Prop :=
 ∀(pins:List (Addr×Obj)) (s:Shared) (σ:St) (H:Hp) (vs:List V) (us:List Value) (Q:St->Hp->Prop),Inv X pins σ H s->Vals vs us->t vs σ H Q ->
  wpAny (model X.prog X.w) X.A (assignInOrder ((assignEach ts X.env).map (·.2)) us) (fun _ s'=>∃σ' H',Inv X pins σ' H' s'/\Q σ' H') X.xe s
section
variable{X:Cx}{pos:Pos}
noncomputable def qY(i:Nat):TG:=fun v σ H Q=>Q (σ.set i (some v)) H
theorem jK{i:Nat}{x:Str}(hN:X.N.Nodup)(hi:X.N[i]?=some x)(hx:Loc X.env.scope x)(hf:X.fn x=true\/X.env.scope.names.lookup x=some .local:=by first | exact .inl rfl | exact .inr rfl | assumption):PG X (.Name x pos) (qY i):=by
 intro pins s σ H v u Q I r h;exact wpAny_assign_Name (oX I hN hi hx r (fun s' I'=>⟨_,H,I',h⟩) hf)
noncomputable def gNil:TGs:=fun vs σ H Q=>vs=[]/\Q σ H
noncomputable def Ge(t:TG)(u:TGs):TGs:=fun vs σ H Q=>∃v r,vs=v::r/\t v σ H fun σ' H'=>u r σ' H' Q
theorem uN:PGs X [] gNil:=by
 intro pins s σ H vs us Q I r h;obtain⟨e,h⟩:=h;subst e;cases r;exact assignInOrder_nil ⟨σ,H,I,h⟩
theorem p7{e:Expr}{es:List Expr}{t:TG}{u:TGs}(h1:PG X e t)(h2:PGs X es u)
 (hs:(assignEach (e::es) X.env).map (·.2)=assign e X.env::(assignEach es X.env).map (·.2):=by rfl):PGs X (e::es) (Ge t u):=by
 intro pins s σ H vs us Q I r h;obtain⟨v,vr,e1,h⟩:=h;subst e1
 cases r with
 | cons r rr=>
   rw[hs];refine assignInOrder_cons (thn (h1 pins s σ H _ _ _ I r h) fun _ s1 ⟨σ1,H1,I1,q1⟩=>?_);exact h2 pins s1 σ1 H1 _ _ Q I1 rr q1
noncomputable def gTup(K:PySem.W.Frag)(n:Nat)(t:TGs):TG:=fun v σ H Q=>∃a xs,v=.ref a/\SqT K H a xs/\xs.length=n/\t xs σ H Q
theorem zg{es:List Expr}{k:Nat}{t:TGs}{n:Nat}(hc:X.calm=true)(h:PGs X es t)
 (hn:(assignEach es X.env).length=n:=by rfl) (hst:(assignEach es X.env).findIdx? (·.1)=none:=by rfl):PG X (.Tuple es k pos) (gTup X.K n t):=by
 intro pins s σ H v u Q I r hw;obtain⟨a,xs,e1,hq,hl,hw⟩:=hw;subst e1;cases r;obtain⟨its,rv,ht,hz⟩:=I.tuple hq
 refine assign_Tuple_tuple (I.ok.hd hc) ht (by simp[hn,<-hl,rv.length]) hst fun h' hx=>?_
 have I1:Inv X pins σ H { s with heap:=h' }:=I.kept (t':=s.toks) fun b o e=>hx b o (Nat.ne_of_lt (Heap.lt_size e)) e
 exact h pins _ σ H xs _ Q I1 (by simpa using rv) hw
noncomputable def tAsg(te:TE)(g:TG):TS:=fun D σ H=>te σ H fun x H1=>g x σ H1 D.nx
theorem Fv{i:Nat}{x:Str}{e:Expr}{te:TE}{pos':Pos}(hN:X.N.Nodup)(hi:X.N[i]?=some x)(hx:Loc X.env.scope x)(he:PE X e te)(hs:swapsWith e (some (.Name x pos')) pos.line X.env=pure false:=by rfl)(hf:X.fn x=true\/X.env.scope.names.lookup x=some .local:=by first | exact .inl rfl | exact .inr rfl | assumption) :
 PS X (.Assign [.Name x pos'] e pos) (tAsg te (qY i)):=by
 intro pins s σ H D I h;refine wpAny_Assign_Name (thn (he pins s σ H _ I h) fun v s1 ⟨y,H1,I1,r1,q1⟩=>?_) hs;exact oX I1 hN hi hx r1 (fun s2 I2=>⟨_,H1,I2,q1⟩) hf
end
section
variable{X:Cx}{pos:Pos}
noncomputable def HD(c:TT)(tb:TS):TS:=fun D σ H=>∃W:Nat->St->Hp->Prop,(∃m,W m σ H)/\∀m σ H,W m σ H ->
 c σ H fun b H1=>if b=true then ∃N:St->Hp->Prop,(∀σ' H',N σ' H'->∃m',m'<m/\W m' σ' H')/\tb { D with nx:=N,ct:=N,bk:=D.nx } σ H1 else D.nx σ H1
theorem yh{c:Expr}{body:List Stmt}{tc:TT}{tb:TS}(hp:PassesOwn (model X.prog X.w) X.A X.env X.xe)(hc:PT X c tc)(hb:PSs X body tb):PS X (.While c body [] pos) (HD tc tb):=by
 intro pins s σ H D I h;obtain⟨W,⟨m0,w0⟩,turn⟩:=h;refine wpAny_While (codeAny_whileLoop (fun n s'=>∃σ' H',Inv X pins σ' H' s'/\W n σ' H') ?_ m0 ⟨σ,H,I,w0⟩)
 rintro n s1 ⟨σ1,H1,I1,w1⟩
 refine wpAny_passesOwn hp (thn (hc pins s1 σ1 H1 _ I1 (turn n σ1 H1 w1)) fun b s2 ⟨H2,I2,q2⟩=>?_)
 cases b with
 | true=>
   obtain⟨N,hN,q2⟩:=q2;rw[if_pos rfl];refine wpAny_passesOwn hp (thn (hb pins s2 σ1 H2 _ I2 q2) fun f s3 q3=>?_)
   cases f with
   | next=>
     obtain⟨σ3,H3,I3,n3⟩:=q3;obtain⟨m',hm,w3⟩:=hN σ3 H3 n3;exact⟨m',hm,σ3,H3,I3,w3⟩
   | cont=>
     obtain⟨σ3,H3,I3,n3⟩:=q3;obtain⟨m',hm,w3⟩:=hN σ3 H3 n3;exact⟨m',hm,σ3,H3,I3,w3⟩
   | brk=>exact q3
   | ret v=>exact q3
 | false=>
   rw[if_neg Bool.false_ne_true];exact wpAny_execs_nil ⟨σ1,H2,I2,q2⟩
end
structure It where
 go:Nat->Hp->Prop
 yld:Nat->Hp->V->Hp->Prop
 stop:Nat->Hp->Prop
noncomputable def FpOk(X:Cx)(pins:List (Addr×Obj))(H:Hp)(b:Addr):Prop :=
 H b=none/\b≠X.env.locals/\b∉X.fs/\(b∈X.ex\/X.s₀.heap.objs.size<=b)/\(∀x c,X.env.cells.lookup x=some c->c≠b)/\∀p∈X.pn++pins,p.1≠b
theorem Inv.fpOk{X:Cx}{pins:List (Addr×Obj)}{σ:St}{H H':Hp}{s:Shared}{b:Addr}(I:Inv X pins σ H s)(hb:s.heap.objs.size<=b)(hn:H' b=none):FpOk X pins H' b:=by
 refine⟨hn,Nat.ne_of_gt (Nat.lt_of_lt_of_le I.lt hb),I.nofs hb,.inr (Nat.le_trans I.sz hb),fun x c e z=>?_,fun p hp z=>?_⟩
 ·obtain⟨v,q⟩:=I.cell x c e
  exact absurd (Nat.lt_of_lt_of_le q.lt (by rw[z];exact hb)) (Nat.lt_irrefl _)
 ·exact absurd (Nat.lt_of_lt_of_le (Heap.lt_size (I.pin p hp).1) (by rw[z];exact hb)) (Nat.lt_irrefl _)
structure Turn(P:Program)(w:World)(K:PySem.W.Frag)(tg:Expr)(J:It)(fp:List Addr)(it:Addr)(tn:Nat->Heap->Prop):Prop where
 mem:it∈fp
 obj:∀i h,tn i h->∀b∈fp,∃o,h.get? b=some o/\∀v,o.data≠.cell v
 keep:∀i h h',tn i h->(∀b∈fp,∀o,h.get? b=some o->h'.get? b=some o)->tn i h'
 item:∀(X:Cx),X.prog=P->X.w=w->X.K=K->X.calm=true->∀(i:Nat) (pins:List (Addr×Obj)) (s:Shared) (σ:St) (H:Hp) (E:Value->Shared->Prop),Inv X pins σ H s->(∀b∈fp,FpOk X pins H b)->tn i s.heap->J.go i H ->
  wpAny (model P w) X.A (pyNext (.ref it)) (fun r s1=>∃u,r=some u /\
   wpAny (model P w) X.A (letOwnedTupleGo tg (.ref it) u) (fun _ s2=>∃x H',Inv X pins σ H' s2/\RelV x u/\J.yld i H x H'/\tn (i+1) s2.heap/\∀b∈fp,H' b=none) E s1) E s
 done:∀(X:Cx),X.prog=P->X.w=w->X.K=K->X.calm=true->∀(i:Nat) (pins:List (Addr×Obj)) (s:Shared) (σ:St) (H:Hp) (E:Value->Shared->Prop),Inv X pins σ H s->(∀b∈fp,FpOk X pins H b)->tn i s.heap->J.stop i H ->
  wpAny (model P w) X.A (pyNext (.ref it)) (fun r s1=>r=none/\Inv X pins σ H s1) E s
 self:∀(A:Around) (i:Nat) (s:Shared) (Q:Value->Shared->Prop) (E:Value->Shared->Prop),tn i s.heap->Q (.ref it) s->wpAny (model P w) A (pyIter (.ref it)) Q E s
noncomputable abbrev TI:=St->Hp->(It->Hp->Prop)->Prop
noncomputable def PIE(X:Cx)(pins:List (Addr×Obj))(σ:St)(tg:Expr)(R:It->Hp->Prop)(itv:Value)(s2:Shared):Prop :=
 ∃(it:Addr) (fp:List Addr) (tn:Nat->Heap->Prop) (J:It) (H':Hp),itv=.ref it/\Inv X pins σ H' s2/\Turn X.prog X.w X.K tg J fp it tn/\tn 0 s2.heap/\(∀b∈fp,FpOk X pins H' b)/\R J H'
noncomputable def PI(X:Cx)(tg iter:Expr)(wi:TI):Prop :=
 ∀(pins:List (Addr×Obj)) (s:Shared) (σ:St) (H:Hp) (R:It->Hp->Prop),Inv X pins σ H s->wi σ H R ->
  wpAny (model X.prog X.w) X.A (eval iter X.env) (fun v s1=>wpAny (model X.prog X.w) X.A (pyIter v) (PIE X pins σ tg R) X.xe s1) X.xe s
theorem uh{M:Model}{A:Around}{E:Value->Shared->Prop}{s:Shared}{tg:Expr}{it:Addr}{u:Value}{o:Obj}{n:String}{vs:Array Value}{Q:Unit->Shared->Prop}(ho:s.heap.get? it=some o)(hc:o.cls=.type n)(hd:o.data=.fields vs)
 (hn:["enumerate","zip","dict_itemiterator","dict_reverseitemiterator","odict_iterator","itertools.zip_longest","itertools.pairwise"].contains n=false) (hQ:Q () s):wpAny M A (letOwnedTupleGo tg (.ref it) u) Q E s:=by
 unfold letOwnedTupleGo
 cases tg<;>first
  | exact wpAny_pure hQ
  | (cases u<;>first
   | exact wpAny_pure hQ
   | (refine wpAny_bind (wpAny_load ho ?_)
      rw[hc,hd];show wpAny M A (if(["enumerate","zip","dict_itemiterator","dict_reverseitemiterator","odict_iterator","itertools.zip_longest","itertools.pairwise"].contains n&&vs[0]?==some (rawInt _))=true then _ else _) Q E s;rw[if_neg (by intro h;rw[hn,Bool.false_and]at h;cases h)]
      exact wpAny_pure hQ))
noncomputable def Itl(K:PySem.W.Frag)(a:Addr):It :=
 ⟨fun i H=>∃xs x,SqL K H a xs/\xs[i]?=some x,fun i H x H'=>H'=H/\∀xs,SqL K H a xs->xs[i]?=some x,fun i H=>∃xs,SqL K H a xs/\xs.length<=i⟩
noncomputable def Itt(K:PySem.W.Frag)(a:Addr):It :=
 ⟨fun i H=>∃xs x,SqT K H a xs/\xs[i]?=some x,fun i H x H'=>H'=H/\∀xs,SqT K H a xs->xs[i]?=some x,fun i H=>∃xs,SqT K H a xs/\xs.length<=i⟩
noncomputable def Itr(lo:Int)(n:Nat):It:=⟨fun i _=>i<n,fun i H x H'=>H'=H/\x=.int (lo+i),fun i _=>n<=i⟩
theorem uA{P:Program}{w:World}{K:PySem.W.Frag}{tg:Expr}(a it:Addr):Turn P w K tg (Itl K a) [it] it (fun i h=>h.IsListIter it a i)where
 mem:=by simp
 obj:=fun i h st b hb=>by
  have e:b=it:=by simpa using hb
  subst e;obtain⟨o,e,c,d⟩:=st;exact⟨o,e,fun v z=>by rw[d]at z;cases z⟩
 keep:=fun i h h' st k=>st.at fun o e=>k it (by simp) o e
 item:=by
  intro X hP hw hK hc i pins s σ H E I hf st hg;subst hP hw hK;obtain⟨xs,x,hq,hx⟩:=hg;obtain⟨its,rv,p,hz⟩:=I.list hq;obtain⟨u,hu,ru⟩:=rv.get hx;obtain⟨f0,f1,f2,f3,f4,f5⟩:=hf it (by simp)
  refine wpAny_pyNext_list_item st p.isList (x:=u) (by simpa using hu) fun h' st' sb=>?_
  have I1:Inv X pins σ H { s with heap:=h' }:=I.turned (t':=s.toks) (fun b o hb e=>(sb.2 b hb).trans e) f0 f1 f3 f4 f5;obtain⟨o,e,c,d⟩:=id st';exact⟨u,rfl,uh (s:={ s with heap:=h' }) e c d (by decide) ⟨x,H,I1,ru,⟨rfl,fun ys hy=>by rw[I.list_inj hy hq];exact hx⟩,st',fun b hb=>(hf b hb).1⟩⟩
 done:=by
  intro X hP hw hK hc i pins s σ H E I hf st hg;subst hP hw hK;obtain⟨xs,hq,hx⟩:=hg;obtain⟨its,rv,p,hz⟩:=I.list hq;obtain⟨f0,f1,f2,f3,f4,f5⟩:=hf it (by simp);have hl:=rv.length
  exact wpAny_pyNext_list_end (I.ok.hd hc) st p.isList (by simp;omega) fun h' eb=>⟨rfl,I.turned (t':=s.toks) (fun b o hb e=>eb b o hb e) f0 f1 f3 f4 f5⟩
 self:=fun _ _ _ _ _ st h=>wpAny_pyIter_listiter st h
theorem qJ{P:Program}{w:World}{K:PySem.W.Frag}{tg:Expr}(a it:Addr):Turn P w K tg (Itt K a) [it] it (fun i h=>h.IsTupleIter it a i)where
 mem:=by simp
 obj:=fun i h st b hb=>by
  have e:b=it:=by simpa using hb
  subst e;obtain⟨o,e,c,d⟩:=st;exact⟨o,e,fun v z=>by rw[d]at z;cases z⟩
 keep:=fun i h h' st k=>st.at fun o e=>k it (by simp) o e
 item:=by
  intro X hP hw hK hc i pins s σ H E I hf st hg;subst hP hw hK;obtain⟨xs,x,hq,hx⟩:=hg;obtain⟨its,rv,p,hz⟩:=I.tuple hq;obtain⟨u,hu,ru⟩:=rv.get hx;obtain⟨f0,f1,f2,f3,f4,f5⟩:=hf it (by simp)
  refine wpAny_pyNext_tuple_item st (show s.heap.IsTuple a its.toArray from p) (x:=u) (by simpa using hu) fun h' st' sb=>?_
  have I1:Inv X pins σ H { s with heap:=h' }:=I.turned (t':=s.toks) (fun b o hb e=>(sb.2 b hb).trans e) f0 f1 f3 f4 f5;obtain⟨o,e,c,d⟩:=id st';exact⟨u,rfl,uh (s:={ s with heap:=h' }) e c d (by decide) ⟨x,H,I1,ru,⟨rfl,fun ys hy=>by rw[I.tuple_inj hy hq];exact hx⟩,st',fun b hb=>(hf b hb).1⟩⟩
 done:=by
  intro X hP hw hK hc i pins s σ H E I hf st hg;subst hP hw hK;obtain⟨xs,hq,hx⟩:=hg;obtain⟨its,rv,p,hz⟩:=I.tuple hq;obtain⟨f0,f1,f2,f3,f4,f5⟩:=hf it (by simp);have hl:=rv.length
  exact wpAny_pyNext_tuple_end (I.ok.hd hc) st (show s.heap.IsTuple a its.toArray from p) (by simp;omega) fun h' eb=>⟨rfl,I.turned (t':=s.toks) (fun b o hb e=>eb b o hb e) f0 f1 f3 f4 f5⟩
 self:=fun _ _ _ _ _ st h=>wpAny_pyIter_tupleiter st h
theorem qK{P:Program}{w:World}{K:PySem.W.Frag}{tg:Expr}(it:Addr)(lo:Int)(n:Nat):Turn P w K tg (Itr lo n) [it] it (fun i h=>IsRangeIter h it (lo+(i:Nat)*1) ((n:Int)-(i:Nat)) 1)where
 mem:=by simp
 obj:=fun i h st b hb=>by
  have e:b=it:=by simpa using hb
  subst e
  exact⟨_,st,fun v z=>by
   have z':Data.fields _=Data.cell v:=z
   cases z'⟩
 keep:=fun i h h' st k=>k it (by simp) _ st
 item:=by
  intro X hP hw hK hc i pins s σ H E I hf st hg;subst hP hw hK;obtain⟨f0,f1,f2,f3,f4,f5⟩:=hf it (by simp);have W:=Walks.range (prog:=X.prog) (w:=X.w) (I.ok.hd hc) it lo 1 n
  refine W.item i s _ _ hg st fun v h' tk hv st' kk=>?_
  obtain⟨t,rfl⟩:=hv;have I1:Inv X pins σ H { s with heap:=h',toks:=tk }:=I.turned (fun b o hb e=>kk b o (by simpa using hb) e) f0 f1 f3 f4 f5;refine⟨_,rfl,uh (s:={ s with heap:=h',toks:=tk }) (n:="range_iterator") st' rfl rfl (by decide) ⟨.int (lo+i),H,I1,⟨t,?_⟩,⟨rfl,rfl⟩,st',fun b hb=>(hf b hb).1⟩⟩;rw[Int.mul_one]
 done:=by
  intro X hP hw hK hc i pins s σ H E I hf st hg;subst hP hw hK;obtain⟨f0,f1,f2,f3,f4,f5⟩:=hf it (by simp)
  exact wpAny_pyNext_range_end (I.ok.hd hc) st (by have:n<=i:=hg;omega) fun h' eb=>⟨rfl,I.turned (t':=s.toks) (fun b o hb e=>eb b o hb e) f0 f1 f3 f4 f5⟩
 self:=fun _ _ _ _ _ st h=>wpAny_pyIter_rangeiter st h
end L2
namespace L2
open PySem PySem.Spec PyProof.Rows
section
variable{X:Cx}{tg:Expr}
noncomputable def KD(K:PySem.W.Frag)(tl:TE):TI:=fun σ H R=>tl σ H fun x H1=>∃a,x=.ref a/\(∃xs,SqL K H1 a xs)/\R (Itl K a) H1
noncomputable def iTup(K:PySem.W.Frag)(tl:TE):TI:=fun σ H R=>tl σ H fun x H1=>∃a,x=.ref a/\(∃xs,SqT K H1 a xs)/\R (Itt K a) H1
theorem Eo{l:Expr}{tl:TE}(hl:PE X l tl):PI X tg l (KD X.K tl):=by
 intro pins s σ H R I h
 refine thn (hl pins s σ H _ I h) fun v s1 ⟨x,H1,I1,r1,q1⟩=>?_
 obtain⟨a,e,⟨xs,hq⟩,q⟩:=q1;subst e;cases r1;obtain⟨its,rv,p,hz⟩:=I1.list hq;refine wpAny_pyIter_list p.isList ?_;refine⟨s1.heap.objs.size,[s1.heap.objs.size],_,_,H1,rfl,I1.kept (t':=s1.toks) fun b o e=>Heap.get?_push_of_some _ e,uA a _,⟨_,Heap.get?_push_size _ rfl,rfl,rfl⟩,fun b hb=>?_,q⟩
 have e:b=s1.heap.objs.size:=by simpa using hb
 subst e;exact I1.fpOk (Nat.le_refl _) (I1.hok.fresh (Nat.le_refl _))
theorem GZ{l:Expr}{tl:TE}(hl:PE X l tl):PI X tg l (iTup X.K tl):=by
 intro pins s σ H R I h
 refine thn (hl pins s σ H _ I h) fun v s1 ⟨x,H1,I1,r1,q1⟩=>?_
 obtain⟨a,e,⟨xs,hq⟩,q⟩:=q1;subst e;cases r1;obtain⟨its,rv,p,hz⟩:=I1.tuple hq;refine wpAny_pyIter_tuple (show s1.heap.IsTuple a its.toArray from p) ?_;refine⟨s1.heap.objs.size,[s1.heap.objs.size],_,_,H1,rfl,I1.kept (t':=s1.toks) fun b o e=>Heap.get?_push_of_some _ e,qJ a _,⟨_,Heap.get?_push_size _ rfl,rfl,rfl⟩,fun b hb=>?_,q⟩
 have e:b=s1.heap.objs.size:=by simpa using hb
 subst e;exact I1.fpOk (Nat.le_refl _) (I1.hok.fresh (Nat.le_refl _))
theorem wK{pins:List (Addr×Obj)}{σ:St}{H:Hp}{s:Shared}{R:It->Hp->Prop}{E:Value->Shared->Prop}{lo hi:Int}{t u v:Tok}{tk:Nat}(I:Inv X pins σ H s)(h1:-(2 ^ 62)<=lo)(h2:lo<2 ^ 62)(h3:-(2 ^ 62)<=hi)(h4:hi<2 ^ 62)
 (q:R (Itr lo (hi-lo).toNat) H):wpAny (model X.prog X.w) X.A (pyIter (.ref s.heap.objs.size)) (PIE X pins σ tg R) E { s with heap:=s.heap.push { cls:=.type "range",data:=.fields #[.int lo t,.int hi u,.int 1 v] },toks:=tk }:=by
 refine wpAny_pyIter_range (IsRange.new ..) (small_one h1 h2 h3 h4) ?_
 have I1:Inv X pins σ H { s with heap:=s.heap.push { cls:=.type "range",data:=.fields #[.int lo t,.int hi u,.int 1 v] },toks:=tk }:=I.kept fun b o e=>Heap.get?_push_of_some _ e
 refine⟨(s.heap.push { cls:=.type "range",data:=.fields #[.int lo t,.int hi u,.int 1 v] }).objs.size,[(s.heap.push { cls:=.type "range",data:=.fields #[.int lo t,.int hi u,.int 1 v] }).objs.size],_,_,H,rfl,
  I1.kept (t':=tk) fun b o e=>Heap.get?_push_of_some _ e,qK _ lo (hi-lo).toNat,?_,fun b hb=>?_,q⟩
 ·have e1:lo+((0:Nat):Int)*1=lo:=by simp
  have e2:(((hi-lo).toNat:Nat):Int)-((0:Nat):Int)=Builtin.Range.rangeSize lo hi 1:=by rw[rangeSize_one];split<;>omega
  show IsRangeIter _ _ (lo+((0:Nat):Int)*1) ((((hi-lo).toNat:Nat):Int)-((0:Nat):Int)) 1;rw[e1,e2];exact Heap.get?_push_size _ rfl
 ·have e:b=(s.heap.push { cls:=.type "range",data:=.fields #[.int lo t,.int hi u,.int 1 v] }).objs.size:=by simpa using hb
  subst e;exact I1.fpOk (Nat.le_refl _) (I1.hok.fresh (Nat.le_refl _))
noncomputable def KN(ta:TA):TI:=fun σ H R=>ta σ H fun vs H1=>∃j:Int,vs=[.int j]/\-(2 ^ 62)<=j/\j<2 ^ 62/\R (Itr 0 j.toNat) H1
theorem uT{a:Expr}{ta:TA}{p pos:Pos}(hg:Gl X "range")(hm:X.mg "range"=none)(ha:PA X [a] ta)(hs:starEach [a] X.env=[(false,eval a X.env)]:=by rfl):PI X tg (.Call (.Name "range" p) [a] [] pos) (KN ta):=by
 intro pins s σ H R I h;refine Call_ (jd I hg hm boot_range (PyProof.Rows.callWith_type1 (thn (ha pos pins s σ H _ I h) fun us s1 ⟨vs,H1,I1,r1,q1⟩=>?_) hs rfl));obtain⟨j,e,q1,q2,q⟩:=q1;subst e
 cases r1 with
 | cons r rr=>
   cases rr;obtain⟨t,rfl⟩:=r;exact call_range_1 (wK I1 (by omega) (by omega) q1 q2 (by simpa using q))
noncomputable def tFor(wi:TI)(g:TG)(tb:TS):TS:=fun D σ H=>wi σ H fun J H1=>∃W:Nat->Nat->St->Hp->Prop,(∃m,W 0 m σ H1)/\∀i m σ H,W i m σ H ->
 (J.stop i H/\D.nx σ H)\/(J.go i H/\∃N:St->Hp->Prop,(∀σ' H',N σ' H'->∃m',m'<m/\W (i+1) m' σ' H')/\∀x H',J.yld i H x H'->g x σ H' fun σ2 H2=>tb { D with nx:=N,ct:=N,bk:=D.nx } σ2 H2)
noncomputable def lU(fp:List Addr)(h:Heap):List (Addr×Obj):=fp.filterMap fun b=>(h.get? b).map fun o=>(b,o)
theorem dN{fp:List Addr}{h:Heap}{b:Addr}{o:Obj}(hb:b∈fp)(e:h.get? b=some o):(b,o)∈lU fp h:=List.mem_filterMap.mpr ⟨b,hb,by rw[e];rfl⟩
theorem sY{fp:List Addr}{h:Heap}{p:Addr×Obj}(hp:p∈lU fp h):p.1∈fp/\h.get? p.1=some p.2:=by
 obtain⟨b,hb,e⟩:=List.mem_filterMap.mp hp
 cases q:h.get? b with
 | none=>rw[q]at e;cases e
 | some o=>
   rw[q]at e;have e':(b,o)=p:=Option.some.inj e;subst e';exact⟨hb,q⟩
theorem Inv.pinned{pins:List (Addr×Obj)}{σ:St}{H:Hp}{s:Shared}{fp:List Addr}(I:Inv X pins σ H s)(hf:∀b∈fp,FpOk X pins H b)(ho:∀b∈fp,∃o,s.heap.get? b=some o/\∀v,o.data≠.cell v):Inv X (pins++lU fp s.heap) σ H s :=
 I.pins_of fun p hp=>(List.mem_append.mp hp).elim (fun z=>I.pin p (List.mem_append_right _ z)) fun z=>by
  obtain⟨hb,e⟩:=sY z;obtain⟨f0,f1,f2,_⟩:=hf p.1 hb;obtain⟨o,e',d⟩:=ho p.1 hb;rw[e]at e';cases e';exact⟨e,f0,f1,f2,d⟩
theorem Inv.unpinned{pins pl:List (Addr×Obj)}{σ:St}{H:Hp}{s:Shared}(I:Inv X (pins++pl) σ H s):Inv X pins σ H s:=I.pins_of fun p hp=>I.pin p (List.mem_append_right _ (List.mem_append_left _ hp))
theorem Gj{iter:Expr}{body:List Stmt}{wi:TI}{g:TG}{tb:TS}{pos:Pos}(hp:PassesOwn (model X.prog X.w) X.A X.env X.xe)(hc:X.calm=true)(hi:PI X tg iter wi)(hg:PG X tg g)(hb:PSs X body tb)
 (hs:∀x,foldedSetIterable iter X.env x=pure x:=by intro _;rfl):PS X (.For tg iter body [] pos) (tFor wi g tb):=by
 intro pins s σ H D I h;refine wpAny_For (thn (hi pins s σ H _ I h) fun v s1 h1=>thn h1 fun itv s2 h2=>?_) hs;obtain⟨it,fp,tn,J,H2,e,I2,T,st2,f2,W,⟨m0,w0⟩,turn⟩:=h2;subst e
 have stat:∀{H':Hp},(∀b∈fp,H' b=none)->∀b∈fp,FpOk X pins H' b:=fun hn b hb=>⟨hn b hb,(f2 b hb).2⟩
 refine codeAny_forLoop_any (fun n s'=>∃i σ' H',Inv X pins σ' H' s'/\tn i s'.heap/\(∀b∈fp,H' b=none)/\W i n σ' H') ?_ m0 ⟨0,σ,H2,I2,st2,fun b hb=>(f2 b hb).1,w0⟩
 rintro n s3 ⟨i,σ3,H3,I3,st3,fr3,w3⟩
 rcases turn i n σ3 H3 w3 with⟨stop,qn⟩ | ⟨go,N,hN,step⟩
 ·refine wpAny_passesOwn hp (thn (T.done X rfl rfl rfl hc i pins s3 σ3 H3 X.xe I3 (stat fr3) st3 stop) fun r s4 ⟨hr,I4⟩=>?_)
  subst hr;exact wpAny_execs_nil ⟨σ3,H3,I4,qn⟩
 ·refine wpAny_passesOwn hp (thn (T.item X rfl rfl rfl hc i pins s3 σ3 H3 X.xe I3 (stat fr3) st3 go) fun r s4 ⟨u,hr,h4⟩=>?_)
  subst hr;refine wpAny_passesOwn hp (thn h4 fun _ s5 ⟨x,H5,I5,r5,y5,st5,fr5⟩=>?_);have I5':=I5.pinned (stat fr5) (T.obj _ _ st5);refine wpAny_passesOwn hp (thn (hg _ s5 σ3 H5 x u _ I5' r5 (step x H5 y5)) fun _ s6 ⟨σ6,H6,I6,q6⟩=>?_);refine wpAny_passesOwn hp (thn (hb _ s6 σ6 H6 _ I6 q6) fun f s7 q7=>?_)
  have again:∀{σ7:St} {H7:Hp},Inv X (pins++lU fp s5.heap) σ7 H7 s7->N σ7 H7->∃m,m<n/\∃i σ' H',Inv X pins σ' H' s7/\tn i s7.heap/\(∀b∈fp,H' b=none)/\W i m σ' H':=fun{σ7 H7} I7 n7=>by
   obtain⟨m',hm,w7⟩:=hN σ7 H7 n7;refine⟨m',hm,i+1,σ7,H7,I7.unpinned,T.keep _ _ _ st5 fun b hb o e=>(I7.pin (b,o) (List.mem_append_right _ (List.mem_append_right _ (dN hb e)))).1,fun b hb=>?_,w7⟩;obtain⟨o,e,d⟩:=T.obj _ _ st5 b hb;exact(I7.pin (b,o) (List.mem_append_right _ (List.mem_append_right _ (dN hb e)))).2.1
  cases f with
  | next=>obtain⟨σ7,H7,I7,n7⟩:=q7;exact again I7 n7
  | cont=>obtain⟨σ7,H7,I7,n7⟩:=q7;exact again I7 n7
  | brk=>obtain⟨σ7,H7,I7,q7⟩:=q7;exact⟨σ7,H7,I7.unpinned,q7⟩
  | ret v=>obtain⟨x7,σ7,H7,I7,r7,q7⟩:=q7;exact⟨x7,σ7,H7,I7.unpinned,r7,q7⟩
end
end L2
namespace L2
open PySem PySem.Spec PyProof.Rows
noncomputable abbrev R2:=V->V->Hp->VK->Prop
noncomputable def OpR(X:Cx)(f:Value->Value->Sem Value)(r:R2):Prop :=
 ∀(pins:List (Addr×Obj)) (s:Shared) (σ:St) (H:Hp) (x y:V) (v u:Value) (Q:VK),Inv X pins σ H s->RelV x v->RelV y u->r x y H Q ->
  wpAny (model X.prog X.w) X.A (f v u) (EP X pins σ Q) X.xe s
noncomputable def UnR(X:Cx)(f:Value->Sem Value)(r:V->Hp->VK->Prop):Prop :=
 ∀(pins:List (Addr×Obj)) (s:Shared) (σ:St) (H:Hp) (x:V) (v:Value) (Q:VK),Inv X pins σ H s->RelV x v->r x H Q ->
  wpAny (model X.prog X.w) X.A (f v) (EP X pins σ Q) X.xe s
noncomputable def CallR(X:Cx)(f:Value)(r:List V->Hp->VK->Prop):Prop :=
 ∀(pins:List (Addr×Obj)) (s:Shared) (σ:St) (H:Hp) (xs:List V) (us:List Value) (Q:VK),Inv X pins σ H s->Vals xs us->r xs H Q ->
  wpAny (model X.prog X.w) X.A (call f us) (EP X pins σ Q) X.xe s
noncomputable def TruR(X:Cx)(r:V->Hp->(Bool->Hp->Prop)->Prop):Prop :=
 ∀(pins:List (Addr×Obj)) (s:Shared) (σ:St) (H:Hp) (x:V) (v:Value) (Q:Bool->Hp->Prop),Inv X pins σ H s->RelV x v->r x H Q ->
  wpAny (model X.prog X.w) X.A (truthy v) (TP X pins σ Q) X.xe s
noncomputable def tOp(r:R2)(ta tb:TE):TE:=fun σ H Q=>ta σ H fun x H1=>tb σ H1 fun y H2=>r x y H2 Q
noncomputable def tUn(r:V->Hp->VK->Prop)(ta:TE):TE:=fun σ H Q=>ta σ H fun x H1=>r x H1 Q
noncomputable def rI(C:Int->Int->Prop)(g:Int->Int->V):R2:=fun x y H Q=>∃i j,x=.int i/\y=.int j/\C i j/\Q (g i j) H
noncomputable def rI0(g:Int->Int->V):R2:=fun x y H Q=>∃i j,x=.int i/\y=.int j/\Q (g i j) H
noncomputable def rU(g:Int->V):V->Hp->VK->Prop:=fun x H Q=>∃i,x=.int i/\Q (g i) H
section
variable{X:Cx}{a b c:Expr}{ta tb tc:TE}{pos:Pos}
theorem binT(ha:PE X a ta)(hb:PE X b tb){pins:List (Addr×Obj)}{s:Shared}{σ:St}{H:Hp}{R:V->V->Hp->Prop}(I:Inv X pins σ H s)
 (h:ta σ H fun x H1=>tb σ H1 fun y H2=>R x y H2) {Q:Value->Shared->Prop} {f:Value->Value->Sem Value}
 (hf:∀v u s2 x y H2,Inv X pins σ H2 s2->RelV x v->RelV y u->R x y H2->wpAny (model X.prog X.w) X.A (f v u) Q X.xe s2) :
 wpAny (model X.prog X.w) X.A (eval a X.env) (fun v s₁=>wpAny (model X.prog X.w) X.A (eval b X.env) (fun u s₂=>wpAny (model X.prog X.w) X.A (f v u) Q X.xe s₂) X.xe s₁) X.xe s:=by
 refine thn (ha pins s σ H _ I h) fun v s1 ⟨x,H1,I1,r1,q1⟩=>?_
 refine thn (hb pins s1 σ H1 _ I1 q1) fun u s2 ⟨y,H2,I2,r2,q2⟩=>?_
 exact hf v u s2 x y H2 I2 r1 r2 q2
theorem Ko{op:Operator}{r:R2}(ho:OpR X (binaryOp op) r)(ha:PE X a ta)(hb:PE X b tb):PE X (.BinOp a op b pos) (tOp r ta tb):=by
 intro pins s σ H Q I h;exact wpAny_BinOp (binT ha hb I h fun v u s2 x y H2 I2 rx ry q=>ho pins s2 σ H2 x y v u Q I2 rx ry q)
theorem K9{op:UnaryOp}{r:V->Hp->VK->Prop}(ho:UnR X (unaryOp op) r)(ha:PE X a ta):PE X (.UnaryOp op a pos) (tUn r ta):=by
 intro pins s σ H Q I h;exact UnaryOp_ (thn (ha pins s σ H _ I h) fun v s1 ⟨x,H1,I1,r1,q1⟩=>ho pins s1 σ H1 x v Q I1 r1 q1)
theorem opI{f:Value->Value->Sem Value}{C:Int->Int->Prop}{g:Int->Int->Int}
 (rule:∀(i j:Int) (t u:Tok) (s:Shared) (Q:Value->Shared->Prop) (E:Value->Shared->Prop),C i j->Q (.int (g i j) s.toks) { s with toks:=s.toks+1 }->wpAny (model X.prog X.w) X.A (f (.int i t) (.int j u)) Q E s) :
 OpR X f (rI C fun i j=>.int (g i j)):=by
 intro pins s σ H x y v u Q I rx ry h;obtain⟨i,j,rfl,rfl,hc,q⟩:=h;obtain⟨t,rfl⟩:=rx;obtain⟨t',rfl⟩:=ry;exact rule i j t t' s _ _ hc ⟨.int (g i j),H,I.tok _,⟨_,rfl⟩,q⟩
theorem opI0{f:Value->Value->Sem Value}{g:Int->Int->Int}
 (rule:∀(i j:Int) (t u:Tok) (s:Shared) (Q:Value->Shared->Prop) (E:Value->Shared->Prop),Q (.int (g i j) s.toks) { s with toks:=s.toks+1 }->wpAny (model X.prog X.w) X.A (f (.int i t) (.int j u)) Q E s) :
 OpR X f (rI0 fun i j=>.int (g i j)):=by
 intro pins s σ H x y v u Q I rx ry h;obtain⟨i,j,rfl,rfl,q⟩:=h;obtain⟨t,rfl⟩:=rx;obtain⟨t',rfl⟩:=ry;exact rule i j t t' s _ _ ⟨.int (g i j),H,I.tok _,⟨_,rfl⟩,q⟩
theorem opB0{f:Value->Value->Sem Value}{g:Int->Int->Bool}
 (rule:∀(i j:Int) (t u:Tok) (s:Shared) (Q:Value->Shared->Prop) (E:Value->Shared->Prop),Q (.bool (g i j)) s->wpAny (model X.prog X.w) X.A (f (.int i t) (.int j u)) Q E s) :
 OpR X f (rI0 fun i j=>.bl (g i j)):=by
 intro pins s σ H x y v u Q I rx ry h;obtain⟨i,j,rfl,rfl,q⟩:=h;obtain⟨t,rfl⟩:=rx;obtain⟨t',rfl⟩:=ry;exact rule i j t t' s _ _ ⟨.bl (g i j),H,I,rfl,q⟩
noncomputable def CPow(i j:Int):Prop:=0<=j/\j<=1000000/\i.natAbs<2 ^ 64
theorem HX:OpR X (binaryOp .Add) (rI0 fun i j=>.int (i+j)):=opI0 fun _ _ _ _ _ _ _ q=>add_int q
theorem Ih:OpR X (binaryOp .Sub) (rI0 fun i j=>.int (i-j)):=opI0 fun _ _ _ _ _ _ _ q=>sub_int q
theorem Cr:OpR X (binaryOp .Mod) (rI (fun _ j=>j≠0) fun i j=>.int (i.fmod j)):=opI fun _ _ _ _ _ _ _ hc q=>mod_int' hc q
theorem HW:OpR X (binaryOp .Pow) (rI CPow fun i j=>.int (i ^ j.toNat)):=opI fun _ _ _ _ _ _ _ hc q=>pow_int_small hc.1 hc.2.1 hc.2.2 q
theorem unI{f:Value->Sem Value}{g:Int->Int}
 (rule:∀(i:Int) (t:Tok) (s:Shared) (Q:Value->Shared->Prop) (E:Value->Shared->Prop),Q (.int (g i) s.toks) { s with toks:=s.toks+1 }->wpAny (model X.prog X.w) X.A (f (.int i t)) Q E s) :
 UnR X f (rU fun i=>.int (g i)):=by
 intro pins s σ H x v Q I rx h;obtain⟨i,rfl,q⟩:=h;obtain⟨t,rfl⟩:=rx;exact rule i t s _ _ ⟨.int (g i),H,I.tok _,⟨_,rfl⟩,q⟩
theorem HS:UnR X (unaryOp .USub) (rU fun i=>.int (-i)):=unI fun _ _ _ _ _ q=>neg_int q
end
noncomputable def scal:V->V->Bool
 | .non,.non=>true | .non,.int _=>true | .int _,.non=>true | .non,.bl _=>true | .bl _,.non=>true | .non,.str _=>true | .str _,.non=>true
 | .int _,.int _=>true | .bl _,.bl _=>true | .str _,.str _=>true | .byt _,.byt _=>true
 | .int _,.str _=>true | .str _,.int _=>true | .bl _,.str _=>true | .str _,.bl _=>true
 | _,_=>false
noncomputable def rEq:R2:=fun x y H Q=>scal x y=true/\Q (.bl (decide (x=y))) H
noncomputable def rNe:R2:=fun x y H Q=>scal x y=true/\Q (.bl (!decide (x=y))) H
theorem uW{i j:Int}:decide (V.int i=V.int j)=(i==j):=by
 rw[Bool.eq_iff_iff];simp
theorem zq{i j:Bool}:decide (V.bl i=V.bl j)=(i==j):=by
 rw[Bool.eq_iff_iff];simp
theorem tE{i j:Str}:decide (V.str i=V.str j)=(i==j):=by
 rw[Bool.eq_iff_iff];simp
theorem vp{i j:Array UInt8}:decide (V.byt i=V.byt j)=(i.toList==j.toList):=by
 rw[Bool.eq_iff_iff];cases i;cases j;simp
section
variable{X:Cx}{a b c:Expr}{ta tb tc:TE}{pos:Pos}
theorem aL{pins:List (Addr×Obj)}{σ:St}{H:Hp}{s:Shared}{Q:VK}{k k':Bool}(I:Inv X pins σ H s)(q:Q (.bl k) H)(e:k=k'):EP X pins σ Q (.bool k') s:=by
 subst e;exact⟨.bl k,H,I,rfl,q⟩
theorem Lz:OpR X (compareOp .Eq) rEq:=by
 intro pins s σ H x y v u Q I rx ry h;obtain⟨hs,q⟩:=h
 cases x with
 | non=>
   cases rx
   cases y with
   | non=>cases ry;exact PySem.EqNone.eq_none_none (aL I q (by simp))
   | bl j=>cases ry;exact PySem.EqNone.eq_none_bool (aL I q (by simp))
   | int j=>obtain⟨t',rfl⟩:=ry;exact PySem.EqNone.eq_none_int (aL I q (by simp))
   | str j=>obtain⟨t',rfl⟩:=ry;exact PySem.EqNone.eq_none_str (aL I q (by simp))
   | _=>exact absurd (show false=true from hs) Bool.false_ne_true
 | bl i=>
   cases rx
   cases y with
   | non=>cases ry;exact PySem.EqNone.eq_bool_none (aL I q (by simp))
   | bl j=>cases ry;exact eq_bool (aL I q zq)
   | str j=>obtain⟨t',rfl⟩:=ry;exact PySem.EqMixed.eq_bool_str (aL I q (by simp))
   | _=>exact absurd (show false=true from hs) Bool.false_ne_true
 | int i=>
   obtain⟨t,rfl⟩:=rx
   cases y with
   | non=>cases ry;exact PySem.EqNone.eq_int_none (aL I q (by simp))
   | int j=>obtain⟨t',rfl⟩:=ry;exact eq_int (aL I q uW)
   | str j=>obtain⟨t',rfl⟩:=ry;exact PySem.EqMixed.eq_int_str (aL I q (by simp))
   | _=>exact absurd (show false=true from hs) Bool.false_ne_true
 | str i=>
   obtain⟨t,rfl⟩:=rx
   cases y with
   | non=>cases ry;exact PySem.EqNone.eq_str_none (aL I q (by simp))
   | bl j=>cases ry;exact PySem.EqMixed.eq_str_bool (aL I q (by simp))
   | int j=>obtain⟨t',rfl⟩:=ry;exact PySem.EqMixed.eq_str_int (aL I q (by simp))
   | str j=>obtain⟨t',rfl⟩:=ry;exact eq_str (aL I q tE)
   | _=>exact absurd (show false=true from hs) Bool.false_ne_true
 | byt i=>
   obtain⟨t,rfl⟩:=rx
   cases y with
   | byt j=>obtain⟨t',rfl⟩:=ry;exact PySem.W.eq_bytes (aL I q vp)
   | _=>exact absurd (show false=true from hs) Bool.false_ne_true
 | _=>cases y<;>exact absurd (show false=true from hs) Bool.false_ne_true
theorem Mq:OpR X (compareOp .NotEq) rNe:=by
 intro pins s σ H x y v u Q I rx ry h;obtain⟨hs,q⟩:=h
 cases x with
 | non=>
   cases rx
   cases y with
   | non=>cases ry;exact PySem.EqNone.ne_none_none (aL I q (by simp))
   | bl j=>cases ry;exact PySem.EqNone.ne_none_bool (aL I q (by simp))
   | int j=>obtain⟨t',rfl⟩:=ry;exact PySem.EqNone.ne_none_int (aL I q (by simp))
   | str j=>obtain⟨t',rfl⟩:=ry;exact PySem.EqNone.ne_none_str (aL I q (by simp))
   | _=>exact absurd (show false=true from hs) Bool.false_ne_true
 | bl i=>
   cases rx
   cases y with
   | non=>cases ry;exact PySem.EqNone.ne_bool_none (aL I q (by simp))
   | bl j=>cases ry;exact ne_bool (aL I q (congrArg not zq))
   | str j=>obtain⟨t',rfl⟩:=ry;exact PySem.EqMixed.ne_bool_str (aL I q (by simp))
   | _=>exact absurd (show false=true from hs) Bool.false_ne_true
 | int i=>
   obtain⟨t,rfl⟩:=rx
   cases y with
   | non=>cases ry;exact PySem.EqNone.ne_int_none (aL I q (by simp))
   | int j=>obtain⟨t',rfl⟩:=ry;exact ne_int (aL I q (congrArg not uW))
   | str j=>obtain⟨t',rfl⟩:=ry;exact PySem.EqMixed.ne_int_str (aL I q (by simp))
   | _=>exact absurd (show false=true from hs) Bool.false_ne_true
 | str i=>
   obtain⟨t,rfl⟩:=rx
   cases y with
   | non=>cases ry;exact PySem.EqNone.ne_str_none (aL I q (by simp))
   | bl j=>cases ry;exact PySem.EqMixed.ne_str_bool (aL I q (by simp))
   | int j=>obtain⟨t',rfl⟩:=ry;exact PySem.EqMixed.ne_str_int (aL I q (by simp))
   | str j=>obtain⟨t',rfl⟩:=ry;exact ne_str (aL I q (congrArg not tE))
   | _=>exact absurd (show false=true from hs) Bool.false_ne_true
 | byt i=>
   obtain⟨t,rfl⟩:=rx
   cases y with
   | byt j=>obtain⟨t',rfl⟩:=ry;exact PySem.W.ne_bytes (aL I q (congrArg not vp))
   | _=>exact absurd (show false=true from hs) Bool.false_ne_true
 | _=>cases y<;>exact absurd (show false=true from hs) Bool.false_ne_true
theorem Kw:OpR X (compareOp .Lt) (rI0 fun i j=>.bl (decide (i<j))):=opB0 fun _ _ _ _ _ _ _ q=>lt_int q
theorem M8:OpR X (compareOp .LtE) (rI0 fun i j=>.bl (decide (i<=j))):=opB0 fun _ _ _ _ _ _ _ q=>le_int q
theorem KH:OpR X (compareOp .Gt) (rI0 fun i j=>.bl (decide (j<i))):=opB0 fun _ _ _ _ _ _ _ q=>gt_int q
theorem Kr:OpR X (compareOp .GtE) (rI0 fun i j=>.bl (decide (j<=i))):=opB0 fun _ _ _ _ _ _ _ q=>ge_int q
theorem sW:OpR X (compareOp .Lt) (fun x y H Q=>∃i j,x=.str i/\y=.str j/\Q (.bl (decide (i.cps.toList<j.cps.toList))) H):=by
 intro pins s σ H x y v u Q I rx ry h;obtain⟨i,j,rfl,rfl,q⟩:=h;obtain⟨t,rfl⟩:=rx;obtain⟨t',rfl⟩:=ry;exact lt_str (aL I q rfl)
theorem m9:OpR X (compareOp .In) (fun x y H Q=>∃i j,x=.str i/\y=.str j/\Q (.bl (!(Builtin.Str.occurrences j i 0 j.length 1).isEmpty)) H):=by
 intro pins s σ H x y v u Q I rx ry h;obtain⟨i,j,rfl,rfl,q⟩:=h;obtain⟨t,rfl⟩:=rx;obtain⟨t',rfl⟩:=ry;exact in_str (aL I q rfl)
theorem JW:OpR X (compareOp .Is) (fun x y H Q=>y=.non/\Q (.bl (decide (x=.non))) H):=by
 intro pins s σ H x y v u Q I rx ry h;obtain⟨rfl,q⟩:=h;cases ry;refine is_none_gen (aL I q ?_)
 cases x<;>first
  | (cases rx;rfl)
  | (obtain⟨t,rfl⟩:=rx;rfl)
theorem DR:OpR X (compareOp .IsNot) (fun x y H Q=>y=.non/\Q (.bl (!decide (x=.non))) H):=by
 intro pins s σ H x y v u Q I rx ry h;obtain⟨rfl,q⟩:=h;cases ry;refine isnot_none_gen (aL I q ?_)
 cases x<;>first
  | (cases rx;rfl)
  | (obtain⟨t,rfl⟩:=rx;rfl)
theorem gD:OpR X (compareOp .NotIn) (fun x y H Q=>∃i j,x=.str i/\y=.str j/\Q (.bl (!(!(Builtin.Str.occurrences j i 0 j.length 1).isEmpty))) H):=by
 intro pins s σ H x y v u Q I rx ry h;obtain⟨i,j,rfl,rfl,q⟩:=h;obtain⟨t,rfl⟩:=rx;obtain⟨t',rfl⟩:=ry;exact notIn_str (aL I q rfl)
theorem OpR.or{f:Value->Value->Sem Value}{r r':R2}(h:OpR X f r)(h':OpR X f r'):OpR X f (fun x y H Q=>r x y H Q\/r' x y H Q):=by
 intro pins s σ H x y v u Q I rx ry q;rcases q with q | q
 ·exact h pins s σ H x y v u Q I rx ry q
 ·exact h' pins s σ H x y v u Q I rx ry q
theorem iY{op:CmpOp}{r:R2}(ho:OpR X (compareOp op) r)(ha:PE X a ta)(hb:PE X b tb)(hm:behindInMarks op b=false):PE X (.Compare a [op] [b] pos) (tOp r ta tb):=by
 intro pins s σ H Q I h;exact wpAny_Compare1 (binT ha hb I h fun v u s2 x y H2 I2 rx ry q=>ho pins s2 σ H2 x y v u Q I2 rx ry q) hm
noncomputable def Lp(t:TE):TT:=fun σ H Q=>t σ H fun x H'=>∃k,x=.bl k/\Q k H'
theorem j0{op:CmpOp}{r:R2}(ho:OpR X (compareOp op) r)(ha:PE X a ta)(hb:PE X b tb)(hm:behindInMarks op b=false):PT X (.Compare a [op] [b] pos) (Lp (tOp r ta tb)):=by
 intro pins s σ H Q I h
 refine wpAny_isTrue_Compare1 (thn (ha pins s σ H _ I h) fun v s1 ⟨x,H1,I1,r1,q1⟩=>thn (hb pins s1 σ H1 _ I1 q1) fun u s2 ⟨y,H2,I2,r2,q2⟩=>
  thn (ho pins s2 σ H2 x y v u _ I2 r1 r2 q2) fun c s3 ⟨z,H3,I3,r3,k,e,q3⟩=>?_) hm
 subst e;cases r3;exact wpAny_truthy_bool ⟨H3,I3,q3⟩
noncomputable def TruV(K:PySem.W.Frag)(x:V)(H:Hp)(k:Bool):Prop :=
 match x with
 | .non=>k=false
 | .bl b=>k=b
 | .int i=>k=(i !=0)
 | .str y=>y.length<=sizeLine/\k=((y.length:Int) !=0)
 | .byt y=>y.size<=sizeLine/\k=((y.size:Int) !=0)
 | .ref p=>(∃xs,SqL K H p xs/\k=!xs.isEmpty)\/(∃xs,SqT K H p xs/\k=!xs.isEmpty)\/∃kvs ep,H p=some (.dK kvs ep)/\k=!kvs.isEmpty
 | _=>False
theorem rA{κ:Type}{kvs:List (κ×V)}{vs:List (κ×Value)}(r:KV kvs vs):(!vs.isEmpty)=!kvs.isEmpty:=by
 cases r<;>rfl
theorem j9{xs:List V}{its:List Value}(r:Vals xs its):(!its.toArray.isEmpty)=!xs.isEmpty:=by
 cases r<;>simp
theorem jk:(sizeLine:Nat)<2 ^ 63:=by rw[sizeLine_eq];decide
theorem Aa:TruR X (fun x H Q=>∃k,TruV X.K x H k/\Q k H):=by
 intro pins s σ H x v Q I rx h;obtain⟨k,e,q⟩:=h;have hl:=jk;have hs:sizeLine=16777216:=sizeLine_eq
 cases x with
 | non=>
   cases rx;have e':k=false:=e;subst e';exact truthy_none ⟨H,I,q⟩
 | bl b=>
   cases rx;have e':k=b:=e;subst e';exact wpAny_truthy_bool ⟨H,I,q⟩
 | int i=>
   obtain⟨t,rfl⟩:=rx;have e':k=(i !=0):=e;subst e';exact PySem.P.truthy_int ⟨H,I,q⟩
 | str y=>
   obtain⟨t,rfl⟩:=rx;obtain⟨hy,e'⟩:y.length<=sizeLine/\k=((y.length:Int) !=0):=e;subst e';exact PySem.P.truthy_str (by omega) ⟨H,I.tok _,q⟩
 | byt y=>
   obtain⟨t,rfl⟩:=rx;obtain⟨hy,e'⟩:y.size<=sizeLine/\k=((y.size:Int) !=0):=e;subst e';exact PySem.W.truthy_bytes (by omega) ⟨H,I.tok _,q⟩
 | ref p=>
   cases rx;have e':(∃xs,SqL X.K H p xs/\k=!xs.isEmpty)\/(∃xs,SqT X.K H p xs/\k=!xs.isEmpty)\/∃kvs ep,H p=some (.dK kvs ep)/\k=!kvs.isEmpty:=e;rcases e' with⟨xs,hx,e'⟩ | ⟨xs,hx,e'⟩ | ⟨kvs,ep,hx,e'⟩
   ·subst e'
    obtain⟨its,r,pl,hz⟩:=I.list hx;have hlen:=r.length;exact wpAny_truthy_list pl.isList (by simp only[List.size_toArray];omega) ⟨H,I.tok _,by rw[j9 r];exact q⟩
   ·subst e'
    obtain⟨its,r,pl,hz⟩:=I.tuple hx;have hlen:=r.length;exact truthy_tuple pl (by simp only[List.size_toArray];omega) ⟨H,I.tok _,by rw[j9 r];exact q⟩
   ·subst e'
    obtain⟨hz,hS,vs,r,m⟩:kvs.length<=sizeLine/\(p==sysModules)=false/\∃vs,KV kvs vs/\s.heap.DictAt (bB X.prog X.w) p vs ep:=I.hok p _ hx;have m:=m.dictOf;have hlen:kvs.length=vs.length:=Paired.length r;exact wpAny_truthy_dict hS m (by omega) ⟨H,I.tok _,by rw[rA r];exact q⟩
 | _=>exact(show False from e).elim
theorem yc(ha:PE X a ta)(he:∀whole,isTrue a X.env whole=(do let v <-whole;standAt a.pos;holding [v] (truthy v))) :
 PT X a (fun σ H Q=>ta σ H fun x H'=>∃k,TruV X.K x H' k/\Q k H'):=by
 intro pins s σ H Q I h;exact isTrue_plain (thn (ha pins s σ H _ I h) fun v s1 ⟨x,H1,I1,r1,q1⟩=>Aa pins s1 σ H1 x v Q I1 r1 q1) (he _)
theorem rB:OpR X (binaryOp .Add) (fun x y H Q=>∃i j,x=.str i/\y=.str j/\i.length+j.length<=sizeLine/\Q (.str (i++j)) H):=by
 intro pins s σ H x y v u Q I rx ry h;obtain⟨i,j,rfl,rfl,hz,q⟩:=h;obtain⟨t,rfl⟩:=rx;obtain⟨t',rfl⟩:=ry;exact add_str (fun t' tk=>⟨.str (i++j),H,I.tok _,⟨_,rfl⟩,q⟩) hz
theorem vals1{x:V}{us:List Value}(r:Vals [x] us):∃u,us=[u]/\RelV x u:=by
 cases r with
 | cons r1 r2=>cases r2;exact⟨_,rfl,r1⟩
theorem vals2{x y:V}{us:List Value}(r:Vals [x,y] us):∃u w',us=[u,w']/\RelV x u/\RelV y w':=by
 cases r with
 | cons r1 r2=>
   cases r2 with
   | cons r3 r4=>cases r4;exact⟨_,_,rfl,r1,r3⟩
theorem wy:CallR X (.builtin "abs") (fun xs H Q=>∃i,xs=[.int i]/\Q (.int (if i<0 then -i else i)) H):=by
 intro pins s σ H xs us Q I r h;obtain⟨i,rfl,q⟩:=h;obtain⟨u,rfl,t,rfl⟩:=vals1 r
 exact call_abs_int fun u tk=>⟨.int (if i<0 then -i else i),H,I.tok _,⟨_,rfl⟩,q⟩
theorem vG(hc:X.calm=true):CallR X (.builtin "max") (fun xs H Q=>∃i j,xs=[.int i,.int j]/\Q (.int (if j>i then j else i)) H):=by
 intro pins s σ H xs us Q I r h;obtain⟨i,j,rfl,q⟩:=h;obtain⟨u,w',rfl,⟨t,rfl⟩,⟨t',rfl⟩⟩:=vals2 r
 refine max_two_ints (I.ok.hd hc) fun h' tk k=>⟨_,H,I.kept k,?_,q⟩
 by_cases hj:j>i
 ·rw[if_pos hj,if_pos hj];exact⟨_,rfl⟩
 ·rw[if_neg hj,if_neg hj];exact⟨_,rfl⟩
theorem vz(hc:X.calm=true):CallR X (.builtin "min") (fun xs H Q=>∃i j,xs=[.int i,.int j]/\Q (.int (if j<i then j else i)) H):=by
 intro pins s σ H xs us Q I r h;obtain⟨i,j,rfl,q⟩:=h;obtain⟨u,w',rfl,⟨t,rfl⟩,⟨t',rfl⟩⟩:=vals2 r
 refine min_two_ints (I.ok.hd hc) fun h' tk k=>⟨_,H,I.kept k,?_,q⟩
 by_cases hj:j<i
 ·rw[if_pos hj,if_pos hj];exact⟨_,rfl⟩
 ·rw[if_neg hj,if_neg hj];exact⟨_,rfl⟩
end
end L2
namespace L2
open PySem PySem.Spec PyProof.Rows
structure ObjM(h:Heap)(x dx C:Addr)(mA:Str->Option Value):Prop where
 obj:h.get? x=some (PySem.W.instObj C dx)
 ns:h.Ns1 dx mA
 ne:dx≠x
theorem RelO.some_of{v:V}{o:Option Value}(r:RelO (some v) o):∃u,o=some u/\RelV v u:=by
 cases o with
 | none=>exact(show False from r).elim
 | some u=>exact⟨u,rfl,r⟩
structure Cls(K:PySem.W.Frag)(C:Addr):Prop where
 pg:PySem.W.plainGet K C Str.empty=true
 hd:PySem.W.hasDictIn K C=true
 po:PySem.W.plainOver K C=true
 sa:PySem.W.findIn K (.ref C) "__setattr__"=some (some (.builtin "object.__setattr__"))
structure Con(K:PySem.W.Frag)(C:Addr)(f:Str)(v:V)(u:Value):Prop where
 at_:PySem.W.findIn K (.ref C) f=some (some u)
 rel:RelV v u
 get:PySem.W.specialIn K u "__get__"=some none
 cp:PySem.W.copiedNames.contains f=false
structure Meth(K:PySem.W.Frag)(C:Addr)(m:Str)(f:Addr):Prop where
 at_:PySem.W.findIn K (.ref C) m=some (some (.ref f))
 fn:PySem.W.isFn K (.ref f)=true
 kp:PySem.W.keepIn K (.ref f)=true
section
variable{X:Cx}{pins:List (Addr×Obj)}{σ:St}{H:Hp}{s:Shared}{A:Around}{E:Value->Shared->Prop}{Q:Value->Shared->Prop}{c:Value}{b:Bool}
inductive TyOf(K:PySem.W.Frag)(H:Hp):V->Value->Prop where
 | non:TyOf K H .non (.type "NoneType")
 | bl (x:Bool):TyOf K H (.bl x) (.type "bool")
 | int (i:Int):TyOf K H (.int i) (.type "int")
 | str (x:Str):TyOf K H (.str x) (.type "str")
 | flt (x:UInt64):TyOf K H (.flt x) (.type "float")
 | lst {a:Addr} {xs:List V} (e:H a=some (.lst xs)):TyOf K H (.ref a) (.type "list")
 | frz {a:Addr} {o:Obj} {xs:List V} (e:H a=some (.frz o (.lst xs))):TyOf K H (.ref a) (.type "list")
 | tup {a:Addr} {xs:List V} (e:H a=some (.tup xs)):TyOf K H (.ref a) (.type "tuple")
 | dK {a:Addr} {kvs:List (Key×V)} {ep:Nat} (e:H a=some (.dK kvs ep)):TyOf K H (.ref a) (.type "dict")
 | dT {a:Addr} {kvs:List (List Key×V)} (e:H a=some (.dT kvs)):TyOf K H (.ref a) (.type "dict")
 | ins {a C dx:Addr} {fs:List (Str×V)} (e:H a=some (.ins C dx fs)) (cl:Cls K C) (ha:PySem.W.findIn K (.ref C) "__class__"=some (some (.builtin "object.__class__")))
  (hn:PySem.W.specialIn K (.builtin "object.__class__") "__get__"=some (some (.builtin "getset_descriptor.__get__"))) (htk:PySem.W.takesIn K (.builtin "object.__class__")=some true)
  (hm:PySem.W.mroIn K C (.type "object")=some true):TyOf K H (.ref a) (.ref C)
end
end L2
namespace L2
open PySem PySem.Spec PyProof.Rows
structure Room(k:Nat)(A:Around):Prop where
 hd:A.handled=none
 dp:A.depth+3*k+5<recursionLimit
 un:A.units+16*k+200<cLine
theorem Room.deeper{k:Nat}{A:Around}(r:Room (k+1) A)(env:Env):Room k (A.deeper env) :=
 ⟨r.hd,by have:=r.dp;show A.depth+1+3*k+5<_;omega,by have:=r.un;show A.units+3+16*k+200<_;omega⟩
theorem Room.depth{k:Nat}{A:Around}(r:Room k A):A.depth<recursionLimit:=by have:=r.dp;omega
theorem Room.units{k:Nat}{A:Around}(r:Room k A):A.units+64<cLine:=by have:=r.un;omega
noncomputable def tNil:TA:=fun _ H Q=>Q [] H
noncomputable def Jw(ta:TE)(tr:TA):TA:=fun σ H Q=>ta σ H fun x H1=>tr σ H1 fun xs H2=>Q (x::xs) H2
section
variable{X:Cx}{e:Expr}{es:List Expr}{te:TE}{t:TA}{pos:Pos}
theorem cR:PA X [] tNil:=fun _ _ _ _ H Q I h=>Calls.spliced_nil ⟨[],H,I,.nil,h⟩
theorem bF(ha:PE X e te)(hr:PA X es t)(hs:starEach (e::es) X.env=(false,eval e X.env)::starEach es X.env:=by rfl):PA X (e::es) (Jw te t):=by
 intro pos pins s σ H Q I h;rw[hs];show wpAny _ _ (spliced ((false,eval e X.env)::backTo pos (starEach es X.env))) _ _ s;refine Calls.spliced_cons (thn (ha pins s σ H _ I h) fun u s1 ⟨x,H1,I1,r1,q1⟩=>?_)
 exact thn (hr pos pins s1 σ H1 _ I1 q1) fun us s2 ⟨xs,H2,I2,r2,q2⟩=>⟨x::xs,H2,I2,.cons r1 r2,q2⟩
noncomputable def tTup(t:TA):TE:=fun σ H Q=>t σ H fun xs H1=>xs.length<=sizeLine/\∀p,H1 p=none->Q (.ref p) (upd H1 p (.tup xs))
noncomputable def tLst(t:TA):TE:=fun σ H Q=>t σ H fun xs H1=>xs.length<=sizeLine/\∀p,H1 p=none->Q (.ref p) (upd H1 p (.lst xs))
theorem Js{x1}(h:PA X es t):PE X (.Tuple es x1 pos) (tTup t):=by
 intro pins s σ H Q I hq;refine wpAny_Tuple_spliced (thn (h pos pins s σ H _ I hq) fun us s1 ⟨xs,H1,I1,r,z,q⟩=>⟨by rw[<-r.length];exact z,?_⟩);have hf:H1 s1.heap.objs.size=none:=I1.hok.fresh (Nat.le_refl _);refine⟨.ref s1.heap.objs.size,upd H1 s1.heap.objs.size (.tup xs),I1.laid (t':=s1.toks) (fun b u e=>Heap.get?_push_of_some _ e) (Nat.le_refl _) ?_,rfl,q _ hf⟩;exact⟨z,us,r,⟨_,Heap.get?_push_size _ rfl,rfl,_,rfl⟩⟩
theorem FJ(h:PA X es t):PE X (.List es pos) (tLst t):=by
 intro pins s σ H Q I hq;refine wpAny_List_spliced (thn (h pos pins s σ H _ I hq) fun us s1 ⟨xs,H1,I1,r,z,q⟩=>⟨by rw[<-r.length];exact z,?_⟩);have hf:H1 s1.heap.objs.size=none:=I1.hok.fresh (Nat.le_refl _);refine⟨.ref s1.heap.objs.size,upd H1 s1.heap.objs.size (.lst xs),I1.laid (t':=s1.toks) (fun b u e=>Heap.get?_push_of_some _ e) (Nat.le_refl _) ?_,rfl,q _ hf⟩;exact⟨z,us,0,r,Heap.get?_push_size _ rfl⟩
end
noncomputable abbrev Sp:=List V->Hp->VK->XK->Prop
noncomputable abbrev CXT:=List Env->Hp->Shared->XK->Value->Shared->Prop
structure Env0(P:Program)(w:World)(K:PySem.W.Frag)(mg:Str->Option Value)(base:Heap)(A:Around)(outer:List Env)(s:Shared)(H:Hp):Prop where
 frames:A.frames=some outer
 mod:Mod K mg base
 bs:∀b o,base.get? b=some o->s.heap.get? b=some o/\H b=none
 bsz:base.objs.size<=s.heap.objs.size
 funs:s.heap.FunFrames base outer
 frf:∀b∈frs outer,H b=none
 hok:HOk P w H s.heap
 bare:AllBare s.gens
noncomputable def CE(outer:List Env)(P:Program)(w:World)(H:Hp)(s:Shared)(Q:VK)(u:Value)(s':Shared):Prop :=
 ∃v H',s'.os=s.os/\AllBare s'.gens/\Un (frs outer) [] H H' s.heap s'.heap/\HOk P w H' s'.heap/\RelV v u/\Q v H'
noncomputable def CR(CX:CXT)(outer:List Env)(P:Program)(w:World)(H:Hp)(s:Shared)(Q:VK)(E:XK)(r:Result)(s':Shared):Prop :=
 match r with
 | .ok (.ret u)=>CE outer P w H s Q u s'
 | .ok _=>False
 | .error e=>CX outer H s E e s'
structure FnOk(P:Program)(w:World)(K:PySem.W.Frag)(mg:Str->Option Value)(base:Heap)(CX:CXT)(k:Nat)(f:Addr)(fd:FuncData)(ps:List Str)(sp:Sp):Prop where
 len:∀vs H Q E,sp vs H Q E->vs.length=ps.length
 run:∀(A:Around) (outer:List Env) (s:Shared) (H:Hp) (args:Args) (us:List Value) (vs:List V) (Q:VK) (E:XK),Room k A->Env0 P w K mg base A outer s H->BindsTo s fd args (ps.zip us)->Vals vs us->sp vs H Q E ->
  codeAny (model P w) A (.call (.ref f) args) (CR CX outer P w H s Q E) s
section
variable{X:Cx}{pins:List (Addr×Obj)}{σ:St}{H:Hp}{s s':Shared}
theorem Inv.env0(I:Inv X pins σ H s):Env0 X.prog X.w X.K X.mg X.base X.A X.stack s H :=
 ⟨I.ok.frames,I.ok.mod,I.bs,Nat.le_trans I.ok.bsz I.sz,I.stack,I.stkFree,I.hok,I.bare⟩
theorem Inv.after{Q:VK}{u:Value}(I:Inv X pins σ H s)(h:CE X.stack X.prog X.w H s Q u s'):EP X pins σ Q u s':=by
 obtain⟨v,H',os,bare,un,hok,r,q⟩:=h;obtain⟨hh,g,d,t,os'⟩:=s';obtain rfl:os'=s.os:=os;exact⟨v,H',I.call (h':=hh) (g':=g) (d':=d) (t':=t) (ch:=[]) un hok bare (fun b z=>absurd z (by simp)),r,q⟩
end
noncomputable def KC(sp:Sp)(dvs:List V)(E:XK)(t:TA):TE:=fun σ H Q=>t σ H fun vs H1=>sp (vs++dvs) H1 Q E
noncomputable def Binds(K:PySem.W.Frag)(fd:FuncData)(ps:List Str)(ds:List Value):Prop :=
 ∀(s:Shared) (us:List Value),K.In s.heap->(us++ds).length=ps.length->BindsTo s fd ⟨us,[]⟩ (ps.zip (us++ds))
theorem Binds.all{K:PySem.W.Frag}{fd:FuncData}{ps:List Str}(h:∀us:List Value,us.length=ps.length->bindArgs fd ⟨us,[]⟩=pure (ps.zip us)):Binds K fd ps []:=fun s us _ hl=>by
 rw[List.append_nil]at hl ⊢;exact .of_eq (h us hl)
noncomputable def wj(CX:CXT)(X:Cx)(E:XK):Prop:=∀(pins:List (Addr×Obj)) (σ:St) (H:Hp) (s:Shared) (e:Value) (s':Shared),Inv X pins σ H s->CX X.stack H s E e s'->X.xe e s'
section
variable{X:Cx}{CX:CXT}{k:Nat}{f C:Addr}{fd:FuncData}{ps:List Str}{sp:Sp}{dvs:List V}{ds:List Value}{E:XK}{x m:Str}{p pos apos:Pos}{e o:Expr}{es:List Expr}{ta:TE}{t:TA}
theorem JT{pins:List (Addr×Obj)}{σ:St}{H:Hp}{s:Shared}{Q:VK}{us:List Value}{vs:List V}(F:FnOk X.prog X.w X.K X.mg X.base CX k f fd ps sp)(hr:Room k X.A)(hb:Binds X.K fd ps ds)(hd:Vals dvs ds)(hx:wj CX X E)
 (I:Inv X pins σ H s) (r:Vals vs us) (h:sp (vs++dvs) H Q E):wpAny (model X.prog X.w) X.A (call (.ref f) us) (EP X pins σ Q) X.xe s:=by
 have r2:Vals (vs++dvs) (us++ds):=r.append hd
 have hl:(us++ds).length=ps.length:=by rw[<-r2.length];exact F.len _ _ _ _ h
 refine wpAny_call (codeAny_mono (F.run X.A X.stack s H ⟨us,[]⟩ (us++ds) (vs++dvs) Q E hr I.env0 (hb s us I.kIn hl) r2 h) fun r s' hq=>?_)
 cases r with
 | error e=>exact hx pins σ H s e s' I hq
 | ok fl=>
   cases fl with
   | ret u=>exact I.after hq
   | next=>exact False.elim hq
   | brk=>exact False.elim hq
   | cont=>exact False.elim hq
theorem vV(F:FnOk X.prog X.w X.K X.mg X.base CX k f fd ps sp)(hr:Room k X.A)(hg:Gl X x)(hm:X.mg x=some (.ref f))(hk:PySem.W.keepIn X.K (.ref f)=true)(hb:Binds X.K fd ps ds)(hd:Vals dvs ds)(hx:wj CX X E)
 (ha:PA X (e::es) t) (hdb:(x==("__debug__":Str))=false:=by decide) (he:starEach (e::es) X.env=(false,eval e X.env)::starEach es X.env:=by rfl) (hpl:(backTo pos (starEach es X.env)).any (·.1)=false:=by rfl) :
 PE X (.Call (.Name x p) (e::es) [] pos) (KC sp dvs E t):=by
 intro pins s σ H Q I h;refine wpAny_Call_Name_kw (jR I hg hm ?_ hdb);refine PySem.W.callWith_K (h₀:=X.base) I.ok.mod.kin hk (thn (ha pos pins s σ H _ I h) fun us s1 ⟨vs,H1,I1,r,q⟩=>⟨I1.kIn,?_⟩) he hpl;exact JT F hr hb hd hx I1 r q
structure Mk(K:PySem.W.Frag)(C f:Addr):Prop where
 makes:PySem.W.makesIn K C=true
 init:PySem.W.findIn K (.ref C) "__init__"=some (some (.ref f))
 fn:PySem.W.isFn K (.ref f)=true
 kp:PySem.W.keepIn K (.ref C)=true
end
section
variable{X:Cx}{CX:CXT}{k:Nat}{f C:Addr}{fd:FuncData}{ps ks:List Str}{sp:Sp}{E:XK}{x m:Str}{p pos apos kpos:Pos}{e o:Expr}{es:List Expr}{kws:List Keyword}{te ta:TE}{t tk:TA}{nm:Option Str}
structure KBinds(K:PySem.W.Frag)(fd:FuncData)(ps ks:List Str)(g:List Value->List Value->List Value)(gV:List V->List V->List V):Prop where
 to:∀(s:Shared) (us ws:List Value),K.In s.heap->(g us ws).length=ps.length->BindsTo s fd ⟨us,ks.zip ws⟩ (ps.zip (g us ws))
 rel:∀{vs:List V} {us:List Value} {zs:List V} {ws:List Value},Vals vs us->Vals zs ws->Vals (gV vs zs) (g us ws)
variable{g:List Value->List Value->List Value}{gV:List V->List V->List V}
end
structure FnScope(N P:List Str)(sc:Scope):Prop where
 kind:sc.kind=.function
 co:sc.isCoroutine=false
 gen:sc.isGenerator=false
 nd:N.Nodup
 pre:N.take P.length=P
 par:∀x∈P,sc.names.lookup x=some .local\/sc.names.lookup x=some .cell
 nofree:∀y∈sc.names,y.2≠.free
theorem mF{kindOf:Str->Option NameKind}{x:Str}:∀{binds:List (Str×Value)} {m:Str->Option Value},(∀v,(x,v)∉binds)->bindL kindOf binds m x=m x
 | [],_,_=>rfl
 | (n,v)::r,m,h=>by
   unfold bindL;rw[mF fun w hw=>h w (List.mem_cons_of_mem _ hw)];split
   ·have:x≠n:=by rintro rfl;exact h v List.mem_cons_self
    simp[this]
   ·rfl
theorem lX{kindOf:Str->Option NameKind}{x:Str}:∀{binds:List (Str×Value)} {m:Str->Option Value},(∀v,(x,v)∉binds)->bindC kindOf binds m x=m x
 | [],_,_=>rfl
 | (n,v)::r,m,h=>by
   unfold bindC;rw[lX fun w hw=>h w (List.mem_cons_of_mem _ hw)];split
   ·rfl
   ·have:x≠n:=by rintro rfl;exact h v List.mem_cons_self
    simp[this]
theorem m7{kindOf:Str->Option NameKind}{x:Str}{v:Value}:∀{P:List Str} {vs:List Value} {i:Nat} {m:Str->Option Value},P.Nodup->P[i]?=some x->vs[i]?=some v->kindOf x=some .local ->
 bindL kindOf (P.zip vs) m x=some v
 | [],_,_,_,_,h,_,_=>by simp at h
 | _::_,[],_,_,_,_,h,_=>by simp at h
 | p::P,w::vs,0,m,nd,h1,h2,hk=>by
   simp at h1 h2;subst h1;subst h2;show bindL kindOf ((p,w)::P.zip vs) m p=_;unfold bindL;rw[mF fun v hv=>(List.nodup_cons.mp nd).1 (List.of_mem_zip hv).1,if_pos hk];simp
 | p::P,w::vs,i+1,m,nd,h1,h2,hk=>by
   show bindL kindOf ((p,w)::P.zip vs) m x=_;unfold bindL;exact m7 (i:=i) (List.nodup_cons.mp nd).2 (by simpa using h1) (by simpa using h2) hk
theorem mH{kindOf:Str->Option NameKind}{x:Str}{v:Value}:∀{P:List Str} {vs:List Value} {i:Nat} {m:Str->Option Value},P.Nodup->P[i]?=some x->vs[i]?=some v->kindOf x≠some .local ->
 bindC kindOf (P.zip vs) m x=some v
 | [],_,_,_,_,h,_,_=>by simp at h
 | _::_,[],_,_,_,_,h,_=>by simp at h
 | p::P,w::vs,0,m,nd,h1,h2,hk=>by
   simp at h1 h2;subst h1;subst h2;show bindC kindOf ((p,w)::P.zip vs) m p=_;unfold bindC;rw[lX fun v hv=>(List.nodup_cons.mp nd).1 (List.of_mem_zip hv).1,if_neg hk];simp
 | p::P,w::vs,i+1,m,nd,h1,h2,hk=>by
   show bindC kindOf ((p,w)::P.zip vs) m x=_;unfold bindC;exact mH (i:=i) (List.nodup_cons.mp nd).2 (by simpa using h1) (by simpa using h2) hk
noncomputable def start(N:List Str)(vs:List V):St:=vs.map some++List.replicate (N.length-vs.length) none
noncomputable def cxOf(CX:CXT)(P:Program)(w:World)(K:PySem.W.Frag)(mg:Str->Option Value)(base:Heap)(N:List Str)(qual:Str)(scope:Scope)(f:Addr)(cd:Value)(A:Around)(outer:List Env)(s:Shared)(H:Hp)(E:XK):Cx where
 prog:=P
 w:=w
 K:=K
 mg:=mg
 base:=base
 A:=A.deeper (envOfC qual scope s.heap.objs.size f cd)
 N:=N
 s₀:=s
 H₀:=H
 env:=envOfC qual scope s.heap.objs.size f cd
 outer:=outer
 stack:=envOfC qual scope s.heap.objs.size f cd::outer
 ex:=[]
 calm:=true
 fn:=fun _=>true
 pn:=[]
 xe:=fun e s'=>wpAny (model P w) (A.deeper (envOfC qual scope s.heap.objs.size f cd)) (leaving (envOfC qual scope s.heap.objs.size f cd) e) (fun _ s''=>CX outer H s E e s'') (fun e' s''=>CX outer H s E e' s'') s'
theorem pA{sc:Scope}{n:Nat}{x:Str}(h:sc.names.lookup x=some .cell):∃c,(cellsFrom n sc.names []).lookup x=some c:=by
 have q:=PySem.W.cellsFrom_some sc.names n [] (.inl h);exact Option.isSome_iff_exists.mp q
theorem rN{CX:CXT}{P:Program}{w:World}{K:PySem.W.Frag}{mg:Str->Option Value}{base:Heap}{N ps:List Str}{qual:Str}{scope:Scope}{f:Addr}{cd:Value}{A:Around}{outer:List Env}{s s1:Shared}{H:Hp}{E:XK}{us:List Value}{vs:List V}
 (S:FnScope N ps scope) (hd:A.handled=none) (e0:Env0 P w K mg base A outer s H) (hl:vs.length=ps.length) (r:Vals vs us)
 (x:InCallC s s.heap.objs.size (bindL (envOfC qual scope s.heap.objs.size f cd).kindOf (ps.zip us) fun _=>none) (cellsFrom (s.heap.objs.size+1) scope.names []) (bindC (envOfC qual scope s.heap.objs.size f cd).kindOf (ps.zip us) fun _=>none) s1) :
 Inv (cxOf CX P w K mg base N qual scope f cd A outer s H E) [] (start N vs) H s1:=by
 have hpl:ps.length<=N.length:=by have:=congrArg List.length S.pre;rw[List.length_take]at this;omega
 obtain⟨h1,tk,rfl,hk⟩:=x.done
 have noA:∀b:Addr,b∉(cxOf CX P w K mg base N qual scope f cd A outer s H E).ex:=fun b z=>absurd (show b∈([]:List Addr)from z) (by simp)
 refine⟨⟨e0.mod,S.kind,rfl,rfl,Nat.le_refl _,fun y z c h1 h2=>?_,fun y hy=>?_,fun y c _ h=>?_,fun _=>hd,Around.frames_deeper e0.frames,.inr ⟨rfl,rfl⟩,fun b z=>absurd z (noA b),e0.bs,e0.bsz,fun b _ _=>noA b,fun b z=>absurd z (noA b),e0.funs,e0.frf⟩,
  rfl,e0.bare,Un.kept hk,⟨_,x.toInCall.ns,fun i y v h1 h2 h3=>?_⟩,fun y c h=>⟨_,x.cell y c h⟩,e0.hok.fresh (Nat.le_refl _),fun y c h=>?_,fun p hp=>absurd (show p∈([]:List (Addr×Obj))from hp) (by simp),e0.hok.kept hk,?_⟩
 ·exact name_of_addr x.apart (PySem.mem_of_lookup h1) (PySem.mem_of_lookup h2)
 ·have hy:scope.names.lookup y=some .cell\/scope.names.lookup y=some .free:=hy
  rcases hy with hy | hy
  ·exact pA hy
  ·exact absurd rfl (S.nofree _ (PySem.mem_of_lookup hy))
 ·exact Nat.le_of_lt (x.above y c (PySem.mem_of_lookup h))
 ·have hi:i<vs.length:=by
   unfold start at h2
   by_cases hi:i<vs.length
   ·exact hi
   ·rw[List.getElem?_append_right (by simpa using hi)]at h2
    rw[List.getElem?_replicate]at h2;split at h2<;>cases h2
  have ha:vs[i]?=some v:=by
   unfold start at h2;rw[List.getElem?_append_left (by simpa using hi),List.getElem?_map]at h2
   cases e:vs[i]? with
   | none=>rw[e]at h2;cases h2
   | some a=>rw[e]at h2;cases h2;rfl
  obtain⟨u,hu,rv⟩:=r.get ha
  have hp:ps[i]?=some y:=by
   rw[<-S.pre,List.getElem?_take_of_lt (by omega)];exact h1
  have ndP:ps.Nodup:=by rw[<-S.pre];exact S.nd.sublist (List.take_sublist _ _)
  refine⟨u,rv,?_⟩;rcases S.par y (List.mem_of_getElem? hp)with k | k
  ·exact .inl ⟨k,m7 ndP hp hu k⟩
  ·obtain⟨c,e⟩:=pA (n:=s.heap.objs.size+1) k
   refine .inr ⟨.inl k,c,e,?_⟩;have q:=x.cell y c e;rw[mH ndP hp hu (by show scope.names.lookup y≠_;rw[k];decide)]at q;exact q
 ·exact e0.hok.fresh (Nat.le_of_lt (x.above y c (PySem.mem_of_lookup h)))
 ·unfold start
  show _=N.length;rw[List.length_append,List.length_map,List.length_replicate];omega
theorem Mm{CX:CXT}{P:Program}{w:World}{K:PySem.W.Frag}{mg:Str->Option Value}{base:Heap}{k:Nat}{f:Addr}{name qual:Str}{params:Arguments}{body:List Stmt}{scope:Scope}{dV kV doc pm cdv ct oc:Value}{an od:Option Addr}
 {osl:Array (Option Value)} {N ps:List Str} {sp:Sp} (lk:K.lookup f=some ⟨oc,od,.func (PySem.W.fnOf name qual params body scope dV kV doc pm an cdv ct),osl⟩) (hcd:PySem.W.codeIn K cdv qual=true) (S:FnScope N ps scope)
 (len:∀vs H Q E,sp vs H Q E->vs.length=ps.length)
 (hbody:∀(A:Around) (outer:List Env) (s:Shared) (H:Hp) (vs:List V) (Q:VK) (E:XK),Room k (A.deeper (envOfC qual scope s.heap.objs.size f cdv))->sp vs H Q E ->
  ∃t,PSs (cxOf CX P w K mg base N qual scope f cdv A outer s H E) body t/\t { nx:=fun _ H'=>Q .non H',rt:=Q } (start N vs) H) :
 FnOk P w K mg base CX (k+1) f (PySem.W.fnOf name qual params body scope dV kV doc pm an cdv ct) ps sp:=by
 refine⟨len,fun A outer s H args us vs Q E hr e0 hb r hsp=>?_⟩;have hl:=len _ _ _ _ hsp
 have KX:K.In s.heap:=e0.mod.kin.keeps fun b o e=>(e0.bs b o e).1
 have lim:s.heap.NoLimit:=e0.mod.nolimit.keeps fun b o e=>(e0.bs b o e).1
 have hkind:∀y∈ps.zip us,scope.names.lookup y.1=some .local\/(scope.names.lookup y.1=some .cell/\((cellsFrom (s.heap.objs.size+1) scope.names []).lookup y.1).isSome=true):=fun⟨n,v⟩ hy=>by
  rcases S.par n (List.of_mem_zip hy).1 with q | q
  ·exact .inl q
  ·exact .inr ⟨q,PySem.W.cellsFrom_some _ _ _ (.inl q)⟩
 refine codeAny_call_function hr.depth (KX _ _ lk) rfl S.co S.gen rfl (PySem.W.codeRec_of KX hcd) (hb _ _ _ _ ?_)
 refine wpAny_newFunctionEnv_cells S.kind hkind fun env he s1 x=>?_
 subst he;refine⟨lim.keeps x.toInCall.keep,codeAny_func ?_⟩;obtain⟨t,ht,hq⟩:=hbody A outer s H vs Q E (hr.deeper _) hsp;have I:Inv (cxOf CX P w K mg base N qual scope f cdv A outer s H E) [] (start N vs) H s1:=rN S hr.hd e0 hl r x
 refine wpAny_mono (ht [] s1 (start N vs) H _ I hq) (fun fl s' hs=>?_) fun e s' hs=>hs
 have fin:∀{σ':St} {H':Hp} {v:V} {u:Value},Inv (cxOf CX P w K mg base N qual scope f cdv A outer s H E) [] σ' H' s'->RelV v u->Q v H'->CE outer P w H s Q u s' :=
  fun{σ' H' v u} J rv q=>⟨v,H',J.os,J.bare,J.base,J.hok,rv,q⟩
 cases fl with
 | ret u=>
   obtain⟨v,σ',H',J,rv,q⟩:=hs;exact fin J rv q
 | next=>
   obtain⟨σ',H',J,q⟩:=hs;exact fin (v:=V.non) (u:=Value.none) J rfl q
 | brk=>
   obtain⟨_,_,_,q⟩:=hs;exact False.elim q
 | cont=>
   obtain⟨_,_,_,q⟩:=hs;exact False.elim q
end L2
namespace L2
open PySem PySem.Spec PyProof.Rows
section
variable{X:Cx}{x:Str}{p pos:Pos}{e:Expr}{es:List Expr}{t:TA}{id T:String}{r:List V->Hp->VK->Prop}
noncomputable def tCB(r:List V->Hp->VK->Prop)(t:TA):TE:=fun σ H Q=>t σ H fun vs H1=>r vs H1 Q
theorem fu(hc:CallR X (.builtin id) r)(hg:Gl X x)(hm:X.mg x=none)(hv:bootBuiltins x=some (.builtin id))(ha:PA X (e::es) t)(hn:x≠"__name__":=by decide)(hdb:(x==("__debug__":Str))=false:=by decide)
 (he:starEach (e::es) X.env=(false,eval e X.env)::starEach es X.env:=by rfl) (hpl:(backTo pos (starEach es X.env)).any (·.1)=false:=by rfl):PE X (.Call (.Name x p) (e::es) [] pos) (tCB r t):=by
 intro pins s σ H Q I h;refine wpAny_Call_Name_kw (jd I hg hm hv ?_ hn hdb);exact PyProof.Rows.callWith_builtin1 (thn (ha pos pins s σ H _ I h) fun us s1 ⟨vs,H1,I1,r1,q1⟩=>hc pins s1 σ H1 vs us Q I1 r1 q1) he hpl
theorem mz(hc:CallR X (.type T) r)(hg:Gl X x)(hm:X.mg x=none)(hv:bootBuiltins x=some (.type T))(ha:PA X (e::es) t)(hn:x≠"__name__":=by decide)(hdb:(x==("__debug__":Str))=false:=by decide)
 (he:starEach (e::es) X.env=(false,eval e X.env)::starEach es X.env:=by rfl) (hpl:(backTo pos (starEach es X.env)).any (·.1)=false:=by rfl):PE X (.Call (.Name x p) (e::es) [] pos) (tCB r t):=by
 intro pins s σ H Q I h;refine wpAny_Call_Name_kw (jd I hg hm hv ?_ hn hdb);exact PyProof.Rows.callWith_type1 (thn (ha pos pins s σ H _ I h) fun us s1 ⟨vs,H1,I1,r1,q1⟩=>hc pins s1 σ H1 vs us Q I1 r1 q1) he hpl
end
end L2
namespace L2
open PySem PySem.Spec PyProof.Rows
section
variable{κ:Type} [DecidableEq κ]
noncomputable def valV(kvs:List (κ×V))(k:κ):Option V:=(kvs.find? fun kv=>decide (kv.1=k)).map (·.2)
theorem qw{p:κ×V}{r:List (κ×V)}{k:κ}(e:p.1=k):valV (p::r) k=some p.2:=by simp[valV,List.find?_cons,e]
theorem pY{p:κ×V}{r:List (κ×V)}{k:κ}(e:¬p.1=k):valV (p::r) k=valV r k:=by simp[valV,List.find?_cons,e]
theorem RelO.isSome_eq{o:Option V}{u:Option Value}(r:RelO o u):o.isSome=u.isSome:=by
 cases o with
 | none=>cases u with
   | none=>rfl
   | some _=>exact(show False from r).elim
 | some _=>cases u with
   | none=>exact(show False from r).elim
   | some _=>rfl
theorem KV.val{kvs:List (κ×V)}{vs:List (κ×Value)}(r:KV kvs vs)(k:κ):RelO (valV kvs k) (valueAt vs k):=by
 unfold KV at r
 induction r with
 | nil=>exact True.intro
 | @cons p q ps qs h t ih=>
   obtain⟨h1,h2⟩:=h
   by_cases e:p.1=k
   ·have e':q.1=k:=h1.symm.trans e
    have b:valueAt (q::qs) k=some q.2:=by simp[valueAt,List.find?_cons,e']
    rw[qw e,b];exact h2
   ·have e':¬q.1=k:=fun z=>e (h1.trans z)
    have b:valueAt (q::qs) k=valueAt qs k:=by simp[valueAt,List.find?_cons,e']
    rw[pY e,b];exact ih
theorem KV.keys{kvs:List (κ×V)}{vs:List (κ×Value)}(r:KV kvs vs):kvs.map (·.1)=vs.map (·.1):=by
 unfold KV at r
 induction r with
 | nil=>rfl
 | cons h t ih=>rw[List.map_cons,List.map_cons,ih,h.1]
theorem KV.length{kvs:List (κ×V)}{vs:List (κ×Value)}(r:KV kvs vs):kvs.length=vs.length:=Paired.length r
end
theorem o8{P:Program}{w:World}{k:Key}{u:Value}(r:RelV (kV k) u):(bB P w).is k u=true:=by
 cases k with
 | inl i=>obtain⟨t,e⟩:=(show ∃t,u=Value.int i t from r);subst e;exact mQ P w i t
 | inr x=>obtain⟨t,e⟩:=(show ∃t,u=Value.str x t from r);subst e;exact nG P w x t
theorem lB{P:Program}{w:World}:∀{ks:List Key} {us:List Value},Vals (ks.map kV) us->ItemsAre (bB P w) ks us
 | [],_,r=>by rw[List.map_nil]at r;cases r;exact .nil
 | k::ks,_,r=>by
   rw[List.map_cons]at r
   cases r with
   | cons h t=>exact .cons (o8 h) (lB t)
noncomputable abbrev KT(H:Hp):List (List Key×V)->List (List Key×Addr×Value)->Prop:=Paired fun p q=>p.1=q.1/\H q.2.1=some (.tup (p.1.map kV))/\RelV p.2 q.2.2
theorem KT.val{H:Hp}{kvs:List (List Key×V)}{xs:List (List Key×Addr×Value)}(r:KT H kvs xs)(k:List Key):RelO (valV kvs k) ((atKey xs k).map (·.2)):=by
 induction r with
 | nil=>exact True.intro
 | @cons p q ps qs h t ih=>
   obtain⟨h1,_,h2⟩:=h
   by_cases e:p.1=k
   ·have e':q.1=k:=h1.symm.trans e
    have b:atKey (q::qs) k=some q.2:=by simp[atKey,List.find?_cons,e']
    rw[qw e,b];exact h2
   ·have e':¬q.1=k:=fun z=>e (h1.trans z)
    have b:atKey (q::qs) k=atKey qs k:=by simp[atKey,List.find?_cons,e']
    rw[pY e,b];exact ih
section
variable{P:Program}{w:World}{H:Hp}{h:Heap}{a:Addr}
theorem Ho{u:HO}(ok:HOk P w H h)(e:Rd H a u):ObjOk P w H h a u:=e.ok ok
noncomputable abbrev RdK(H:Hp)(a:Addr)(kvs:List (Key×V)):Prop:=∃ep,Rd H a (.dK kvs ep)
theorem qH{kvs:List (Key×V)}(ok:HOk P w H h)(e:RdK H a kvs):kvs.length<=sizeLine/\(a==sysModules)=false/\∃vs,KV kvs vs/\h.DictOf (bB P w) a vs:=by
 obtain⟨ep,e⟩:=e
 obtain⟨h1,h2,vs,h3,h4⟩:=(show ObjOk P w H h a (.dK kvs ep)from Ho ok e)
 exact⟨h1,h2,vs,h3,h4.dictOf⟩
theorem qd{ks:List Key}(ok:HOk P w H h)(e:H a=some (.tup (ks.map kV))):(tupleKind (bB P w)).is h ks a:=by
 obtain⟨_,its,r,o,h1,h2,n,h3⟩:=(show ObjOk P w H h a (.tup (ks.map kV))from ok a _ e)
 exact⟨o,its.toArray,n,h1,h2,h3,by simpa using lB r⟩
theorem xm{kvs:List (List Key×V)}(ok:HOk P w H h)(e:Rd H a (.dT kvs)):kvs.length<=sizeLine/\(a==sysModules)=false /\
 ∃xs,KT H kvs xs/\h.DictOfH (tupleKind (bB P w)) a xs:=by
 obtain⟨z,y,xs,r,o,es,ep,h1,h2,h3,h4,h5⟩:=(show ObjOk P w H h a (.dT kvs)from Ho ok e)
 refine⟨z,y,xs,r,o,es,ep,h1,h2,h3,h4,fun x hx=>?_,h5⟩
 have all:∀{l:List (List Key×V)} {m:List (List Key×Addr×Value)},KT H l m->∀x∈m,(tupleKind (bB P w)).is h x.1 x.2.1:=by
  intro l m q
  induction q with
  | nil=>intro x hx;exact nomatch hx
  | @cons p q ps qs hq t ih=>
    intro x hx;rcases List.mem_cons.mp hx with e | hx
    ·subst e
     exact qd ok (by rw[<-hq.1];exact hq.2.1)
    ·exact ih x hx
 exact all r x hx
end
noncomputable def DGet(H:Hp)(a:Addr)(y:V)(r:Option V):Prop :=
 (∃kvs k,RdK H a kvs/\y=kV k/\r=valV kvs k)\/∃kvs k b,Rd H a (.dT kvs)/\y=.ref b/\H b=some (.tup (k.map kV))/\r=valV kvs k
theorem DGet.k{H:Hp}{a:Addr}{kvs:List (Key×V)}{k:Key}{ep:Nat}(e:H a=some (.dK kvs ep)):DGet H a (kV k) (valV kvs k):=.inl ⟨kvs,k,⟨ep,.inl e⟩,rfl,rfl⟩
section
variable{X:Cx}{pins:List (Addr×Obj)}{σ:St}{H:Hp}{s:Shared}{a:Addr}{y v:V}{u r:Value}{o:Option V}{A:Around}{E:Value->Shared->Prop}
theorem uJ{Q:Value->Shared->Prop}(hu:A.units+1<cLine)(I:Inv X pins σ H s)(g:DGet H a y (some v))(ry:RelV y u)(h:∀w' s',Inv X pins σ H s'->RelV v w'->Q w' s') :
 wpAny (model X.prog X.w) A (getItem (.ref a) u) Q E s:=by
 rcases g with⟨kvs,k,e,ey,l⟩ | ⟨kvs,k,b,e,ey,eb,l⟩
 ·subst ey
  obtain⟨z,hd,vs,rel,dd⟩:=qH I.hok e;obtain⟨w',hw,rw'⟩:=RelO.some_of (v:=v) (o:=valueAt vs k) (by rw[l];exact rel.val k);exact wpAny_getItem_of (o8 ry) dd.mapOf hw (h w' _ (I.tok _) rw')
 ·subst ey
  cases (show u=Value.ref b from ry);obtain⟨z,hd,xs,rel,dd⟩:=xm I.hok e;obtain⟨w',hw,rw'⟩:=RelO.some_of (v:=v) (o:=(atKey xs k).map (·.2)) (by rw[l];exact rel.val k);obtain⟨p,hp,hp2⟩:=Option.map_eq_some_iff.mp hw;refine wpAny_getItem_heap (tupleKind_room_in1 hu) (qd I.hok eb) dd hp ?_;rw[hp2];exact h w' _ (I.tok _) rw'
theorem d_in{Q:Value->Shared->Prop}(hu:A.units+1<cLine)(I:Inv X pins σ H s)(g:DGet H a y o)(ry:RelV y u)(h:∀s',Inv X pins σ H s'->Q (.bool o.isSome) s') :
 wpAny (model X.prog X.w) A (compareOp .In u (.ref a)) Q E s:=by
 rcases g with⟨kvs,k,e,ey,l⟩ | ⟨kvs,k,b,e,ey,eb,l⟩
 ·subst ey
  obtain⟨z,hd,vs,rel,dd⟩:=qH I.hok e;refine wpAny_in_of (o8 ry) hd dd.mapOf ?_;rw[<-(rel.val k).isSome_eq,<-l];exact h _ (I.tok _)
 ·subst ey
  cases (show u=Value.ref b from ry);obtain⟨z,hd,xs,rel,dd⟩:=xm I.hok e;refine wpAny_in_heap (tupleKind_room_in1 hu) (qd I.hok eb) hd dd ?_;have q:=(rel.val k).isSome_eq;rw[Option.isSome_map]at q;rw[<-q,<-l];exact h _ (I.tok _)
theorem CQ{Q:Value->Shared->Prop}(hu:A.units+1<cLine)(I:Inv X pins σ H s)(g:DGet H a y o)(ry:RelV y u)(h:∀s',Inv X pins σ H s'->Q (.bool (!o.isSome)) s') :
 wpAny (model X.prog X.w) A (compareOp .NotIn u (.ref a)) Q E s:=by
 rcases g with⟨kvs,k,e,ey,l⟩ | ⟨kvs,k,b,e,ey,eb,l⟩
 ·subst ey
  obtain⟨z,hd,vs,rel,dd⟩:=qH I.hok e;refine wpAny_notIn_of (o8 ry) hd dd.mapOf ?_;rw[<-(rel.val k).isSome_eq,<-l];exact h _ (I.tok _)
 ·subst ey
  cases (show u=Value.ref b from ry);obtain⟨z,hd,xs,rel,dd⟩:=xm I.hok e;refine wpAny_notIn_heap (tupleKind_room_in1 hu) (qd I.hok eb) hd dd ?_;have q:=(rel.val k).isSome_eq;rw[Option.isSome_map]at q;rw[<-q,<-l];exact h _ (I.tok _)
end
section
variable{X:Cx}{pins:List (Addr×Obj)}{σ:St}{H:Hp}{s:Shared}{a:Addr}{kvs:List (Key×V)}{k:Key}{u:Value}{A:Around}{E:Value->Shared->Prop}
theorem Kf{Q:Value->Shared->Prop}(I:Inv X pins σ H s)(e:RdK H a kvs)(h:∀t s',Inv X pins σ H s'->Q (.int kvs.length t) s'):wpAny (model X.prog X.w) A (call (.builtin "len") [.ref a]) Q E s:=by
 obtain⟨z,hd,vs,rel,dd⟩:=qH I.hok e;refine call_len_dict hd dd (by rw[<-rel.length];rw[sizeLine_eq]at z;omega) ?_;rw[<-rel.length];exact h _ _ (I.tok _)
end
noncomputable def NoSl(i:Expr):Prop:=∀ov iv,subscripted i false ov iv=operate [ov,iv] (getItem ov iv)
theorem u0{prog:Program}{w:World}{A:Around}{E:Value->Shared->Prop}{s:Shared}{env:Env}{value slice:Expr}{pos:Pos}{T id:String}{Q:Value->Shared->Prop}
 (hl:typeLookup (.type T) "__getitem__"=pure (some (.builtin id))) (hs:NoSl slice)
 (h:wpAny (model prog w) A (eval value env) (fun o s₁=>wpAny (model prog w) A (eval slice env) (fun i s₂=>s₂.TypeIs o T/\wpAny (model prog w) A (getItem o i) Q E s₂) E s₁) E s) :
 wpAny (model prog w) A (eval (.Subscript value slice pos) env) Q E s:=by
 refine Subscript_ (wpAny_mono h (fun o s₁ h₁=>wpAny_mono h₁ (fun i s₂ h₂=>?_) fun _ _ x=>x) fun _ _ x=>x);obtain⟨hT,h₂⟩:=h₂;unfold subscriptTail;refine wpAny_bind ?_;rw[getitemInPython_of_ne hT.not_modules];refine wpAny_bind (wpAny_specialOf hT hl ?_)
 have fin:wpAny (model prog w) A (subscripted slice false o i) (fun r s₃=>wpAny (model prog w) A (letTemporaryGo value o r >>= fun _=>pure r) Q E s₃) E s₂:=by
  rw[hs o i];exact wpAny_operating (wpAny_mono h₂ (fun r s₃ h₃=>wpAny_bind (wpAny_letTemporaryGo (wpAny_pure h₃))) fun _ _ x=>x)
 first
  | exact wpAny_pure (wpAny_bind fin)
  | exact wpAny_bind (wpAny_pure (wpAny_bind fin))
  | exact wpAny_bind fin
theorem nM{X:Cx}{pins:List (Addr×Obj)}{σ:St}{H:Hp}{s:Shared}{a:Addr}{y:V}{o:Option V}(I:Inv X pins σ H s)(g:DGet H a y o):s.TypeIs (.ref a) "dict":=by
 rcases g with⟨kvs,k,e,_,_⟩ | ⟨kvs,k,b,e,_,_,_⟩
 ·obtain⟨_,_,vs,_,dd⟩:=qH I.hok e
  exact dd.typeIs
 ·obtain⟨_,_,xs,_,dd⟩:=xm I.hok e
  exact dd.typeIs
noncomputable def LC(td ty:TE):TE:=fun σ H Q=>td σ H fun x H1=>ty σ H1 fun y H2=>∃a v,x=.ref a/\DGet H2 a y (some v)/\Q v H2
noncomputable def tDIn(ty td:TE):TE:=fun σ H Q=>ty σ H fun y H1=>td σ H1 fun x H2=>∃a o,x=.ref a/\DGet H2 a y o/\Q (.bl o.isSome) H2
noncomputable def Bh(ty td:TE):TE:=fun σ H Q=>ty σ H fun y H1=>td σ H1 fun x H2=>∃a o,x=.ref a/\DGet H2 a y o/\Q (.bl (!o.isSome)) H2
section
variable{X:Cx}{o i e value:Expr}{pos pos' tpos:Pos}{td ty tv:TE}
theorem Fi(hu:X.A.units+1<cLine)(ho:PE X o td)(hi:PE X i ty)(hs:NoSl i):PE X (.Subscript o i pos) (LC td ty):=by
 intro pins s σ H Q I h;refine u0 PySem.F.slot_dict_getitem.lookup hs (thn (ho pins s σ H _ I h) fun u s1 ⟨x,H1,I1,rx,q1⟩=>thn (hi pins s1 σ H1 _ I1 q1) fun iv s2 ⟨y,H2,I2,ry,a,v,ex,g,q2⟩=>?_);subst ex;obtain rfl:u=Value.ref a:=rx;exact⟨nM I2 g,uJ hu I2 g ry fun w' s3 I3 rw'=>⟨v,H2,I3,rw',q2⟩⟩
theorem Ad(hu:X.A.units+1<cLine)(hi:PE X i ty)(ho:PE X o td):PC X .In i o (tDIn ty td):=by
 intro pins s σ H Q I h
 refine thn (hi pins s σ H _ I h) fun iv s1 ⟨y,H1,I1,ry,q1⟩=>thn (ho pins s1 σ H1 _ I1 q1) fun u s2 ⟨x,H2,I2,rx,a,ov,ex,g,q2⟩=>?_
 subst ex;obtain rfl:u=Value.ref a:=rx
 exact d_in hu I2 g ry fun s3 I3=>⟨.bl ov.isSome,H2,I3,rfl,q2⟩
theorem lW(hu:X.A.units+1<cLine)(hi:PE X i ty)(ho:PE X o td):PC X .NotIn i o (Bh ty td):=by
 intro pins s σ H Q I h
 refine thn (hi pins s σ H _ I h) fun iv s1 ⟨y,H1,I1,ry,q1⟩=>thn (ho pins s1 σ H1 _ I1 q1) fun u s2 ⟨x,H2,I2,rx,a,ov,ex,g,q2⟩=>?_
 subst ex;obtain rfl:u=Value.ref a:=rx
 exact CQ hu I2 g ry fun s3 I3=>⟨.bl (!ov.isSome),H2,I3,rfl,q2⟩
end
structure M1(X:Cx)(o:Expr)(m:Str)(apos:Pos)(e:Expr)(cpos:Pos):Prop where
 base:attributeBase o m X.env (eval o X.env)=eval o X.env
 few:((backTo cpos (starEach [e] X.env)).all (fun x=>!x.1)&&(backToKw cpos (keywordEach [] X.env)).all (fun x=>x.1.isSome)
  && decide (([e]:List Expr).length+([]:List Keyword).length+(if([]:List Keyword).isEmpty then 0 else 1)<30))=true
 line:(apos.endLine==cpos.line)=true
 trees:backTo cpos (starEach [e] X.env)=[(false,eval e X.env)]
structure M2(X:Cx)(o:Expr)(m:Str)(apos:Pos)(e f:Expr)(cpos:Pos):Prop where
 base:attributeBase o m X.env (eval o X.env)=eval o X.env
 few:((backTo cpos (starEach [e,f] X.env)).all (fun x=>!x.1)&&(backToKw cpos (keywordEach [] X.env)).all (fun x=>x.1.isSome)
  && decide (([e,f]:List Expr).length+([]:List Keyword).length+(if([]:List Keyword).isEmpty then 0 else 1)<30))=true
 line:(apos.endLine==cpos.line)=true
 trees:backTo cpos (starEach [e,f] X.env)=[(false,eval e X.env),(false,eval f X.env)]
end L2
namespace HT
open PySem PyProof.Rows
section
open PySem.SeqAt
open PySem.AutoSeq1 (wpAny_loadPart')
open PySem.MeetsSeq PySem.MeetsSeq2 PySem.MeetsSeq3
end
section
variable{prog:Program}{w:World}{A:Around}{E:Value->Shared->Prop}{s:Shared}
theorem cat_tup{t b:Addr}{vs ws:List Value}{Q:Value->Shared->Prop}(ht:IsTup s.heap t vs.toArray)(hb:IsTup s.heap b ws.toArray)(hv:vs≠[])
 (h1:ws=[]->Q (.ref t) s) (h2:ws≠[]->Q (.ref s.heap.objs.size) { s with heap:=s.heap.push { cls:=.type "tuple",data:=.seq (vs++ws).toArray } })
 (hsz:vs.length+ws.length<=sizeLine):wpAny (model prog w) A (binaryOp .Add (.ref t) (.ref b)) Q E s:=by
 obtain⟨⟨cls,dd,data,sl⟩,ho,hc,n,hd⟩:=id ht;obtain⟨⟨cls2,dd2,data2,sl2⟩,ho2,hc2,n2,hd2⟩:=id hb;simp only at hc hd hc2 hd2;subst hc hd hc2 hd2
 have e:vs.toArray++ws.toArray=(vs++ws).toArray:=by simp
 by_cases hw:ws=[]
 ·exact concat_meets ⟨_,ho,rfl⟩ ⟨_,ho2,rfl⟩ noFill_tuple_add seq_tuple_add PySem.F.slot_tuple_add PySem.F.entry_tuple_add (PySem.F.args_tuple_add_2 _ _)
   (tuple_addW1 t b vs.toArray ws.toArray n n2 dd dd2 sl sl2 (by simpa using hv) (by simp[hw])) ⟨ho,ho2,h1 hw⟩
 ·refine concat_meets ⟨_,ho,rfl⟩ ⟨_,ho2,rfl⟩ noFill_tuple_add seq_tuple_add PySem.F.slot_tuple_add PySem.F.entry_tuple_add (PySem.F.args_tuple_add_2 _ _)
   (tuple_addW2 t b vs.toArray ws.toArray n n2 dd dd2 sl sl2 (by simpa using hv) (by simpa using hw) (by rw[List.size_toArray,List.size_toArray];exact hsz)) ⟨ho,ho2,?_⟩
  rw[e];exact h2 hw
noncomputable def sIx(n d:Nat):Option Int->Nat
 | none=>d
 | some v=>if v<0 then(v+(n:Int)).toNat else min v.toNat n
theorem JQ(n d:Nat)(hd:d<=n)(o:Option Int):sIx n d o<=n:=by
 cases o with
 | none=>exact hd
 | some v=>
   show(if v<0 then(v+(n:Int)).toNat else min v.toNat n)<=n
   by_cases hv:v<0
   ·rw[if_pos hv];omega
   ·rw[if_neg hv];exact Nat.min_le_right _ _
theorem ug(v:Int)(n d:Nat):(if v<0 then max (v+(n:Int)) 0 else min v (n:Int))=((sIx n d (some v):Nat):Int):=by
 show(if v<0 then max (v+(n:Int)) 0 else min v (n:Int))=(((if v<0 then(v+(n:Int)).toNat else min v.toNat n):Nat):Int)
 by_cases hv:v<0
 ·simp only[if_pos hv];omega
 ·simp only[if_neg hv];omega
theorem rE(lo hi:Option Int)(n:Nat):Builtin.Slice.sliceAdjust lo hi 1 (n:Int)=(((sIx n 0 lo:Nat):Int),((sIx n n hi:Nat):Int)):=by
 have h1:¬((1:Int)<0):=by omega
 unfold Builtin.Slice.sliceAdjust;simp only[h1,if_false];refine Prod.ext ?_ ?_
 ·cases lo with
  | none=>rfl
  | some v=>exact ug v n 0
 ·cases hi with
  | none=>rfl
  | some v=>exact ug v n n
theorem qQ(i j:Nat):Builtin.Slice.slicePlaces (i:Int) (j:Int) 1=j-i:=by
 unfold Builtin.Slice.slicePlaces
 have h1:(1:Int)>0:=by omega
 simp only[h1,if_true,Int.ediv_one];split<;>omega
theorem jh{v:Value}{o:Option Int}{Q:Option Int->Shared->Prop}(p:IsPart v o)(h:Q o s):wpAny (model prog w) A (Builtin.Slice.slicePartIndex v) Q E s:=by
 cases p with
 | none=>exact slicePart_none h
 | int i t=>exact slicePart_int h
theorem gH{sl:Addr}{vl vu:Value}{lo hi:Option Int}{n:Nat}{Q:Int×Int×Nat->Shared->Prop}(hs:s.heap.IsSliceOf sl vl vu .none)(pl:IsPart vl lo)(pu:IsPart vu hi)
 (h:Q (((sIx n 0 lo:Nat):Int),1,sIx n n hi-sIx n 0 lo) s):wpAny (model prog w) A (Builtin.Slice.sliceApplied (.ref sl) (pure (n:Int))) Q E s:=by
 obtain⟨os,hos,hcs,hds⟩:=id hs;unfold Builtin.Slice.sliceApplied Builtin.Slice.sliceFields;refine wpAny_bind (wpAny_bind (wpAny_field hos hds (x:=vl) rfl (wpAny_bind (wpAny_field hos hds (x:=vu) rfl (wpAny_bind (wpAny_field hos hds (x:=.none) rfl (wpAny_pure ?_)))))));refine wpAny_bind (slicePart_none ?_);show wpAny _ _ (if((1:Int)==0)=true then _ else _) _ _ s;rw[if_neg (by decide)];refine wpAny_bind (jh pl (wpAny_bind (jh pu (wpAny_bind (wpAny_pure ?_)))));show wpAny _ _ (match Builtin.Slice.sliceAdjust lo hi 1 (n:Int)with | (lo,hi)=>pure (lo,(1:Int),Builtin.Slice.slicePlaces lo hi 1)) _ _ s;rw[rE lo hi n];show wpAny _ _ (pure (((sIx n 0 lo:Nat):Int),(1:Int),Builtin.Slice.slicePlaces ((sIx n 0 lo:Nat):Int) ((sIx n n hi:Nat):Int) 1)) _ _ s;rw[qQ];exact wpAny_pure h
theorem xu(xs:Array Value)(i k:Nat):((List.range k).filterMap fun(m:Nat)=>xs[((i:Int)+(m:Int)*1).toNat]?).toArray=((xs.toList.drop i).take k).toArray:=by
 have e:(fun(m:Nat)=>xs[((i:Int)+(m:Int)*1).toNat]?)=fun m=>xs[i+m]?:=by
  funext m
  have:((i:Int)+(m:Int)*1).toNat=i+m:=by omega
  rw[this]
 rw[e];have:=pick_run xs i k;rw[List.filterMap_map]at this
 have e2:((fun x=>xs[x]?)∘fun x=>i+x)=fun m=>xs[i+m]?:=rfl
 rw[e2]at this;rw[this]
theorem getItem_tuple_cut{t sl:Addr}{items:Array Value}{vl vu:Value}{lo hi:Option Int}{Q:Value->Shared->Prop}(ht:IsTup s.heap t items)(hs:s.heap.IsSliceOf sl vl vu .none)(pl:IsPart vl lo)(pu:IsPart vu hi)
 (hw:¬(sIx items.size 0 lo=0/\sIx items.size items.size hi=items.size))
 (h:Q (.ref s.heap.objs.size) { s with heap:=s.heap.push { cls:=.type "tuple",data:=.seq ((items.toList.drop (sIx items.size 0 lo)).take (sIx items.size items.size hi-sIx items.size 0 lo)).toArray } })
 (hsz:items.size<=sizeLine):wpAny (model prog w) A (getItem (.ref t) (.ref sl)) Q E s:=by
 have htake:sizeOk (.seq ((items.toList.drop (sIx items.size 0 lo)).take (sIx items.size items.size hi-sIx items.size 0 lo)).toArray):=by
  show((items.toList.drop (sIx items.size 0 lo)).take (sIx items.size items.size hi-sIx items.size 0 lo)).toArray.size<=sizeLine;rw[List.size_toArray,List.length_take,List.length_drop,Array.length_toList];omega
 have hj:sIx items.size items.size hi<=items.size:=JQ _ _ (Nat.le_refl _) hi;obtain⟨os,hos,hcs,hds⟩:=id hs
 have hTs:s.TypeIs (.ref sl) "slice":=⟨os,hos,hcs⟩
 unfold getItem
 try with_reducible refine wpAny_holding ?_
 first | refine wpAny_bind (wpAny_pure ?_) | skip
 refine wpAny_bind (wpAny_sequenceKey ht.typeIs (by decide) ?_)
 refine wpAny_bind (wpAny_callSpecial?_slot (name:=Str.ofString "__getitem__") ht.typeIs PyProof.Rows.slot_tuple_getitem
  (wpAny_call_entry PyProof.Rows.slot_tuple_getitem ht.typeIs entry_tuple_getitem ?_ (args_tuple_getitem _ _)))
 show wpAny _ _ (Builtin.Tuple.tupleItemsOf (.ref t) >>= _) _ _ s;refine wpAny_bind (tupleItemsOf_ ht ?_);refine wpAny_bind (wpAny_typeOf hTs ?_);rw[if_pos (by decide)];refine wpAny_bind (gH hs pl pu ?_)
 have hno:¬((((sIx items.size 0 lo:Nat):Int)==0&&(1:Int)==1&&(sIx items.size items.size hi-sIx items.size 0 lo)==items.size)=true):=by
  intro q;rw[Bool.and_eq_true,Bool.and_eq_true]at q;have q1:((sIx items.size 0 lo:Nat):Int)=0:=eq_of_beq q.1.1;have q2:sIx items.size items.size hi-sIx items.size 0 lo=items.size:=eq_of_beq q.2;exact hw ⟨by omega,by omega⟩
 show wpAny _ _ (if(((sIx items.size 0 lo:Nat):Int)==0&&(1:Int)==1&&(sIx items.size items.size hi-sIx items.size 0 lo)==items.size)=true then _ else _) _ _ s;rw[if_neg hno,xu]
 first
  | exact wpAny_bind (m:=Builtin.Tuple.tupleExact _) (wpAny_newObj_type (wpAny_pure ⟨_,rfl,wpAny_pure h⟩) htake)
  | exact wpAny_bind (m:=Builtin.Tuple.tupleExact _) (wpAny_newObj_type (wpAny_bind (wpAny_pure (wpAny_pure ⟨_,rfl,wpAny_pure h⟩))) htake)
  | exact wpAny_bind (wpAny_bind (m:=Builtin.Tuple.tupleExact _) (wpAny_newObj_type (wpAny_pure (wpAny_pure ⟨_,rfl,wpAny_pure h⟩)) htake))
  | exact wpAny_bind (wpAny_bind (m:=Builtin.Tuple.tupleExact _) (wpAny_newObj_type (wpAny_pure ⟨_,rfl,wpAny_pure h⟩) htake))
end
end HT
namespace L2
open PySem PySem.Spec PyProof.Rows
noncomputable abbrev TO:=St->Hp->(Option Int->Hp->Prop)->Prop
noncomputable def PO(X:Cx)(e:Option Expr)(t:TO):Prop :=
 ∀(pins:List (Addr×Obj)) (s:Shared) (σ:St) (H:Hp) (Q:Option Int->Hp->Prop),Inv X pins σ H s->t σ H Q ->
  wpAny (model X.prog X.w) X.A (evalPart e X.env) (fun u s'=>∃o H',Inv X pins σ H' s'/\IsPart u o/\Q o H') X.xe s
noncomputable def DW:TO:=fun _ H Q=>Q none H
noncomputable def Lq(t:TE):TO:=fun σ H Q=>t σ H fun x H1=>∃i,x=.int i/\Q (some i) H1
theorem intsAre_of{ns:List Int}:∀{us:List Value},Vals (ns.map V.int) us->IntsAre us ns:=by
 induction ns with
 | nil=>intro us r;rw[List.map_nil]at r;cases r;exact .nil
 | cons n ns ih=>
   intro us r;rw[List.map_cons]at r
   cases r with
   | cons r1 r2=>
     obtain⟨t,e⟩:=r1;subst e;exact .cons n t (ih r2)
section
variable{X:Cx}{e:Expr}{te:TE}{lo hi:Option Expr}{tl th:TO}{pos p2:Pos}
theorem Aq:PO X none DW:=by
 intro pins s σ H Q I h;rw[evalPart_none];exact wpAny_pure ⟨none,H,I,.none,h⟩
theorem BV(h:PE X e te):PO X (some e) (Lq te):=by
 intro pins s σ H Q I hw;rw[evalPart_some]
 refine thn (h pins s σ H _ I hw) fun u s1 ⟨x,H1,I1,r1,q1⟩=>?_
 obtain⟨i,rfl,q⟩:=q1;obtain⟨t,rfl⟩:=r1;exact⟨some i,H1,I1,.int i t,q⟩
noncomputable def SlR(X:Cx)(r:V->Option Int->Option Int->Hp->VK->Prop):Prop :=
 ∀(pins:List (Addr×Obj)) (s:Shared) (σ:St) (H:Hp) (x:V) (v vl vu:Value) (lo hi:Option Int) (sl:Addr) (Q:VK),Inv X pins σ H s->RelV x v->s.heap.IsSliceOf sl vl vu .none->IsPart vl lo->IsPart vu hi->r x lo hi H Q ->
  ∃T id,typeLookup (.type T) "__getitem__"=pure (some (.builtin id))/\s.TypeIs v T/\wpAny (model X.prog X.w) X.A (getItem v (.ref sl)) (EP X pins σ Q) X.xe s
theorem SlR.or{r r':V->Option Int->Option Int->Hp->VK->Prop}(h:SlR X r)(h':SlR X r'):SlR X (fun x lo hi H Q=>r x lo hi H Q\/r' x lo hi H Q):=by
 intro pins s σ H x v vl vu lo hi sl Q I rx hs pl pu q;rcases q with q | q
 ·exact h pins s σ H x v vl vu lo hi sl Q I rx hs pl pu q
 ·exact h' pins s σ H x v vl vu lo hi sl Q I rx hs pl pu q
noncomputable def tSl(r:V->Option Int->Option Int->Hp->VK->Prop)(te:TE)(tl th:TO):TE:=fun σ H Q=>te σ H fun x H1=>tl σ H1 fun l H2=>th σ H2 fun u H3=>r x l u H3 Q
theorem xP{r:V->Option Int->Option Int->Hp->VK->Prop}(hr:SlR X r)(he:PE X e te)(hl:PO X lo tl)(hu:PO X hi th):PE X (.Subscript e (.Slice lo hi none p2) pos) (tSl r te tl th):=by
 intro pins s σ H Q I h;refine Subscript_ (thn (he pins s σ H _ I h) fun v s1 ⟨x,H1,I1,r1,q1⟩=>?_);refine wpAny_Slice (thn (hl pins s1 σ H1 _ I1 q1) fun vl s2 ⟨l,H2,I2,pl,q2⟩=>thn (hu pins s2 σ H2 _ I2 q2) fun vu s3 ⟨u,H3,I3,pu,q3⟩=>?_);rw[evalPart_none];refine wpAny_pure ?_
 have I4:Inv X pins σ H3 { s3 with heap:=s3.heap.push { cls:=.type "slice",data:=.fields #[vl,vu,.none] } }:=I3.kept (t':=s3.toks) fun b ob q=>Heap.get?_push_of_some _ q
 obtain⟨T,id,hT,ht,hg⟩:=hr pins { s3 with heap:=s3.heap.push { cls:=.type "slice",data:=.fields #[vl,vu,.none] } } σ H3 x v vl vu l u s3.heap.objs.size Q I4 r1 (Heap.IsSliceOf.new ..) pl pu q3;show wpAny (model X.prog X.w) X.A (subscriptTail e (.Slice lo hi none p2) v (.ref s3.heap.objs.size)) (EP X pins σ Q) X.xe { s3 with heap:=s3.heap.push { cls:=.type "slice",data:=.fields #[vl,vu,.none] } };exact tail_any (ops:=[.ref s3.heap.objs.size,v]) ht hT hg (by with_unfolding_all rfl)
noncomputable def cutV(xs:List V)(lo hi:Option Int):List V:=(xs.drop (HT.sIx xs.length 0 lo)).take (HT.sIx xs.length xs.length hi-HT.sIx xs.length 0 lo)
theorem gZ(xs:List V)(lo hi:Option Int):(cutV xs lo hi).length<=xs.length:=by
 unfold cutV;rw[List.length_take,List.length_drop];omega
noncomputable def rSlT(K:PySem.W.Frag):V->Option Int->Option Int->Hp->VK->Prop:=fun x lo hi H Q=>∃a xs,x=.ref a/\SqT K H a xs /\
 ¬(HT.sIx xs.length 0 lo=0/\HT.sIx xs.length xs.length hi=xs.length)/\∀p,H p=none->Q (.ref p) (upd H p (.tup (cutV xs lo hi)))
theorem Hv:SlR X (rSlT X.K):=by
 intro pins s σ H x v vl vu lo hi sl Q I rx hs pl pu h;obtain⟨a,xs,rfl,hx,hw,q⟩:=h;cases rx;obtain⟨its,r,ht,hz⟩:=I.tuple hx
 have hlen:its.toArray.size=xs.length:=by rw[List.size_toArray];exact r.length.symm
 refine⟨"tuple",_,PyProof.Rows.slot_tuple_getitem.lookup,ht.typeIs,?_⟩;refine HT.getItem_tuple_cut ht hs pl pu (by rw[hlen];exact hw) ?_ (by rw[hlen];exact hz);rw[hlen];refine⟨.ref s.heap.objs.size,_,I.laid (t':=s.toks) (o:=.tup (cutV xs lo hi)) (fun b ob q=>Heap.get?_push_of_some _ q) (Nat.le_refl _) ?_,rfl,q _ (I.hok.fresh (Nat.le_refl _))⟩;exact⟨Nat.le_trans (gZ xs lo hi) hz,_,(r.drop (HT.sIx xs.length 0 lo)).take (HT.sIx xs.length xs.length hi-HT.sIx xs.length 0 lo),IsTup.new _ _⟩
noncomputable def Ft(K:PySem.W.Frag):R2:=fun x y H Q=>∃a b xs ys,x=.ref a/\y=.ref b/\SqT K H a xs/\SqT K H b ys/\xs≠[]/\xs.length+ys.length<=sizeLine /\
 (ys=[]->Q (.ref a) H)/\(ys≠[]->∀p,H p=none->Q (.ref p) (upd H p (.tup (xs++ys))))
theorem Vals.nil_iff{xs:List V}{us:List Value}(r:Vals xs us):us=[]↔xs=[]:=by
 cases r with
 | nil=>simp
 | cons _ _=>simp
theorem DN:OpR X (binaryOp .Add) (Ft X.K):=by
 intro pins s σ H x y v u Q I rx ry h;obtain⟨a,b,xs,ys,rfl,rfl,ha,hb,hx,hz,q1,q2⟩:=h;cases rx;cases ry;obtain⟨its,r1,p1,_⟩:=I.tuple ha;obtain⟨its2,r2,p2,_⟩:=I.tuple hb;refine HT.cat_tup p1 p2 (fun z=>hx (r1.nil_iff.mp z)) (fun z=>⟨.ref a,H,I,rfl,q1 (r2.nil_iff.mp z)⟩) (fun z=>?_) (by rw[<-r1.length,<-r2.length];exact hz);refine⟨.ref s.heap.objs.size,_,I.laid (t':=s.toks) (o:=.tup (xs++ys)) (fun b ob q=>Heap.get?_push_of_some _ q) (Nat.le_refl _) ?_,rfl,q2 (fun w=>z (r2.nil_iff.mpr w)) _ (I.hok.fresh (Nat.le_refl _))⟩;exact⟨by rw[List.length_append];exact hz,_,r1.append r2,IsTup.new _ _⟩
end
end L2
namespace L2
open PySem PySem.Spec PyProof.Rows
noncomputable def ixN(n:Nat)(i:Int):Option Nat:=if 0<=i then(if i<n then some i.toNat else none)else if -(n:Int)<=i then some (i+n).toNat else none
noncomputable def atI{α:Type}(xs:List α)(i:Int):Option α:=(ixN xs.length i).bind fun j=>xs[j]?
theorem Ea{n:Nat}{i:Int}{j:Nat}(h:ixN n i=some j):seqIndex? i n=some j/\j<n/\-(n:Int)<=i/\i<n:=by
 unfold ixN at h
 by_cases h0:0<=i
 ·rw[if_pos h0]at h
  by_cases h1:i<n
  ·rw[if_pos h1]at h
   have e:i.toNat=j:=Option.some.inj h;exact⟨by rw[seqIndex_of h0 h1,e],by omega,by omega,h1⟩
  ·rw[if_neg h1]at h;cases h
 ·rw[if_neg h0]at h
  by_cases h1:-(n:Int)<=i
  ·rw[if_pos h1]at h
   have e:(i+n).toNat=j:=Option.some.inj h;exact⟨by rw[seqIndex_neg (by omega) h1,e],by omega,h1,by omega⟩
  ·rw[if_neg h1]at h;cases h
theorem oO{α:Type}{xs:List α}{i:Int}{v:α}(h:atI xs i=some v):∃j,seqIndex? i xs.length=some j/\xs[j]?=some v/\j<xs.length/\-(xs.length:Int)<=i/\i<xs.length:=by
 unfold atI at h
 cases e:ixN xs.length i with
 | none=>rw[e]at h;cases h
 | some j=>
   rw[e]at h;obtain⟨h1,h2,h3,h4⟩:=Ea e;exact⟨j,h1,h,h2,h3,h4⟩
noncomputable def tY(b:Expr):Prop:=∀o i,subscripted b false o i=operate [o,i] (getItem o i)
noncomputable def IxR(X:Cx)(r:R2):Prop :=
 ∀(value slice:Expr) (pins:List (Addr×Obj)) (s:Shared) (σ:St) (H:Hp) (x y:V) (v u:Value) (Q:VK),Inv X pins σ H s->RelV x v->RelV y u->r x y H Q ->
  subscripted slice false v u=operate [v,u] (getItem v u)->wpAny (model X.prog X.w) X.A (subscriptTail value slice v u) (EP X pins σ Q) X.xe s
noncomputable def MtR(X:Cx)(id:String)(r:V->List V->Hp->VK->Prop):Prop :=
 ∀(pins:List (Addr×Obj)) (s:Shared) (σ:St) (H:Hp) (x:V) (xs:List V) (v:Value) (us:List Value) (Q:VK),Inv X pins σ H s->RelV x v->Vals xs us->r x xs H Q ->
  wpAny (model X.prog X.w) X.A (call (.builtin id) (v::us)) (EP X pins σ Q) X.xe s
section
variable{X:Cx}{a b:Expr}{ta tb:TE}{pos:Pos}
theorem IxR.or{r r':R2}(h:IxR X r)(h':IxR X r'):IxR X (fun x y H Q=>r x y H Q\/r' x y H Q):=by
 intro value slice pins s σ H x y v u Q I rx ry q hs;rcases q with q | q
 ·exact h value slice pins s σ H x y v u Q I rx ry q hs
 ·exact h' value slice pins s σ H x y v u Q I rx ry q hs
theorem Le{r:R2}(hr:IxR X r)(ha:PE X a ta)(hb:PE X b tb)(hs:tY b):PE X (.Subscript a b pos) (tOp r ta tb):=by
 intro pins s σ H Q I h;exact Subscript_ (binT ha hb I h fun v u s2 x y H2 I2 rx ry q=>hr a b pins s2 σ H2 x y v u Q I2 rx ry q (hs _ _))
noncomputable def rIxL(K:PySem.W.Frag):R2:=fun x y H Q=>∃p xs i v,x=.ref p/\y=.int i/\SqL K H p xs/\atI xs i=some v/\Q v H
noncomputable def rIxT(K:PySem.W.Frag):R2:=fun x y H Q=>∃p xs i v,x=.ref p/\y=.int i/\SqT K H p xs/\atI xs i=some v/\Q v H
noncomputable def rIxS:R2:=fun x y H Q=>∃z i c,x=.str z/\y=.int i/\z.length<=sizeLine/\atI z.cps.toList i=some c/\Q (.str ⟨#[c]⟩) H
theorem Ey:IxR X (rIxL X.K):=by
 intro value slice pins s σ H x y v u Q I rx ry h hs;obtain⟨p,xs,i,z,rfl,rfl,hq,he,q⟩:=h;cases rx;obtain⟨t,rfl⟩:=ry;obtain⟨its,r,pl,hz⟩:=I.list hq;obtain⟨j,h1,h2,h3,h4,h5⟩:=oO he;obtain⟨w,ew,rw'⟩:=r.get h2;have hl:=r.length;have hn:=jk
 have fin:EP X pins σ Q w s:=⟨z,H,I,rw',q⟩
 by_cases h0:0<=i
 ·have hj:i.toNat=j:=by
   rw[seqIndex_of h0 h5]at h1;exact Option.some.inj h1
  exact item_listR pl.isList h0 (by omega) (by rw[hj];simpa using ew) fin hs
 ·have hj:(i+(its.toArray.size:Int)).toNat=j:=by
   rw[seqIndex_neg (by omega) h4]at h1;rw[List.size_toArray,<-hl];exact Option.some.inj h1
  exact subscriptTail_builtinR (x:=w) pl.isList.typeIs slot_list_getitem.lookup
   (wpAny_getItem_list_neg (Q:=fun r s'=>r=w/\EP X pins σ Q r s') pl.isList (by omega) (by rw[List.size_toArray]<;>omega) (by omega) (by rw[hj];simpa using ew) ⟨rfl,fin⟩) hs
theorem IV:IxR X (rIxT X.K):=by
 intro value slice pins s σ H x y v u Q I rx ry h hs;obtain⟨p,xs,i,z,rfl,rfl,hq,he,q⟩:=h;cases rx;obtain⟨t,rfl⟩:=ry;obtain⟨its,r,pl,hz⟩:=I.tuple hq;obtain⟨j,h1,h2,h3,h4,h5⟩:=oO he;obtain⟨w,ew,rw'⟩:=r.get h2;have hl:=r.length;have hn:=jk
 have fin:EP X pins σ Q w s:=⟨z,H,I,rw',q⟩
 exact subscriptTail_builtinR (x:=w) pl.typeIs slot_tuple_getitem.lookup
  (getItem_tuple (j:=j) (Q:=fun r s'=>r=w/\EP X pins σ Q r s') pl (by omega) (by omega) (by rw[List.size_toArray,<-hl];exact h1) (by simpa using ew) ⟨rfl,fin⟩) hs
theorem ur:IxR X rIxS:=by
 intro value slice pins s σ H x y v u Q I rx ry h hs;obtain⟨z,i,c,rfl,rfl,hz,he,q⟩:=h;obtain⟨t,rfl⟩:=rx;obtain⟨t',rfl⟩:=ry;obtain⟨j,h1,h2,h3,h4,h5⟩:=oO he
 have hl:z.cps.toList.length=z.length:=by simp[Str.length]
 rw[hl]at h1 h4 h5;have hn:=jk
 exact tail_any (typeIs_str s z t) slot_str_getitem.lookup (getItem_str (c:=c) (by
  have e1:decide (i < -(2 ^ 63:Int))=false:=decide_eq_false (by omega);have e2:decide (i≥2 ^ 63)=false:=decide_eq_false (by omega)
  rw[e1,e2,Bool.or_false]) (by rw[h1];simpa using h2) ⟨.str ⟨#[c]⟩,H,I.tok _,⟨_,rfl⟩,q⟩) hs
theorem mJ(lo hi:Option Int)(n:Nat):(sliceBounds lo hi none n).1=((HT.sIx n 0 lo:Nat):Int)/\(sliceBounds lo hi none n).2.1=((HT.sIx n n hi:Nat):Int)/\(sliceBounds lo hi none n).2.2=1:=by
 refine⟨?_,?_,rfl⟩
 ·cases lo with
  | none=>simp[sliceBounds,HT.sIx]
  | some i=>
    simp only[sliceBounds,HT.sIx,Option.getD_none,show(1:Int)>0 by decide,if_true]
    by_cases h:i<0
    ·simp only[h,if_true]<;>omega
    ·simp only[h,if_false]<;>omega
 ·cases hi with
  | none=>simp[sliceBounds,HT.sIx]
  | some i=>
    simp only[sliceBounds,HT.sIx,Option.getD_none,show(1:Int)>0 by decide,if_true]
    by_cases h:i<0
    ·simp only[h,if_true]<;>omega
    ·simp only[h,if_false]<;>omega
theorem jx(its:List Value)(lo hi:Option Int):slicePick its.toArray lo hi none=((its.drop (HT.sIx its.length 0 lo)).take (HT.sIx its.length its.length hi-HT.sIx its.length 0 lo)).toArray:=by
 obtain⟨h1,h2,h3⟩:=mJ lo hi its.toArray.size;unfold slicePick;rw[h1,h2,h3];simp only[sliceRange_one,pick_run,List.size_toArray]<;>rfl
noncomputable def rSlL(K:PySem.W.Frag):V->Option Int->Option Int->Hp->VK->Prop:=fun x lo hi H Q=>∃a xs,x=.ref a/\SqL K H a xs/\∀p,H p=none->Q (.ref p) (upd H p (.lst (cutV xs lo hi)))
theorem Bb:SlR X (rSlL X.K):=by
 intro pins s σ H x v vl vu lo hi sl Q I rx hs pl pu h;obtain⟨a,xs,rfl,hx,q⟩:=h;cases rx;obtain⟨its,r,ht,hz⟩:=I.list hx;have hlen:=r.length;refine⟨"list",_,slot_list_getitem.lookup,ht.isList.typeIs,?_⟩;refine wpAny_getItem_list_slice ht.isList hs pl pu .none (by simp) ?_ (by rw[List.size_toArray]<;>omega);rw[jx,<-hlen];refine⟨.ref s.heap.objs.size,_,I.laid (t':=s.toks) (o:=.lst (cutV xs lo hi)) (fun b ob q=>Heap.get?_push_of_some _ q) (Nat.le_refl _) ?_,rfl,q _ (I.hok.fresh (Nat.le_refl _))⟩;exact⟨Nat.le_trans (gZ xs lo hi) hz,_,0,(r.drop (HT.sIx xs.length 0 lo)).take (HT.sIx xs.length xs.length hi-HT.sIx xs.length 0 lo),Heap.get?_push_size _ rfl⟩
noncomputable def j5:V->Bool
 | .non=>true
 | .bl _=>true
 | .int _=>true
 | .str _=>true
 | _=>false
noncomputable def eqV:V->V->Bool
 | .non,.non=>true
 | .bl a,.bl b=>a==b
 | .bl a,.int b=>(if a then 1 else 0)==b
 | .int a,.bl b=>a==(if b then 1 else 0)
 | .int a,.int b=>a==b
 | .str a,.str b=>a==b
 | _,_=>false
theorem Ja{A:Around}{s:Shared}{y x:V}{u v:Value}(ry:RelV y u)(rx:RelV x v)(fy:j5 y=true)(fx:j5 x=true):SeqAt.EqAt A s u v (eqV y x):=by
 cases y with
 | non=>
   cases ry
   cases x with
   | non=>cases rx;exact SeqAt.EqAt.same _
   | bl b=>cases rx;exact SeqAt.EqAt.none_bool b
   | int b=>obtain⟨t,rfl⟩:=rx;exact SeqAt.EqAt.none_int b t
   | str b=>obtain⟨t,rfl⟩:=rx;exact SeqAt.EqAt.none_str b t
   | _=>exact absurd (show false=true from fx) Bool.false_ne_true
 | bl a=>
   cases ry
   cases x with
   | non=>cases rx;exact SeqAt.EqAt.bool_none a
   | bl b=>cases rx;exact SeqAt.EqAt.bool_bool a b
   | int b=>obtain⟨t,rfl⟩:=rx;exact SeqAt.EqAt.bool_int a b t
   | str b=>obtain⟨t,rfl⟩:=rx;exact SeqAt.EqAt.bool_str a b t
   | _=>exact absurd (show false=true from fx) Bool.false_ne_true
 | int a=>
   obtain⟨t',rfl⟩:=ry
   cases x with
   | non=>cases rx;exact SeqAt.EqAt.int_none a t'
   | bl b=>cases rx;exact SeqAt.EqAt.int_bool a t' b
   | int b=>obtain⟨t,rfl⟩:=rx;exact SeqAt.EqAt.int_int a t' b t
   | str b=>obtain⟨t,rfl⟩:=rx;exact SeqAt.EqAt.int_str a t' b t
   | _=>exact absurd (show false=true from fx) Bool.false_ne_true
 | str a=>
   obtain⟨t',rfl⟩:=ry
   cases x with
   | non=>cases rx;exact SeqAt.EqAt.str_none a t'
   | bl b=>cases rx;exact SeqAt.EqAt.str_bool a t' b
   | int b=>obtain⟨t,rfl⟩:=rx;exact SeqAt.EqAt.str_int a t' b t
   | str b=>obtain⟨t,rfl⟩:=rx;exact SeqAt.EqAt.str_str a t' b t
   | _=>exact absurd (show false=true from fx) Bool.false_ne_true
 | _=>exact absurd (show false=true from fy) Bool.false_ne_true
noncomputable def eqU(x:V)(u:Value):Bool:=match u with
 | .none=>eqV .non x
 | .bool b=>eqV (.bl b) x
 | .int i _=>eqV (.int i) x
 | .str z _=>eqV (.str z) x
 | _=>false
theorem zc{x y:V}{u:Value}(r:RelV y u)(f:j5 y=true):eqU x u=eqV y x:=by
 cases y with
 | non=>cases r;rfl
 | bl b=>cases r;rfl
 | int i=>obtain⟨t,rfl⟩:=r;rfl
 | str z=>obtain⟨t,rfl⟩:=r;rfl
 | _=>exact absurd (show false=true from f) Bool.false_ne_true
theorem iR{x:V}:∀{xs:List V} {us:List Value},Vals xs us->xs.all j5=true->us.any (eqU x)=xs.any fun y=>eqV y x
 | _,_,.nil,_=>rfl
 | y::xs,u::us,.cons r t,f=>by
   rw[List.all_cons,Bool.and_eq_true]at f;rw[List.any_cons,List.any_cons,zc r f.1,iR t f.2]
theorem fC{A:Around}{s:Shared}{x:V}{v:Value}(rx:RelV x v)(fx:j5 x=true):∀{xs:List V} {us:List Value},Vals xs us->xs.all j5=true->∀u∈us,SeqAt.EqAt A s u v (eqU x u)
 | _,_,.nil,_=>fun u hu=>by cases hu
 | y::xs,u::us,.cons r t,f=>fun u' hu=>by
   rw[List.all_cons,Bool.and_eq_true]at f;rcases List.mem_cons.mp hu with rfl | hu
   ·rw[zc r f.1];exact Ja r rx f.1 fx
   ·exact fC rx fx t f.2 u' hu
noncomputable def inV(x:V)(xs:List V):Bool:=xs.any fun y=>eqV y x
noncomputable def rIn(K:PySem.W.Frag)(neg:Bool):R2:=fun x y H Q=>∃p xs,y=.ref p/\(SqL K H p xs\/SqT K H p xs)/\j5 x=true/\xs.all j5=true/\Q (.bl (if neg then !inV x xs else inV x xs)) H
theorem lu:OpR X (compareOp .In) (rIn X.K false):=by
 intro pins s σ H x y v u Q I rx ry h;obtain⟨p,xs,rfl,hq,fx,fs,q⟩:=h;cases ry;rcases hq with hq | hq
 ·obtain⟨its,r,pl,hz⟩:=I.list hq
  refine SeqAt.in_listAt (eqU x) pl.isList (fun w hw=>fC rx fx r fs w (by simpa using hw)) ⟨.bl _,H,I,rfl,?_⟩;rw[show its.toArray.any (eqU x)=its.any (eqU x) by simp,iR r fs];exact q
 ·obtain⟨its,r,pl,hz⟩:=I.tuple hq
  refine SeqAt.in_tupleAt (eqU x) pl (fun w hw=>fC rx fx r fs w (by simpa using hw)) ⟨.bl _,H,I,rfl,?_⟩;rw[show its.toArray.any (eqU x)=its.any (eqU x) by simp,iR r fs];exact q
theorem gC:OpR X (compareOp .NotIn) (rIn X.K true):=by
 intro pins s σ H x y v u Q I rx ry h;obtain⟨p,xs,rfl,hq,fx,fs,q⟩:=h;cases ry;rcases hq with hq | hq
 ·obtain⟨its,r,pl,hz⟩:=I.list hq
  refine SeqAt.notIn_listAt (eqU x) pl.isList (fun w hw=>fC rx fx r fs w (by simpa using hw)) ⟨.bl _,H,I,rfl,?_⟩;rw[show its.toArray.any (eqU x)=its.any (eqU x) by simp,iR r fs];exact q
 ·obtain⟨its,r,pl,hz⟩:=I.tuple hq
  refine SeqAt.notIn_tupleAt (eqU x) pl (fun w hw=>fC rx fx r fs w (by simpa using hw)) ⟨.bl _,H,I,rfl,?_⟩;rw[show its.toArray.any (eqU x)=its.any (eqU x) by simp,iR r fs];exact q
theorem m8:CallR X (.builtin "len") (fun xs H Q=>∃p ys,xs=[.ref p]/\(SqL X.K H p ys\/SqT X.K H p ys)/\Q (.int ys.length) H):=by
 intro pins s σ H xs us Q I r h;obtain⟨p,ys,rfl,hq,q⟩:=h;obtain⟨u,rfl,rx⟩:=vals1 r;cases rx;have hn:=jk;rcases hq with hq | hq
 ·obtain⟨its,r',pl,hz⟩:=I.list hq
  have hlen:=r'.length;exact Calls.call_len_list pl.isList (by simp only[List.size_toArray]<;>omega) ⟨.int ys.length,H,I.tok _,⟨s.toks+1,by rw[List.size_toArray,hlen]⟩,q⟩
 ·obtain⟨its,r',pl,hz⟩:=I.tuple hq
  have hlen:=r'.length;exact len_tuple pl (by simp only[List.size_toArray]<;>omega) ⟨.int ys.length,H,I.tok _,⟨s.toks+1,by rw[List.size_toArray,hlen]⟩,q⟩
theorem mq:CallR X (.builtin "len") (fun xs H Q=>∃z,xs=[.str z]/\z.length<=sizeLine/\Q (.int z.length) H):=by
 intro pins s σ H xs us Q I r h;obtain⟨z,rfl,hz,q⟩:=h;obtain⟨u,rfl,t,rfl⟩:=vals1 r;have hn:=jk;exact len_str (by omega) ⟨.int z.length,H,I.tok _,⟨_,rfl⟩,q⟩
theorem CallR.or{f:Value}{r r':List V->Hp->VK->Prop}(h:CallR X f r)(h':CallR X f r'):CallR X f (fun xs H Q=>r xs H Q\/r' xs H Q):=by
 intro pins s σ H xs us Q I rs q;rcases q with q | q
 ·exact h pins s σ H xs us Q I rs q
 ·exact h' pins s σ H xs us Q I rs q
theorem jL:CallR X (.type "tuple") (fun xs H Q=>∃p ys,xs=[.ref p]/\((SqL X.K H p ys/\∀l,H l=none->Q (.ref l) (upd H l (.tup ys)))\/(SqT X.K H p ys/\Q (.ref p) H))):=by
 intro pins s σ H xs us Q I r h;obtain⟨p,ys,rfl,h⟩:=h;obtain⟨u,rfl,rx⟩:=vals1 r;cases rx;rcases h with⟨hq,q⟩ | ⟨hq,q⟩
 ·obtain⟨its,r',pl,hz⟩:=I.list hq
  have hlen:=r'.length;refine call_tuple_list pl.isList (fun h' kp=>?_) (by simp only[List.size_toArray]<;>omega);have I1:Inv X pins σ H { s with heap:=h' }:=I.kept (t':=s.toks) kp
  have I2:Inv X pins σ (upd H h'.objs.size (.tup ys)) { s with heap:=h'.push { cls:=.type "tuple",data:=.seq its.toArray } } :=
   I1.laid (t':=s.toks) (fun b o e=>Heap.get?_push_of_some _ e) (Nat.le_refl _) (show ObjOk X.prog X.w _ _ _ (.tup ys)from⟨hz,its,r',IsTup.new _ _⟩)
  exact⟨.ref h'.objs.size,_,I2,rfl,q _ (I1.hok.fresh (Nat.le_refl _))⟩
 ·obtain⟨its,r',pl,hz⟩:=I.tuple hq
  exact call_tuple_same pl ⟨.ref p,H,I,rfl,q⟩
noncomputable def tyV(K:PySem.W.Frag)(T:String)(x:V)(H:Hp):Prop:=match x with
 | .str _=>T="str"
 | .int _=>T="int"
 | .ref p=>(T="list"/\∃xs,SqL K H p xs)\/(T="tuple"/\∃o,K.lookup p=some o/\o.cls=.type "tuple"/\o.dict=none) \/
  (T="dict"/\((∃kvs ep,H p=some (.dK kvs ep))\/∃kvs,H p=some (.dT kvs)))\/(T="set"/\∃S n,H p=some (.set S n))
 | _=>False
theorem Jj{pins:List (Addr×Obj)}{σ:St}{H:Hp}{s:Shared}{T:String}{x:V}{v:Value}(I:Inv X pins σ H s)(r:RelV x v)(ty:tyV X.K T x H) :
 s.TypeIs v T/\∀a,v=.ref a->∃ob,s.heap.get? a=some ob/\ob.dict=none:=by
 cases x with
 | str z=>
   obtain⟨t,rfl⟩:=r;cases (show T="str" from ty);exact⟨typeIs_str s z t,fun _ e=>nomatch e⟩
 | int i=>
   obtain⟨t,rfl⟩:=r;cases (show T="int" from ty);exact⟨typeIs_int s i t,fun _ e=>nomatch e⟩
 | ref p=>
   cases r;rcases ty with⟨rfl,xs,hq⟩ | ⟨rfl,o,hk,hc,hd⟩ | ⟨rfl,hk⟩ | ⟨rfl,S,n,hk⟩
   ·obtain⟨its,_,pl,_⟩:=I.list hq
    refine⟨pl.isList.typeIs,fun a e=>?_⟩;cases e;obtain⟨o,n,e,c,hd,_⟩:=pl;exact⟨o,e,hd⟩
   ·refine⟨⟨o,I.kIn p o hk,hc⟩,fun a e=>?_⟩
    cases e;exact⟨o,I.kIn _ o hk,hd⟩
   ·have z:∃o,s.heap.get? p=some o/\o.ExactDict:=by
     rcases hk with⟨kvs,ep,hk⟩ | ⟨kvs,hk⟩
     ·obtain⟨_,_,_,_,o,_,e,ex,_⟩:=I.hok p _ hk
      exact⟨o,e,ex⟩
     ·obtain⟨_,_,_,_,o,_,_,e,ex,_⟩:=I.hok p _ hk
      exact⟨o,e,ex⟩
    obtain⟨o,e,ex⟩:=z;refine⟨⟨o,e,ex.1⟩,fun a e2=>?_⟩;cases e2;exact⟨o,e,ex.2.1⟩
   ·obtain⟨o,_,_,_,e,ex,_⟩:=I.hok p _ hk
    refine⟨⟨o,e,ex.1⟩,fun a e2=>?_⟩;cases e2;exact⟨o,e,ex.2.1⟩
 | _=>exact False.elim ty
noncomputable def tBM(K:PySem.W.Frag)(T:String)(r:V->List V->Hp->VK->Prop)(to:TE)(t:TA):TE:=fun σ H Q=>to σ H fun x H1=>tyV K T x H1/\t σ H1 fun xs H2=>r x xs H2 Q
variable{o e:Expr}{es:List Expr}{to:TE}{t:TA}{name:Str}{apos cpos:Pos}{T id:String}{r:V->List V->Hp->VK->Prop}
theorem JS(pa:PlainAttrs T)(slot:Slot T name id)(hty:typeOf (.builtin id)=pure (.type "method_descriptor"))(hm:MtR X id r)(ho:PE X o to)(ha:PA X (e::es) t)
 (hbase:attributeBase o name X.env (eval o X.env)=eval o X.env:=by rfl)
 (hfew:((backTo cpos (starEach (e::es) X.env)).all (fun x=>!x.1)&&(backToKw cpos (keywordEach [] X.env)).all (fun x=>x.1.isSome)
  && decide ((e::es).length+([]:List Keyword).length+(if([]:List Keyword).isEmpty then 0 else 1)<30))=true:=by rfl)
 (hline:(apos.endLine==cpos.line)=true:=by rfl) (hs:starEach (e::es) X.env=(false,eval e X.env)::starEach es X.env:=by rfl) (hplain:(backTo cpos (starEach es X.env)).any (·.1)=false:=by rfl) :
 PE X (.Call (.Attribute o name apos) (e::es) [] cpos) (tBM X.K T r to t):=by
 intro pins s σ H Q I h;refine wpAny_Call_method_late hbase hfew hline rfl (thn (ho pins s σ H _ I h) fun v s1 ⟨x,H1,I1,r1,ty,q1⟩=>?_);obtain⟨h1,h2⟩:=Jj I1 r1 ty;refine⟨T,id,pa,slot,hty,h1,h2,?_⟩;have hA:=ha cpos pins s1 σ H1 _ I1 q1;rw[hs]at hA ⊢;refine Calls.callWith_builtin (by show(false||(backTo cpos (starEach es X.env)).any (·.1))=false;rw[hplain]<;>rfl) (Calls.evalArgs_plain ?_)
 exact thn hA fun us s2 ⟨vs,H2,I2,r2,q2⟩=>hm pins s2 σ H2 x vs v us Q I2 r1 r2 q2
end
end L2
namespace L2
open PySem PySem.Spec PyProof.Rows
noncomputable def MtM(X:Cx)(id:String)(r:V->List V->Hp->VK->Prop):Prop :=
 ∀(pins:List (Addr×Obj)) (s:Shared) (σ:St) (H:Hp) (x:V) (xs:List V) (v:Value) (us:List Value) (Q:VK),Inv X pins σ H s->RelV x v->Vals xs us->r x xs H Q ->
  wpAny (model X.prog X.w) X.A (call (.builtin id) (v::us)) (EP X pins σ Q) X.xe s
theorem Vals.one:∀{x:V} {us:List Value},Vals [x] us->∃u,us=[u]/\RelV x u
 | _,_,.cons r .nil=>⟨_,rfl,r⟩
section
variable{X:Cx}{pins:List (Addr×Obj)}{σ:St}{H:Hp}{s:Shared}{l b:Addr}{xs ys zs:List V}
theorem Inv.lset{its its':List Value}{n:Nat}{f:Array Value->Array Value}{t':Nat}(I:Inv X pins σ H s)(hH:H l=some (.lst xs))
 (e:s.heap.get? l=some { cls:=.type "list",data:=.seq its.toArray n }) (hf:f its.toArray=its'.toArray) (hv:Vals ys its') (hz:ys.length<=sizeLine) :
 Inv X pins σ (upd H l (.lst ys)) { s with heap:=s.heap.update l (Obj.mapSeq f),toks:=t' }:=by
 have q:=PySem.IsL.update e f;rw[hf]at q;refine I.write (x:=l) (e:=l) (by rw[hH];exact trivial) (.inl rfl) (fun b' u hb hu=>(Heap.get?_update_other s.heap (Obj.mapSeq f) (Ne.symm hb)).trans hu) ⟨_,q⟩ ?_;exact⟨hz,its',_,hv,q⟩
theorem Inv.lnew{its:List Value}{t':Nat}(I:Inv X pins σ H s)(hv:Vals ys its)(hz:ys.length<=sizeLine) :
 Inv X pins σ (upd H s.heap.objs.size (.lst ys)) { s with heap:=s.heap.push { cls:=.type "list",data:=.seq its.toArray },toks:=t' } :=
 I.laid (fun _ _ q=>Heap.get?_push_of_some _ q) (Nat.le_refl _) ⟨hz,its,0,hv,Heap.get?_push_size _ rfl⟩
theorem Inv.fresh(I:Inv X pins σ H s):H s.heap.objs.size=none:=I.hok.fresh (Nat.le_refl _)
theorem Inv.lstM(I:Inv X pins σ H s)(hH:H l=some (.lst xs)):xs.length<=sizeLine/\∃(its:List Value) (n:Nat),Vals xs its/\xs.length=its.length/\s.heap.get? l=some { cls:=.type "list",data:=.seq its.toArray n }:=by
 obtain⟨z,its,n,r,e⟩:=I.hok l _ hH;exact⟨z,its,n,r,r.length,e⟩
theorem wV{n:Nat}(h:n<=sizeLine):Builtin.List.listTooLong n=false:=by
 unfold Builtin.List.listTooLong;exact decide_eq_false (by omega)
end
section
variable{X:Cx}
noncomputable def Aw:V->List V->Hp->VK->Prop:=fun x vs H Q=>∃l xs y,x=.ref l/\vs=[y]/\H l=some (.lst xs)/\xs.length<sizeLine/\Q .non (upd H l (.lst (xs++[y])))
theorem km:MtM X "list.append" Aw:=by
 intro pins s σ H x vs v us Q I rx rv h;obtain⟨l,xs,y,rfl,rfl,hH,hz,q⟩:=h;cases rx;obtain⟨u,rfl,ru⟩:=rv.one;obtain⟨z,its,n,r,hl,e⟩:=I.lstM hH;refine call_meets F.slot_list_append ⟨_,e,rfl⟩ F.entry_list_append (F.args_list_append_2 _ _) (PySem.list_append l its.toArray n u (by rw[List.size_toArray];omega)) ⟨e,?_⟩;refine⟨.non,_,I.lset (its':=its++[u]) hH e (by simp) (r.append (.cons ru .nil)) ?_,rfl,q⟩;rw[List.length_append,List.length_singleton];omega
noncomputable def CW:V->List V->Hp->VK->Prop:=fun x vs H Q=>∃l b xs zs,x=.ref l/\vs=[.ref b]/\H l=some (.lst xs)/\H b=some (.lst zs)/\xs.length+zs.length<=sizeLine/\Q .non (upd H l (.lst (xs++zs)))
theorem vQ:MtM X "list.extend" CW:=by
 intro pins s σ H x vs v us Q I rx rv h;obtain⟨l,b,xs,zs,rfl,rfl,hH,hB,hz,q⟩:=h;cases rx;obtain⟨u,rfl,ru⟩:=rv.one;cases ru;obtain⟨z,its,n,r,hl,e⟩:=I.lstM hH;obtain⟨z2,its2,n2,r2,hl2,e2⟩:=I.lstM hB
 have hsz:its.toArray.size+its2.toArray.size<=sizeLine:=by rw[List.size_toArray,List.size_toArray];omega
 have hlong:¬(!its.toArray.isEmpty&&Builtin.List.listTooLong (its.toArray.size+its2.toArray.size))=true:=by
  rw[wV hsz,Bool.and_false];exact Bool.false_ne_true
 refine call_meets F.slot_list_extend ⟨_,e,rfl⟩ F.entry_list_extend (F.args_list_extend_2 _ _)
  (AutoSeq1.list_extend_list_list_0 l its.toArray n b its2.toArray n2 hlong (by rw[List.size_toArray];omega) (by omega)) ⟨e,e2,?_⟩
 refine⟨.non,_,I.lset (its':=its++its2) hH e (by simp) (r.append r2) ?_,rfl,q⟩;rw[List.length_append];omega
end
end L2
namespace Att
open PySem PySem.W PySem.Calls PyProof.Rows
theorem iD{P:Params}{h:Heap}:∀(ns:List Int) (vs:List Value),WellAll P h vs (ns.map WData.int)->IntsAre vs ns:=by
 intro ns
 induction ns with
 | nil=>
   intro vs w;rw[List.map_nil]at w;cases w;exact .nil
 | cons n ns ih=>
   intro vs w;rw[List.map_cons]at w
   cases w with
   | cons a b=>
     cases a;exact .cons _ _ (ih _ b)
theorem uq{l:OpenLaw}{n:Nat}(hn:l.most=some n){P:Params}{h:Heap}{args:List WData}{vals:List Value}
 (hpre:l.row.toRowW.claim.pre args=true) (hwl:WellAll P h vals args) :
 ∃a vs ns,vals=[Value.ref a]/\args=[WData.list (ns.map WData.int)]/\h.get? a=some { cls:=.type "list",data:=.seq vs.toArray }/\IntsAre vs ns/\ns.length<=n:=by
 have hsh:WShape.hasAll [] args [.list .int]=true:=(pre_splitW hpre).1;have hc:l.pre.holds [] { args:=args }=true:=(pre_splitW hpre).2;obtain⟨d,r,rfl,h1,h2⟩:=hasAllW_cons hsh;obtain rfl:=hasAllW_nil h2;obtain⟨xs,rfl,h3⟩:=hasW_list h1;obtain⟨ns,rfl⟩:=items_int h3
 have hlen:ns.length<=n:=by
  unfold OpenLaw.pre at hc
  have h4:(WTm.not (.lt (.lit (.int (n:Int))) (.len (.arg 0)))).holds [] { args:=[.list (ns.map .int)] }=true:=by
   have h4:=(holds_andW hc).1;rw[hn]at h4;exact h4
  have h5:=condW_of h4 (w_not (w_lt w_lit (w_len_list (w_arg rfl))));rw[List.length_map]at h5
  refine Nat.le_of_not_lt fun q=>?_
  have q':(n:Int)<((ns.length:Nat):Int):=by omega
  first
   | (rw[decide_eq_true q']at h5;exact absurd h5 (by decide))
   | (simp at h5;omega)
 cases hwl with
 | cons w1 w2=>
   cases w2
   cases w1 with
   | list ho hall=>exact⟨_,_,ns,rfl,rfl,ho,iD ns _ hall,hlen⟩
theorem t6(l:OpenLaw)(args:List WData):l.row.toRowW.claim.post args (.bool true) args=true :=
 postW_of (r:=l.row.toRowW) (X:=(true==true))
  (show WShape.has [] (.bool true) .bool=true by first | rfl | decide | simp[WShape.has,WShape.arms,WShape.armsAll])
  (show(WTm.eq .res (.lit (.bool true))).value [] { args:=args,res:=some (.bool true),after:=args }=some (.bool (true==true))from w_eq_bool (w_res rfl) w_lit) rfl
theorem attach_call{l:OpenLaw}{n:Nat}{q:Program}{loose:List Str}{XP:(Str->Option Value)->Heap->Prop}{YP:World->Heap->Prop}{d:DefRec}
 (hn:l.most=some n) (hdf:d.params.defaults=[])
 (call:∀(w:World) (s₀ s₁:Shared) (mg mb:Str->Option Value) (fa:Addr) (o:Obj) (pm cd doc:Value) (a:Addr) (vs:List Value) (ns:List Int),
  Ground q loose [] XP w s₀ mg mb s₁.heap->YP w s₁.heap ->
  s₁.heap.get? fa=some o->o.data=.func (docDef d.name d.params d.body d.scope pm cd doc)->s₁.heap.CodeRec cd d.name->mg d.name=some (.ref fa) ->
  s₁.heap.get? a=some { cls:=.type "list",data:=.seq vs.toArray }->IntsAre vs ns->ns.length<=n->s₁.gens=#[] ->
  codeAny (model l.prog w) callerA (.call (.ref fa) ⟨[.ref a],[]⟩) (fun r s'=>r=.ok (.ret (.bool true))/\OldK s₁.heap s'.heap/\s'.os=s₁.os/\AllBare s'.gens) s₁) :
 WalkO q loose XP YP l.row.toRowW d [] (fun f vs=>PySem.call f vs):=by
 intro w s₀ s₁ mg mb G Y fa o pm cd doc dV kV ho hd hcd hD hmg hg args vals as hpre hlay hrd hwl hlo;obtain rfl:dV=.none:=Dflts.none hD hdf;obtain rfl:kV=.none:=Dflts.noKw hD;obtain⟨a,vs,ns,rfl,rfl,hobj,hints,hlen⟩:=uq hn hpre hwl;refine enter_call (codeAny_mono (call w s₀ s₁ mg mb fa o pm cd doc a vs ns G Y ho (fd_plain hd) hcd hmg hobj hints hlen hg) fun r s' hq=>?_);obtain⟨rfl,h2,h3,h4⟩:=hq;exact⟨.inl ⟨.bool true,.bool true,[],rfl,fun _=>rfl,.bool true,t6 l _,fun _=>⟨List.Pairwise.nil,fun _ hm=>(nomatch hm)⟩⟩,h2,h3,h4⟩
end Att
namespace L2
open PySem PySem.Spec PyProof.Rows
theorem dF:∀{vs:List Value} {ns:List Int},IntsAre vs ns->Vals (ns.map V.int) vs
 | _,_,.nil=>.nil
 | _,_,.cons n t h=>.cons ⟨t,rfl⟩ (dF h)
noncomputable def Only(H:Hp):Prop:=∀b,H b=none\/∃o xs,H b=some (.frz o (.lst xs))
theorem wL{P:Program}{w:World}{K:PySem.W.Frag}{mg mb:Str->Option Value}{CX:CXT}{k:Nat}{fa a:Addr}{fd:FuncData}{x:Str}{sp:Sp}{s₁:Shared}{vs:List Value}{ns:List Int}
 (KX:K.In s₁.heap) (hns:s₁.heap.Ns mainGlobals mg) (hb:s₁.heap.Ns builtinsNs mb) (hbb:∀x:Str,x≠"__name__"->mb x=bootBuiltins x) (hlim:s₁.heap.NoLimit) (hg:s₁.gens=#[])
 (ha:s₁.heap.get? a=some { cls:=.type "list",data:=.seq vs.toArray }) (hi:IntsAre vs ns) (hl:ns.length<=sizeLine) (hr:Room k callerA)
 (F:∀base:Heap,K.In base->base.Ns mainGlobals mg->FnOk P w K mg base CX k fa fd [x] sp) (hbind:∀(s:Shared) (u:Value),BindsTo s fd ⟨[u],[]⟩ [(x,u)])
 (hsp:∀H:Hp,Only H->SqL K H a (ns.map V.int)->sp [.ref a] H (fun v _=>v=.bl true) fun _ _ _=>False)
 (hCX:∀H e s',CX [] H s₁ (fun _ _ _=>False) e s'->False) :
 codeAny (model P w) callerA (.call (.ref fa) ⟨[.ref a],[]⟩) (fun r s'=>r=.ok (.ret (.bool true))/\OldK s₁.heap s'.heap/\s'.os=s₁.os/\AllBare s'.gens) s₁:=by
 have rv:=dF hi;have lenV:=hi.length
 have core:∀H:Hp,Only H->SqL K H a (ns.map V.int)->HOk P w H s₁.heap->(∀b,H b≠none->b=a)->(H a≠none->K.lookup a=none) ->
  codeAny (model P w) callerA (.call (.ref fa) ⟨[.ref a],[]⟩) (fun r s'=>r=.ok (.ret (.bool true))/\OldK s₁.heap s'.heap/\s'.os=s₁.os/\AllBare s'.gens) s₁:=by
  intro H hO hS hok hA hK
  have iz:∀{b:Addr} {o:Obj},s₁.heap.get? b=some o->H b=none->(hidT s₁.heap H).get? b=some o:=fun e n=>yO e n
  have noA:∀{b:Addr} {o:Obj} {es:Array DictEntry} {ep:Nat},s₁.heap.get? b=some o->o.data=.dict es ep->H b=none:=fun{b o es ep} e d=>by
   cases q:H b with
   | none=>rfl
   | some u=>
     have e':b=a:=hA b (by rw[q];simp);subst e';rw[ha]at e;cases e;have d':Data.seq vs.toArray _=Data.dict es ep:=d;cases d'
  have nsK:∀{b:Addr} {m:Str->Option Value},s₁.heap.Ns b m->(hidT s₁.heap H).Ns b m:=fun{b m} ⟨o,es,ep,e,d,r⟩=>⟨o,es,ep,iz e (noA e d),d,r⟩
  have hKb:K.In (hidT s₁.heap H):=fun b o e=>iz (KX b o e) (by
   cases q:H b with
   | none=>rfl
   | some u=>
     have e':b=a:=hA b (by rw[q];simp);subst e'
     rw[hK (by rw[q];simp)]at e;cases e)
  have hM:Mod K mg (hidT s₁.heap H):=⟨hKb,nsK hns,⟨mb,nsK hb,hbb⟩,let⟨mc,h1,h2⟩:=hlim;⟨mc,nsK h1,h2⟩⟩
  have e0:Env0 P w K mg (hidT s₁.heap H) callerA [] s₁ H:=⟨rfl,hM,fun b o e=>Bf e,Nat.le_of_eq (vy _ _),trivial,fun b hb=>absurd (show b∈([]:List Addr)from hb) (by simp),hok,.of_eq hg⟩
  refine codeAny_mono ((F _ hKb (nsK hns)).run callerA [] s₁ H ⟨[.ref a],[]⟩ [.ref a] [.ref a] _ _ hr e0 (hbind s₁ (.ref a)) (.cons rfl .nil) (hsp H hO hS)) fun r s' h=>?_
  cases r with
  | error e=>exact(hCX H e s' h).elim
  | ok fl=>
    cases fl with
    | next=>exact False.elim h
    | brk=>exact False.elim h
    | cont=>exact False.elim h
    | ret u=>
      obtain⟨v,H',os,bare,un,hok',r',q⟩:=h;have q':v=.bl true:=q;subst q';obtain rfl:u=Value.bool true:=r';refine⟨rfl,OldK.of_keep fun b o e=>?_,os,bare⟩
      cases q:H b with
      | none=>exact un.keep b o e q (by intro z;exact absurd (show b∈([]:List Addr)from z) (by simp)) (by simp)
      | some u=>
        rcases hO b with z | ⟨ob,xs,z⟩
        ·rw[q]at z;cases z
        ·have z2:=un.frzs b ob _ z
         obtain⟨e1,_⟩:=hok b _ z;obtain⟨e2,_⟩:=hok' b _ z2;rw[e]at e1;cases e1;exact e2
 cases hk:K.lookup a with
 | some o=>
   have e:=KX a o hk;rw[ha]at e;cases e
   refine core (fun _=>none) (fun _=>.inl rfl) (.inr ⟨_,vs.toArray,_,hk,rfl,rfl,rfl,by rw[List.size_toArray,lenV];exact hl,by simpa using rv⟩) (fun b u z=>by have z':(none:Option HO)=some u:=z;cases z') (fun b z=>absurd rfl z) fun z=>absurd rfl z
 | none=>
   refine core (fun b=>if b=a then some (.frz { cls:=.type "list",data:=.seq vs.toArray } (.lst (ns.map V.int)))else none) (fun b=>?_) (.inl (.inr ⟨{ cls:=.type "list",data:=.seq vs.toArray },if_pos rfl⟩)) (fun b u z=>?_) (fun b z=>?_) fun _=>hk
   ·by_cases hb:b=a
    ·exact .inr ⟨_,_,if_pos hb⟩
    ·exact .inl (if_neg hb)
   ·by_cases hb:b=a
    ·have z':=(if_pos hb).symm.trans z
     cases z';subst hb;exact⟨ha,by rw[List.length_map];exact hl,vs,_,rv,ha⟩
    ·have z':=(if_neg hb).symm.trans z
     cases z'
   ·by_cases hb:b=a
    ·exact hb
    ·exact absurd (if_neg hb) z
end L2
namespace L2
open PySem PySem.Spec PyProof.Rows
theorem walk_of{l:PySem.W.OpenLaw}{n k:Nat}{q:Program}{loose:List Str}{XP:(Str->Option Value)->Heap->Prop}{YP:World->Heap->Prop}{d:DefRec}{K:Params->PySem.W.Frag}{CX:World->CXT}{sp:World->Sp}{x:Str}
 (hn:l.most=some n) (hn2:n<=sizeLine) (hdf:d.params.defaults=[]) (hr:Room k callerA)
 (hY:∀(w:World) (h:Heap),YP w h->(K w.params).In h)
 (F:∀(w:World) (mg:Str->Option Value) (fa:Addr) (h:Heap),(K w.params).In h->h.Ns mainGlobals mg->mg d.name=some (.ref fa) ->
  ∃fd:FuncData,(∀(s:Shared) (u:Value),BindsTo s fd ⟨[u],[]⟩ [(x,u)]) /\
   ∀base:Heap,(K w.params).In base->base.Ns mainGlobals mg->FnOk l.prog w (K w.params) mg base (CX w) k fa fd [x] (sp w))
 (hsp:∀(w:World) (H:Hp) (a:Addr) (ns:List Int),ns.length<=n->Only H->SqL (K w.params) H a (ns.map V.int)->sp w [.ref a] H (fun v _=>v=.bl true) fun _ _ _=>False)
 (hCX:∀(w:World) (H:Hp) (s:Shared) (e:Value) (s':Shared),CX w [] H s (fun _ _ _=>False) e s'->False) :
 PySem.W.WalkO q loose XP YP l.row.toRowW d [] (fun f vs=>PySem.call f vs):=by
 refine Att.attach_call hn hdf fun w s₀ s₁ mg mb fa o pm cd doc a vs ns G Y ho hd hcd hmg hobj hints hlen hg=>?_
 have KX:=hY w _ Y;obtain⟨fd,hb,hF⟩:=F w mg fa _ KX G.T.g hmg
 exact wL KX G.T.g G.T.b G.T.builtins G.T.nolimit hg hobj hints (Nat.le_trans hlen hn2) hr hF hb (fun H hO hS=>hsp w H a ns hlen hO hS) fun H e s'=>hCX w H s₁ e s'
end L2
namespace L2
open PySem PySem.Spec PyProof.Rows
noncomputable def aZ(s:Stmt):Arguments:=match s with
 | .FunctionDef _ a _ _ _ _ _ _ _ _=>a
 | _=>{ posonlyargs:=[],args:=[],vararg:=none,kwonlyargs:=[],kw_defaults:=[],kwarg:=none,defaults:=[] }
noncomputable def aM(s:Stmt):List Stmt:=match s with
 | .FunctionDef _ _ b _ _ _ _ _ _ _=>b
 | _=>[]
noncomputable def aq(s:Stmt):Scope:=match s with
 | .FunctionDef _ _ _ _ _ _ sc _ _ _=>sc
 | _=>{ kind:=.function,names:=[],isGenerator:=false,isCoroutine:=false }
noncomputable abbrev CX0:CXT:=fun _ _ _ _ _ _=>False
noncomputable abbrev E0:XK:=fun _ _ _=>False
theorem JR{X:Cx}:wj CX0 X E0:=fun _ _ _ _ _ _ _ h=>h.elim
structure Fun(K:PySem.W.Frag)(x qual:Str)(st:Stmt)(f:Addr)(fd:FuncData):Prop where
 ex:∃(oc:Value) (od:Option Addr) (kV doc pm:Value) (an:Option Addr) (cdv ct:Value) (osl:Array (Option Value)) (dV:Value),
  fd=PySem.W.fnOf x qual (aZ st) (aM st) (aq st) dV kV doc pm an cdv ct/\K.lookup f=some ⟨oc,od,.func fd,osl⟩/\PySem.W.codeIn K cdv qual=true
 kp:PySem.W.keepIn K (.ref f)=true
section
variable{P:Program}{w:World}{K:PySem.W.Frag}{mg:Str->Option Value}{base:Heap}
theorem Fun.ok{x qual:Str}{st:Stmt}{f:Addr}{fd:FuncData}{N ps:List Str}{k:Nat}{sp:Sp}(F:Fun K x qual st f fd)(S:FnScope N ps (aq st))(len:∀vs H Q E,sp vs H Q E->vs.length=ps.length)
 (hbody:∀(cdv:Value) (A:Around) (outer:List Env) (s:Shared) (H:Hp) (vs:List V) (Q:VK) (E:XK),Room k (A.deeper (envOfC qual (aq st) s.heap.objs.size f cdv))->sp vs H Q E ->
  ∃t,PSs (cxOf CX0 P w K mg base N qual (aq st) f cdv A outer s H E).nox (aM st) t/\t { nx:=fun _ H'=>Q .non H',rt:=Q } (start N vs) H):FnOk P w K mg base CX0 (k+1) f fd ps sp:=by
 obtain⟨oc,od,kV,doc,pm,an,cdv,ct,osl,dV,rfl,lk,hcd⟩:=F.ex
 refine Mm lk hcd S len fun A outer s H vs Q E hr hsp=>?_
 obtain⟨t,h,q⟩:=hbody cdv A outer s H vs Q E hr hsp;exact⟨t,h.nox,q⟩
theorem qF{x qual:Str}{st:Stmt}{f:Addr}{oc:Value}{od an:Option Addr}{osl:Array (Option Value)}{dV kV doc pm cdv ct:Value}(l:K.lookup f=some ⟨oc,od,.func (PySem.W.fnOf x qual (aZ st) (aM st) (aq st) dV kV doc pm an cdv ct),osl⟩)
 (c:PySem.W.codeIn K cdv qual=true) (k:PySem.W.keepIn K (.ref f)=true):Fun K x qual st f (PySem.W.fnOf x qual (aZ st) (aM st) (aq st) dV kV doc pm an cdv ct):=⟨⟨oc,od,kV,doc,pm,an,cdv,ct,osl,dV,rfl,l,c⟩,k⟩
end
theorem Cd{A:Around}{k:Nat}(hr:Room k A):A.units+1<cLine:=Nat.lt_of_le_of_lt (Nat.add_le_add_left (by decide:1<=64) _) hr.units
section
variable{X:Cx}
theorem w6:CallR X (.builtin "len") (fun xs H Q=>∃a kvs ep,xs=[V.ref a]/\H a=some (.dK kvs ep)/\Q (.int kvs.length) H):=by
 intro pins s σ H xs us Q I r h;obtain⟨a,kvs,ep,rfl,ha,q⟩:=h;obtain⟨u,rfl,ru⟩:=vals1 r;cases ru
 exact Kf I ⟨ep,.inl ha⟩ fun t s' I'=>⟨.int kvs.length,H,I',⟨t,rfl⟩,q⟩
end
noncomputable def Same(H H':Hp):Prop:=∀b o,H b=some o->H' b=some o
theorem Same.refl(H:Hp):Same H H:=fun _ _ h=>h
theorem Same.trans{H H1 H2:Hp}(a:Same H H1)(b:Same H1 H2):Same H H2:=fun c o h=>b c o (a c o h)
theorem Same.free{H H':Hp}(e:Same H H'){l:Addr}(h:H' l=Option.none):H l=Option.none:=by
 cases q:H l with
 | none=>rfl
 | some o=>
   rw[e l o q]at h;cases h
theorem Same.seq{K:PySem.W.Frag}{H H':Hp}{a:Addr}{xs:List V}(e:Same H H')(h:SqL K H a xs):SqL K H' a xs:=by
 rcases h with(h | ⟨o,h⟩) | h
 ·exact .inl (.inl (e _ _ h))
 ·exact .inl (.inr ⟨o,e _ _ h⟩)
 ·exact .inr h
end L2
namespace Z
inductive DK where
 | i (n:Int)
 | s (x:List Nat)
 deriving DecidableEq
inductive D where
 | non | bl (b:Bool) | int (i:Int) | str (s:List Nat)
 | tup (l:List D) | lst (l:List D) | dct (ks:List DK) (vs:List D) | obj (c:Nat) (ns:List (List Nat)) (vs:List D)
 | err (c:Nat)
inductive R(α:Type)where
 | ok (a:α)
 | exc (c:Nat)
 | stuck
theorem nope{α:Type}{t:α}{p:Prop}(h:(none:Option α)=some t):p:=nomatch h
theorem cV{α:Type}{t:α}{p:Prop}(h:(.stuck:R α)=.ok t):p:=nomatch h
namespace R
noncomputable def bind{α β:Type}(x:R α)(f:α->R β):R β:=match x with
 | .ok a=>f a
 | .exc c=>.exc c
 | .stuck=>.stuck
noncomputable instance:Monad R where
 pure:=.ok
 bind:=R.bind
@[simp] theorem K8{α β:Type}(a:α)(f:α->R β):(R.ok a >>= f)=f a:=rfl
@[simp] theorem K3{α β:Type}(c:Nat)(f:α->R β):((R.exc c:R α) >>= f)=.exc c:=rfl
@[simp] theorem Fp{α β:Type}(f:α->R β):((R.stuck:R α) >>= f)=.stuck:=rfl
@[simp] theorem Mx{α:Type}(a:α):(pure a:R α)=.ok a:=rfl
noncomputable def of{α:Type}:Option α->R α
 | some a=>.ok a
 | none=>.stuck
noncomputable def chk(b:Bool){α:Type}(x:R α):R α:=if b then x else .stuck
end R
inductive Own where
 | sh | ow | me
 deriving DecidableEq
noncomputable abbrev Slot:=Own×D
noncomputable abbrev Dst:=List (Option Slot)
inductive O2 where
 | add | sub | mul | fdiv | mod | pow | eq | ne | lt | le | gt | ge | is | isnot | «in» | notin
 deriving DecidableEq
inductive Ty where
 | int | bool | str | tup | lst | dct | cls (c:Nat) | valueError
 deriving DecidableEq
inductive B1 where
 | len | abs | tuple | list | dict | sorted | sortedSet | lenSet | all | any | str | max | min | sum | int
 deriving DecidableEq
inductive B2 where
 | max | min | divmod | maxd | mind
 deriving DecidableEq
inductive M1 where
 | get | join | startswith | endswith | zfill | lstrip | rstrip | strip | isdigit | isalpha | index | count | find
 deriving DecidableEq
mutual
inductive T where
 | var (i:Nat)
 | cst (d:D)
 | op2 (p:O2) (a b:T)
 | neg (a:T)
 | not (a:T)
 | and (a b:T)
 | or (a b:T)
 | ite (c a b:T)
 | tup (l:TL)
 | lst (l:TL)
 | dnew (ks:List DK) (vs:TL)
 | idx (a i:T)
 | kidx (ks:List DK) (vs:List D) (i:T)
 | kin (ks:List DK) (neg:Bool) (i:T)
 | slc (a:T) (lo hi:T)
 | call (f:Nat) (l:TL)
 | mk (c:Nat) (l:TL)
 | meth (m:List Nat) (o:T) (l:TL)
 | fld (o:T) (f:List Nat)
 | b1 (b:B1) (a:T)
 | b2 (b:B2) (a c:T)
 | m0 (m:M1) (o:T)
 | m1 (m:M1) (o a:T)
 | get2 (o a c:T)
 | isin (a:T) (ty:Ty)
 | fstr (l:TL)
 | comp (caps:List Nat) (m:Nat) (tg:Bool) (it:TI) (cond:T) (elt:T)
inductive TL where
 | nil
 | cons (t:T) (l:TL)
inductive TI where
 | val (t:T)
 | rng1 (t:T)
 | rng2 (a b:T)
 | rng3 (a b c:T)
 | zip (a b:T)
 | enum (a:T)
end
mutual
inductive S where
 | set (i:Nat) (e:T)
 | sett (is:List Nat) (e:T)
 | seti (i:Nat) (k e:T)
 | setf (i:Nat) (f:List Nat) (e:T)
 | setx (i f:Nat) (l:TL)
 | append (i:Nat) (e:T)
 | clear (i:Nat)
 | extend (i:Nat) (e:T)
 | update (i:Nat) (e:T)
 | pop1 (j:Option Nat) (i:Nat) (k:T)
 | pop2 (i:Nat) (k e:T)
 | ini (c:Nat) (l:TL)
 | ifs (c:T) (a b:SL)
 | ifq (c:T) (a b:SL)
 | for_ (tg:List Nat) (tup:Bool) (it:TI) (b:SL)
 | while_ (c:T) (b:SL)
 | ret (e:T)
 | retn
 | expr (e:T)
 | raise (c:Nat) (e:T)
 | try_ (b:SL) (c:Nat) (nm:Option Nat) (h:SL)
 | brk | cont | pass
inductive SL where
 | nil
 | cons (s:S) (l:SL)
end
mutual
noncomputable def D.imm:D->Bool
 | .non=>true
 | .bl _=>true
 | .int _=>true
 | .str _=>true
 | .tup l=>immL l
 | .lst _=>false
 | .dct _ _=>false
 | .obj _ _ _=>false
 | .err _=>false
noncomputable def immL:List D->Bool
 | []=>true
 | d::l=>d.imm&&immL l
end
noncomputable def look:List DK->List D->DK->Option D
 | k::ks,v::vs,x=>if k=x then some v else look ks vs x
 | _,_,_=>none
noncomputable def eqS:D->D->Option Bool
 | .non,.non=>some true
 | .non,.int _=>some false
 | .non,.bl _=>some false
 | .non,.str _=>some false
 | .int _,.non=>some false
 | .bl _,.non=>some false
 | .str _,.non=>some false
 | .int i,.int j=>some (decide (i=j))
 | .bl i,.bl j=>some (decide (i=j))
 | .str i,.str j=>some (decide (i=j))
 | .int _,.str _=>some false
 | .str _,.int _=>some false
 | .bl _,.str _=>some false
 | .str _,.bl _=>some false
 | _,_=>none
noncomputable def size(n:Nat):Bool:=decide (n<=16777216)
noncomputable def place(n:Nat)(i:Int):Option Nat:=if 0<=i then(if i<n then some i.toNat else none)else(if 0<=i+n then some (i+n).toNat else none)
noncomputable def clip(n:Nat)(i:Int):Nat:=if 0<=i then min i.toNat n else(i+n).toNat
noncomputable def dz(n:Nat):Option Int->Nat
 | none=>0
 | some i=>clip n i
noncomputable def bY(n:Nat):Option Int->Nat
 | none=>n
 | some i=>clip n i
noncomputable def cut{α:Type}(l:List α)(lo hi:Nat):List α:=(l.take hi).drop lo
noncomputable def keyOf:D->Option DK
 | .int i=>some (.i i)
 | .str x=>some (.s x)
 | _=>none
noncomputable def keyD:DK->D
 | .i n=>.int n
 | .s x=>.str x
noncomputable def putV:List DK->List D->DK->D->List D
 | k::ks,v::vs,x,y=>if k=x then y::vs else v::putV ks vs x y
 | _,_,_,y=>[y]
noncomputable def yL:List DK->DK->List DK
 | k::ks,x=>if k=x then k::ks else k::yL ks x
 | [],x=>[x]
noncomputable def wC:List DK->List D->DK->List D
 | k::ks,v::vs,x=>if k=x then vs else v::wC ks vs x
 | _,vs,_=>vs
noncomputable def pG:List DK->DK->List DK
 | k::ks,x=>if k=x then ks else k::pG ks x
 | [],_=>[]
noncomputable def ltS:List Nat->List Nat->Bool
 | [],[]=>false
 | [],_::_=>true
 | _::_,[]=>false
 | a::x,b::y=>if a<b then true else if b<a then false else ltS x y
noncomputable def insS(x:List Nat):List (List Nat)->List (List Nat)
 | []=>[x]
 | y::l=>if ltS x y then x::y::l else y::insS x l
noncomputable def gn:List (List Nat)->List (List Nat)
 | []=>[]
 | x::l=>insS x (gn l)
noncomputable def strsOf:List D->Option (List (List Nat))
 | []=>some []
 | .str x::l=>(strsOf l).map (x::·)
 | _::_=>none
noncomputable def intsOf:List D->Option (List Int)
 | []=>some []
 | .int x::l=>(intsOf l).map (x::·)
 | _::_=>none
noncomputable def bD{α:Type} [DecidableEq α]:List α->List α
 | []=>[]
 | x::l=>if x∈l then bD l else x::bD l
noncomputable def insI(x:Int):List Int->List Int
 | []=>[x]
 | y::l=>if x<y then x::y::l else y::insI x l
noncomputable def sortI:List Int->List Int
 | []=>[]
 | x::l=>insI x (sortI l)
noncomputable def wQ:List D->Option (List D)
 | [.tup [.str x,a]]=>some [.tup [.str x,a]]
 | [.tup [.str x,a],.tup [.str y,b]]=>if x=y then none else some (if ltS y x then[.tup [.str y,b],.tup [.str x,a]]else[.tup [.str x,a],.tup [.str y,b]])
 | _=>none
noncomputable def truth:D->Option Bool
 | .non=>some false
 | .bl b=>some b
 | .int i=>some (decide (i≠0))
 | .str x=>some (!x.isEmpty)
 | .tup l=>some (!l.isEmpty)
 | .lst l=>some (!l.isEmpty)
 | .dct ks _=>some (!ks.isEmpty)
 | _=>none
noncomputable def bits(i:Int):Nat:=if i=0 then 0 else i.natAbs.log2+1
noncomputable def rC(a b:Int):Bool:=decide (bits a<=64)||decide (bits b<=64)||decide (bits a+bits b<=134217728)
noncomputable def arith(p:O2)(a b:Int):R (Bool×D):=match p with
 | .add=>.ok (false,.int (a+b))
 | .sub=>.ok (false,.int (a-b))
 | .mul=>.chk (rC a b) (.ok (false,.int (a*b)))
 | .fdiv=>.chk (decide (b≠0)&&decide (b.natAbs.log2<9000)) (.ok (false,.int (a.fdiv b)))
 | .mod=>.chk (decide (b≠0)) (.ok (false,.int (a.fmod b)))
 | .pow=>.chk (decide (0<=b)&&decide (b<=64)&&decide (a.natAbs<18446744073709551616)) (.ok (false,.int (a ^ b.toNat)))
 | .lt=>.ok (false,.bl (decide (a<b)))
 | .le=>.ok (false,.bl (decide (a<=b)))
 | .gt=>.ok (false,.bl (decide (b<a)))
 | .ge=>.ok (false,.bl (decide (b<=a)))
 | _=>.stuck
noncomputable def gq:D->Bool
 | .non=>true
 | .bl _=>true
 | .int _=>true
 | .str _=>true
 | _=>false
noncomputable def inS(x:D):List D->Option Bool
 | []=>some false
 | y::l=>match eqS y x,inS x l with
   | some s,some t=>some (s||t)
   | _,_=>none
noncomputable def isIn(a b:D):Option Bool:=match b with
 | .lst l=>if gq a then inS a l else none
 | .tup l=>if gq a then inS a l else none
 | .dct ks _=>(keyOf a).map fun k=>decide (k∈ks)
 | .str y=>match a with
   | .str [c]=>some (decide (c∈y))
   | _=>none
 | _=>none
noncomputable def okD:Nat->D->Bool
 | _,.non=>true
 | _,.bl _=>true
 | _,.int _=>true
 | _,.str x=>x.all fun c=>decide (c<1114112)
 | 0,_=>false
 | n+1,.tup l=>l.all (okD n)
 | n+1,.lst l=>l.all (okD n)
 | _,_=>false
mutual
noncomputable def eqB:D->D->Bool
 | .non,.non=>true
 | .bl a,.bl b=>a==b
 | .bl a,.int j=>(if a then 1 else 0)==j
 | .int i,.bl b=>i==(if b then 1 else 0)
 | .int i,.int j=>i==j
 | .str x,.str y=>x==y
 | .lst x,.lst y=>eqBs x y
 | .tup x,.tup y=>eqBs x y
 | _,_=>false
noncomputable def eqBs:List D->List D->Bool
 | [],[]=>true
 | x::a,y::b=>eqB x y&&eqBs a b
 | _,_=>false
end
noncomputable def eqA(a b:D):Option Bool:=match eqS a b with
 | some t=>some t
 | none=>match a,b with
   | .lst _,.lst _=>if okD 60 a&&okD 60 b then some (eqB a b)else none
   | .tup _,.tup _=>if okD 60 a&&okD 60 b then some (eqB a b)else none
   | _,_=>none
noncomputable def o2(p:O2)(a b:D):R (Bool×D):=match p with
 | .eq=>.of ((eqA a b).map fun t=>(false,.bl t))
 | .ne=>.of ((eqA a b).map fun t=>(false,.bl !t))
 | .is=>match b with
   | .non=>match a with
     | .non=>.ok (false,.bl true)
     | _=>.ok (false,.bl false)
   | .bl y=>match a with
     | .bl x=>.ok (false,.bl (x==y))
     | _=>.stuck
   | _=>.stuck
 | .isnot=>match b with
   | .non=>match a with
     | .non=>.ok (false,.bl false)
     | _=>.ok (false,.bl true)
   | .bl y=>match a with
     | .bl x=>.ok (false,.bl (x !=y))
     | _=>.stuck
   | _=>.stuck
 | .in=>.of ((isIn a b).map fun t=>(false,.bl t))
 | .notin=>.of ((isIn a b).map fun t=>(false,.bl !t))
 | p=>match a,b with
   | .int i,.int j=>arith p i j
   | .str x,.str y=>match p with
     | .add=>.chk (size (x.length+y.length)) (.ok (false,.str (x++y)))
     | .lt=>.ok (false,.bl (ltS x y))
     | .le=>.ok (false,.bl (!ltS y x))
     | _=>.stuck
   | .lst x,.lst y=>match p with
     | .add=>.chk (size (x.length+y.length)) (.ok (true,.lst (x++y)))
     | _=>.stuck
   | .tup x,.tup y=>match p with
     | .add=>.chk (size (x.length+y.length)) (.ok (false,.tup (x++y)))
     | _=>.stuck
   | _,_=>.stuck
noncomputable def idxD(a i:D):R (Bool×D):=match a,i with
 | .lst l,.int j=>.of ((place l.length j).bind fun n=>l[n]?.map fun d=>(false,d))
 | .tup l,.int j=>.of ((place l.length j).bind fun n=>l[n]?.map fun d=>(false,d))
 | .str x,.int j=>.of ((place x.length j).bind fun n=>x[n]?.map fun c=>(false,.str [c]))
 | .dct ks vs,k=>.of ((keyOf k).bind fun x=>(look ks vs x).map fun d=>(false,d))
 | _,_=>.stuck
noncomputable def slcD(a:D)(lo hi:Option Int):Option (Bool×D):=match a with
 | .lst l=>some (true,.lst (cut l (dz l.length lo) (bY l.length hi)))
 | .str x=>some (false,.str (cut x (dz x.length lo) (bY x.length hi)))
 | .tup l=>if dz l.length lo=0/\bY l.length hi=l.length then none else some (false,.tup (cut l (dz l.length lo) (bY l.length hi)))
 | _=>none
noncomputable def bnd(t:T)(d:D):Option (Option Int):=match t with
 | .cst .non=>some none
 | _=>match d with
   | .int i=>some (some i)
   | _=>none
noncomputable def fldD(ok:Nat->Bool)(o:D)(f:List Nat):R (Bool×D):=match o with
 | .obj c ns vs=>.chk (ok c) (.of ((look (ns.map .s) vs (.s f)).map fun d=>(false,d)))
 | _=>.stuck
noncomputable def uP:D->Option (List D)
 | .lst l=>some l
 | .tup l=>some l
 | .dct ks _=>some (ks.map keyD)
 | .str x=>some (x.map fun c=>.str [c])
 | _=>none
noncomputable def jo:D->Option (List D)
 | .lst l=>some l
 | .dct ks _=>some (ks.map keyD)
 | _=>none
noncomputable def boolsOf:List D->Option (List Bool)
 | []=>some []
 | .bl b::l=>(boolsOf l).map (b::·)
 | _::_=>none
noncomputable def figs(n:Nat):List Nat:=(Nat.toDigits 10 n).map Char.toNat
noncomputable def oJ(i:Int):List Nat:=if i<0 then 45::figs i.natAbs else figs i.natAbs
noncomputable def ssD(l:List D):Option (Bool×D):=match strsOf l with
 | some x=>if l.length<4000/\(bD x).length<64 then some (true,.lst ((gn (bD x)).map .str))else none
 | none=>(intsOf l).bind fun x=>if l.length<4000/\(bD x).length<64 then some (true,.lst ((sortI (bD x)).map .int))else none
noncomputable def b1D(b:B1)(a:D):R (Bool×D):=match b with
 | .len=>match a with
   | .lst l=>.ok (false,.int l.length)
   | .tup l=>.ok (false,.int l.length)
   | .dct ks _=>.ok (false,.int ks.length)
   | .str x=>.ok (false,.int x.length)
   | _=>.stuck
 | .abs=>match a with
   | .int i=>.ok (false,.int (if i<0 then -i else i))
   | _=>.stuck
 | .tuple=>match a with
   | .lst l=>.ok (false,.tup l)
   | .tup l=>.ok (false,.tup l)
   | _=>.stuck
 | .list=>match a with
   | .lst l=>.ok (true,.lst l)
   | .tup l=>.ok (true,.lst l)
   | _=>.stuck
 | .dict=>match a with
   | .dct ks vs=>.ok (true,.dct ks vs)
   | _=>.stuck
 | .sorted=>.of ((jo a).bind fun l=>match strsOf l with
   | some x=>if x.length<64 then some (true,.lst ((gn x).map .str))else none
   | none=>(wQ l).map fun r=>(true,.lst r))
 | .sortedSet=>match a with
   | .lst l=>.of (ssD l)
   | _=>.stuck
 | .lenSet=>.of ((uP a).bind fun l=>(strsOf l).map fun x=>(false,.int (bD x).length))
 | .all=>match a with
   | .lst l=>.of ((boolsOf l).map fun t=>(false,.bl (t.all id)))
   | _=>.stuck
 | .any=>match a with
   | .lst l=>.of ((boolsOf l).map fun t=>(false,.bl (t.any id)))
   | _=>.stuck
 | .str=>match a with
   | .int i=>.chk (decide (i.natAbs.log2<1920)&&size (oJ i).length) (.ok (false,.str (oJ i)))
   | _=>.stuck
 | .max=>match a with
   | .lst l=>.of ((intsOf l).bind fun x=>match x with
     | []=>none
     | y::r=>some (false,.int (r.foldl (fun m z=>if z>m then z else m) y)))
   | _=>.stuck
 | .min=>match a with
   | .lst l=>.of ((intsOf l).bind fun x=>match x with
     | []=>none
     | y::r=>some (false,.int (r.foldl (fun m z=>if z<m then z else m) y)))
   | _=>.stuck
 | .sum=>match a with
   | .lst l=>.of ((intsOf l).map fun x=>(false,.int x.sum))
   | _=>.stuck
 | .int=>match a with
   | .int i=>.ok (false,.int i)
   | .bl b=>.ok (false,.int (if b then 1 else 0))
   | _=>.stuck
noncomputable def Gn:List Int->D
 | []=>.non
 | y::r=>.int (r.foldl (fun m z=>if z<m then z else m) y)
noncomputable def b2D(b:B2)(x y:D):R (Bool×D):=match x,y with
 | .int i,.int j=>match b with
   | .max=>.ok (false,.int (if j>i then j else i))
   | .min=>.ok (false,.int (if j<i then j else i))
   | .divmod=>.chk (decide (0<j)&&decide (j.natAbs.log2<9000)) (.ok (false,.tup [.int (i/j),.int (i % j)]))
   | .maxd=>.stuck
   | .mind=>.stuck
 | .lst l,.int j=>match b with
   | .maxd=>.of ((intsOf l).map fun r=>(false,.int (match r with
     | []=>j
     | y::r=>r.foldl (fun m z=>if z>m then z else m) y)))
   | _=>.stuck
 | .lst l,.non=>match b with
   | .mind=>.of ((intsOf l).map fun r=>(false,Gn r))
   | _=>.stuck
 | _,_=>.stuck
noncomputable def Ig(sep:List Nat):List (List Nat)->List Nat
 | []=>[]
 | [x]=>x
 | x::y::l=>x++sep++Ig sep (y::l)
noncomputable def m1D(m:M1)(o a:D):R (Bool×D):=match m with
 | .get=>match o with
   | .dct ks vs=>.of ((keyOf a).map fun k=>(false,(look ks vs k).getD .non))
   | _=>.stuck
 | .join=>match o,a with
   | .str sep,.lst l=>.of ((strsOf l).bind fun x=>if size ((x.map List.length).sum+x.length*sep.length)then some (false,.str (Ig sep x))else none)
   | _,_=>.stuck
 | .startswith=>match o,a with
   | .str x,.str y=>.ok (false,.bl (y.isPrefixOf x))
   | _,_=>.stuck
 | .zfill=>match o,a with
   | .str x,.int n=>.chk (decide (0<=n)&&decide (n<=1000)&&!(x.head?==some 43)&&!(x.head?==some 45)) (.ok (false,.str (List.replicate (n.toNat-x.length) 48++x)))
   | _,_=>.stuck
 | .lstrip=>match o,a with
   | .str x,.str [c]=>.ok (false,.str (x.dropWhile (·==c)))
   | _,_=>.stuck
 | _=>.stuck
noncomputable def Ie:List D->Option (List Nat)
 | []=>some []
 | [.str x,.int i]=>if i.natAbs.log2<1920 then some (x++oJ i)else none
 | .str x::l=>(Ie l).map (x++·)
 | _::_=>none
noncomputable def Ml(o a c:D):R (Bool×D):=match o with
 | .dct ks vs=>.of ((keyOf a).map fun k=>(false,(look ks vs k).getD c))
 | _=>.stuck
structure Orc where
 fn:Nat->List D->R (Bool×D)
 ini:Nat->D->List D->R D
 meth:Nat->List Nat->Option Nat
 init:Nat->Option Nat
 sub:Nat->Nat->Bool
 w:Nat
noncomputable def isD(o:Orc)(ty:Ty)(d:D):Option Bool:=match ty with
 | .cls c'=>match d with
   | .err c=>if o.sub c c then some (o.sub c c')else none
   | _=>none
 | .valueError=>match d with
   | .err c=>if o.sub c c then some true else none
   | _=>none
 | ty=>match d with
   | .non=>some false
   | .bl _=>some (match ty with | .bool=>true | .int=>true | _=>false)
   | .int _=>some (match ty with | .int=>true | _=>false)
   | .str _=>some (match ty with | .str=>true | _=>false)
   | .tup _=>some (match ty with | .tup=>true | _=>false)
   | .lst _=>some (match ty with | .lst=>true | _=>false)
   | .dct _ _=>some (match ty with | .dct=>true | _=>false)
   | _=>none
noncomputable def Dr(δ:Dst)(i:Nat):Option D:=match δ[i]? with
 | some (some (_,d))=>some d
 | _=>none
noncomputable def dZ(δ:Dst):List Nat->Option (List D)
 | []=>some []
 | i::l=>(Dr δ i).bind fun d=>(dZ δ l).map (d::·)
noncomputable def isOwn(δ:Dst)(i:Nat):Bool:=match δ[i]? with
 | some (some (.ow,_))=>true
 | some (some (.me,_))=>true
 | _=>false
noncomputable def lent(br:Bool)(r:Bool×D):R (Bool×D):=if br then(if r.2.imm then .ok r else .stuck)else .ok r
noncomputable def rngD(a b:Int):List D:=(List.range (b-a).toNat).map fun(k:Nat)=>D.int (a+(k:Int))
noncomputable def K7(a b c:Int):List D:=(List.range (if a<b then(b-a-1)/c+1 else 0).toNat).map fun(k:Nat)=>D.int (a+(k:Int)*c)
noncomputable def zipD:List D->List D->List D
 | x::l,y::r=>.tup [x,y]::zipD l r
 | _,_=>[]
noncomputable def DQ(i:Nat):List D->List D
 | []=>[]
 | x::l=>.tup [.int (i:Int),x]::DQ (i+1) l
noncomputable def inR(i:Int):Bool:=decide (-1000000<=i)&&decide (i<=1000000)
noncomputable def Ks:D->D->D->R (List D)
 | .int i,.int j,.int k=>.chk (inR i&&inR j&&inR k&&decide (0<k)) (.ok (K7 i j k))
 | _,_,_=>.stuck
noncomputable def zipR:D->D->R (List D)
 | .lst l,.lst r=>.ok (zipD l r)
 | _,_=>.stuck
theorem Eg{x y:D}{l:List D}(h:zipR x y=.ok l):∃a b,x=.lst a/\y=.lst b/\l=zipD a b:=by
 cases x<;>first | exact cV h | skip
 cases y<;>first | exact cV h | (cases h;exact⟨_,_,rfl,rfl,rfl⟩)
noncomputable def takes(m:Nat)(tg:Bool)(d:D):Option (List D):=if tg then(match d with
 | .tup l=>if l.length=m then some l else none
 | _=>none)else some [d]
noncomputable def bV(f:List D->R (Bool×D))(c:List D->R (Bool×D))(m:Nat)(tg:Bool):List D->R (List D)
 | []=>.ok []
 | d::l=>(R.of (takes m tg d)).bind fun x=>(c x).bind fun t=>(R.of (truth t.2)).bind fun b=>
   if b then(f x).bind fun y=>(bV f c m tg l).bind fun r=>.ok (y.2::r)else bV f c m tg l
noncomputable def cD:D->R (Bool×D)
 | .bl b=>.ok (false,.bl b)
 | _=>.stuck
noncomputable def fX(δ:Dst):T->Bool
 | .var i=>isOwn δ i
 | _=>false
mutual
noncomputable def ev(o:Orc)(δ:Dst)(lk:Bool):T->R (Bool×D)
 | .var i=>match δ[i]? with
   | some (some (.sh,d))=>.ok (false,d)
   | some (some (_,d))=>if lk then .ok (false,d)else .stuck
   | _=>.stuck
 | .cst d=>.ok (false,d)
 | .op2 p a b=>(ev o δ true a).bind fun x=>(ev o δ true b).bind fun y=>o2 p x.2 y.2
 | .neg a=>(ev o δ true a).bind fun x=>match x.2 with
   | .int i=>.ok (false,.int (-i))
   | _=>.stuck
 | .not a=>(ev o δ true a).bind fun x=>(R.of (truth x.2)).bind fun b=>.ok (false,.bl !b)
 | .and a b=>(ev o δ true a).bind fun x=>match x.2 with
   | .bl true=>(ev o δ true b).bind fun y=>cD y.2
   | .bl false=>.ok (false,.bl false)
   | _=>.stuck
 | .or a b=>(ev o δ true a).bind fun x=>match x.2 with
   | .bl true=>.ok (false,.bl true)
   | .bl false=>(ev o δ true b).bind fun y=>cD y.2
   | _=>.stuck
 | .ite c a b=>(ev o δ true c).bind fun x=>(R.of (truth x.2)).bind fun t=>if t then ev o δ lk a else ev o δ lk b
 | .tup l=>(evL o δ l).bind fun x=>.chk (!x.1&&size x.2.length) (.ok (false,.tup x.2))
 | .lst l=>(evL o δ l).bind fun x=>.chk (!x.1&&size x.2.length) (.ok (true,.lst x.2))
 | .dnew ks l=>(evL o δ l).bind fun x=>.chk (!x.1&&decide (ks.length=x.2.length)&&decide (ks.length<=1000)&&decide ks.Nodup) (.ok (true,.dct ks x.2))
 | .idx a i=>(ev o δ true a).bind fun x=>(ev o δ true i).bind fun y=>idxD x.2 y.2
 | .kidx ks vs i=>(ev o δ true i).bind fun y=>.of ((keyOf y.2).bind fun x=>(look ks vs x).map fun d=>(false,d))
 | .kin ks neg i=>(ev o δ true i).bind fun y=>.of ((keyOf y.2).map fun x=>(false,.bl (neg ^^ decide (x∈ks))))
 | .slc a lo hi=>(ev o δ true a).bind fun x=>(ev o δ true lo).bind fun y=>(ev o δ true hi).bind fun z=>.of ((bnd lo y.2).bind fun l=>(bnd hi z.2).bind fun h=>slcD x.2 l h)
 | .call f l=>(evL o δ l).bind fun x=>(o.fn f x.2).bind (lent x.1)
 | .mk c l=>(evL o δ l).bind fun x=>(R.of (o.init c)).bind fun f=>R.chk (!x.1) ((o.ini f (.obj c [] []) x.2).bind fun d=>.ok (true,d))
 | .meth m a l=>(ev o δ (fX δ a) a).bind fun x=>(evL o δ l).bind fun y=>match x.2 with
   | .obj c ns _=>R.chk (!ns.contains m) ((R.of (o.meth c m)).bind fun f=>(o.fn f (x.2::y.2)).bind (lent (fX δ a||y.1)))
   | _=>.stuck
 | .fld a f=>(ev o δ true a).bind fun x=>fldD (fun c=>(o.init c).isSome) x.2 f
 | .b1 b a=>(ev o δ true a).bind fun x=>b1D b x.2
 | .b2 b a c=>(ev o δ true a).bind fun x=>(ev o δ true c).bind fun y=>b2D b x.2 y.2
 | .m0 _ _=>.stuck
 | .m1 m a b=>(ev o δ true a).bind fun x=>(ev o δ true b).bind fun y=>m1D m x.2 y.2
 | .get2 a b c=>(ev o δ true a).bind fun x=>(ev o δ true b).bind fun y=>(ev o δ false c).bind fun z=>Ml x.2 y.2 z.2
 | .isin a ty=>(ev o δ true a).bind fun x=>.of ((isD o ty x.2).map fun t=>(false,.bl t))
 | .fstr l=>(evL o δ l).bind fun x=>.of ((Ie x.2).bind fun t=>if size t.length then some (false,.str t)else none)
 | .comp caps m tg it c e=>(evI o δ true it).bind fun l=>(R.of (dZ δ caps)).bind fun cs=>
   (bV (fun x=>ev o ((x++cs).map fun d=>some (.sh,d)) false e) (fun x=>ev o ((x++cs).map fun d=>some (.sh,d)) true c) m tg l).bind fun r=>
    R.chk (size r.length&&(immL r||caps.all fun i=>!isOwn δ i)) (.ok (true,.lst r))
noncomputable def evL(o:Orc)(δ:Dst):TL->R (Bool×List D)
 | .nil=>.ok (false,[])
 | .cons t l=>(ev o δ (fX δ t) t).bind fun x=>(evL o δ l).bind fun y=>.ok (fX δ t||y.1,x.2::y.2)
noncomputable def evI(o:Orc)(δ:Dst)(lk:Bool):TI->R (List D)
 | .val t=>(ev o δ lk t).bind fun x=>.of (uP x.2)
 | .rng1 t=>(ev o δ true t).bind fun x=>match x.2 with
   | .int n=>.chk (inR n) (.ok (rngD 0 n))
   | _=>.stuck
 | .rng2 a b=>(ev o δ true a).bind fun x=>(ev o δ true b).bind fun y=>match x.2,y.2 with
   | .int i,.int j=>.chk (inR i&&inR j) (.ok (rngD i j))
   | _,_=>.stuck
 | .rng3 a b c=>(ev o δ true a).bind fun x=>(ev o δ true b).bind fun y=>(ev o δ true c).bind fun z=>Ks x.2 y.2 z.2
 | .zip a b=>(ev o δ lk a).bind fun x=>(ev o δ lk b).bind fun y=>zipR x.2 y.2
 | .enum a=>(ev o δ lk a).bind fun x=>match x.2 with
   | .lst l=>.ok (DQ 0 l)
   | .dct ks _=>.ok (DQ 0 (ks.map keyD))
   | _=>.stuck
end
mutual
noncomputable def aY:T->List Nat
 | .var i=>[i]
 | .cst _=>[]
 | .op2 _ a b=>aY a++aY b
 | .neg a=>aY a
 | .not a=>aY a
 | .and a b=>aY a++aY b
 | .or a b=>aY a++aY b
 | .ite c a b=>aY c++(aY a++aY b)
 | .tup l=>gF l
 | .lst l=>gF l
 | .dnew _ l=>gF l
 | .idx a i=>aY a++aY i
 | .kidx _ _ i=>aY i
 | .kin _ _ i=>aY i
 | .slc a lo hi=>aY a++(aY lo++aY hi)
 | .call _ l=>gF l
 | .mk _ l=>gF l
 | .meth _ a l=>aY a++gF l
 | .fld a _=>aY a
 | .b1 _ a=>aY a
 | .b2 _ a b=>aY a++aY b
 | .m0 _ a=>aY a
 | .m1 _ a b=>aY a++aY b
 | .get2 a b c=>aY a++(aY b++aY c)
 | .isin a _=>aY a
 | .fstr l=>gF l
 | .comp caps _ _ it _ _=>caps++Jt it
noncomputable def gF:TL->List Nat
 | .nil=>[]
 | .cons t l=>aY t++gF l
noncomputable def Jt:TI->List Nat
 | .val t=>aY t
 | .rng1 t=>aY t
 | .rng2 a b=>aY a++aY b
 | .rng3 a b c=>aY a++(aY b++aY c)
 | .zip a b=>aY a++aY b
 | .enum a=>aY a
end
noncomputable def share1(δ:Dst)(i:Nat):Dst:=match δ[i]? with
 | some (some (.ow,d))=>δ.set i (some (.sh,d))
 | _=>δ
noncomputable def cU(δ:Dst):T->Dst
 | .var i=>share1 δ i
 | _=>δ
noncomputable def cM(δ:Dst):TI->Dst
 | .val (.var i)=>share1 δ i
 | .enum (.var i)=>share1 δ i
 | .zip a b=>cU (cU δ a) b
 | _=>δ
noncomputable def share(δ:Dst)(is:List Nat):Dst:=is.foldl share1 δ
noncomputable def evF(o:Orc)(δ:Dst)(e:T):Dst×R (Bool×D):=match ev o δ false e with
 | .stuck=>(share δ (aY e),ev o (share δ (aY e)) false e)
 | r=>(δ,r)
inductive SO where
 | nx (δ:Dst)
 | rt (w:Bool) (d:D) (δ:Dst)
 | bk (δ:Dst)
 | ct (δ:Dst)
 | ex (c:Nat) (δ:Dst)
 | stuck
noncomputable def SO.of(δ:Dst){α:Type}(r:R α)(k:α->SO):SO:=match r with
 | .ok a=>k a
 | .exc _=>.stuck
 | .stuck=>.stuck
noncomputable def SO.ofX(δ:Dst){α:Type}(r:R α)(k:α->SO):SO:=match r with
 | .ok a=>k a
 | .exc c=>.ex c δ
 | .stuck=>.stuck
noncomputable def setSlot(δ:Dst)(i:Nat)(w:Bool)(d:D):Option Dst:=if i<δ.length then some (δ.set i (some (if w then .ow else .sh,d)))else none
noncomputable def aR(δ:Dst):List Nat->List D->Option Dst
 | [],[]=>some δ
 | i::is,d::ds=>(setSlot δ i false d).bind fun δ'=>aR δ' is ds
 | _,_=>none
noncomputable def ownD(δ:Dst)(i:Nat):Option (Own×D):=match δ[i]? with
 | some (some (.ow,d))=>some (.ow,d)
 | some (some (.me,d))=>some (.me,d)
 | _=>none
noncomputable def bw(x:Option SO):SO:=match x with
 | some r=>r
 | none=>.stuck
noncomputable def putItem(c k v:D):Option D:=match c,k with
 | .lst l,.int j=>(place l.length j).map fun n=>.lst (l.set n v)
 | .dct ks vs,k=>(keyOf k).bind fun x=>if ks.length<=100000 then some (.dct (yL ks x) (putV ks vs x v))else none
 | _,_=>none
noncomputable def FN(ok:Nat->Bool)(c:D)(f:List Nat)(v:D):Option D:=match c with
 | .obj c ns vs=>if ok c/\ns.length<900 then some (.obj c (yL (ns.map .s) (.s f) |>.map fun | .s x=>x | .i _=>[]) (putV (ns.map .s) vs (.s f) v))else none
 | _=>none
noncomputable def tW:List DK->List D->List DK->List D->List DK×List D
 | ks,vs,k::ks',v::vs'=>tW (yL ks k) (putV ks vs k v) ks' vs'
 | ks,vs,_,_=>(ks,vs)
noncomputable def cF(body:Dst->SO)(tg:List Nat)(tup:Bool):List D->Dst->SO
 | [],δ=>.nx δ
 | d::l,δ=>match takes tg.length tup d with
   | none=>.stuck
   | some ds=>match aR δ tg ds with
     | none=>.stuck
     | some δ1=>match body δ1 with
       | .nx δ2=>cF body tg tup l δ2
       | .ct δ2=>cF body tg tup l δ2
       | .bk δ2=>.nx δ2
       | r=>r
noncomputable def cz(c:Dst->R (Bool×D))(body:Dst->SO):Nat->Dst->SO
 | 0,_=>.stuck
 | n+1,δ=>SO.of δ ((c δ).bind fun x=>R.of (truth x.2)) fun b=>if b then(match body δ with
  | .nx δ2=>cz c body n δ2
  | .ct δ2=>cz c body n δ2
  | .bk δ2=>.nx δ2
  | r=>r)else .nx δ
mutual
noncomputable def evS(o:Orc):S->Dst->SO
 | .set i e,δ=>SO.of (evF o δ e).1 (evF o δ e).2 fun r=>bw ((setSlot (evF o δ e).1 i r.1 r.2).map .nx)
 | .sett is e,δ=>SO.of (evF o δ e).1 (evF o δ e).2 fun r=>bw ((takes is.length true r.2).bind fun ds=>(aR (evF o δ e).1 is ds).map .nx)
 | .seti i k e,δ=>SO.of (evF o δ e).1 (evF o δ e).2 fun r=>SO.of (evF o δ e).1 (ev o (evF o δ e).1 true k) fun y=>
  bw ((ownD (evF o δ e).1 i).bind fun c=>(putItem c.2 y.2 r.2).map fun c'=>.nx ((evF o δ e).1.set i (some (c.1,c'))))
 | .setf i f e,δ=>SO.of (evF o δ e).1 (evF o δ e).2 fun r=>bw ((ownD (evF o δ e).1 i).bind fun c=>(FN (fun c=>(o.init c).isSome) c.2 f r.2).map fun c'=>.nx ((evF o δ e).1.set i (some (c.1,c'))))
 | .append i e,δ=>SO.of (evF o δ e).1 (evF o δ e).2 fun r=>bw ((ownD (evF o δ e).1 i).bind fun c=>match c.2 with
  | .lst l=>if size (l.length+1)then some (.nx ((evF o δ e).1.set i (some (c.1,.lst (l++[r.2])))))else none
  | _=>none)
 | .setx i f l,δ=>SO.of δ (evL o δ l) fun x=>SO.ofX δ ((o.fn f x.2).bind (lent x.1)) fun r=>bw ((setSlot δ i r.1 r.2).map .nx)
 | .clear i,δ=>bw ((ownD δ i).bind fun c=>match c.2 with
  | .lst _=>some (.nx (δ.set i (some (c.1,.lst []))))
  | _=>none)
 | .extend i e,δ=>SO.of (evF o δ e).1 (evF o δ e).2 fun r=>bw ((ownD (evF o δ e).1 i).bind fun c=>match c.2,r.2 with
  | .lst l,.lst l'=>if size (l.length+l'.length)&&r.1 then some (.nx ((evF o δ e).1.set i (some (c.1,.lst (l++l')))))else none
  | _,_=>none)
 | .update i e,δ=>SO.of δ (ev o δ true e) fun r=>bw ((ownD δ i).bind fun c=>match c.2,r.2 with
  | .dct ks vs,.dct ks' vs'=>if decide (ks.length+ks'.length<=100000)&&(match e with | .var j=>j !=i | _=>true)then some (.nx (δ.set i (some (c.1,.dct (tW ks vs ks' vs').1 (tW ks vs ks' vs').2))))else none
  | _,_=>none)
 | .pop1 j i k,δ=>SO.of δ (ev o δ true k) fun y=>bw ((ownD δ i).bind fun c=>match c.2 with
  | .dct ks vs=>(keyOf y.2).bind fun x=>(look ks vs x).bind fun v=>(match j with
    | none=>some (SO.nx (δ.set i (some (c.1,.dct (pG ks x) (wC ks vs x)))))
    | some j=>if i=j then none else(setSlot (δ.set i (some (c.1,.dct (pG ks x) (wC ks vs x)))) j false v).map .nx)
  | _=>none)
 | .pop2 i k e,δ=>SO.of δ (ev o δ true k) fun y=>SO.of δ (ev o δ true e) fun _=>bw ((ownD δ i).bind fun c=>match c.2 with
  | .dct ks vs=>(keyOf y.2).bind fun x=>some (.nx (δ.set i (some (c.1,.dct (pG ks x) (wC ks vs x)))))
  | _=>none)
 | .ini c l,δ=>SO.of δ ((evL o δ l).bind fun x=>(R.of (ownD δ 0)).bind fun q=>(R.of (o.init c)).bind fun f=>R.chk (!x.1) ((o.ini f q.2 x.2).bind fun d=>.ok (q.1,d))) fun r=>.nx (δ.set 0 (some r))
 | .ifs c a b,δ=>SO.of δ ((ev o δ true c).bind fun x=>R.of (truth x.2)) fun t=>if t then evSs o a δ else evSs o b δ
 | .ifq c a b,δ=>(fun δ1=>SO.of δ1 ((ev o δ1 true c).bind fun x=>R.of (truth x.2)) fun t=>if t then evSs o a δ1 else evSs o b δ1) (share δ (aY c))
 | .for_ tg tup it b,δ=>(fun δ1=>SO.of δ1 (evI o δ1 false it) fun l=>cF (evSs o b) tg tup l δ1) (cM δ it)
 | .while_ c b,δ=>cz (fun δ=>ev o δ true c) (evSs o b) o.w δ
 | .ret e,δ=>match e with
   | .var i=>match δ[i]? with
     | some (some (.ow,d))=>.rt true d δ
     | some (some (.sh,d))=>.rt false d δ
     | _=>.stuck
   | e=>SO.of (evF o δ e).1 (evF o δ e).2 fun r=>.rt r.1 r.2 (evF o δ e).1
 | .retn,δ=>.rt false .non δ
 | .expr e,δ=>match e with
   | .call f l=>SO.of δ (evL o δ l) fun x=>SO.ofX δ ((o.fn f x.2).bind (lent x.1)) fun _=>.nx δ
   | e=>SO.of δ (ev o δ true e) fun _=>.nx δ
 | .raise c e,δ=>SO.of δ (ev o δ true e) fun _=>.ex c δ
 | .try_ b c nm h,δ=>match evSs o b δ with
   | .ex c' δ1=>if o.sub c' c then(match nm with
     | none=>evSs o h δ1
     | some j=>bw ((setSlot δ1 j false (.err c')).map fun δ2=>match evSs o h δ2 with
       | .nx δ3=>.nx (δ3.set j none)
       | _=>.stuck))else .stuck
   | r=>r
 | .brk,δ=>.bk δ
 | .cont,δ=>.ct δ
 | .pass,δ=>.nx δ
noncomputable def evSs(o:Orc):SL->Dst->SO
 | .nil,δ=>.nx δ
 | .cons s l,δ=>match evS o s δ with
   | .nx δ1=>evSs o l δ1
   | r=>r
end
noncomputable def nF:S:=.expr (.m0 .get (.cst .non))
noncomputable def Eh:SL:=.cons nF .nil
structure Fd where
 np:Nat
 ns:Nat
 body:SL
noncomputable def dB(o:Orc)(f:Fd)(args:List D):R (Bool×D):=if args.length=f.np then(match evSs o f.body (args.map (fun d=>some (Own.sh,d))++List.replicate (f.ns-f.np) none)with
 | .rt w d _=>.ok (w,d)
 | .nx _=>.ok (false,.non)
 | .ex c _=>.exc c
 | _=>.stuck)else .stuck
noncomputable def selfOf(δ:Dst):R D:=match(δ[0]?:Option (Option Slot))with
 | some (some (.me,d))=>.ok d
 | _=>.stuck
noncomputable def Gp(o:Orc)(f:Fd)(self:D)(args:List D):R D:=if args.length+1=f.np then(match evSs o f.body (some (Own.me,self)::(args.map (fun d=>some (Own.sh,d))++List.replicate (f.ns-f.np) none))with
 | .rt _ .non δ=>selfOf δ
 | .nx δ=>selfOf δ
 | .ex c _=>.exc c
 | _=>.stuck)else .stuck
structure Prg where
 fns:List Fd
 meth:Nat->List Nat->Option Nat
 init:Nat->Option Nat
 sub:Nat->Nat->Bool
noncomputable def tabOf:List (Nat×List Nat×Nat)->Nat->List Nat->Option Nat
 | [],_,_=>none
 | (c',m',f)::l,c,m=>if c'=c/\m'=m then some f else tabOf l c m
noncomputable def zH:List (Nat×Nat)->Nat->Option Nat
 | [],_=>none
 | (c',f)::l,c=>if c'=c then some f else zH l c
noncomputable def orc2(P:Prg)(w:Nat):Nat->Orc×Option Orc
 | 0=>(⟨fun _ _=>.stuck,fun _ _ _=>.stuck,P.meth,P.init,P.sub,w⟩,none)
 | n+1=>(⟨fun f a=>match P.fns[f]? with | some d=>dB (orc2 P w n).1 d a | none=>.stuck,fun f s a=>match(orc2 P w n).2 with | none=>.stuck | some o=>(match P.fns[f]? with | some d=>Gp o d s a | none=>.stuck),P.meth,P.init,P.sub,w⟩,some (orc2 P w n).1)
noncomputable def orc(P:Prg)(w n:Nat):Orc:=(orc2 P w n).1
theorem bz{P:Prg}{w n f:Nat}{d:Fd}{a:List D}(h:P.fns[f]?=some d):(orc P w (n+1)).fn f a=dB (orc P w n) d a:=by
 show(match P.fns[f]? with | some d=>dB (orc P w n) d a | none=>.stuck)=_;rw[h]
end Z
set_option autoImplicit false
namespace Z
open PySem PySem.Spec PyProof.Rows L2
noncomputable def strV(x:List Nat):Str:=⟨x.toArray⟩
noncomputable def keyV:DK->Key
 | .i n=>.inl n
 | .s x=>.inr (strV x)
theorem dI{x y:List Nat}(h:strV x=strV y):x=y:=by
 have:=congrArg (fun s:Str=>s.cps.toList) h;simpa[strV]using this
theorem fH{x y:DK}(h:keyV x=keyV y):x=y:=by
 cases x<;>cases y<;>simp[keyV]at h
 ·rw[h]
 ·rw[dI h]
noncomputable abbrev IsK(H:Hp)(a:Addr)(kvs:List (Key×V)):Prop:=∃ep,H a=some (.dK kvs ep)
noncomputable def KsOk(ks:List DK):Prop:=ks.Nodup/\∀x,DK.s x∈ks->x.length<=16777216
structure Wd where
 K:PySem.W.Frag
 CT:Nat->Addr
noncomputable def La(C a:Addr)(h:Heap):Prop:=∃o vs,h.get? a=some o/\(o.cls=.ref C/\o.dict=none)/\o.data=.fields vs
mutual
noncomputable def Rep(W:Wd)(G:Hp):D->V->Prop
 | .non,v=>v=.non
 | .bl b,v=>v=.bl b
 | .int i,v=>v=.int i
 | .str x,v=>v=.str (strV x)/\x.length<=16777216
 | .tup l,v=>∃a xs,v=.ref a/\SqT W.K G a xs/\Reps W G l xs
 | .lst l,v=>∃a xs,v=.ref a/\SqL W.K G a xs/\Reps W G l xs
 | .dct ks vs,v=>∃a kvs,v=.ref a/\IsK G a kvs/\kvs.map (·.1)=ks.map keyV/\KsOk ks/\Reps W G vs (kvs.map (·.2))
 | .obj c ns vs,v=>∃a dx fs,v=.ref a/\G a=some (.ins (W.CT c) dx fs)/\fs.map (·.1)=ns.map strV/\Reps W G vs (fs.map (·.2))
 | .err c,v=>∃a,v=.ref a/\G a=some (.ext (La (W.CT c) a))
noncomputable def Reps(W:Wd)(G:Hp):List D->List V->Prop
 | [],[]=>True
 | d::l,v::vs=>Rep W G d v/\Reps W G l vs
 | _,_=>False
end
theorem aK{K:PySem.W.Frag}{H H':Hp}{a:Addr}{xs:List V}(e:Same H H')(h:SqT K H a xs):SqT K H' a xs:=by
 rcases h with(h | ⟨o,h⟩) | h
 ·exact .inl (.inl (e _ _ h))
 ·exact .inl (.inr ⟨o,e _ _ h⟩)
 ·exact .inr h
mutual
theorem Rep.mono{W:Wd}{G G':Hp}(e:Same G G'):∀{d:D} {v:V},Rep W G d v->Rep W G' d v
 | .non,v,h=>by simpa only[Rep]using h
 | .bl b,v,h=>by simpa only[Rep]using h
 | .int i,v,h=>by simpa only[Rep]using h
 | .str x,v,h=>by simpa only[Rep]using h
 | .tup l,v,h=>by
   simp only[Rep]at h ⊢;obtain⟨a,xs,rfl,h1,h2⟩:=h;exact⟨a,xs,rfl,aK e h1,Reps.mono e h2⟩
 | .lst l,v,h=>by
   simp only[Rep]at h ⊢;obtain⟨a,xs,rfl,h1,h2⟩:=h;exact⟨a,xs,rfl,e.seq h1,Reps.mono e h2⟩
 | .dct ks vs,v,h=>by
   simp only[Rep]at h ⊢;obtain⟨a,kvs,rfl,h1,h2,h3,h4⟩:=h;exact⟨a,kvs,rfl,h1.imp fun _ z=>e _ _ z,h2,h3,Reps.mono e h4⟩
 | .obj c ns vs,v,h=>by
   simp only[Rep]at h ⊢;obtain⟨a,dx,fs,rfl,h1,h2,h3⟩:=h;exact⟨a,dx,fs,rfl,e _ _ h1,h2,Reps.mono e h3⟩
 | .err _,v,h=>by
   simp only[Rep]at h ⊢;obtain⟨a,rfl,h1⟩:=h;exact⟨a,rfl,e _ _ h1⟩
theorem Reps.mono{W:Wd}{G G':Hp}(e:Same G G'):∀{l:List D} {vs:List V},Reps W G l vs->Reps W G' l vs
 | [],[],_=>by simp only[Reps]
 | [],_::_,h=>by simp only[Reps]at h
 | _::_,[],h=>by simp only[Reps]at h
 | d::l,v::vs,h=>by
   simp only[Reps]at h ⊢;exact⟨Rep.mono e h.1,Reps.mono e h.2⟩
end
theorem Reps.length{W:Wd}{G:Hp}:∀{l:List D} {vs:List V},Reps W G l vs->l.length=vs.length
 | [],[],_=>rfl
 | [],_::_,h=>by simp only[Reps]at h
 | _::_,[],h=>by simp only[Reps]at h
 | d::l,v::vs,h=>by
   simp only[Reps]at h;simp[Reps.length h.2]
theorem Reps.get{W:Wd}{G:Hp}:∀{l:List D} {vs:List V} {i:Nat} {d:D},Reps W G l vs->l[i]?=some d->∃v,vs[i]?=some v/\Rep W G d v
 | [],_,_,_,_,e=>by simp at e
 | _::_,[],_,_,h,_=>by simp only[Reps]at h
 | d::l,v::vs,0,_,h,e=>by
   simp only[Reps]at h;simp at e;subst e;exact⟨v,rfl,h.1⟩
 | d::l,v::vs,i+1,x,h,e=>by
   simp only[Reps]at h;obtain⟨u,h1,h2⟩:=Reps.get (i:=i) (d:=x) h.2 (by simpa using e);exact⟨u,by simpa using h1,h2⟩
theorem Reps.append{W:Wd}{G:Hp}:∀{l l':List D} {vs vs':List V},Reps W G l vs->Reps W G l' vs'->Reps W G (l++l') (vs++vs')
 | [],_,[],_,_,h=>h
 | [],_,_::_,_,h,_=>by simp only[Reps]at h
 | _::_,_,[],_,h,_=>by simp only[Reps]at h
 | d::l,l',v::vs,vs',h,h'=>by
   simp only[Reps]at h;simp only[List.cons_append,Reps];exact⟨h.1,Reps.append h.2 h'⟩
theorem Reps.set{W:Wd}{G:Hp}{d:D}{v:V}(r:Rep W G d v):∀{l:List D} {vs:List V} (i:Nat),Reps W G l vs->Reps W G (l.set i d) (vs.set i v)
 | [],[],_,h=>h
 | [],_::_,_,h=>by simp only[Reps]at h
 | _::_,[],_,h=>by simp only[Reps]at h
 | _::l,_::vs,0,h=>by
   simp only[Reps]at h;simp only[List.set_cons_zero,Reps];exact⟨r,h.2⟩
 | x::l,y::vs,i+1,h=>by
   simp only[Reps]at h;simp only[List.set_cons_succ,Reps];exact⟨h.1,Reps.set r i h.2⟩
theorem Reps.take{W:Wd}{G:Hp}:∀{l:List D} {vs:List V} (n:Nat),Reps W G l vs->Reps W G (l.take n) (vs.take n)
 | _,_,0,_=>by simp[Reps]
 | [],[],_+1,h=>h
 | [],_::_,_+1,h=>by simp only[Reps]at h
 | _::_,[],_+1,h=>by simp only[Reps]at h
 | d::l,v::vs,n+1,h=>by
   simp only[Reps]at h;simp only[List.take_succ_cons,Reps];exact⟨h.1,Reps.take n h.2⟩
theorem Reps.drop{W:Wd}{G:Hp}:∀{l:List D} {vs:List V} (n:Nat),Reps W G l vs->Reps W G (l.drop n) (vs.drop n)
 | _,_,0,h=>by simpa using h
 | [],[],_+1,h=>h
 | [],_::_,_+1,h=>by simp only[Reps]at h
 | _::_,[],_+1,h=>by simp only[Reps]at h
 | d::l,v::vs,n+1,h=>by
   simp only[Reps]at h;simp only[List.drop_succ_cons];exact Reps.drop n h.2
noncomputable def vis(H:Hp)(P:Addr->Prop):Hp:=fun b=>open Classical in if P b then none else H b
theorem bQ{H:Hp}{P:Addr->Prop}{b:Addr}{o:HO}(h:vis H P b=some o):H b=some o/\¬P b:=by
 unfold vis at h;split at h
 ·cases h
 ·exact⟨h,by assumption⟩
theorem bW{H:Hp}{P:Addr->Prop}{b:Addr}{o:HO}(h:H b=some o)(n:¬P b):vis H P b=some o:=by
 unfold vis;rw[if_neg n];exact h
theorem aD{H H':Hp}{P:Addr->Prop}(e:Same H H'):Same (vis H P) (vis H' P):=fun b o h=>
 let⟨h1,h2⟩:=bQ h
 bW (e b o h1) h2
theorem aQ{H:Hp}{P P':Addr->Prop}(e:∀b,P' b->P b):Same (vis H P) (vis H P'):=fun b o h=>
 let⟨h1,h2⟩:=bQ h
 bW h1 fun z=>h2 (e b z)
theorem aO{H:Hp}{P:Addr->Prop}:Same (vis H P) H:=fun b o h=>(bQ h).1
noncomputable def RepT(W:Wd)(H G:Hp):D->V->Prop
 | .lst l,v=>∃a xs,v=.ref a/\SqL W.K H a xs/\Reps W G l xs
 | .dct ks vs,v=>∃a kvs,v=.ref a/\IsK H a kvs/\kvs.map (·.1)=ks.map keyV/\KsOk ks/\Reps W G vs (kvs.map (·.2))
 | .obj c ns vs,v=>∃a dx fs,v=.ref a/\H a=some (.ins (W.CT c) dx fs)/\fs.map (·.1)=ns.map strV/\Reps W G vs (fs.map (·.2))
 | d,v=>Rep W G d v
noncomputable def OwnAt(W:Wd)(H G:Hp)(a:Addr):D->Prop
 | .lst l=>∃xs,H a=some (.lst xs)/\Reps W G l xs
 | .dct ks vs=>∃kvs,IsK H a kvs/\kvs.map (·.1)=ks.map keyV/\KsOk ks/\Reps W G vs (kvs.map (·.2))
 | .obj c ns vs=>∃dx fs,H a=some (.ins (W.CT c) dx fs)/\fs.map (·.1)=ns.map strV/\Reps W G vs (fs.map (·.2))
 | _=>False
theorem RepT.mono{W:Wd}{H G H' G':Hp}{d:D}{v:V}(h:RepT W H G d v)(e:Same H H')(g:Same G G'):RepT W H' G' d v:=by
 cases d with
 | lst l=>
   obtain⟨a,xs,rfl,h1,h2⟩:=h;exact⟨a,xs,rfl,e.seq h1,h2.mono g⟩
 | dct ks vs=>
   obtain⟨a,kvs,rfl,h1,h2,h3,h4⟩:=h;exact⟨a,kvs,rfl,h1.imp fun _ z=>e _ _ z,h2,h3,h4.mono g⟩
 | obj c ns vs=>
   obtain⟨a,dx,fs,rfl,h1,h2,h3⟩:=h;exact⟨a,dx,fs,rfl,e _ _ h1,h2,h3.mono g⟩
 | non=>exact Rep.mono g h
 | bl b=>exact Rep.mono g h
 | int i=>exact Rep.mono g h
 | str x=>exact Rep.mono g h
 | tup l=>exact Rep.mono g h
 | err c=>exact Rep.mono g h
theorem Rep.top{W:Wd}{H G:Hp}{d:D}{v:V}(h:Rep W G d v)(e:Same G H):RepT W H G d v:=by
 cases d with
 | lst l=>
   simp only[Rep]at h;obtain⟨a,xs,rfl,h1,h2⟩:=h;exact⟨a,xs,rfl,e.seq h1,h2⟩
 | dct ks vs=>
   simp only[Rep]at h;obtain⟨a,kvs,rfl,h1,h2⟩:=h;exact⟨a,kvs,rfl,h1.imp fun _ z=>e _ _ z,h2⟩
 | obj c ns vs=>
   simp only[Rep]at h;obtain⟨a,dx,fs,rfl,h1,h2⟩:=h;exact⟨a,dx,fs,rfl,e _ _ h1,h2⟩
 | non=>exact h
 | bl b=>exact h
 | int i=>exact h
 | str x=>exact h
 | tup l=>exact h
 | err c=>exact h
theorem OwnAt.mono{W:Wd}{H G H' G':Hp}{a:Addr}{d:D}(h:OwnAt W H G a d)(e:∀o,H a=some o->H' a=some o)(g:Same G G'):OwnAt W H' G' a d:=by
 cases d with
 | lst l=>
   obtain⟨xs,h1,h2⟩:=h;exact⟨xs,e _ h1,h2.mono g⟩
 | dct ks vs=>
   obtain⟨kvs,h1,h2,h3,h4⟩:=h;exact⟨kvs,h1.imp fun _ z=>e _ z,h2,h3,h4.mono g⟩
 | obj c ns vs=>
   obtain⟨dx,fs,h1,h2,h3⟩:=h;exact⟨dx,fs,e _ h1,h2,h3.mono g⟩
 | non=>exact h
 | bl b=>exact h
 | int i=>exact h
 | str x=>exact h
 | tup l=>exact h
 | err c=>exact h
theorem OwnAt.top{W:Wd}{H G:Hp}{a:Addr}{d:D}(h:OwnAt W H G a d):RepT W H G d (.ref a):=by
 cases d with
 | lst l=>
   obtain⟨xs,h1,h2⟩:=h;exact⟨a,xs,rfl,.inl (.inl h1),h2⟩
 | dct ks vs=>
   obtain⟨kvs,h1,h2⟩:=h;exact⟨a,kvs,rfl,h1,h2⟩
 | obj c ns vs=>
   obtain⟨dx,fs,h1,h2⟩:=h;exact⟨a,dx,fs,rfl,h1,h2⟩
 | non=>exact False.elim h
 | bl b=>exact False.elim h
 | int i=>exact False.elim h
 | str x=>exact False.elim h
 | tup l=>exact False.elim h
 | err c=>exact False.elim h
theorem OwnAt.rep{W:Wd}{H G:Hp}{a:Addr}{d:D}(h:OwnAt W H G a d)(e:∀o,H a=some o->G a=some o):Rep W G d (.ref a):=by
 cases d with
 | lst l=>
   obtain⟨xs,h1,h2⟩:=h;simp only[Rep];exact⟨a,xs,rfl,.inl (.inl (e _ h1)),h2⟩
 | dct ks vs=>
   obtain⟨kvs,h1,h2⟩:=h;simp only[Rep];exact⟨a,kvs,rfl,h1.imp fun _ z=>e _ z,h2⟩
 | obj c ns vs=>
   obtain⟨dx,fs,h1,h2⟩:=h;simp only[Rep];exact⟨a,dx,fs,rfl,e _ h1,h2⟩
 | non=>exact False.elim h
 | bl b=>exact False.elim h
 | int i=>exact False.elim h
 | str x=>exact False.elim h
 | tup l=>exact False.elim h
 | err c=>exact False.elim h
theorem OwnAt.some{W:Wd}{H G:Hp}{a:Addr}{d:D}(h:OwnAt W H G a d):∃o,H a=some o/\(∀xs,o≠.tup xs)/\∀ob u,o≠.frz ob u:=by
 cases d with
 | lst l=>obtain⟨xs,h1,h2⟩:=h;exact⟨_,h1,(by intro _ z;cases z),(by intro _ _ z;cases z)⟩
 | dct ks vs=>obtain⟨kvs,⟨ep,h1⟩,h2⟩:=h;exact⟨_,h1,(by intro _ z;cases z),(by intro _ _ z;cases z)⟩
 | obj c ns vs=>obtain⟨dx,fs,h1,h2⟩:=h;exact⟨_,h1,(by intro _ z;cases z),(by intro _ _ z;cases z)⟩
 | non=>exact False.elim h
 | bl b=>exact False.elim h
 | int i=>exact False.elim h
 | str x=>exact False.elim h
 | tup l=>exact False.elim h
 | err c=>exact False.elim h
noncomputable def eE(σ:L2.St)(δ:Dst)(i:Nat)(a:Addr):Prop:=(∃w d,δ[i]?=some (some (w,d))/\w≠Own.sh)/\σ[i]?=some (some (.ref a))
noncomputable def Hid(B:Addr->Prop)(σ:L2.St)(δ:Dst)(a:Addr):Prop:=B a\/∃i,eE σ δ i a
noncomputable def Soft(H:Hp)(P:Addr->Prop):Prop:=∀a,P a->∀o,H a=some o->(∀xs,o≠.tup xs)/\∀ob u,o≠.frz ob u
structure SR(X:Cx)(W:Wd)(me:Option Addr)(B:Addr->Prop)(H:Hp)(σ:L2.St)(δ:Dst):Prop where
 kf:W.K=X.K
 len:σ.length=δ.length
 sh:∀(i:Nat) (d:D),δ[i]?=some (some (Own.sh,d))->∃v,σ[i]?=some (some v)/\Rep W (vis H (Hid B σ δ)) d v
 ow:∀(i:Nat) (d:D),δ[i]?=some (some (Own.ow,d))->∃a,σ[i]?=some (some (V.ref a))/\OwnAt W H (vis H (Hid B σ δ)) a d/\X.H₀ a=none/\¬B a/\some a≠me
 mi:∀(i:Nat) (d:D),δ[i]?=some (some (Own.me,d))->i=0/\∃a,me=some a/\σ[i]?=some (some (V.ref a))/\OwnAt W H (vis H (Hid B σ δ)) a d/\¬B a
 apart:∀(i j:Nat) (a:Addr),eE σ δ i a->eE σ δ j a->i=j
 same:∀b o,X.H₀ b=some o->some b≠me->H b=some o
 soft:Soft H B
 gone:∀b,B b->∃o,H b=some o
 live:∀x,me=some x->∃o,H x=some o
theorem SR.mono{X:Cx}{W:Wd}{me:Option Addr}{B:Addr->Prop}{H H':Hp}{σ:L2.St}{δ:Dst}(S:SR X W me B H σ δ)(e:Same H H'):SR X W me B H' σ δ where
 kf:=S.kf
 len:=S.len
 sh:=fun i d h=>let⟨v,h1,h2⟩:=S.sh i d h;⟨v,h1,h2.mono (aD e)⟩
 ow:=fun i d h=>let⟨a,h1,h2,h3⟩:=S.ow i d h;⟨a,h1,h2.mono (fun o q=>e a o q) (aD e),h3⟩
 mi:=fun i d h=>let⟨h0,a,h1,h2,h3,h4⟩:=S.mi i d h;⟨h0,a,h1,h2,h3.mono (fun o q=>e a o q) (aD e),h4⟩
 apart:=S.apart
 same:=fun b o h h'=>e b o (S.same b o h h')
 soft:=fun a ha o ho=>by
  obtain⟨o',ho'⟩:=S.gone a ha;have:=e a o' ho';rw[ho]at this;cases this;exact S.soft a ha _ ho'
 gone:=fun b hb=>let⟨o,h⟩:=S.gone b hb;⟨o,e b o h⟩
 live:=fun x hx=>let⟨o,h⟩:=S.live x hx;⟨o,e x o h⟩
theorem SR.softH{X:Cx}{W:Wd}{me:Option Addr}{B:Addr->Prop}{H:Hp}{σ:L2.St}{δ:Dst}(S:SR X W me B H σ δ):Soft H (Hid B σ δ):=fun a ha o ho=>by
 rcases ha with ha | ⟨i,⟨w,d,h1,h2⟩,h3⟩
 ·exact S.soft a ha o ho
 ·cases w with
  | sh=>exact absurd rfl h2
  | ow=>
    obtain⟨b,q1,q2,_⟩:=S.ow i d h1;rw[h3]at q1;cases q1;obtain⟨o',q3,q4⟩:=q2.some;rw[ho]at q3;cases q3;exact q4
  | me=>
    obtain⟨_,b,_,q1,q2,_⟩:=S.mi i d h1;rw[h3]at q1;cases q1;obtain⟨o',q3,q4⟩:=q2.some;rw[ho]at q3;cases q3;exact q4
theorem SR.hidH{X:Cx}{W:Wd}{me:Option Addr}{B:Addr->Prop}{H:Hp}{σ:L2.St}{δ:Dst}(S:SR X W me B H σ δ){a:Addr}(ha:Hid B σ δ a):∃o,H a=some o:=by
 rcases ha with ha | ⟨i,⟨w,d,h1,h2⟩,h3⟩
 ·exact S.gone a ha
 ·cases w with
  | sh=>exact absurd rfl h2
  | ow=>
    obtain⟨b,q1,q2,_⟩:=S.ow i d h1;rw[h3]at q1;cases q1;obtain⟨o',q3,q4⟩:=q2.some;exact⟨_,q3⟩
  | me=>
    obtain⟨_,b,_,q1,q2,_⟩:=S.mi i d h1;rw[h3]at q1;cases q1;obtain⟨o',q3,q4⟩:=q2.some;exact⟨_,q3⟩
mutual
theorem Rep.imm{W:Wd}{H:Hp}{P:Addr->Prop}(S:Soft H P):∀{d:D} {v:V},d.imm=true->Rep W H d v->Rep W (vis H P) d v
 | .non,v,_,h=>by simpa only[Rep]using h
 | .bl b,v,_,h=>by simpa only[Rep]using h
 | .int i,v,_,h=>by simpa only[Rep]using h
 | .str x,v,_,h=>by simpa only[Rep]using h
 | .tup l,v,q,h=>by
   simp only[D.imm]at q;simp only[Rep]at h ⊢;obtain⟨a,xs,rfl,h1,h2⟩:=h;refine⟨a,xs,rfl,?_,Reps.imm S q h2⟩;rcases h1 with(h1 | ⟨o,h1⟩) | h1
   ·exact .inl (.inl (bW h1 fun z=>(S a z _ h1).1 _ rfl))
   ·exact .inl (.inr ⟨o,bW h1 fun z=>(S a z _ h1).2 _ _ rfl⟩)
   ·exact .inr h1
 | .lst l,v,q,h=>by simp[D.imm]at q
 | .dct ks vs,v,q,h=>by simp[D.imm]at q
 | .obj c ns vs,v,q,h=>by simp[D.imm]at q
 | .err _,v,q,h=>by simp[D.imm]at q
theorem Reps.imm{W:Wd}{H:Hp}{P:Addr->Prop}(S:Soft H P):∀{l:List D} {vs:List V},immL l=true->Reps W H l vs->Reps W (vis H P) l vs
 | [],[],_,_=>by simp only[Reps]
 | [],_::_,_,h=>by simp only[Reps]at h
 | _::_,[],_,h=>by simp only[Reps]at h
 | d::l,v::vs,q,h=>by
   simp only[immL,Bool.and_eq_true]at q;simp only[Reps]at h ⊢;exact⟨Rep.imm S q.1 h.1,Reps.imm S q.2 h.2⟩
end
noncomputable def Res(W:Wd)(P:Addr->Prop)(lk:Bool)(H H':Hp)(w:Bool)(d:D)(v:V):Prop :=
 if w=true then ∃a,v=.ref a/\H a=none/\OwnAt W H' (vis H' fun b=>P b\/b=a) a d
 else if lk=true then RepT W H' (vis H' P) d v else Rep W (vis H' P) d v
noncomputable def EW(X:Cx)(W:Wd)(σ:L2.St)(H:Hp)(c:Nat):Prop:=False
noncomputable def tD(X:Cx)(W:Wd)(lk:Bool)(f:Dst->R (Bool×D)):TE:=fun σ H Q=>∃me B δ,SR X W me B H σ δ/\match f δ with
 | .ok r=>∀v H',Same H H'->Res W (Hid B σ δ) lk H H' r.1 r.2 v->Q v H'
 | .exc c=>EW X W σ H c
 | .stuck=>False
theorem PE.imp{X:Cx}{e:Expr}{t t':TE}(h:PE X e t)(i:∀σ H Q,t' σ H Q->t σ H Q):PE X e t':=fun pins s σ H Q I hw=>h pins s σ H Q I (i σ H Q hw)
theorem PT.imp{X:Cx}{e:Expr}{t t':TT}(h:PT X e t)(i:∀σ H Q,t' σ H Q->t σ H Q):PT X e t':=fun pins s σ H Q I hw=>h pins s σ H Q I (i σ H Q hw)
theorem PA.imp{X:Cx}{es:List Expr}{t t':TA}(h:PA X es t)(i:∀σ H Q,t' σ H Q->t σ H Q):PA X es t':=fun pos pins s σ H Q I hw=>h pos pins s σ H Q I (i σ H Q hw)
theorem PS.imp{X:Cx}{e:Stmt}{t t':TS}(h:PS X e t)(i:∀D σ H,t' D σ H->t D σ H):PS X e t':=fun pins s σ H D I hw=>h pins s σ H D I (i D σ H hw)
theorem EW.mono{X:Cx}{W:Wd}{σ:L2.St}{H H':Hp}{c:Nat}(h:EW X W σ H c)(e:Same H H'):EW X W σ H' c:=h.elim
theorem Same.upd{H:Hp}{p:Addr}{o:HO}(h:H p=none):Same H (upd H p o):=fun b u e=>by rw[aV (bH e h)];exact e
theorem Res.look{W:Wd}{P:Addr->Prop}{lk:Bool}{H H':Hp}{w:Bool}{d:D}{v:V}(h:Res W P lk H H' w d v):RepT W H' (vis H' P) d v:=by
 unfold Res at h;split at h
 ·obtain⟨a,rfl,_,h⟩:=h
  exact(h.mono (fun _ q=>q) (aQ fun b z=>.inl z)).top
 ·split at h
  ·exact h
  ·exact h.top aO
theorem Res.keep{W:Wd}{P:Addr->Prop}{H H':Hp}{w:Bool}{d:D}{v:V}(h:Res W P false H H' w d v)(hp:∀a,P a->∃o,H a=some o):Rep W (vis H' P) d v:=by
 unfold Res at h;split at h
 ·obtain⟨a,rfl,h0,h⟩:=h
  have na:¬P a:=fun z=>by
   obtain⟨o,q⟩:=hp a z;rw[h0]at q;cases q
  exact(h.mono (fun _ q=>q) (aQ fun b z=>.inl z)).rep fun o q=>bW q na
 ·exact h
theorem Res.shared{W:Wd}{P:Addr->Prop}{lk:Bool}{H H':Hp}{d:D}{v:V}(h:Rep W (vis H' P) d v):Res W P lk H H' false d v:=by
 unfold Res;rw[if_neg (by simp)];split
 ·exact h.top aO
 ·exact h
end Z
namespace Z
open PySem PySem.Spec PyProof.Rows L2
section
variable{X:Cx}{W:Wd}{lk lk':Bool}{σ:L2.St}{H H1 H':Hp}{me:Option Addr}{B:Addr->Prop}{δ:Dst}{Q Q':VK}
noncomputable def After(X:Cx)(W:Wd)(lk:Bool)(σ:L2.St)(H:Hp)(P:Addr->Prop)(r:R (Bool×D))(Q:VK):Prop:=match r with
 | .ok r=>∀v H',Same H H'->Res W P lk H H' r.1 r.2 v->Q v H'
 | .exc c=>EW X W σ H c
 | .stuck=>False
theorem tD_iff{f:Dst->R (Bool×D)}:tD X W lk f σ H Q↔∃me B δ,SR X W me B H σ δ/\After X W lk σ H (Hid B σ δ) (f δ) Q:=by
 unfold tD After;exact Iff.rfl
theorem Res.from{P:Addr->Prop}{w:Bool}{d:D}{v:V}(h:Res W P lk H1 H' w d v)(e:Same H H1):Res W P lk H H' w d v:=by
 unfold Res at h ⊢;split at h
 ·rename_i hw
  rw[if_pos hw];obtain⟨a,h1,h2,h3⟩:=h;exact⟨a,h1,e.free h2,h3⟩
 ·rename_i hw
  rw[if_neg hw];exact h
theorem After.mono{P:Addr->Prop}{r:R (Bool×D)}(h:After X W lk σ H P r Q)(e:Same H H1):After X W lk σ H1 P r Q:=by
 unfold After at h ⊢
 cases r with
 | ok r=>exact fun v H' s q=>h v H' (e.trans s) (q.from e)
 | exc c=>exact h.mono e
 | stuck=>exact h
theorem tD.mono{f:Dst->R (Bool×D)}(h:tD X W lk f σ H Q)(k:∀v H',Q v H'->Q' v H'):tD X W lk f σ H Q':=by
 obtain⟨me,B,δ,S,h⟩:=tD_iff.mp h;refine tD_iff.mpr ⟨me,B,δ,S,?_⟩;unfold After at h ⊢
 cases e:f δ with
 | ok r=>rw[e]at h;exact fun v H' s q=>k _ _ (h v H' s q)
 | exc c=>rw[e]at h;exact h
 | stuck=>rw[e]at h;exact h
theorem part{fa:Dst->R (Bool×D)}{g:Bool×D->R (Bool×D)}(S:SR X W me B H σ δ)(h:After X W lk σ H (Hid B σ δ) ((fa δ).bind g) Q) :
 tD X W lk' fa σ H fun v H1=>∃r,fa δ=.ok r/\SR X W me B H1 σ δ/\Same H H1/\RepT W H1 (vis H1 (Hid B σ δ)) r.2 v/\Res W (Hid B σ δ) lk' H H1 r.1 r.2 v/\After X W lk σ H1 (Hid B σ δ) (g r) Q:=by
 refine tD_iff.mpr ⟨me,B,δ,S,?_⟩
 cases e:fa δ with
 | ok r=>
   rw[e]at h;intro v H1 s q;exact⟨r,rfl,S.mono s,s,q.look,q,After.mono h s⟩
 | exc c=>rw[e]at h;exact h
 | stuck=>rw[e]at h;exact h
theorem Soft.mono{P:Addr->Prop}(s:Soft H P)(g:∀a,P a->∃o,H a=some o)(e:Same H H1):Soft H1 P:=fun a ha o ho=>by
 obtain⟨o',h'⟩:=g a ha;have:=e a o' h';rw[ho]at this;cases this;exact s a ha _ h'
theorem SR.know(S:SR X W me B H σ δ):∀a,Hid B σ δ a->∃o,H a=some o:=fun _ h=>S.hidH h
noncomputable def Sem2(W:Wd)(r:R2)(g:D->D->R (Bool×D)):Prop :=
 ∀(lk:Bool) (P:Addr->Prop) (H:Hp) (x y:V) (dx dy:D) (Q:VK) (w:Bool) (d:D),Soft H P->(∀a,P a->∃o,H a=some o)->RepT W H (vis H P) dx x->RepT W H (vis H P) dy y->g dx dy=.ok (w,d) ->
  (∀v H',Same H H'->Res W P lk H H' w d v->Q v H')->r x y H Q
noncomputable def iy(g:D->D->R (Bool×D)):Prop:=∀x y c,g x y≠.exc c
theorem lE{r:R2}{g:D->D->R (Bool×D)}{fa fb:Dst->R (Bool×D)}(hs:Sem2 W r g)(hn:iy g){σ:L2.St}{H:Hp}{Q:VK}
 (h:tD X W lk (fun δ=>(fa δ).bind fun x=>(fb δ).bind fun y=>g x.2 y.2) σ H Q):tOp r (tD X W true fa) (tD X W true fb) σ H Q:=by
 obtain⟨me,B,δ,S,h⟩:=tD_iff.mp h
 refine tD.mono (part S h) fun v H1 ⟨r1,e1,S1,s1,t1,_,h1⟩=>?_
 refine tD.mono (part (g:=fun y=>g r1.2 y.2) S1 h1) fun u H2 ⟨r2,e2,S2,s2,t2,_,h2⟩=>?_
 cases e:g r1.2 r2.2 with
 | ok r=>
   rw[e]at h2;exact hs lk (Hid B σ δ) H2 v u r1.2 r2.2 Q r.1 r.2 S2.softH S2.know (t1.mono s2 (aD s2)) t2 e h2
 | exc c=>exact absurd e (hn _ _ _)
 | stuck=>rw[e]at h2;exact h2.elim
variable{a b:Expr}{pos:Pos}{fa fb:Dst->R (Bool×D)}
theorem K6{op:Operator}{r:R2}{g:D->D->R (Bool×D)}(ho:OpR X (binaryOp op) r)(hs:Sem2 W r g)(hn:iy g)(ha:PE X a (tD X W true fa))(hb:PE X b (tD X W true fb)) :
 PE X (.BinOp a op b pos) (tD X W lk fun δ=>(fa δ).bind fun x=>(fb δ).bind fun y=>g x.2 y.2) :=
 PE.imp (Ko ho ha hb) fun _ _ _ h=>lE hs hn h
theorem KZ{op:CmpOp}{r:R2}{g:D->D->R (Bool×D)}(ho:OpR X (compareOp op) r)(hs:Sem2 W r g)(hn:iy g)(ha:PE X a (tD X W true fa))(hb:PE X b (tD X W true fb))(hm:behindInMarks op b=false) :
 PE X (.Compare a [op] [b] pos) (tD X W lk fun δ=>(fa δ).bind fun x=>(fb δ).bind fun y=>g x.2 y.2) :=
 PE.imp (iY ho ha hb hm) fun _ _ _ h=>lE hs hn h
theorem M3{i:Nat}{x:Str}(hN:X.N[i]?=some x)(hv:Vis X.env.scope x)(hd:(x==("__debug__":Str))=false)(hcd:(x==("__classdict__":Str))=false)(o:Orc):PE X (.Name x pos) (tD X W lk fun δ=>ev o δ lk (.var i)):=by
 refine PE.imp (pH hN hv hd hcd) fun σ H Q h=>?_
 obtain⟨me,B,δ,S,h⟩:=tD_iff.mp h;unfold After at h;simp only[ev]at h
 cases e:δ[i]? with
 | none=>simp only[e]at h
 | some q=>
   cases q with
   | none=>simp only[e]at h
   | some q=>
     obtain⟨w,d⟩:=q
     cases w with
     | sh=>
       simp only[e]at h;obtain⟨v,h1,h2⟩:=S.sh i d e;exact⟨v,h1,h v H (Same.refl H) (.shared h2)⟩
     | ow=>
       simp only[e]at h;obtain⟨a,h1,h2,_⟩:=S.ow i d e;refine⟨_,h1,?_⟩
       cases lk with
       | false=>exact h.elim
       | true=>exact h _ H (Same.refl H) h2.top
     | me=>
       simp only[e]at h;obtain⟨_,a,_,h1,h2,_⟩:=S.mi i d e;refine⟨_,h1,?_⟩
       cases lk with
       | false=>exact h.elim
       | true=>exact h _ H (Same.refl H) h2.top
theorem vZ{e:Expr}{v:V}{d:D}(he:PE X e (tC v))(hr:∀G,Rep W G d v)(o:Orc):PE X e (tD X W lk fun δ=>ev o δ lk (.cst d)):=by
 refine PE.imp he fun σ H Q h=>?_
 obtain⟨me,B,δ,S,h⟩:=tD_iff.mp h;unfold After at h;simp only[ev]at h;exact h v H (Same.refl H) (.shared (hr _))
theorem aJ{P G:Hp}{i:Int}{x:V}(h:RepT W P G (.int i) x):x=.int i:=by simpa only[RepT,Rep]using h
theorem cL{P:Addr->Prop}{i:Int}:Res W P lk H H' false (.int i) (.int i):=.shared (by simp only[Rep])
theorem bA{P:Addr->Prop}{i:Bool}:Res W P lk H H' false (.bl i) (.bl i):=.shared (by simp only[Rep])
theorem vW{P:Addr->Prop}{i:List Nat}(h:i.length<=16777216):Res W P lk H H' false (.str i) (.str (strV i)):=.shared (by simp only[Rep];exact⟨trivial,h⟩)
theorem aX{P G:Hp}{i:List Nat}{x:V}(h:RepT W P G (.str i) x):x=.str (strV i)/\i.length<=16777216:=by simpa only[RepT,Rep]using h
theorem Cg(i:Int):bits i=Builtin.Int.intBits i:=by
 unfold bits Builtin.Int.intBits
 by_cases h:i=0
 all_goals(simp[h])
theorem yU{a b:Int}(h:rC a b=true):IntMulOk a b:=by
 unfold rC at h;simp only[Bool.or_eq_true,decide_eq_true_eq,Cg]at h;rcases h with(h | h) | h
 ·exact .of_left h
 ·exact .of_right h
 ·unfold IntMulOk Builtin.Int.intTooBig
  intro z;simp only[Bool.and_eq_true,decide_eq_true_eq]at z;have:bitsLine=134217728:=rfl;omega
theorem gA{α:Type}{b:Bool}{x:R α}{y:α}(h:R.chk b x=.ok y):b=true/\x=.ok y:=by
 unfold R.chk at h
 cases b with
 | true=>exact⟨rfl,by simpa using h⟩
 | false=>simp at h
theorem of_ok{α:Type}{x:Option α}{y:α}(h:R.of x=.ok y):x=some y:=by
 cases x with
 | none=>simp[R.of]at h
 | some z=>simp[R.of]at h;rw[h]
theorem eY{α:Type}{x:Option α}{c:Nat}:R.of x≠.exc c:=by cases x<;>simp[R.of]
theorem iu{α:Type}{b:Bool}{x:R α}{c:Nat}(h:x≠.exc c):R.chk b x≠.exc c:=by unfold R.chk;cases b<;>simp[h]
theorem nJ(p:O2)(a b:Int)(c:Nat):arith p a b≠.exc c:=by
 cases p<;>simp[arith,R.chk]<;>split<;>simp
theorem jH(p:O2):iy (o2 p):=by
 intro x y c
 cases p<;>simp only[o2]<;>first
  | exact eY
  | (split
     ·exact nJ _ _ _ _
     ·first | exact iu (by simp) | simp
     ·first | exact iu (by simp) | simp
     ·first | exact iu (by simp) | simp
     ·simp)
  | (split
     ·split<;>simp
     ·split<;>simp
     ·simp)
theorem jC{p:O2}{C:Int->Int->Prop}{g:Int->Int->V}(h1:∀x y r,o2 p x y=.ok r->∃i j,x=.int i/\y=.int j/\arith p i j=.ok r)
 (h2:∀i j r,arith p i j=.ok r->C i j/\r.1=false/\∀G,Rep W G r.2 (g i j)):Sem2 W (rI C g) (o2 p):=by
 intro lk P H x y dx dy Q w d hS hK hx hy e k;obtain⟨i,j,rfl,rfl,e'⟩:=h1 _ _ _ e;obtain⟨hc,hw,hr⟩:=h2 _ _ _ e';have hw:w=false:=hw;subst hw;exact⟨i,j,aJ hx,aJ hy,hc,k _ H (Same.refl H) (.shared (hr _))⟩
theorem jN{p:O2}{g:Int->Int->V}(h1:∀x y r,o2 p x y=.ok r->∃i j,x=.int i/\y=.int j/\arith p i j=.ok r)
 (h2:∀i j r,arith p i j=.ok r->r.1=false/\∀G,Rep W G r.2 (g i j)):Sem2 W (rI0 g) (o2 p):=by
 intro lk P H x y dx dy Q w d hS hK hx hy e k;obtain⟨i,j,rfl,rfl,e'⟩:=h1 _ _ _ e;obtain⟨hw,hr⟩:=h2 _ _ _ e';have hw:w=false:=hw;subst hw;exact⟨i,j,aJ hx,aJ hy,k _ H (Same.refl H) (.shared (hr _))⟩
theorem dq{p:O2}(hp:p=.sub\/p=.mul\/p=.fdiv\/p=.mod\/p=.pow\/p=.gt\/p=.ge):∀x y r,o2 p x y=.ok r->∃i j,x=.int i/\y=.int j/\arith p i j=.ok r:=by
 intro x y r h
 rcases hp with rfl | rfl | rfl | rfl | rfl | rfl | rfl<;>simp only[o2]at h<;>
  (split at h<;>first
   | exact⟨_,_,rfl,rfl,h⟩
   | cases h)
theorem Fl:Sem2 W (rI0 fun i j=>.int (i-j)) (o2 .sub):=jN (dq (by simp)) fun i j r h=>by
 simp only[arith]at h;cases h;exact⟨rfl,fun G=>by simp only[Rep]⟩
theorem Dj:Sem2 W (rI IntMulOk fun i j=>.int (i*j)) (o2 .mul):=jC (dq (by simp)) fun i j r h=>by
 simp only[arith]at h;obtain⟨h1,h⟩:=gA h;cases h;exact⟨yU h1,rfl,fun G=>by simp only[Rep]⟩
theorem Dd:OpR X (binaryOp .Mult) (rI IntMulOk fun i j=>.int (i*j)):=opI fun _ _ _ _ _ _ _ hc q=>PyProof.Rows.mul_int q hc
noncomputable def Il(_ j:Int):Prop:=j≠0/\j.natAbs.log2<9000
theorem wN:Sem2 W (rI Il fun i j=>.int (i.fdiv j)) (o2 .fdiv):=jC (dq (by simp)) fun i j r h=>by
 simp only[arith]at h;obtain⟨h1,h⟩:=gA h;cases h;simp only[Bool.and_eq_true,decide_eq_true_eq]at h1;exact⟨h1,rfl,fun G=>by simp only[Rep]⟩
theorem wJ:OpR X (binaryOp .FloorDiv) (rI Il fun i j=>.int (i.fdiv j)):=opI fun _ _ _ _ _ _ _ hc q=>floordiv_int hc.1 q (.inl (PyProof.noPylong_of_log2 hc.2))
theorem Cj:Sem2 W (rI (fun _ j=>j≠0) fun i j=>.int (i.fmod j)) (o2 .mod):=jC (dq (by simp)) fun i j r h=>by
 simp only[arith]at h;obtain⟨h1,h⟩:=gA h;cases h;simp only[decide_eq_true_eq]at h1;exact⟨h1,rfl,fun G=>by simp only[Rep]⟩
theorem BJ:Sem2 W (rI CPow fun i j=>.int (i ^ j.toNat)) (o2 .pow):=jC (dq (by simp)) fun i j r h=>by
 simp only[arith]at h;obtain⟨h1,h⟩:=gA h;cases h;simp only[Bool.and_eq_true,decide_eq_true_eq]at h1;refine⟨⟨h1.1.1,by omega,by have:=h1.2;omega⟩,rfl,fun G=>by simp only[Rep]⟩
theorem G9:Sem2 W (rI0 fun i j=>.bl (decide (j<i))) (o2 .gt):=jN (dq (by simp)) fun i j r h=>by
 simp only[arith]at h;cases h;exact⟨rfl,fun G=>by simp only[Rep]⟩
theorem Hy:Sem2 W (rI0 fun i j=>.bl (decide (j<=i))) (o2 .ge):=jN (dq (by simp)) fun i j r h=>by
 simp only[arith]at h;cases h;exact⟨rfl,fun G=>by simp only[Rep]⟩
theorem yH(b:Bool):truth (.bl b)=some b:=rfl
noncomputable def tT(X:Cx)(W:Wd)(f:Dst->R (Bool×D)):TT:=fun σ H Q=>∃me B δ,SR X W me B H σ δ/\match(f δ).bind (fun x=>R.of (truth x.2))with
 | .ok b=>∀H',Same H H'->Q b H'
 | .exc c=>EW X W σ H c
 | .stuck=>False
theorem truV{H G:Hp}{d:D}{v:V}{b:Bool}(g:Same G H)(e:truth d=some b)(h:RepT W H G d v):TruV W.K v H b:=by
 cases d with
 | non=>simp only[RepT,Rep]at h;subst h;simp only[truth,Option.some.injEq]at e;exact e.symm
 | bl x=>simp only[RepT,Rep]at h;subst h;simp only[truth,Option.some.injEq]at e;exact e.symm
 | int i=>
   simp only[RepT,Rep]at h;subst h;simp only[truth,Option.some.injEq]at e;show b=(i !=0);rw[<-e];by_cases hi:i=0<;>simp[hi]
 | str x=>
   obtain⟨rfl,hl⟩:=aX h;simp only[truth,Option.some.injEq]at e;refine⟨by simpa[strV,Str.length,sizeLine_eq]using hl,?_⟩;rw[<-e];cases x<;>simp[strV,Str.length]<;>omega
 | tup l=>
   simp only[RepT,Rep]at h;obtain⟨a,xs,rfl,h1,h2⟩:=h;simp only[truth,Option.some.injEq]at e;refine .inr (.inl ⟨xs,aK g h1,?_⟩);have:=h2.length;rw[<-e];cases l<;>cases xs<;>simp at this ⊢
 | lst l=>
   obtain⟨a,xs,rfl,h1,h2⟩:=h;simp only[truth,Option.some.injEq]at e;refine .inl ⟨xs,h1,?_⟩;have:=h2.length;rw[<-e];cases l<;>cases xs<;>simp at this ⊢
 | dct ks vs=>
   obtain⟨a,kvs,rfl,⟨ep,h1⟩,h2,h3,h4⟩:=h;simp only[truth,Option.some.injEq]at e;refine .inr (.inr ⟨kvs,ep,h1,?_⟩);have:=congrArg List.length h2;rw[<-e];cases ks<;>cases kvs<;>simp at this ⊢
 | obj c ns vs=>simp[truth]at e
 | err c=>simp[truth]at e
theorem Gb{e:Expr}{f:Dst->R (Bool×D)}(h:PE X e (tD X W true f))(he:∀whole,isTrue e X.env whole=(do let v <-whole;standAt e.pos;holding [v] (truthy v))):PT X e (tT X W f):=by
 refine PT.imp (yc h he) fun σ H Q h=>?_
 obtain⟨me,B,δ,S,h⟩:=h;refine tD_iff.mpr ⟨me,B,δ,S,?_⟩;unfold After
 cases e:f δ with
 | ok r=>
   simp only[e,R.bind]at h
   cases e2:truth r.2 with
   | none=>simp only[e2,R.of]at h
   | some b=>
     simp only[e2,R.of]at h;intro v H' s q;exact⟨b,S.kf▸truV aO e2 q.look,h H' s⟩
 | exc c=>simp only[e,R.bind]at h;exact h
 | stuck=>simp only[e,R.bind]at h
theorem xH{f:Dst->R (Bool×D)}{σ:L2.St}{H:Hp}{Q:Bool->Hp->Prop}(hb:∀δ r,f δ=.ok r->∃b,r=(false,.bl b))(h:tT X W f σ H Q):tD X W true f σ H fun x H'=>∃k,x=.bl k/\Q k H':=by
 obtain⟨me,B,δ,S,h⟩:=h;refine tD_iff.mpr ⟨me,B,δ,S,?_⟩;unfold After
 cases e:f δ with
 | ok r=>
   obtain⟨b,rfl⟩:=hb δ r e;simp only[e,R.bind,truth,R.of]at h;intro v H' s q;have:=q.look;simp only[RepT,Rep]at this;exact⟨b,this,h H' s⟩
 | exc c=>simp only[e,R.bind]at h;exact h
 | stuck=>simp only[e,R.bind]at h
theorem eQ{x:R (Bool×D)}{g:Bool×D->R (Bool×D)}{r:Bool×D}(h:x.bind g=.ok r):∃y,x=.ok y/\g y=.ok r:=by
 cases x with
 | ok y=>exact⟨y,rfl,h⟩
 | exc c=>cases h
 | stuck=>cases h
theorem Gs{op:CmpOp}{r:R2}{g:D->D->R (Bool×D)}(ho:OpR X (compareOp op) r)(hs:Sem2 W r g)(hn:iy g)(hbl:∀x y r,g x y=.ok r->∃b,r=(false,.bl b))(ha:PE X a (tD X W true fa))(hb:PE X b (tD X W true fb))(hm:behindInMarks op b=false) :
 PT X (.Compare a [op] [b] pos) (tT X W fun δ=>(fa δ).bind fun x=>(fb δ).bind fun y=>g x.2 y.2):=by
 refine PT.imp (j0 ho ha hb hm) fun σ H Q h=>?_
 refine lE (lk:=true) hs hn (xH (fun δ r e=>?_) h);obtain⟨y,_,e⟩:=eQ e;obtain⟨z,_,e⟩:=eQ e;exact hbl _ _ _ e
theorem tT.mono{f:Dst->R (Bool×D)}{σ:L2.St}{H:Hp}{Q Q':Bool->Hp->Prop}(h:tT X W f σ H Q)(k:∀b H',Q b H'->Q' b H'):tT X W f σ H Q':=by
 obtain⟨me,B,δ,S,h⟩:=h;refine⟨me,B,δ,S,?_⟩
 cases e:(f δ).bind (fun x=>R.of (truth x.2))with
 | ok b=>rw[e]at h;exact fun H' s=>k _ _ (h H' s)
 | exc c=>rw[e]at h;exact h
 | stuck=>rw[e]at h;exact h
theorem HF(ha:PT X a (tT X W fa)):PT X (.UnaryOp .Not a pos) (tT X W fun δ=>(fa δ).bind fun x=>(R.of (truth x.2)).bind fun b=>.ok (false,.bl !b)):=by
 refine PT.imp (Ga ha) fun σ H Q h=>?_
 obtain⟨me,B,δ,S,h⟩:=h;refine⟨me,B,δ,S,?_⟩
 cases e:fa δ with
 | ok r=>
   simp only[e,R.bind]at h ⊢
   cases e2:truth r.2 with
   | none=>simp only[e2,R.of]at h
   | some b=>
     simp only[e2,R.of,yH]at h ⊢;exact h
 | exc c=>simp only[e,R.bind]at h ⊢;exact h
 | stuck=>simp only[e,R.bind]at h
theorem LQ{f:Dst->R (Bool×D)}(ha:PE X a (tD X W true f)):PE X (.UnaryOp .Not a pos) (tD X W lk fun δ=>(f δ).bind fun x=>(R.of (truth x.2)).bind fun b=>.ok (false,.bl !b)):=by
 intro pins s σ H Q I h;obtain⟨me,B,δ,S,h⟩:=tD_iff.mp h;refine UnaryOp_ (thn (ha pins s σ H _ I (part S h)) fun v s1 ⟨x,H1,I1,r1,r,e,S1,s1',t1,_,h1⟩=>?_)
 cases e2:truth r.2 with
 | none=>simp only[e2,R.of,R.bind,After]at h1
 | some b=>
   simp only[e2,R.of,R.bind,After]at h1;refine not_of (thn (Aa pins s1 σ H1 x v (fun k H'=>k=b/\H'=H1) I1 r1 ⟨b,S.kf▸truV aO e2 t1,rfl,rfl⟩) fun k s2 ⟨H2,I2,hk,hH⟩=>?_);subst hk hH;exact⟨.bl (!k),H2,I2,rfl,h1 _ H2 (Same.refl _) bA⟩
end
end Z
namespace Z
open PySem PySem.Spec PyProof.Rows L2
noncomputable def ExcAt(h h0:Heap)(H':Hp)(a:Addr)(cls:Value)(tr:Bool):Prop:=∃oe vs,h.get? a=some oe/\(oe.cls=cls/\oe.dict=none)/\oe.data=.fields vs/\1<vs.size /\
 ((tr=false/\vs[1]?=some .none)\/∃T oT ts,vs[1]?=some (.ref T)/\T≠a/\h0.get? T=none/\H' T=none/\h.get? T=some oT/\oT.data=.fields ts/\3<ts.size)
structure Fly(X:Cx)(H:Hp)(s:Shared)(cls:Value)(a:Addr)(H':Hp)(s':Shared)(tr:Bool):Prop where
 os:s'.os=s.os
 bare:AllBare s'.gens
 un:Un (frs X.stack) [] H H' s.heap s'.heap
 hok:HOk X.prog X.w H' s'.heap
 newE:s.heap.get? a=none
 freeE:H' a=none
 ff:s'.heap.FunFrames X.base X.stack
 fr:∀b∈frs X.stack,H' b=none
 exc:ExcAt s'.heap s.heap H' a cls tr
section
variable{X:Cx}{H H':Hp}{s s':Shared}{cls:Value}{a:Addr}{tr tr':Bool}{h':Heap}
variable{M:Model}{E:Value->Shared->Prop}{Q:Unit->Shared->Prop}
structure Top(X:Cx)(L:Addr):Prop where
 stk:X.stack=X.env::X.outer
 fr:X.env.frame=some L
 frames:X.A.frames=some X.stack
end
end Z
namespace Z
open PySem PySem.Spec PyProof.Rows L2
section
variable{X:Cx}{W:Wd}{σ:L2.St}{H H1:Hp}{me:Option Addr}{B:Addr->Prop}{δ:Dst}
theorem SR.weaken{δ':Dst}{σ':L2.St}(hs:∀b,Hid B σ' δ' b->Hid B σ δ b){d:D}{v:V}(h:Rep W (vis H (Hid B σ δ)) d v):Rep W (vis H (Hid B σ' δ')) d v:=h.mono (aQ hs)
theorem dO{i j:Nat}:(share1 δ i)[j]?=if j=i then(match δ[i]? with | some (some (.ow,d))=>some (some (.sh,d)) | x=>x)else δ[j]?:=by
 unfold share1
 cases e:δ[i]? with
 | none=>
   by_cases hj:j=i
   ·subst hj;simp[e]
   ·simp[hj]
 | some q=>
   have hi:i<δ.length:=(List.getElem?_eq_some_iff.mp e).1
   cases q with
   | none=>
     by_cases hj:j=i
     ·subst hj;simp[e]
     ·simp[hj]
   | some q=>
     obtain⟨w,d⟩:=q
     cases w with
     | ow=>
       by_cases hj:j=i
       ·subst hj;simp[hi]
       ·simp only[if_neg hj];rw[List.getElem?_set_ne (Ne.symm hj)]
     | sh=>
       by_cases hj:j=i
       ·subst hj;simp[e]
       ·simp[hj]
     | me=>
       by_cases hj:j=i
       ·subst hj;simp[e]
       ·simp[hj]
theorem cB{i j:Nat}{a:Addr}(h:eE σ (share1 δ i) j a):eE σ δ j a/\(j=i->∀d,δ[i]?≠some (some (.ow,d))):=by
 obtain⟨⟨w,d,h1,h2⟩,h3⟩:=h;rw[dO]at h1
 by_cases hj:j=i
 ·subst hj
  rw[if_pos rfl]at h1;split at h1
  ·cases h1;exact absurd rfl h2
  ·rename_i hne
   exact⟨⟨⟨w,d,h1,h2⟩,h3⟩,fun _ d' e=>hne d' e⟩
 ·rw[if_neg hj]at h1
  exact⟨⟨⟨w,d,h1,h2⟩,h3⟩,fun e=>absurd e hj⟩
theorem SR.share1(S:SR X W me B H σ δ)(i:Nat):SR X W me B H σ (share1 δ i):=by
 have sub:∀b,Hid B σ (Z.share1 δ i) b->Hid B σ δ b:=fun b hb=>by
  rcases hb with hb | ⟨j,hb⟩
  ·exact .inl hb
  ·exact .inr ⟨j,(cB hb).1⟩
 refine⟨S.kf,?_,fun j d h=>?_,fun j d h=>?_,fun j d h=>?_,fun j k a h1 h2=>S.apart j k a (cB h1).1 (cB h2).1,S.same,S.soft,S.gone,S.live⟩
 ·rw[S.len]
  unfold Z.share1;split<;>simp
 ·rw[dO]at h
  by_cases hj:j=i
  ·subst hj
   rw[if_pos rfl]at h;split at h
   ·rename_i d' e
    cases h;obtain⟨a,h1,h2,h3,h4,h5⟩:=S.ow j d e;refine⟨.ref a,h1,(h2.mono (fun _ q=>q) (aQ sub)).rep fun o q=>bW q ?_⟩;intro z;rcases z with z | ⟨k,z⟩
    ·exact h4 z
    ·have hk:=cB z
     have:=S.apart k j a hk.1 ⟨⟨.ow,d,e,by decide⟩,h1⟩;subst this;exact hk.2 rfl d e
   ·obtain⟨v,h1,h2⟩:=S.sh j d h
    exact⟨v,h1,h2.mono (aQ sub)⟩
  ·rw[if_neg hj]at h
   obtain⟨v,h1,h2⟩:=S.sh j d h;exact⟨v,h1,h2.mono (aQ sub)⟩
 ·have h':δ[j]?=some (some (.ow,d)):=by
   rw[dO]at h
   by_cases hj:j=i
   ·subst hj
    rw[if_pos rfl]at h;split at h
    ·cases h
    ·exact h
   ·rw[if_neg hj]at h;exact h
  obtain⟨a,h1,h2,h3⟩:=S.ow j d h';exact⟨a,h1,h2.mono (fun _ q=>q) (aQ sub),h3⟩
 ·have h':δ[j]?=some (some (.me,d)):=by
   rw[dO]at h
   by_cases hj:j=i
   ·subst hj
    rw[if_pos rfl]at h;split at h
    ·cases h
    ·exact h
   ·rw[if_neg hj]at h;exact h
  obtain⟨h0,a,h1,h2,h3,h4⟩:=S.mi j d h';exact⟨h0,a,h1,h2,h3.mono (fun _ q=>q) (aQ sub),h4⟩
theorem SR.share(is:List Nat):∀{δ:Dst},SR X W me B H σ δ->SR X W me B H σ (share δ is):=by
 induction is with
 | nil=>intro δ S;exact S
 | cons i l ih=>intro δ S;exact ih (S.share1 i)
theorem SR.evF(S:SR X W me B H σ δ)(o:Orc)(t:T):SR X W me B H σ (Z.evF o δ t).1/\(Z.evF o δ t).2=ev o (Z.evF o δ t).1 false t:=by
 unfold Z.evF;split
 ·exact⟨S.share _,rfl⟩
 ·exact⟨S,rfl⟩
theorem SR.store{i:Nat}{w:Bool}{d:D}{v:V}(S:SR X W me B H σ δ)(s:Same H H1)(r:Res W (Hid B σ δ) false H H1 w d v)(hi:i<δ.length) :
 SR X W me B H1 (σ.set i (some v)) (δ.set i (some (if w then .ow else .sh,d)))/\Same (vis H (Hid B σ δ)) (vis H1 (Hid B (σ.set i (some v)) (δ.set i (some (if w then .ow else .sh,d))))):=by
 have hiσ:i<σ.length:=by rw[S.len];exact hi
 have S1:=S.mono s
 have sub:∀b,Hid B (σ.set i (some v)) (δ.set i (some (if w then .ow else .sh,d))) b->Hid B σ δ b\/(w=true/\v=.ref b):=fun b hb=>by
  rcases hb with hb | ⟨j,⟨w',d',h1,h2⟩,h3⟩
  ·exact .inl (.inl hb)
  ·by_cases hj:j=i
   ·subst hj
    rw[List.getElem?_set_self hi]at h1;rw[List.getElem?_set_self hiσ]at h3;cases h1;cases h3
    cases w with
    | true=>exact .inr ⟨rfl,rfl⟩
    | false=>exact absurd rfl h2
   ·rw[List.getElem?_set_ne (Ne.symm hj)]at h1 h3
    exact .inl (.inr ⟨j,⟨w',d',h1,h2⟩,h3⟩)
 have new:∀b,w=true->v=.ref b->H b=none:=fun b hw hv=>by
  unfold Res at r;rw[if_pos hw]at r;obtain⟨a,e,h0,_⟩:=r;rw[hv]at e;cases e;exact h0
 have up:Same (vis H (Hid B σ δ)) (vis H1 (Hid B (σ.set i (some v)) (δ.set i (some (if w then .ow else .sh,d))))):=fun b o h=>by
  obtain⟨h1,h2⟩:=bQ h
  refine bW (s b o h1) fun z=>?_
  rcases sub b z with z | ⟨z1,z2⟩
  ·exact h2 z
  ·rw[new b z1 z2]at h1;cases h1
 have old:∀j a,j≠i->eE (σ.set i (some v)) (δ.set i (some (if w then .ow else .sh,d))) j a->eE σ δ j a:=fun j a hj ⟨⟨w',d',h1,h2⟩,h3⟩=>by
  rw[List.getElem?_set_ne (Ne.symm hj)]at h1 h3;exact⟨⟨w',d',h1,h2⟩,h3⟩
 have here:∀a,eE (σ.set i (some v)) (δ.set i (some (if w then .ow else .sh,d))) i a->H a=none:=fun a ⟨⟨w',d',h1,h2⟩,h3⟩=>by
  rw[List.getElem?_set_self hi]at h1;rw[List.getElem?_set_self hiσ]at h3;cases h1;cases h3
  cases w with
  | true=>exact new _ rfl rfl
  | false=>exact absurd rfl h2
 refine⟨⟨S.kf,by simp[S.len],fun j d' h=>?_,fun j d' h=>?_,fun j d' h=>?_,fun j k a h1 h2=>?_,S1.same,S1.soft,S1.gone,S1.live⟩,up⟩
 ·by_cases hj:j=i
  ·subst hj
   rw[List.getElem?_set_self hi]at h
   cases w with
   | true=>cases h
   | false=>
     cases h;refine⟨v,by rw[List.getElem?_set_self hiσ],?_⟩
     have q:Rep W (vis H1 (Hid B σ δ)) d v:=by simpa[Res]using r
     refine q.mono (aQ fun b hb=>?_);rcases sub b hb with z | ⟨z,_⟩
     ·exact z
     ·cases z
  ·rw[List.getElem?_set_ne (Ne.symm hj)]at h
   obtain⟨u,h1,h2⟩:=S.sh j d' h;exact⟨u,by rw[List.getElem?_set_ne (Ne.symm hj)];exact h1,h2.mono up⟩
 ·by_cases hj:j=i
  ·subst hj
   rw[List.getElem?_set_self hi]at h
   cases w with
   | false=>cases h
   | true=>
     cases h;have q:=r;unfold Res at q;rw[if_pos rfl]at q;obtain⟨a,rfl,h0,h1⟩:=q;refine⟨a,by rw[List.getElem?_set_self hiσ],h1.mono (fun _ q=>q) (aQ fun b hb=>?_),?_,fun z=>?_,fun z=>?_⟩
     ·rcases sub b hb with z | ⟨_,z⟩
      ·exact .inl z
      ·cases z;exact .inr rfl
     ·cases e:X.H₀ a with
      | none=>rfl
      | some o=>
        by_cases hme:some a=me
        ·obtain⟨o',q⟩:=S.live a hme.symm
         rw[h0]at q;cases q
        ·rw[S.same a o e hme]at h0;cases h0
     ·obtain⟨o,q⟩:=S.gone a z
      rw[h0]at q;cases q
     ·obtain⟨o',q⟩:=S.live a z.symm
      rw[h0]at q;cases q
  ·rw[List.getElem?_set_ne (Ne.symm hj)]at h
   obtain⟨a,h1,h2,h3⟩:=S.ow j d' h;exact⟨a,by rw[List.getElem?_set_ne (Ne.symm hj)];exact h1,h2.mono (fun o q=>s a o q) up,h3⟩
 ·by_cases hj:j=i
  ·subst hj
   rw[List.getElem?_set_self hi]at h;cases w<;>cases h
  ·rw[List.getElem?_set_ne (Ne.symm hj)]at h
   obtain⟨h0,a,h1,h2,h3,h4⟩:=S.mi j d' h;exact⟨h0,a,h1,by rw[List.getElem?_set_ne (Ne.symm hj)];exact h2,h3.mono (fun o q=>s a o q) up,h4⟩
 ·by_cases hj:j=i
  ·by_cases hk:k=i
   ·rw[hj,hk]
   ·subst hj
    have q1:=here a h1;obtain⟨o,q2⟩:=S.hidH (.inr ⟨k,old k a hk h2⟩);rw[q1]at q2;cases q2
  ·by_cases hk:k=i
   ·subst hk
    have q1:=here a h2;obtain⟨o,q2⟩:=S.hidH (.inr ⟨j,old j a hj h1⟩);rw[q1]at q2;cases q2
   ·exact S.apart j k a (old j a hj h1) (old k a hk h2)
theorem gm(i:Nat):∀b,Hid B σ (Z.share1 δ i) b->Hid B σ δ b:=fun b hb=>by
 rcases hb with hb | ⟨j,hb⟩
 ·exact .inl hb
 ·exact .inr ⟨j,(cB hb).1⟩
theorem lQ(is:List Nat):∀{δ:Dst} (b:Addr),Hid B σ (Z.share δ is) b->Hid B σ δ b:=by
 induction is with
 | nil=>intro δ b h;exact h
 | cons i l ih=>intro δ b h;exact gm i b (ih b h)
theorem gU(o:Orc)(t:T):∀b,Hid B σ (Z.evF o δ t).1 b->Hid B σ δ b:=fun b hb=>by
 unfold Z.evF at hb;split at hb
 ·exact lQ _ b hb
 ·exact hb
noncomputable def AfterS(X:Cx)(W:Wd)(me:Option Addr)(B:Addr->Prop)(G:Hp)(r:SO)(D:Ends):Prop:=match r with
 | .nx δ=>∀σ H,SR X W me B H σ δ->Same G (vis H (Hid B σ δ))->D.nx σ H
 | .bk δ=>∀σ H,SR X W me B H σ δ->Same G (vis H (Hid B σ δ))->D.bk σ H
 | .ct δ=>∀σ H,SR X W me B H σ δ->Same G (vis H (Hid B σ δ))->D.ct σ H
 | .rt w d δ=>∀v σ H,SR X W me B H σ δ->Same G (vis H (Hid B σ δ))->Res W B false X.H₀ H w d v->D.rt v H
 | .ex c δ=>∀pins σ H s,Inv X pins σ H s->SR X W me B H σ δ->Same G (vis H (Hid B σ δ))->∀a H' s' tr,Fly X H s (.ref (W.CT c)) a H' s' tr->Same H H'->X.xe (.ref a) s'
 | .stuck=>False
theorem AfterS.mono{G G':Hp}{r:SO}{D:Ends}(h:AfterS X W me B G r D)(e:Same G G'):AfterS X W me B G' r D:=by
 cases r with
 | nx δ=>exact fun σ H S s=>h σ H S (e.trans s)
 | bk δ=>exact fun σ H S s=>h σ H S (e.trans s)
 | ct δ=>exact fun σ H S s=>h σ H S (e.trans s)
 | rt w d δ=>exact fun v σ H S s=>h v σ H S (e.trans s)
 | ex c δ=>exact fun pins σ H s I S z=>h pins σ H s I S (e.trans z)
 | stuck=>exact h
noncomputable def tS(X:Cx)(W:Wd)(g:Dst->SO):TS:=fun D σ H=>∃me B δ,SR X W me B H σ δ/\AfterS X W me B (vis H (Hid B σ δ)) (g δ) D
theorem PSs.imp{X:Cx}{e:List Stmt}{t t':TS}(h:PSs X e t)(i:∀D σ H,t' D σ H->t D σ H):PSs X e t':=fun pins s σ H D I hw=>h pins s σ H D I (i D σ H hw)
theorem HY(o:Orc):PSs X [] (tS X W (evSs o .nil)):=PSs.imp Dk fun D σ H ⟨me,B,δ,S,h⟩=>by
 simp only[evSs,AfterS]at h;exact h σ H S (Same.refl _)
theorem Em{st:Stmt}{rest:List Stmt}{o:Orc}{s:S}{l:SL}(h1:PS X st (tS X W (evS o s)))(h2:PSs X rest (tS X W (evSs o l))):PSs X (st::rest) (tS X W (evSs o (.cons s l))):=by
 refine PSs.imp (xr h1 h2) fun D σ H ⟨me,B,δ,S,h⟩=>⟨me,B,δ,S,?_⟩
 simp only[evSs]at h
 cases e:evS o s δ with
 | nx δ1=>
   rw[e]at h
   exact fun σ' H' S' s'=>⟨me,B,δ1,S',AfterS.mono h s'⟩
 | rt w d δ1=>rw[e]at h;exact h
 | bk δ1=>rw[e]at h;exact h
 | ct δ1=>rw[e]at h;exact h
 | ex c δ1=>rw[e]at h;exact h
 | stuck=>rw[e]at h;exact h
theorem SO.of_ok{G:Hp}{α:Type}{δ:Dst}{r:R α}{k:α->SO}{D:Ends}(h:AfterS X W me B G (SO.of δ r k) D):∃a,r=.ok a/\AfterS X W me B G (k a) D:=by
 cases r with
 | ok a=>exact⟨a,rfl,h⟩
 | exc c=>exact h.elim
 | stuck=>exact h.elim
theorem dM{G:Hp}{x:Option SO}{D:Ends}(h:AfterS X W me B G (bw x) D):∃r,x=some r/\AfterS X W me B G r D:=by
 cases x with
 | some a=>exact⟨a,rfl,h⟩
 | none=>exact h.elim
theorem gh{δ δ':Dst}{i:Nat}{w:Bool}{d:D}(h:setSlot δ i w d=some δ'):i<δ.length/\δ'=δ.set i (some (if w then .ow else .sh,d)):=by
 unfold setSlot at h;split at h
 ·exact⟨by assumption,(Option.some.inj h).symm⟩
 ·cases h
theorem Gz{i:Nat}{x:Str}{e:Expr}{o:Orc}{t:T}{pos pos':Pos}(hN:X.N.Nodup)(hi:X.N[i]?=some x)(hx:Loc X.env.scope x)(he:PE X e (tD X W false fun δ=>ev o δ false t))(hs:swapsWith e (some (.Name x pos')) pos.line X.env=pure false)
 (hf:X.fn x=true\/X.env.scope.names.lookup x=some .local):PS X (.Assign [.Name x pos'] e pos) (tS X W (evS o (.set i t))):=by
 refine PS.imp (Fv hN hi hx he hs hf) fun D σ H ⟨me,B,δ,S,h⟩=>?_
 simp only[evS]at h;obtain⟨S1,e1⟩:=S.evF o t;obtain⟨r,e2,h⟩:=SO.of_ok h;obtain⟨q,e3,h⟩:=dM h
 cases e4:setSlot (evF o δ t).1 i r.1 r.2 with
 | none=>rw[e4]at e3;cases e3
 | some δ'=>
   rw[e4]at e3;cases e3;obtain⟨h1,rfl⟩:=gh e4;refine tD_iff.mpr ⟨me,B,_,S1,?_⟩;rw[<-e1,e2];intro v H' s q;obtain⟨S2,s2⟩:=S1.store s q h1;exact h _ _ S2 ((aQ (gU o t)).trans s2)
theorem M9{c:Expr}{a b:List Stmt}{o:Orc}{t:T}{sa sb:SL}{pos:Pos}(hc:PT X c (tT X W fun δ=>ev o δ true t))(ha:PSs X a (tS X W (evSs o sa)))(hb:PSs X b (tS X W (evSs o sb))) :
 PS X (.If c a b pos) (tS X W (evS o (.ifs t sa sb))):=by
 refine PS.imp (G8 hc ha hb) fun D σ H ⟨me,B,δ,S,h⟩=>?_
 simp only[evS]at h;obtain⟨k,e,h⟩:=SO.of_ok h;refine⟨me,B,δ,S,?_⟩;rw[e];intro H' s
 cases k with
 | true=>exact⟨me,B,δ,S.mono s,AfterS.mono h (aD s)⟩
 | false=>exact⟨me,B,δ,S.mono s,AfterS.mono h (aD s)⟩
theorem Io{c:Expr}{a b:List Stmt}{o:Orc}{t:T}{sa sb:SL}{pos:Pos}(hc:PT X c (tT X W fun δ=>ev o δ true t))(ha:PSs X a (tS X W (evSs o sa)))(hb:PSs X b (tS X W (evSs o sb))):PS X (.If c a b pos) (tS X W (evS o (.ifq t sa sb))):=by
 refine PS.imp (G8 hc ha hb) fun D σ H ⟨me,B,δ,S,h⟩=>?_
 simp only[evS]at h;obtain⟨k,e,h⟩:=SO.of_ok h;have S1:=S.share (aY t);refine⟨me,B,_,S1,?_⟩;rw[e];intro H' s;have s1:=(aQ (H:=H) (lQ (B:=B) (σ:=σ) (δ:=δ) (aY t))).trans (aD s)
 cases k with
 | true=>exact⟨me,B,_,S1.mono s,AfterS.mono h s1⟩
 | false=>exact⟨me,B,_,S1.mono s,AfterS.mono h s1⟩
theorem JX{e:Expr}{o:Orc}{t:T}{pos:Pos}(hv:∀i,t≠.var i)(he:PE X e (tD X W false fun δ=>ev o δ false t)):PS X (.Return (some e) pos) (tS X W (evS o (.ret t))):=by
 refine PS.imp (zx he) fun D σ H ⟨me,B,δ,S,h⟩=>?_
 have h':AfterS X W me B (vis H (Hid B σ δ)) (SO.of (evF o δ t).1 (evF o δ t).2 fun r=>.rt r.1 r.2 (evF o δ t).1) D:=by
  cases t<;>first | exact h | exact absurd rfl (hv _)
 obtain⟨S1,e1⟩:=S.evF o t;obtain⟨r,e2,h⟩:=SO.of_ok h';refine tD_iff.mpr ⟨me,B,_,S1,?_⟩;rw[<-e1,e2];intro v H' s q;refine h v σ H' (S1.mono s) ((aQ (gU o t)).trans (aD s)) ?_;unfold Res at q ⊢
 by_cases hw:r.1=true
 ·rw[if_pos hw]at q ⊢
  obtain⟨a,rfl,h0,q⟩:=q;refine⟨a,rfl,?_,q.mono (fun _ z=>z) (aQ fun b hb=>hb.imp .inl id)⟩
  cases e:X.H₀ a with
  | none=>rfl
  | some o'=>
    by_cases hme:some a=me
    ·obtain⟨o',q⟩:=S.live a hme.symm
     rw[h0]at q;cases q
    ·rw[S.same a o' e hme]at h0;cases h0
 ·rw[if_neg hw]at q ⊢
  simp only[Bool.false_eq_true,if_false]at q ⊢;exact q.mono (aQ fun b hb=>.inl hb)
theorem Di{i:Nat}{x:Str}{o:Orc}{pos pos':Pos}(hN:X.N[i]?=some x)(hv:Vis X.env.scope x)(hd:(x==("__debug__":Str))=false)(hcd:(x==("__classdict__":Str))=false):PS X (.Return (some (.Name x pos')) pos) (tS X W (evS o (.ret (.var i)))):=by
 refine PS.imp (zx (pH hN hv hd hcd)) fun D σ H ⟨me,B,δ,S,h⟩=>?_
 simp only[evS]at h
 cases e:δ[i]? with
 | none=>simp only[e,AfterS]at h
 | some q=>
   cases q with
   | none=>simp only[e,AfterS]at h
   | some q=>
     obtain⟨w,d⟩:=q
     cases w with
     | sh=>
       simp only[e,AfterS]at h;obtain⟨v,h1,h2⟩:=S.sh i d e;exact⟨v,h1,h v σ H S (Same.refl _) (.shared (h2.mono (aQ fun b hb=>.inl hb)))⟩
     | ow=>
       simp only[e,AfterS]at h;obtain⟨a,h1,h2,h3,h4⟩:=S.ow i d e;refine⟨_,h1,h _ σ H S (Same.refl _) ?_⟩;unfold Res;rw[if_pos rfl];refine⟨a,rfl,h3,h2.mono (fun _ z=>z) (aQ fun b hb=>?_)⟩;rcases hb with hb | hb
       ·exact .inl hb
       ·rw[hb];exact .inr ⟨i,⟨.ow,d,e,by decide⟩,h1⟩
     | me=>simp only[e,AfterS]at h
theorem yM{c:Expr}{body:List Stmt}{o:Orc}{t:T}{sb:SL}{pos:Pos}(hp:PassesOwn (model X.prog X.w) X.A X.env X.xe)(hc:PT X c (tT X W fun δ=>ev o δ true t))(hb:PSs X body (tS X W (evSs o sb))) :
 PS X (.While c body [] pos) (tS X W (evS o (.while_ t sb))):=by
 refine PS.imp (yh hp hc hb) fun D σ H ⟨me,B,δ,S,h⟩=>?_
 simp only[evS]at h;refine⟨fun m σ H=>∃δ,SR X W me B H σ δ/\AfterS X W me B (vis H (Hid B σ δ)) (cz (fun δ=>ev o δ true t) (evSs o sb) m δ) D,⟨_,δ,S,h⟩,?_⟩
 rintro m σ H ⟨δ,S,h⟩
 cases m with
 | zero=>simp only[cz,AfterS]at h
 | succ m=>
   simp only[cz]at h;obtain⟨k,e,h⟩:=SO.of_ok h;refine⟨me,B,δ,S,?_⟩;rw[e];intro H' s;have h:=AfterS.mono h (aD s)
   cases k with
   | false=>
     simp only[Bool.false_eq_true,if_false,AfterS]at h ⊢;exact h σ H' (S.mono s) (Same.refl _)
   | true=>
     simp only[if_true]at h ⊢;refine⟨fun σ' H'=>∃δ,SR X W me B H' σ' δ/\AfterS X W me B (vis H' (Hid B σ' δ)) (cz (fun δ=>ev o δ true t) (evSs o sb) m δ) D,fun σ' H' q=>⟨m,Nat.lt_succ_self m,q⟩,me,B,δ,S.mono s,?_⟩
     cases e2:evSs o sb δ with
     | nx δ1=>rw[e2]at h;exact fun σ' H' S' s'=>⟨δ1,S',AfterS.mono h s'⟩
     | ct δ1=>rw[e2]at h;exact fun σ' H' S' s'=>⟨δ1,S',AfterS.mono h s'⟩
     | bk δ1=>rw[e2]at h;exact h
     | rt w d δ1=>rw[e2]at h;exact h
     | ex c δ1=>rw[e2]at h;exact h
     | stuck=>rw[e2]at h;exact h.elim
end
end Z
namespace Z
open PySem PySem.Spec PyProof.Rows L2
section
variable{X:Cx}{W:Wd}{lk lk':Bool}{σ:L2.St}{H H1 H':Hp}{me:Option Addr}{B:Addr->Prop}{δ:Dst}{Q Q':VK}
theorem Kc{α:Type}{fa:Dst->R (Bool×D)}{g:Bool×D->R α}{C:R α->Hp->Prop}(S:SR X W me B H σ δ)(h:C ((fa δ).bind g) H)(mono:∀r H1,Same H H1->C r H->C r H1)(hx:∀c,C (.exc c) H->EW X W σ H c)(hs:¬C .stuck H) :
 tD X W lk' fa σ H fun v H1=>∃r,fa δ=.ok r/\SR X W me B H1 σ δ/\Same H H1/\RepT W H1 (vis H1 (Hid B σ δ)) r.2 v/\Res W (Hid B σ δ) lk' H H1 r.1 r.2 v/\C (g r) H1:=by
 refine tD_iff.mpr ⟨me,B,δ,S,?_⟩
 cases e:fa δ with
 | ok r=>
   rw[e]at h;intro v H1 s q;exact⟨r,rfl,S.mono s,s,q.look,q,mono _ _ s h⟩
 | exc c=>rw[e]at h;exact hx c h
 | stuck=>rw[e]at h;exact hs h
theorem PE.or{e:Expr}{t t':TE}(h:PE X e t)(h':PE X e t'):PE X e (fun σ H Q=>t σ H Q\/t' σ H Q):=by
 intro pins s σ H Q I q;rcases q with q | q
 ·exact h pins s σ H Q I q
 ·exact h' pins s σ H Q I q
noncomputable def RepTs(W:Wd)(H G:Hp):List D->List V->Prop
 | [],[]=>True
 | d::l,v::vs=>RepT W H G d v/\RepTs W H G l vs
 | _,_=>False
theorem RepTs.length{H G:Hp}:∀{l:List D} {vs:List V},RepTs W H G l vs->l.length=vs.length
 | [],[],_=>rfl
 | [],_::_,h=>by simp only[RepTs]at h
 | _::_,[],h=>by simp only[RepTs]at h
 | d::l,v::vs,h=>by
   simp only[RepTs]at h;simp[RepTs.length h.2]
noncomputable def AfterL(X:Cx)(W:Wd)(σ:L2.St)(H:Hp)(P:Addr->Prop)(r:R (Bool×List D))(Q:List V->Hp->Prop):Prop:=match r with
 | .ok r=>∀vs H',Same H H'->RepTs W H' (vis H' P) r.2 vs->(r.1=false->Reps W (vis H' P) r.2 vs)->Q vs H'
 | .exc c=>EW X W σ H c
 | .stuck=>False
noncomputable def tL(X:Cx)(W:Wd)(f:Dst->R (Bool×List D)):TA:=fun σ H Q=>∃me B δ,SR X W me B H σ δ/\AfterL X W σ H (Hid B σ δ) (f δ) Q
theorem AfterL.mono{P:Addr->Prop}{r:R (Bool×List D)}{Q:List V->Hp->Prop}(h:AfterL X W σ H P r Q)(e:Same H H1):AfterL X W σ H1 P r Q:=by
 unfold AfterL at h ⊢
 cases r with
 | ok r=>exact fun v H' s q=>h v H' (e.trans s) q
 | exc c=>exact h.mono e
 | stuck=>exact h
theorem tL.mono{f:Dst->R (Bool×List D)}{Q Q':List V->Hp->Prop}(h:tL X W f σ H Q)(k:∀v H',Q v H'->Q' v H'):tL X W f σ H Q':=by
 obtain⟨me,B,δ,S,h⟩:=h;refine⟨me,B,δ,S,?_⟩;unfold AfterL at h ⊢
 cases e:f δ with
 | ok r=>rw[e]at h;exact fun v H' s q q'=>k _ _ (h v H' s q q')
 | exc c=>rw[e]at h;exact h
 | stuck=>rw[e]at h;exact h
theorem sE{α:Type}{fa:Dst->R (Bool×List D)}{g:Bool×List D->R α}{C:R α->Hp->Prop}(S:SR X W me B H σ δ)(h:C ((fa δ).bind g) H)(mono:∀r H1,Same H H1->C r H->C r H1)(hx:∀c,C (.exc c) H->EW X W σ H c)(hs:¬C .stuck H) :
 tL X W fa σ H fun vs H1=>∃r,fa δ=.ok r/\SR X W me B H1 σ δ/\Same H H1/\RepTs W H1 (vis H1 (Hid B σ δ)) r.2 vs/\(r.1=false->Reps W (vis H1 (Hid B σ δ)) r.2 vs)/\C (g r) H1:=by
 refine⟨me,B,δ,S,?_⟩
 cases e:fa δ with
 | ok r=>
   rw[e]at h;intro vs H1 s q q';exact⟨r,rfl,S.mono s,s,q,q',mono _ _ s h⟩
 | exc c=>rw[e]at h;exact hx c h
 | stuck=>rw[e]at h;exact hs h
theorem Hj(o:Orc):PA X [] (tL X W fun δ=>evL o δ .nil):=PA.imp cR fun σ H Q ⟨me,B,δ,S,h⟩=>by
 simp only[evL,AfterL]at h
 exact h [] H (Same.refl H) (by simp only[RepTs]) fun _=>by simp only[Reps]
theorem Dh{e:Expr}{es:List Expr}{o:Orc}{t:T}{l:TL}(ha:∀lk,PE X e (tD X W lk fun δ=>ev o δ lk t))(hr:PA X es (tL X W fun δ=>evL o δ l))(hs:starEach (e::es) X.env=(false,eval e X.env)::starEach es X.env) :
 PA X (e::es) (tL X W fun δ=>evL o δ (.cons t l)):=by
 refine PA.imp (bF (PE.or (ha true) (ha false)) hr hs) fun σ H Q ⟨me,B,δ,S,h⟩=>?_
 simp only[evL]at h
 have go:∀lk,fX δ t=lk->tD X W lk (fun δ=>ev o δ lk t) σ H fun x H1=>tL X W (fun δ=>evL o δ l) σ H1 fun xs H2=>Q (x::xs) H2:=by
  intro lk hlk;rw[hlk]at h
  refine tD.mono (Kc (fa:=fun δ=>ev o δ lk t) (C:=fun r H=>AfterL X W σ H (Hid B σ δ) r Q) S h (fun r H1 s q=>q.mono s) (fun c q=>q) (fun q=>q)) fun v H1 ⟨r1,e1,S1,s1,t1,q1,h1⟩=>?_
  refine tL.mono (sE (fa:=fun δ=>evL o δ l) (C:=fun r H=>AfterL X W σ H (Hid B σ δ) r Q) S1 h1 (fun r H1 s q=>q.mono s) (fun c q=>q) (fun q=>q)) fun vs H2 ⟨r2,e2,S2,s2,t2,q2,h2⟩=>?_
  refine h2 (v::vs) H2 (Same.refl _) ?_ fun hf=>?_
  ·simp only[RepTs]
   exact⟨t1.mono s2 (aD s2),t2⟩
  ·simp only[Bool.or_eq_false_iff]at hf
   simp only[Reps];refine⟨?_,q2 hf.2⟩;rw[hf.1]at q1;exact(q1.keep S.know).mono (aD s2)
 cases hlk:fX δ t with
 | true=>exact .inl (go true hlk)
 | false=>exact .inr (go false hlk)
noncomputable def spFn(W:Wd)(g:List D->R (Bool×D))(np:Nat):Sp:=fun vs H Q _=>vs.length=np/\∃B ds,Soft H B/\(∀b,B b->∃o,H b=some o)/\Reps W (vis H B) ds vs/\∃r,g ds=.ok r/\∀v H',Same H H'->Res W B false H H' r.1 r.2 v->Q v H'
theorem RepTs.lend{P:Addr->Prop}:∀{l:List D} {vs:List V} (us:List V),(∀v∈vs,v∈us)->RepTs W H (vis H P) l vs->Reps W (vis H fun b=>P b/\V.ref b∉us) l vs
 | [],[],_,_,_=>by simp only[Reps]
 | [],_::_,_,_,h=>by simp only[RepTs]at h
 | _::_,[],_,_,h=>by simp only[RepTs]at h
 | d::l,v::vs,us,hu,h=>by
   simp only[RepTs]at h;simp only[Reps];refine⟨?_,RepTs.lend us (fun v hv=>hu v (List.mem_cons_of_mem _ hv)) h.2⟩
   have up:Same (vis H P) (vis H fun b=>P b/\V.ref b∉us):=aQ fun b hb=>hb.1
   have hv:v∈us:=hu v List.mem_cons_self
   have see:∀a o,v=.ref a->H a=some o->vis H (fun b=>P b/\V.ref b∉us) a=some o:=fun a o e h=>bW h fun z=>z.2 (e▸hv)
   cases d with
   | lst l=>
     obtain⟨a,xs,rfl,h1,h2⟩:=h.1;simp only[Rep];refine⟨a,xs,rfl,?_,h2.mono up⟩;rcases h1 with(h1 | ⟨o,h1⟩) | h1
     ·exact .inl (.inl (see a _ rfl h1))
     ·exact .inl (.inr ⟨o,see a _ rfl h1⟩)
     ·exact .inr h1
   | dct ks vs=>
     obtain⟨a,kvs,rfl,h1,h2,h3,h4⟩:=h.1;simp only[Rep];exact⟨a,kvs,rfl,h1.imp fun _ z=>see a _ rfl z,h2,h3,h4.mono up⟩
   | obj c ns vs=>
     obtain⟨a,dx,fs,rfl,h1,h2,h3⟩:=h.1;simp only[Rep];exact⟨a,dx,fs,rfl,see a _ rfl h1,h2,h3.mono up⟩
   | non=>exact Rep.mono up h.1
   | bl b=>exact Rep.mono up h.1
   | int i=>exact Rep.mono up h.1
   | str x=>exact Rep.mono up h.1
   | tup l=>exact Rep.mono up h.1
   | err c=>exact Rep.mono up h.1
theorem OwnAt.notImm{H G:Hp}{a:Addr}{d:D}(h:OwnAt W H G a d):d.imm=false:=by
 cases d<;>first | rfl | exact h.elim
theorem JD{o:Orc}{f np:Nat}{vs:List V}{ds:List D}{br:Bool}{E:XK}(S:SR X W me B H σ δ)(hn:ds.length=np)(t:RepTs W H (vis H (Hid B σ δ)) ds vs)(q:br=false->Reps W (vis H (Hid B σ δ)) ds vs)
 (h:After X W lk σ H (Hid B σ δ) ((o.fn f ds).bind (lent br)) Q):spFn W (o.fn f) np vs H Q E:=by
 refine⟨by rw[<-t.length];exact hn,?_⟩
 cases e:o.fn f ds with
 | stuck=>rw[e]at h;exact h.elim
 | exc c=>rw[e]at h;exact h.elim
 | ok r=>
   rw[e]at h
   cases br with
   | false=>
     refine⟨Hid B σ δ,ds,S.softH,S.know,q rfl,r,e,fun v H' s z=>h v H' s ?_⟩;unfold Res at z ⊢
     by_cases hw:r.1=true
     ·rw[if_pos hw]at z ⊢;exact z
     ·rw[if_neg hw]at z ⊢
      simp only[Bool.false_eq_true,if_false]at z;split
      ·exact z.top aO
      ·exact z
   | true=>
     have h':After X W lk σ H (Hid B σ δ) (if r.2.imm then .ok r else .stuck) Q:=h
     by_cases him:r.2.imm=true
     ·rw[if_pos him]at h'
      refine⟨fun b=>Hid B σ δ b/\V.ref b∉vs,ds,fun a ha=>S.softH a ha.1,fun b hb=>S.know b hb.1,t.lend vs (fun v hv=>hv),r,e,fun v H' s z=>h' v H' s ?_⟩;unfold Res at z ⊢
      by_cases hw:r.1=true
      ·rw[if_pos hw]at z
       obtain⟨a,_,_,z⟩:=z;rw[z.notImm]at him;cases him
      ·rw[if_neg hw]at z ⊢
       simp only[Bool.false_eq_true,if_false]at z;have z':Rep W (vis H' (Hid B σ δ)) r.2 v:=(z.mono aO).imm (S.softH.mono S.know s) him;split
       ·exact z'.top aO
       ·exact z'
     ·rw[if_neg him]at h';exact h'.elim
theorem Im{o:Orc}{f np k:Nat}{x:Str}{fa:Addr}{fd:FuncData}{ps:List Str}{e:Expr}{es:List Expr}{l:TL}{p pos:Pos}(hn:∀δ r,evL o δ l=.ok r->r.2.length=np)
 (F:FnOk X.prog X.w X.K X.mg X.base CX0 k fa fd ps (spFn W (o.fn f) np)) (hr:Room k X.A) (hg:Gl X x) (hm:X.mg x=some (.ref fa)) (hk:PySem.W.keepIn X.K (.ref fa)=true) (hb:Binds X.K fd ps [])
 (ha:PA X (e::es) (tL X W fun δ=>evL o δ l)) (hdb:(x==("__debug__":Str))=false) (he:starEach (e::es) X.env=(false,eval e X.env)::starEach es X.env) (hpl:(backTo pos (starEach es X.env)).any (·.1)=false) :
 PE X (.Call (.Name x p) (e::es) [] pos) (tD X W lk fun δ=>ev o δ lk (.call f l)):=by
 refine PE.imp (vV F hr hg hm hk hb .nil JR ha hdb he hpl) fun σ H Q h=>?_
 obtain⟨me,B,δ,S,h⟩:=tD_iff.mp h;simp only[ev]at h
 refine tL.mono (sE (fa:=fun δ=>evL o δ l) (C:=fun r H=>After X W lk σ H (Hid B σ δ) r Q) S h (fun r H1 s q=>q.mono s) (fun c q=>q) (fun q=>q)) fun vs H1 ⟨r,e1,S1,s1,t1,q1,h1⟩=>?_
 rw[List.append_nil];exact JD S1 (hn δ r e1) t1 q1 h1
variable{a b:Expr}{rest:List Expr}{pos:Pos}{fa fb:Dst->R (Bool×D)}
noncomputable def andD(x:D)(y:R (Bool×D)):R (Bool×D):=match x with
 | .bl true=>y.bind fun y=>cD y.2
 | .bl false=>.ok (false,.bl false)
 | _=>.stuck
noncomputable def orD(x:D)(y:R (Bool×D)):R (Bool×D):=match x with
 | .bl true=>.ok (false,.bl true)
 | .bl false=>y.bind fun y=>cD y.2
 | _=>.stuck
theorem xJ{d:D}{r:Bool×D}(h:cD d=.ok r):∃b,d=.bl b/\r=(false,.bl b):=by
 cases d<;>simp only[cD]at h<;>first | (cases h;exact⟨_,rfl,rfl⟩) | cases h
theorem eO{G:Hp}{i:Bool}{x:V}(h:RepT W H G (.bl i) x):x=.bl i:=by simpa only[RepT,Rep]using h
theorem lC(S:SR X W me B H σ δ)(h:After X W lk σ H (Hid B σ δ) ((fb δ).bind fun y=>cD y.2) Q):tD X W true fb σ H Q:=by
 refine tD_iff.mpr ⟨me,B,δ,S,?_⟩
 cases e:fb δ with
 | ok r=>
   rw[e]at h;have h:After X W lk σ H (Hid B σ δ) (cD r.2) Q:=h
   cases e2:cD r.2 with
   | ok r'=>
     rw[e2]at h;obtain⟨b,e3,rfl⟩:=xJ e2;intro v H' s q;have q':=q.look;rw[e3]at q';rw[eO q'];exact h _ H' s bA
   | exc c=>rw[e2]at h;exact False.elim h
   | stuck=>rw[e2]at h;exact False.elim h
 | exc c=>rw[e]at h;exact h
 | stuck=>rw[e]at h;exact h
theorem Lx(ha:PE X a (tD X W true fa))(hb:PE X (.BoolOp .And (b::rest) pos) (tD X W true fb)):PE X (.BoolOp .And (a::b::rest) pos) (tD X W lk fun δ=>(fa δ).bind fun x=>andD x.2 (fb δ)):=by
 refine PE.imp (Iz ha hb) fun σ H Q h=>?_
 obtain⟨me,B,δ,S,h⟩:=tD_iff.mp h
 refine tD.mono (part S h) fun v H1 ⟨r,e,S1,s1,t1,_,h1⟩=>?_
 cases e2:r.2 with
 | bl c=>
   rw[e2]at t1 h1;refine⟨c,eO t1,?_⟩
   cases c with
   | true=>exact lC S1 h1
   | false=>exact h1 _ H1 (Same.refl _) bA
 | _=>rw[e2]at h1;exact h1.elim
theorem d_or(ha:PE X a (tD X W true fa))(hb:PE X (.BoolOp .Or (b::rest) pos) (tD X W true fb)):PE X (.BoolOp .Or (a::b::rest) pos) (tD X W lk fun δ=>(fa δ).bind fun x=>orD x.2 (fb δ)):=by
 refine PE.imp (Ls ha hb) fun σ H Q h=>?_
 obtain⟨me,B,δ,S,h⟩:=tD_iff.mp h
 refine tD.mono (part S h) fun v H1 ⟨r,e,S1,s1,t1,_,h1⟩=>?_
 cases e2:r.2 with
 | bl c=>
   rw[e2]at t1 h1;refine⟨c,eO t1,?_⟩
   cases c with
   | false=>exact lC S1 h1
   | true=>exact h1 _ H1 (Same.refl _) bA
 | _=>rw[e2]at h1;exact h1.elim
theorem Hx{op:BoolOp}(ha:PE X a (tD X W lk fa)):PE X (.BoolOp op [a] pos) (tD X W lk fa):=Jg ha
theorem PW.imp{e:Expr}{t t':TT}(h:PW X e t)(i:∀σ H Q,t' σ H Q->t σ H Q):PW X e t':=fun w pins s σ H Q I hw=>h w pins s σ H Q I (i σ H Q hw)
theorem nq{d:D}{b:Bool}(h:(cD d).bind (fun x=>R.of (truth x.2))=.ok b):truth d=some b:=by
 cases d<;>simp only[cD,R.bind,truth,R.of]at h<;>first | (cases h;rfl) | cases h
theorem mR{d:D}{c:Nat}:(cD d).bind (fun x=>R.of (truth x.2))≠.exc c:=by
 cases d<;>simp[cD,R.bind,truth,R.of]
theorem j8{Q:Bool->Hp->Prop}(S:SR X W me B H σ δ)
 (h:match((fb δ).bind fun y=>cD y.2).bind (fun x=>R.of (truth x.2))with | .ok b=>∀H',Same H H'->Q b H' | .exc c=>EW X W σ H c | .stuck=>False):tT X W fb σ H Q:=by
 refine⟨me,B,δ,S,?_⟩
 cases e:fb δ with
 | ok r=>
   rw[e]at h;have h:(match(cD r.2).bind (fun x=>R.of (truth x.2))with | .ok b=>∀H',Same H H'->Q b H' | .exc c=>EW X W σ H c | .stuck=>False):=h;show(match R.of (truth r.2)with | .ok b=>∀H',Same H H'->Q b H' | .exc c=>EW X W σ H c | .stuck=>False)
   cases e2:(cD r.2).bind (fun x=>R.of (truth x.2))with
   | ok b=>rw[e2]at h;rw[nq e2];exact h
   | exc c=>exact absurd e2 mR
   | stuck=>rw[e2]at h;exact h.elim
 | exc c=>rw[e]at h;exact h
 | stuck=>rw[e]at h;exact h
theorem Gf(ha:PT X a (tT X W fa))(hb:PW X (.BoolOp .And (b::rest) pos) (tT X W fb)):PW X (.BoolOp .And (a::b::rest) pos) (tT X W fun δ=>(fa δ).bind fun x=>andD x.2 (fb δ)):=by
 refine PW.imp (Jc ha hb) fun σ H Q ⟨me,B,δ,S,h⟩=>⟨me,B,δ,S,?_⟩
 dsimp only at h
 cases e:fa δ with
 | ok r=>
   rw[e]at h;have h:(match(andD r.2 (fb δ)).bind (fun x=>R.of (truth x.2))with | .ok b=>∀H',Same H H'->Q b H' | .exc c=>EW X W σ H c | .stuck=>False):=h;show(match R.of (truth r.2)with | .ok b=>∀H',Same H H'->if b=true then tT X W fb σ H' Q else Q false H' | .exc c=>EW X W σ H c | .stuck=>False)
   cases e2:r.2 with
   | bl c=>
     rw[e2]at h
     cases c with
     | true=>
       intro H' s;refine j8 (S.mono s) ?_;have h:(match((fb δ).bind fun y=>cD y.2).bind (fun x=>R.of (truth x.2))with | .ok b=>∀H',Same H H'->Q b H' | .exc c=>EW X W σ H c | .stuck=>False):=h
       cases e3:((fb δ).bind fun y=>cD y.2).bind (fun x=>R.of (truth x.2))with
       | ok b=>rw[e3]at h;exact fun H2 s2=>h H2 (s.trans s2)
       | exc c=>rw[e3]at h;exact h.elim
       | stuck=>rw[e3]at h;exact h
     | false=>exact fun H' s=>h H' s
   | _=>rw[e2]at h;exact h.elim
 | exc c=>rw[e]at h;exact h
 | stuck=>rw[e]at h;exact h
theorem Kg(ha:PT X a (tT X W fa))(hb:PW X (.BoolOp .Or (b::rest) pos) (tT X W fb)):PW X (.BoolOp .Or (a::b::rest) pos) (tT X W fun δ=>(fa δ).bind fun x=>orD x.2 (fb δ)):=by
 refine PW.imp (KY ha hb) fun σ H Q ⟨me,B,δ,S,h⟩=>⟨me,B,δ,S,?_⟩
 dsimp only at h
 cases e:fa δ with
 | ok r=>
   rw[e]at h;have h:(match(orD r.2 (fb δ)).bind (fun x=>R.of (truth x.2))with | .ok b=>∀H',Same H H'->Q b H' | .exc c=>EW X W σ H c | .stuck=>False):=h;show(match R.of (truth r.2)with | .ok b=>∀H',Same H H'->if b=true then Q true H' else tT X W fb σ H' Q | .exc c=>EW X W σ H c | .stuck=>False)
   cases e2:r.2 with
   | bl c=>
     rw[e2]at h
     cases c with
     | false=>
       intro H' s;refine j8 (S.mono s) ?_;have h:(match((fb δ).bind fun y=>cD y.2).bind (fun x=>R.of (truth x.2))with | .ok b=>∀H',Same H H'->Q b H' | .exc c=>EW X W σ H c | .stuck=>False):=h
       cases e3:((fb δ).bind fun y=>cD y.2).bind (fun x=>R.of (truth x.2))with
       | ok b=>rw[e3]at h;exact fun H2 s2=>h H2 (s.trans s2)
       | exc c=>rw[e3]at h;exact h.elim
       | stuck=>rw[e3]at h;exact h
     | true=>exact fun H' s=>h H' s
   | _=>rw[e2]at h;exact h.elim
 | exc c=>rw[e]at h;exact h
 | stuck=>rw[e]at h;exact h
theorem zM{op:BoolOp}(ha:PT X a (tT X W fa)):PW X (.BoolOp op [a] pos) (tT X W fa):=by
 cases op with
 | And=>exact BL ha
 | Or=>exact Ji ha
end
end Z
namespace Z
open PySem PySem.Spec PyProof.Rows L2
section
variable{X:Cx}{W:Wd}{lk lk':Bool}{σ:L2.St}{H H1 H':Hp}{me:Option Addr}{B:Addr->Prop}{δ:Dst}{Q Q':VK}{a b:Expr}{pos p:Pos}{fa fb fc:Dst->R (Bool×D)}
noncomputable def Sem1(W:Wd)(r:List V->Hp->VK->Prop)(g:D->R (Bool×D)):Prop :=
 ∀(lk:Bool) (P:Addr->Prop) (H:Hp) (x:V) (dx:D) (Q:VK) (w:Bool) (d:D),Soft H P->(∀a,P a->∃o,H a=some o)->RepT W H (vis H P) dx x->g dx=.ok (w,d) ->
  (∀v H',Same H H'->Res W P lk H H' w d v->Q v H')->r [x] H Q
noncomputable def qj(g:D->R (Bool×D)):Prop:=∀x c,g x≠.exc c
theorem vU{r:List V->Hp->VK->Prop}{g:D->R (Bool×D)}(hs:Sem1 W r g)(hn:qj g){σ:L2.St}{H:Hp}{Q:VK}(h:tD X W lk (fun δ=>(fa δ).bind fun x=>g x.2) σ H Q) :
 tCB r (Jw (tD X W true fa) tNil) σ H Q:=by
 obtain⟨me,B,δ,S,h⟩:=tD_iff.mp h
 refine tD.mono (part S h) fun v H1 ⟨r1,e1,S1,s1,t1,_,h1⟩=>?_
 show r [v] H1 Q
 cases e:g r1.2 with
 | ok r'=>
   rw[e]at h1;exact hs lk (Hid B σ δ) H1 v r1.2 Q r'.1 r'.2 S1.softH S1.know t1 e h1
 | exc c=>exact absurd e (hn _ _)
 | stuck=>rw[e]at h1;exact h1.elim
theorem d_b1{id:String}{x:Str}{r:List V->Hp->VK->Prop}{g:D->R (Bool×D)}(hc:CallR X (.builtin id) r)(hs:Sem1 W r g)(hn:qj g)(hg:Gl X x)(hm:X.mg x=none)(hv:bootBuiltins x=some (.builtin id))(ha:PE X a (tD X W true fa))
 (hx:x≠"__name__") (hdb:(x==("__debug__":Str))=false) (he:starEach [a] X.env=[(false,eval a X.env)]):PE X (.Call (.Name x p) [a] [] pos) (tD X W lk fun δ=>(fa δ).bind fun x=>g x.2) :=
 PE.imp (fu hc hg hm hv (bF ha cR he) hx hdb he rfl) fun _ _ _ h=>vU hs hn h
theorem Lf{id:String}{x:Str}{r:List V->Hp->VK->Prop}{g:D->R (Bool×D)}(hc:CallR X (.type id) r)(hs:Sem1 W r g)(hn:qj g)(hg:Gl X x)(hm:X.mg x=none)(hv:bootBuiltins x=some (.type id))(ha:PE X a (tD X W true fa))
 (hx:x≠"__name__") (hdb:(x==("__debug__":Str))=false) (he:starEach [a] X.env=[(false,eval a X.env)]):PE X (.Call (.Name x p) [a] [] pos) (tD X W lk fun δ=>(fa δ).bind fun x=>g x.2) :=
 PE.imp (mz hc hg hm hv (bF ha cR he) hx hdb he rfl) fun _ _ _ h=>vU hs hn h
theorem gM(b:B1):qj (b1D b):=by
 intro x c
 cases b<;>simp only[b1D]<;>first
  | exact eY
  | (cases x<;>simp[R.chk]<;>first | exact eY | (split<;>simp) | skip)
theorem El:Sem1 W (fun xs H Q=>∃i,xs=[.int i]/\Q (.int (if i<0 then -i else i)) H) (b1D .abs):=by
 intro lk P H x dx Q w d hS hK hx e k;cases dx<;>simp only[b1D]at e<;>cases e;exact⟨_,by rw[aJ hx],k _ H (Same.refl H) cL⟩
theorem Ec(hk:W.K=X.K):Sem1 W (fun xs H Q=>((∃p ys,xs=[.ref p]/\(SqL X.K H p ys\/SqT X.K H p ys)/\Q (.int ys.length) H)\/(∃z,xs=[.str z]/\z.length<=sizeLine/\Q (.int z.length) H))\/(∃a kvs ep,xs=[V.ref a]/\H a=some (.dK kvs ep)/\Q (.int kvs.length) H)) (b1D .len):=by
 intro lk P H x dx Q w d hS hK hx e k;cases dx<;>simp only[b1D]at e<;>cases e
 ·obtain⟨rfl,hl⟩:=aX hx
  rename_i s;refine .inl (.inr ⟨_,rfl,by simpa[strV,Str.length,sizeLine_eq]using hl,?_⟩)
  have e1:((strV s).length:Int)=(s.length:Int):=by simp[strV,Str.length]
  rw[e1];exact k _ H (Same.refl H) cL
 ·simp only[RepT,Rep]at hx
  obtain⟨a,xs,rfl,h1,h2⟩:=hx;refine .inl (.inl ⟨a,xs,rfl,.inr (hk▸aK aO h1),?_⟩);rw[<-h2.length];exact k _ H (Same.refl H) cL
 ·obtain⟨a,xs,rfl,h1,h2⟩:=hx
  refine .inl (.inl ⟨a,xs,rfl,.inl (hk▸h1),?_⟩);rw[<-h2.length];exact k _ H (Same.refl H) cL
 ·obtain⟨a,kvs,rfl,⟨ep,h1⟩,h2,h3,h4⟩:=hx
  refine .inr ⟨a,kvs,ep,rfl,h1,?_⟩;have:=congrArg List.length h2;simp only[List.length_map]at this;rw[this];exact k _ H (Same.refl H) cL
theorem jF{α:Type}{n:Nat}{i:Int}{j:Nat}(h:place n i=some j):ixN n i=some j:=by
 unfold place at h;unfold ixN
 by_cases h0:0<=i
 ·rw[if_pos h0]at h ⊢;exact h
 ·rw[if_neg h0]at h ⊢
  by_cases h1:0<=i+n
  ·rw[if_pos h1]at h;rw[if_pos (by omega)];exact h
  ·rw[if_neg h1]at h;cases h
theorem rz:iy idxD:=by
 intro x y c
 cases x<;>cases y<;>simp only[idxD]<;>first | exact eY | simp
theorem dj{α β:Type}{x:Option Nat}{f:Nat->Option α}{g:α->β}{y:β}(h:(x.bind fun n=>(f n).map g)=some y):∃n z,x=some n/\f n=some z/\g z=y:=by
 cases x with
 | none=>cases h
 | some n=>
   cases e:f n with
   | none=>simp[e]at h
   | some z=>simp[e]at h;exact⟨n,z,rfl,e,h⟩
noncomputable def rIx(K:PySem.W.Frag):R2:=fun x y H Q=>(rIxL K x y H Q\/rIxT K x y H Q)\/rIxS x y H Q
theorem G6:IxR X (rIx X.K):=IxR.or (IxR.or Ey IV) ur
noncomputable def je(a i:D):R (Bool×D):=match a with
 | .dct _ _=>.stuck
 | _=>idxD a i
theorem Eb(hk:W.K=X.K):Sem2 W (rIx X.K) je:=by
 intro lk P H x y dx dy Q w d hS hK hx hy e k
 cases dx<;>cases dy<;>first | exact nope e | exact cV e | simp only[je,idxD]at e
 ·obtain⟨n,z,h1,h2,h3⟩:=dj (of_ok e)
  cases h3;obtain⟨rfl,hl⟩:=aX hx;rename_i s j;refine .inr ⟨strV s,j,z,rfl,aJ hy,by simpa[strV,Str.length,sizeLine_eq]using hl,?_,?_⟩
  ·unfold atI
   rw[jF (α:=Nat) (n:=(strV s).cps.toList.length) (by simpa[strV]using h1)];simpa[strV]using h2
  ·exact k _ H (Same.refl H) (vW (i:=[z]) (by simp))
 ·obtain⟨n,z,h1,h2,h3⟩:=dj (of_ok e)
  cases h3;simp only[RepT,Rep]at hx;obtain⟨a,xs,rfl,q1,q2⟩:=hx;obtain⟨v,e1,e2⟩:=q2.get h2;refine .inl (.inr ⟨a,xs,_,v,rfl,aJ hy,hk▸aK aO q1,?_,k v H (Same.refl H) (.shared e2)⟩);unfold atI;rw[jF (α:=V) (by rw[<-q2.length];exact h1)];exact e1
 ·obtain⟨n,z,h1,h2,h3⟩:=dj (of_ok e)
  cases h3;obtain⟨a,xs,rfl,q1,q2⟩:=hx;obtain⟨v,e1,e2⟩:=q2.get h2;refine .inl (.inl ⟨a,xs,_,v,rfl,aJ hy,hk▸q1,?_,k v H (Same.refl H) (.shared e2)⟩);unfold atI;rw[jF (α:=V) (by rw[<-q2.length];exact h1)];exact e1
theorem wg(n:Nat)(d:Nat)(i:Int):HT.sIx n d (some i)=clip n i:=by
 unfold clip;show(if i<0 then(i+(n:Int)).toNat else min i.toNat n)=_
 by_cases h:0<=i
 ·rw[if_neg (by omega),if_pos h]
 ·rw[if_pos (by omega),if_neg h]
theorem zQ{α:Type}(l:List α)(p q:Nat):cut l p q=(l.drop p).take (q-p):=by
 unfold cut;rw[List.drop_take]
noncomputable def IsO(t:T)(e:Option Expr)(X:Cx)(W:Wd)(o:Orc):Prop:=(e=none/\t=.cst .non)\/∃e',e=some e'/\t≠.cst .non/\∀lk,PE X e' (tD X W lk fun δ=>ev o δ lk t)
noncomputable def tO(X:Cx)(W:Wd)(o:Orc)(t:T):TO:=fun σ H C=>∃me B δ,SR X W me B H σ δ/\match(ev o δ true t).bind (fun y=>R.of (bnd t y.2))with
 | .ok oi=>∀H',Same H H'->C oi H'
 | .exc c=>EW X W σ H c
 | .stuck=>False
theorem PO.imp{e:Option Expr}{t t':TO}(h:PO X e t)(i:∀σ H Q,t' σ H Q->t σ H Q):PO X e t':=fun pins s σ H Q I hw=>h pins s σ H Q I (i σ H Q hw)
theorem BP{t:T}{d:D}{oi:Option Int}(ht:t≠.cst .non)(h:bnd t d=some oi):∃i,d=.int i/\oi=some i:=by
 unfold bnd at h;split at h
 ·exact absurd rfl ht
 ·cases d<;>simp at h
  exact⟨_,rfl,h.symm⟩
theorem d_po{t:T}{e:Option Expr}{o:Orc}(h:IsO t e X W o):PO X e (tO X W o t):=by
 rcases h with⟨rfl,rfl⟩ | ⟨e',rfl,ht,h⟩
 ·refine PO.imp Aq fun σ H C ⟨me,B,δ,S,h⟩=>?_
  simp only[ev,R.bind,bnd,R.of]at h;exact h H (Same.refl H)
 ·refine PO.imp (BV (h true)) fun σ H C ⟨me,B,δ,S,h⟩=>?_
  refine tD_iff.mpr ⟨me,B,δ,S,?_⟩
  cases e:ev o δ true t with
  | ok r=>
    rw[e]at h;have h:(match R.of (bnd t r.2)with | .ok oi=>∀H',Same H H'->C oi H' | .exc c=>EW X W σ H c | .stuck=>False):=h
    cases e2:bnd t r.2 with
    | none=>rw[e2]at h;exact h.elim
    | some oi=>
      rw[e2]at h;obtain⟨i,h1,rfl⟩:=BP ht e2;intro v H' s q;have q':=q.look;rw[h1]at q';exact⟨i,aJ q',h H' s⟩
  | exc c=>rw[e]at h;exact h
  | stuck=>rw[e]at h;exact h
theorem tO.mono{o:Orc}{t:T}{C C':Option Int->Hp->Prop}(h:tO X W o t σ H C)(k:∀oi H',C oi H'->C' oi H'):tO X W o t σ H C':=by
 obtain⟨me,B,δ,S,h⟩:=h;refine⟨me,B,δ,S,?_⟩
 cases e:(ev o δ true t).bind (fun y=>R.of (bnd t y.2))with
 | ok oi=>rw[e]at h;exact fun H' s=>k _ _ (h H' s)
 | exc c=>rw[e]at h;exact h
 | stuck=>rw[e]at h;exact h
theorem Kv{o:Orc}{t:T}{g:Bool×D->R (Bool×D)}{g':Option Int->R (Bool×D)}(hg:∀r,g r=(R.of (bnd t r.2)).bind g')(S:SR X W me B H σ δ)(h:After X W lk σ H (Hid B σ δ) ((ev o δ true t).bind g) Q) :
 tO X W o t σ H fun oi H1=>SR X W me B H1 σ δ/\Same H H1/\After X W lk σ H1 (Hid B σ δ) (g' oi) Q:=by
 refine⟨me,B,δ,S,?_⟩
 cases e:ev o δ true t with
 | ok r=>
   rw[e]at h;have h:After X W lk σ H (Hid B σ δ) (g r) Q:=h;rw[hg]at h;show(match R.of (bnd t r.2)with | .ok oi=>∀H',Same H H'->SR X W me B H' σ δ/\Same H H'/\After X W lk σ H' (Hid B σ δ) (g' oi) Q | .exc c=>EW X W σ H c | .stuck=>False)
   cases e2:bnd t r.2 with
   | none=>rw[e2]at h;exact h.elim
   | some oi=>rw[e2]at h;exact fun H' s=>⟨S.mono s,s,After.mono h s⟩
 | exc c=>rw[e]at h;exact h
 | stuck=>rw[e]at h;exact h
theorem Reps.cut{G:Hp}{l:List D}{vs:List V}(h:Reps W G l vs)(p q:Nat):Reps W G (cut l p q) (cut vs p q):=(h.take q).drop p
theorem dh{P:Addr->Prop}{q:Addr}{l:List D}{xs:List V}(hn:H q=none)(h:Reps W (vis H P) l xs)(hP:∀a,P a->∃o,H a=some o):Res W P lk H (upd H q (.lst xs)) true (.lst l) (.ref q):=by
 unfold Res;rw[if_pos rfl];refine⟨q,rfl,hn,xs,bG,h.mono fun b o e=>?_⟩;obtain⟨e1,e2⟩:=bQ e;have hb:b≠q:=bH e1 hn
 refine bW (by rw[aV hb];exact e1) fun z=>?_
 rcases z with z | z
 ·exact e2 z
 ·exact hb z
theorem gK{P:Addr->Prop}{q:Addr}{l:List D}{xs:List V}(hn:H q=none)(h:Reps W (vis H P) l xs)(hP:∀a,P a->∃o,H a=some o):Res W P lk H (upd H q (.tup xs)) false (.tup l) (.ref q):=by
 refine .shared ?_;simp only[Rep]
 have nP:¬P q:=fun z=>by obtain⟨o,e⟩:=hP q z;rw[hn]at e;cases e
 refine⟨q,xs,rfl,.inl (.inl (bW bG nP)),h.mono fun b o e=>?_⟩;obtain⟨e1,e2⟩:=bQ e;exact bW (by rw[aV (bH e1 hn)];exact e1) e2
noncomputable def SemS(W:Wd)(r:V->Option Int->Option Int->Hp->VK->Prop)(g:D->Option Int->Option Int->Option (Bool×D)):Prop :=
 ∀(lk:Bool) (P:Addr->Prop) (H:Hp) (x:V) (dx:D) (lo hi:Option Int) (Q:VK) (w:Bool) (d:D),Soft H P->(∀a,P a->∃o,H a=some o)->RepT W H (vis H P) dx x->g dx lo hi=some (w,d) ->
  (∀v H',Same H H'->Res W P lk H H' w d v->Q v H')->r x lo hi H Q
theorem Cm{α β:Type}(x:Option α)(f:α->Option β):R.of (x.bind f)=(R.of x).bind fun a=>R.of (f a):=by cases x<;>rfl
theorem Mv{o:Orc}{tl th:T}{lo hi:Option Expr}{p2:Pos}{r:V->Option Int->Option Int->Hp->VK->Prop}{g:D->Option Int->Option Int->Option (Bool×D)}(hr:SlR X r)(hs:SemS W r g)(ha:PE X a (tD X W true fa))(hl:IsO tl lo X W o)(hh:IsO th hi X W o) :
 PE X (.Subscript a (.Slice lo hi none p2) pos) (tD X W lk fun δ=>(fa δ).bind fun x=>(ev o δ true tl).bind fun y=>(ev o δ true th).bind fun z=>.of ((bnd tl y.2).bind fun l=>(bnd th z.2).bind fun h=>g x.2 l h)):=by
 refine PE.imp (xP hr ha (d_po hl) (d_po hh)) fun σ H Q h=>?_
 obtain⟨me,B,δ,S,h⟩:=tD_iff.mp h
 refine tD.mono (part S h) fun v H1 ⟨r1,e1,S1,s1,t1,_,h1⟩=>?_
 refine⟨me,B,δ,S1,?_⟩
 cases e2:ev o δ true tl with
 | ok y=>
   rw[e2]at h1;have h1:After X W lk σ H1 (Hid B σ δ) ((ev o δ true th).bind fun z=>.of ((bnd tl y.2).bind fun l=>(bnd th z.2).bind fun h=>g r1.2 l h)) Q:=h1;show(match R.of (bnd tl y.2)with | .ok oi=>∀H',Same H1 H'->tO X W o th σ H' fun u H3=>r v oi u H3 Q | .exc c=>EW X W σ H1 c | .stuck=>False)
   cases e3:bnd tl y.2 with
   | none=>
     rw[e3]at h1
     cases e4:ev o δ true th with
     | ok z=>rw[e4]at h1;exact h1.elim
     | exc c=>rw[e4]at h1;exact h1.elim
     | stuck=>rw[e4]at h1;exact h1.elim
   | some l=>
     rw[e3]at h1;intro H2 s2;have h2:After X W lk σ H2 (Hid B σ δ) ((ev o δ true th).bind fun z=>.of ((bnd th z.2).bind fun h=>g r1.2 l h)) Q:=After.mono h1 s2
     refine tO.mono (Kv (g':=fun h=>R.of (g r1.2 l h)) (fun r=>Cm _ _) (S1.mono s2) h2) fun u H3 ⟨S3,s3,h3⟩=>?_
     cases e5:g r1.2 l u with
     | none=>rw[e5]at h3;exact h3.elim
     | some q=>
       rw[e5]at h3;exact hs lk (Hid B σ δ) H3 v r1.2 l u Q q.1 q.2 S3.softH S3.know (t1.mono (s2.trans s3) (aD (s2.trans s3))) e5 h3
 | exc c=>rw[e2]at h1;exact h1.elim
 | stuck=>rw[e2]at h1;exact h1.elim
noncomputable def rSlS:V->Option Int->Option Int->Hp->VK->Prop:=fun x lo hi H Q=>∃z:Str,x=.str z/\z.length<=sizeLine/\Q (.str (PySem.Txt.slice z lo hi)) H
theorem JM:SlR X rSlS:=by
 intro pins s σ H x v vl vu lo hi sl Q I rx hs pl pu h;obtain⟨z,rfl,hz,q⟩:=h;obtain⟨t,rfl⟩:=rx;refine⟨"str",_,PySem.F.slot_str_getitem.lookup,typeIs_str _ _ _,?_⟩
 cases pl with
 | none=>
   cases pu with
   | none=>exact wpAny_getItem_str_slice (l:=none) (u:=none) (st:=none) hs rfl (post_val_or_str ⟨Nat.le_trans (PySem.Txt.slice_le z none none) hz,fun t' k=>⟨.str (PySem.Txt.slice z none none),H,I.tok _,⟨t',rfl⟩,q⟩⟩)
   | int j tj=>exact wpAny_getItem_str_slice (l:=none) (u:=some (j,tj)) (st:=none) hs rfl (post_val_or_str ⟨Nat.le_trans (PySem.Txt.slice_le z none (some j)) hz,fun t' k=>⟨.str (PySem.Txt.slice z none (some j)),H,I.tok _,⟨t',rfl⟩,q⟩⟩)
 | int i ti=>
   cases pu with
   | none=>exact wpAny_getItem_str_slice (l:=some (i,ti)) (u:=none) (st:=none) hs rfl (post_val_or_str ⟨Nat.le_trans (PySem.Txt.slice_le z (some i) none) hz,fun t' k=>⟨.str (PySem.Txt.slice z (some i) none),H,I.tok _,⟨t',rfl⟩,q⟩⟩)
   | int j tj=>exact wpAny_getItem_str_slice (l:=some (i,ti)) (u:=some (j,tj)) (st:=none) hs rfl (post_val_or_str ⟨Nat.le_trans (PySem.Txt.slice_le z (some i) (some j)) hz,fun t' k=>⟨.str (PySem.Txt.slice z (some i) (some j)),H,I.tok _,⟨t',rfl⟩,q⟩⟩)
theorem ur(l u:Option Int)(n:Nat):Builtin.Str.strSliceIndices l u 1 n=(List.range (bY n u-dz n l)).map fun k=>dz n l+k:=by
 have cl:∀i:Int,max 0 (min (if i<0 then i+(n:Int)else i) (n:Int))=((clip n i:Nat):Int):=fun i=>by
  unfold clip
  by_cases h:i<0
  ·rw[if_pos h,if_neg (by omega)];omega
  ·rw[if_neg h,if_pos (by omega)];omega
 have e:Builtin.Str.strSliceIndices l u 1 n=sliceRange (dz n l:Int) (bY n u:Int) 1:=by
  unfold Builtin.Str.strSliceIndices;cases l<;>cases u<;>simp only[show(1:Int)>0 by decide,if_true,cl,dz,bY]<;>rfl
 rw[e];generalize dz n l=p;generalize bY n u=q;unfold sliceRange;simp only[show(1:Int)>0 by decide,if_true]
 by_cases h:(p:Int)<q
 ·have:(((q:Int)-p+1-1)/1).toNat=q-p:=by rw[Int.ediv_one];omega
  rw[if_pos h,this]
  exact List.map_congr_left fun k _=>by omega
 ·rw[if_neg h,show q-p=0 by omega];rfl
theorem su(x:List Nat)(l u:Option Int):PySem.Txt.slice (strV x) l u=strV (cut x (dz x.length l) (bY x.length u)):=by
 have hn:(strV x).length=x.length:=by simp[strV,Str.length]
 have hh:bY x.length u<=x.length:=by
  cases u with
  | none=>exact Nat.le_refl _
  | some i=>show clip x.length i<=x.length;unfold clip;split<;>omega
 unfold PySem.Txt.slice;rw[ur,hn,zQ];generalize dz x.length l=p;generalize bY x.length u=q at hh;split
 ·rename_i h
  simp only[BEq.rfl,Bool.true_and,beq_iff_eq,List.length_map,List.length_range]at h
  have hx:x.length=0\/(p=0/\q=x.length):=by omega
  rcases hx with hx | ⟨rfl,rfl⟩
  ·have:x=[]:=List.length_eq_zero_iff.mp hx
   subst this;simp
  ·simp
 ·congr 1
  by_cases hp:p<=q
  ·have:=PySem.StrLaws.picks x (q-p) p (by omega)
   simpa[strV]using congrArg List.toArray this
  ·rw[show q-p=0 by omega];simp
noncomputable def rSl(K:PySem.W.Frag):V->Option Int->Option Int->Hp->VK->Prop:=fun x lo hi H Q=>(rSlL K x lo hi H Q\/rSlT K x lo hi H Q)\/rSlS x lo hi H Q
theorem Ir:SlR X (rSl X.K):=SlR.or (SlR.or Bb Hv) JM
theorem zR(n:Nat)(o:Option Int):HT.sIx n 0 o=dz n o:=by cases o with | none=>rfl | some i=>exact wg n 0 i
theorem vH(n:Nat)(o:Option Int):HT.sIx n n o=bY n o:=by cases o with | none=>rfl | some i=>exact wg n n i
theorem sJ(xs:List V)(lo hi:Option Int):cutV xs lo hi=cut xs (dz xs.length lo) (bY xs.length hi):=by
 unfold cutV;rw[zR,vH,zQ]
theorem Ay(hk:W.K=X.K):SemS W (rSl X.K) slcD:=by
 intro lk P H x dx lo hi Q w d hS hK hx e k
 cases dx<;>first | exact nope e | exact cV e | simp only[slcD]at e
 ·cases e
  obtain⟨rfl,hl⟩:=aX hx;refine .inr ⟨strV _,rfl,by simpa[strV,Str.length,sizeLine_eq]using hl,?_⟩;rw[su];exact k _ _ (Same.refl _) (.shared (by simp only[Rep];exact⟨trivial,Nat.le_trans (by unfold cut;simp;omega) hl⟩))
 ·split at e
  ·cases e
  ·rename_i hne
   cases e;simp only[RepT,Rep]at hx;obtain⟨a,xs,rfl,q1,q2⟩:=hx;refine .inl (.inr ⟨a,xs,rfl,hk▸aK aO q1,?_,fun p hp=>?_⟩)
   ·rw[zR,vH,<-q2.length];exact hne
   ·rw[sJ,<-q2.length]
    exact k _ _ (Same.upd hp) (gK hp (q2.cut _ _) hK)
 ·cases e
  obtain⟨a,xs,rfl,q1,q2⟩:=hx;refine .inl (.inl ⟨a,xs,rfl,hk▸q1,fun p hp=>?_⟩);rw[sJ,<-q2.length];exact k _ _ (Same.upd hp) (dh hp (q2.cut _ _) hK)
noncomputable def cJ:Ty->Option String
 | .int=>some "int"
 | .bool=>some "bool"
 | .str=>some "str"
 | .tup=>some "tuple"
 | .lst=>some "list"
 | .dct=>some "dict"
 | _=>none
end
end Z
namespace Z
open PySem PySem.Spec PyProof.Rows L2
section
variable{X:Cx}{W:Wd}{lk lk':Bool}{σ:L2.St}{H H1 H':Hp}{me:Option Addr}{B:Addr->Prop}{δ:Dst}{Q Q':VK}{a b:Expr}{pos p:Pos}{fa fb fc:Dst->R (Bool×D)}
noncomputable def TyS(K:PySem.W.Frag)(H:Hp)(x:V)(t:String):Prop:=match x with
 | .non=>t="NoneType"
 | .bl _=>t="bool"
 | .int _=>t="int"
 | .str _=>t="str"
 | .ref a=>(t="list"/\∃xs,SqL K H a xs)\/(t="tuple"/\∃xs,SqT K H a xs)\/(t="dict"/\∃kvs,IsK H a kvs)
 | _=>False
theorem Ei:CallR X (.builtin "isinstance") (fun xs H Q=>∃x T t b,xs=[x,.ty T]/\TyS X.K H x t/\PySem.W.kitOne X.K (.type t) (.type T)=some b/\Q (.bl b) H):=by
 intro pins s σ H xs us Q I r h;obtain⟨x,T,t,b,rfl,ty,e,q⟩:=h
 cases r with
 | cons rx r2=>
   cases r2 with
   | cons rT r3=>
     cases r3;cases (show _=Value.type T from rT)
     have fin:∀tk,EP X pins σ Q (.bool b) { s with toks:=tk }:=fun tk=>⟨.bl b,H,I.tok _,rfl,q⟩
     cases x with
     | non=>cases (show _=Value.none from rx);cases (show t="NoneType" from ty);exact PySem.W.kia_one PySem.W.kitx_none I.kIn True.intro e (fun z=>nomatch z) fin
     | bl y=>cases (show _=Value.bool y from rx);cases (show t="bool" from ty);exact PySem.W.kia_one PySem.W.kitx_bool I.kIn True.intro e (fun z=>nomatch z) fin
     | int i=>obtain⟨tk,q⟩:=(show ∃t,_=Value.int i t from rx);cases q;cases (show t="int" from ty);exact PySem.W.kia_one PySem.W.kitx_int I.kIn True.intro e (fun z=>nomatch z) fin
     | str y=>obtain⟨tk,q⟩:=(show ∃t,_=Value.str y t from rx);cases q;cases (show t="str" from ty);exact PySem.W.kia_one PySem.W.kitx_str I.kIn True.intro e (fun z=>nomatch z) fin
     | ref a=>
       cases (show _=Value.ref a from rx);rcases(show(t="list"/\∃xs,SqL X.K H a xs)\/(t="tuple"/\∃xs,SqT X.K H a xs)\/(t="dict"/\∃kvs,IsK H a kvs)from ty)with⟨rfl,xs,h⟩ | ⟨rfl,xs,h⟩ | ⟨rfl,kvs,ep,h⟩
       ·obtain⟨its,_,pl,_⟩:=I.list h
        obtain⟨o,ho,hc,_⟩:=pl.isList;exact PySem.W.kia_one PySem.W.kitx_list I.kIn ⟨o,ho,hc⟩ e (fun z=>nomatch z) fin
       ·obtain⟨its,_,pl,_⟩:=I.tuple h
        obtain⟨o,ho,hc,_⟩:=pl;exact PySem.W.kia_one PySem.W.kitx_tuple I.kIn ⟨o,ho,hc⟩ e (fun z=>nomatch z) fin
       ·obtain⟨_,_,vs,_,p⟩:=(show ObjOk X.prog X.w H s.heap a (.dK kvs ep)from I.hok a _ h)
        obtain⟨o,es,h1,h2,_⟩:=p;exact PySem.W.kia_one PySem.W.kitx_dict I.kIn ⟨o,h1,h2.1⟩ e (fun z=>nomatch z) fin
     | _=>exact(show False from ty).elim
noncomputable def subB(t T:String):Bool:=t==T||(t=="bool"&&T=="int")
theorem Fj(K:PySem.W.Frag):∀t∈["NoneType","bool","int","str","list","tuple","dict"],∀T∈["int","bool","str","tuple","list","dict"],PySem.W.kitOne K (.type t) (.type T)=some (subB t T):=by
 intro t ht T hT;simp only[List.mem_cons,List.not_mem_nil,or_false]at ht hT;rcases ht with rfl | rfl | rfl | rfl | rfl | rfl | rfl<;>rcases hT with rfl | rfl | rfl | rfl | rfl | rfl<;>(with_unfolding_all rfl)
theorem J1{ty:Ty}{T:String}(h:cJ ty=some T):T∈["int","bool","str","tuple","list","dict"]:=by
 cases ty<;>simp[cJ]at h<;>subst h<;>simp
theorem J0{o:Orc}{ty:Ty}{T:String}{d:D}{b:Bool}{v:V}(hk:W.K=X.K)(hT:cJ ty=some T)(h:RepT W H (vis H B) d v)(e:isD o ty d=some b):∃t,TyS X.K H v t/\t∈["NoneType","bool","int","str","list","tuple","dict"]/\subB t T=b:=by
 cases d with
 | non=>
   simp only[RepT,Rep]at h;subst h;refine⟨"NoneType",rfl,by simp,?_⟩;cases ty<;>simp[cJ]at hT<;>subst hT<;>simp[isD]at e<;>subst e<;>rfl
 | bl x=>
   simp only[RepT,Rep]at h;subst h;refine⟨"bool",rfl,by simp,?_⟩;cases ty<;>simp[cJ]at hT<;>subst hT<;>simp[isD]at e<;>subst e<;>rfl
 | int x=>
   simp only[RepT,Rep]at h;subst h;refine⟨"int",rfl,by simp,?_⟩;cases ty<;>simp[cJ]at hT<;>subst hT<;>simp[isD]at e<;>subst e<;>rfl
 | str x=>
   obtain⟨rfl,_⟩:=aX h;refine⟨"str",rfl,by simp,?_⟩;cases ty<;>simp[cJ]at hT<;>subst hT<;>simp[isD]at e<;>subst e<;>rfl
 | tup l=>
   simp only[RepT,Rep]at h;obtain⟨a,xs,rfl,h1,h2⟩:=h;refine⟨"tuple",.inr (.inl ⟨rfl,xs,hk▸aK aO h1⟩),by simp,?_⟩;cases ty<;>simp[cJ]at hT<;>subst hT<;>simp[isD]at e<;>subst e<;>rfl
 | lst l=>
   obtain⟨a,xs,rfl,h1,h2⟩:=h;refine⟨"list",.inl ⟨rfl,xs,hk▸h1⟩,by simp,?_⟩;cases ty<;>simp[cJ]at hT<;>subst hT<;>simp[isD]at e<;>subst e<;>rfl
 | dct ks vs=>
   obtain⟨a,kvs,rfl,h1,h2⟩:=h;refine⟨"dict",.inr (.inr ⟨rfl,kvs,h1⟩),by simp,?_⟩;cases ty<;>simp[cJ]at hT<;>subst hT<;>simp[isD]at e<;>subst e<;>rfl
 | obj c ns vs=>cases ty<;>simp[cJ]at hT<;>simp[isD]at e
 | err c=>cases ty<;>simp[cJ]at hT<;>simp[isD]at e
theorem GX{o:Orc}{ty:Ty}{T:String}{tn:Str}{p2:Pos}(hk:W.K=X.K)(hT:cJ ty=some T)(hg:Gl X "isinstance")(hm:X.mg "isinstance"=none)(hg2:Gl X tn)(hm2:X.mg tn=none)(hv2:bootBuiltins tn=some (.type T))(hx2:tn≠"__name__")(hd2:(tn==("__debug__":Str))=false)
 (ha:PE X a (tD X W true fa)) (he:starEach [a,.Name tn p2] X.env=(false,eval a X.env)::starEach [.Name tn p2] X.env) :
 PE X (.Call (.Name "isinstance" p) [a,.Name tn p2] [] pos) (tD X W lk fun δ=>(fa δ).bind fun x=>.of ((isD o ty x.2).map fun t=>(false,.bl t))):=by
 refine PE.imp (fu Ei hg hm PyProof.Rows.boot_isinstance (bF ha (bF (Ex (v:=.ty T) hg2 hm2 hv2 rfl hx2 hd2) cR) he) (by decide) (by decide) he rfl) fun σ H Q h=>?_
 obtain⟨me,B,δ,S,h⟩:=tD_iff.mp h
 refine tD.mono (part S h) fun v H1 ⟨r1,e1,S1,s1,t1,_,h1⟩=>?_
 cases e:isD o ty r1.2 with
 | none=>rw[e]at h1;exact h1.elim
 | some b=>
   rw[e]at h1;obtain⟨t,h2,h3,h4⟩:=J0 hk hT t1 e;exact⟨v,T,t,b,rfl,h2,by rw[Fj _ t h3 T (J1 hT),h4],h1 _ H1 (Same.refl _) bA⟩
noncomputable def TgOk(X:Cx)(W:Wd)(tg:Expr)(is:List Nat)(tup:Bool)(g:TG):Prop:=PG X tg g /\
 ∀{me:Option Addr} {B:Addr->Prop} {σ:L2.St} {H:Hp} {δ δ1:Dst} {d:D} {ds:List D} {v:V} {C:L2.St->Hp->Prop},SR X W me B H σ δ->Rep W (vis H (Hid B σ δ)) d v->takes is.length tup d=some ds->aR δ is ds=some δ1 ->
  (∀σ1,SR X W me B H σ1 δ1->Same (vis H (Hid B σ δ)) (vis H (Hid B σ1 δ1))->C σ1 H)->g v σ H C
theorem uc{i:Nat}{d:D}{v:V}{δ1:Dst}(S:SR X W me B H σ δ)(r:Rep W (vis H (Hid B σ δ)) d v)(e:setSlot δ i false d=some δ1):SR X W me B H (σ.set i (some v)) δ1/\Same (vis H (Hid B σ δ)) (vis H (Hid B (σ.set i (some v)) δ1)):=by
 obtain⟨h1,rfl⟩:=gh e;exact S.store (w:=false) (Same.refl H) (.shared r) h1
theorem Dz{i:Nat}{x:Str}{pos:Pos}(hN:X.N.Nodup)(hi:X.N[i]?=some x)(hx:Loc X.env.scope x)(hf:X.fn x=true\/X.env.scope.names.lookup x=some .local):TgOk X W (.Name x pos) [i] false (qY i):=by
 refine⟨jK hN hi hx hf,fun{me B σ H δ δ1 d ds v C} S r e1 e2 k=>?_⟩;simp only[takes,Bool.false_eq_true,if_false,Option.some.injEq]at e1;subst e1;simp only[aR]at e2
 cases e3:setSlot δ i false d with
 | none=>rw[e3]at e2;cases e2
 | some δ'=>
   rw[e3]at e2;cases e2;obtain⟨S1,s1⟩:=uc S r e3;exact k _ S1 s1
noncomputable def dX:List Nat->TGs
 | []=>gNil
 | i::l=>Ge (qY i) (dX l)
theorem eU{C:L2.St->Hp->Prop}:∀{is:List Nat} {ds:List D} {vs:List V} {σ:L2.St} {δ δ1:Dst},SR X W me B H σ δ->Reps W (vis H (Hid B σ δ)) ds vs->aR δ is ds=some δ1 ->
 (∀σ1,SR X W me B H σ1 δ1->Same (vis H (Hid B σ δ)) (vis H (Hid B σ1 δ1))->C σ1 H)->dX is vs σ H C
 | [],[],[],σ,δ,δ1,S,r,e,k=>by
   simp only[aR,Option.some.injEq]at e;subst e;exact⟨rfl,k σ S (Same.refl _)⟩
 | [],[],_::_,_,_,_,_,r,_,_=>by simp only[Reps]at r
 | [],_::_,_,_,_,_,_,_,e,_=>by simp[aR]at e
 | _::_,[],_,_,_,_,_,_,e,_=>by simp[aR]at e
 | _::_,_::_,[],_,_,_,_,r,_,_=>by simp only[Reps]at r
 | i::is,d::ds,v::vs,σ,δ,δ1,S,r,e,k=>by
   simp only[Reps]at r;simp only[aR]at e
   cases e3:setSlot δ i false d with
   | none=>rw[e3]at e;cases e
   | some δ'=>
     rw[e3]at e;obtain⟨S1,s1⟩:=uc S r.1 e3;exact⟨v,vs,rfl,eU S1 (r.2.mono s1) e fun σ1 S2 s2=>k σ1 S2 (s1.trans s2)⟩
theorem Ii{es:List Expr}{is:List Nat}{kk:Nat}{pos:Pos}(hk:W.K=X.K)(hc:X.calm=true)(h:PGs X es (dX is))(hn:(assignEach es X.env).length=is.length)(hst:(assignEach es X.env).findIdx? (·.1)=none):TgOk X W (.Tuple es kk pos) is true (gTup X.K is.length (dX is)):=by
 refine⟨zg hc h hn hst,fun{me B σ H δ δ1 d ds v C} S r e1 e2 k=>?_⟩;simp only[takes,if_true]at e1
 cases d with
 | tup l=>
   simp only at e1;split at e1
   ·rename_i hl
    cases e1;simp only[Rep]at r;obtain⟨a,xs,rfl,r1,r2⟩:=r;exact⟨a,xs,rfl,hk▸aK aO r1,by rw[<-r2.length];exact hl,eU S r2 e2 k⟩
   ·cases e1
 | _=>simp at e1
theorem PI.or{tg e:Expr}{t t':L2.TI}(h:PI X tg e t)(h':PI X tg e t'):PI X tg e (fun σ H R=>t σ H R\/t' σ H R):=by
 intro pins s σ H R I q;rcases q with q | q
 ·exact h pins s σ H R I q
 ·exact h' pins s σ H R I q
theorem PI.imp{tg e:Expr}{t t':L2.TI}(h:PI X tg e t)(i:∀σ H R,t' σ H R->t σ H R):PI X tg e t':=fun pins s σ H R I hw=>h pins s σ H R I (i σ H R hw)
noncomputable def gB(ds:List D)(n:Nat):Dst:=ds.map (fun d=>some (Own.sh,d))++List.replicate n none
theorem cX{ds:List D}{n i:Nat}{w:Own}{d:D}(h:(gB ds n)[i]?=some (some (w,d))):w=.sh/\ds[i]?=some d:=by
 unfold gB at h
 by_cases hi:i<ds.length
 ·rw[List.getElem?_append_left (by simpa using hi),List.getElem?_map]at h
  cases e:ds[i]? with
  | none=>rw[e]at h;cases h
  | some x=>rw[e]at h;cases h;exact⟨rfl,rfl⟩
 ·rw[List.getElem?_append_right (by simpa using hi),List.getElem?_replicate]at h
  split at h<;>cases h
theorem uX{N:List Str}{vs:List V}{i:Nat}{v:V}(h:vs[i]?=some v):(L2.start N vs)[i]?=some (some v):=by
 unfold L2.start;have hi:i<vs.length:=(List.getElem?_eq_some_iff.mp h).1;rw[List.getElem?_append_left (by simpa using hi),List.getElem?_map,h]
 rfl
theorem SR.start{N:List Str}{ds:List D}{vs:List V}(hk:W.K=X.K)(h0:X.H₀=H)(hb:Soft H B)(hg:∀b,B b->∃o,H b=some o)(hr:Reps W (vis H B) ds vs)(hl:vs.length<=N.length) :
 SR X W none B H (L2.start N vs) (gB ds (N.length-vs.length)):=by
 have hid:∀b,Hid B (L2.start N vs) (gB ds (N.length-vs.length)) b->B b:=fun b hb=>by
  rcases hb with hb | ⟨i,⟨w,d,h1,h2⟩,_⟩
  ·exact hb
  ·exact absurd (cX h1).1 h2
 refine⟨hk,?_,fun i d h=>?_,fun i d h=>?_,fun i d h=>?_,fun i j a h1 _=>?_,fun b o h _=>by rw[<-h0];exact h,hb,hg,fun x h=>nomatch h⟩
 ·unfold L2.start gB
  simp[hr.length]
 ·obtain⟨v,e1,e2⟩:=hr.get (cX h).2
  exact⟨v,uX e1,e2.mono (aQ hid)⟩
 ·exact absurd (cX h).1 (by decide)
 ·exact absurd (cX h).1 (by decide)
 ·obtain⟨⟨w,d,h1,h2⟩,_⟩:=h1
  exact absurd (cX h1).1 h2
theorem xN{P:Program}{w:World}{K:PySem.W.Frag}{mg:Str->Option Value}{base:Heap}{x qual:Str}{st:Stmt}{f:Addr}{fd:FuncData}{N ps:List Str}{k:Nat}{o:Orc}{W:Wd}{np ns:Nat}{body:SL}
 (F:Fun K x qual st f fd) (Sc:FnScope N ps (aq st)) (hp:ps.length=np) (hn:N.length=ns)
 (hb:∀(cdv:Value) (A:Around) (outer:List Env) (s:Shared) (H:Hp) (E:XK),Room k (A.deeper (envOfC qual (aq st) s.heap.objs.size f cdv)) ->
  PSs (cxOf CX0 P w K mg base N qual (aq st) f cdv A outer s H E).nox (aM st) (tS (cxOf CX0 P w K mg base N qual (aq st) f cdv A outer s H E).nox W (evSs o body))) (hk:W.K=K) :
 FnOk P w K mg base CX0 (k+1) f fd ps (spFn W (dB o ⟨np,ns,body⟩) np):=by
 refine F.ok Sc (fun vs H Q E h=>by rw[hp];exact h.1) (fun cdv A outer s H vs Q E hr h=>?_);obtain⟨hl,B,ds,b1,b2,b3,r,e,k1⟩:=h;refine⟨_,hb cdv A outer s H E hr,?_⟩
 have hle:vs.length<=N.length:=by
  have:=congrArg List.length Sc.pre;rw[List.length_take]at this;omega
 refine⟨none,B,_,SR.start (N:=N) (by exact hk) rfl b1 b2 b3 hle,?_⟩;have hdl:=b3.length
 have e':(match evSs o body (gB ds (N.length-vs.length))with | .rt w d _=>R.ok (w,d) | .nx _=>.ok (false,.non) | .ex c _=>.exc c | _=>.stuck)=R.ok r:=by
  unfold dB at e;rw[if_pos (by rw[hdl];exact hl)]at e;unfold gB;rw[hn,hl];exact e
 have same:∀{σ':L2.St} {H':Hp} {δ':Dst},SR (cxOf CX0 P w K mg base N qual (aq st) f cdv A outer s H E).nox W none B H' σ' δ'->Same H H':=fun S' b o h=>S'.same b o h (by simp)
 cases e2:evSs o body (gB ds (N.length-vs.length))with
 | rt w d δ'=>
   rw[e2]at e';cases e'
   exact fun v σ' H' S' _ q=>k1 v H' (same S') q
 | nx δ'=>
   rw[e2]at e';cases e'
   exact fun σ' H' S' _=>k1 .non H' (same S') (.shared (by simp only[Rep]))
 | bk δ'=>rw[e2]at e';cases e'
 | ct δ'=>rw[e2]at e';cases e'
 | ex c δ'=>rw[e2]at e';cases e'
 | stuck=>rw[e2]at e';cases e'
end
end Z
namespace Z
open PySem PySem.Spec PyProof.Rows L2
section
variable{X:Cx}{W:Wd}{me:Option Addr}{B:Addr->Prop}{H H':Hp}{σ:L2.St}{δ:Dst}{E:Value->Shared->Prop}{s s':Shared}{cls:Value}{a:Addr}{tr:Bool}
theorem SR.wish(S:SR X W me B H σ δ):SR (X.wish E) W me B H σ δ:=⟨S.kf,S.len,S.sh,S.ow,S.mi,S.apart,S.same,S.soft,S.gone,S.live⟩
theorem SR.unwish(S:SR (X.wish E) W me B H σ δ):SR X W me B H σ δ:=⟨S.kf,S.len,S.sh,S.ow,S.mi,S.apart,S.same,S.soft,S.gone,S.live⟩
theorem PE.lift{e:Expr}{lk:Bool}{f:Dst->R (Bool×D)}(h:PE X.nox e (tD X.nox W lk f)):PE X e (tD X W lk f):=PE.imp (PE.nox h) fun σ H Q q=>by
 obtain⟨me,B,δ,S,q⟩:=tD_iff.mp q;exact tD_iff.mpr ⟨me,B,δ,S.wish,q⟩
theorem PT.lift{e:Expr}{f:Dst->R (Bool×D)}(h:PT X.nox e (tT X.nox W f)):PT X e (tT X W f):=PT.imp (PT.nox h) fun σ H Q ⟨me,B,δ,S,q⟩=>⟨me,B,δ,S.wish,q⟩
theorem PS.lift{st:Stmt}{g:Dst->SO}(h:PS X.nox st (tS X.nox W g))(hn:∀δ c δ',g δ≠.ex c δ'):PS X st (tS X W g):=by
 intro pins s σ H D I ⟨me,B,δ,S,q⟩
 refine wpAny_mono (h pins s σ H D (I.wish _) ⟨me,B,δ,S.wish,?_⟩) (fun _ _ q=>q.unwish) fun _ _ z=>False.elim z
 cases e:g δ with
 | nx δ1=>rw[e]at q;exact fun σ H S z=>q σ H S.unwish z
 | bk δ1=>rw[e]at q;exact fun σ H S z=>q σ H S.unwish z
 | ct δ1=>rw[e]at q;exact fun σ H S z=>q σ H S.unwish z
 | rt w d δ1=>rw[e]at q;exact fun v σ H S z=>q v σ H S.unwish z
 | ex c δ1=>exact absurd e (hn δ c δ1)
 | stuck=>rw[e]at q;exact q
end
end Z
namespace Z
open PySem PySem.Spec PyProof.Rows L2
variable{W:Wd}{X:Cx}
theorem ju{G:Hp}:∀{ks:List DK} {vs:List D} {kvs:List (Key×V)} {x:DK} {d:D},kvs.map (·.1)=ks.map keyV->Reps W G vs (kvs.map (·.2))->look ks vs x=some d->∃v,valV kvs (keyV x)=some v/\Rep W G d v
 | [],_,_,_,_,_,_,h=>by simp[look]at h
 | _::_,[],_,_,_,_,_,h=>by simp[look]at h
 | k::ks,d'::vs,[],_,_,e,_,_=>by simp at e
 | k::ks,d'::vs,(k',v')::kvs,x,d,e,r,h=>by
   simp only[List.map_cons,List.cons.injEq]at e;simp only[List.map_cons,Reps]at r;obtain⟨e1,e2⟩:=e;subst e1;simp only[look]at h
   by_cases hk:k=x
   ·subst hk
    rw[if_pos rfl]at h;cases h;exact⟨v',by simp[valV],r.1⟩
   ·rw[if_neg hk]at h
    obtain⟨v,h1,h2⟩:=ju e2 r.2 h;refine⟨v,?_,h2⟩
    have:¬keyV k=keyV x:=fun z=>hk (fH z)
    simp only[valV]at h1 ⊢;rw[List.find?_cons_of_neg (by simp[this])];exact h1
theorem kO{G:Hp}:∀{ks:List DK} {vs:List D} {kvs:List (Key×V)} {x:DK},kvs.map (·.1)=ks.map keyV->Reps W G vs (kvs.map (·.2))->look ks vs x=none->valV kvs (keyV x)=none
 | [],_,[],_,_,_,_=>rfl
 | [],_,_::_,_,e,_,_=>by simp at e
 | _::_,_,[],_,e,_,_=>by simp at e
 | _::_,[],_::_,_,_,r,_=>by simp only[List.map_cons,Reps]at r
 | k::ks,d'::vs,(k',v')::kvs,x,e,r,h=>by
   simp only[List.map_cons,List.cons.injEq]at e;simp only[List.map_cons,Reps]at r;obtain⟨e1,e2⟩:=e;subst e1;simp only[look]at h
   by_cases hk:k=x
   ·subst hk;rw[if_pos rfl]at h;cases h
   ·rw[if_neg hk]at h
    have:=kO e2 r.2 h
    have hne:¬keyV k=keyV x:=fun z=>hk (fH z)
    simp only[valV]at this ⊢;rw[List.find?_cons_of_neg (by simp[hne])];exact this
end Z
namespace Z
open PySem PySem.Spec PyProof.Rows L2
section
variable{X:Cx}{W:Wd}{lk lk':Bool}{σ:L2.St}{H H1 H':Hp}{me:Option Addr}{B:Addr->Prop}{δ:Dst}{Q Q':VK}{a b:Expr}{pos p:Pos}{fa fb fc:Dst->R (Bool×D)}
section
open PySem.SeqAt
open PySem.AutoSeq1 (wpAny_loadPart')
open MeetsSeq
theorem list_addW(l b:Addr)(items items2:Array Value)(n n2:Nat)(dd dd2:Option Addr)(sl sl2:Array (Option Value))(hc0:items.size+items2.size<=sizeLine) :
 Meets (Builtin.«list.__add__» ⟨[.ref l,.ref b],[]⟩) (fun _ R s=>s.heap.get? l=some { cls:=.type "list",dict:=dd,data:=.seq items n,slots:=sl }/\s.heap.get? b=some { cls:=.type "list",dict:=dd2,data:=.seq items2 n2,slots:=sl2 } /\
  R (.ok (.ret (Value.ref s.heap.objs.size))) { s with heap:=s.heap.push { cls:=Value.type "list",data:=Data.seq (items++items2) } }) :=
 .of_wp fun prog w A R s h=>by
  obtain⟨hp,g,d,tk,os⟩:=s;obtain⟨hl,hb,h⟩:=h;have f1:=PySem.AutoSeq1.idx_int;have f2:=PySem.AutoSeq1.sub_tuple_tuple;have f3:=PySem.AutoSeq1.sub_list_list;have f4:=PySem.AutoSeq1.sub_tuple_list;have f5:=PySem.AutoSeq1.sub_list_tuple
  wp_walk using wpAny_loadPart' hl,wpAny_loadPart' hb;exact⟨_,rfl,h⟩
end
noncomputable def G3(K:PySem.W.Frag):R2:=fun x y H Q=>∃l b xs zs,x=.ref l/\y=.ref b/\SqL K H l xs/\SqL K H b zs/\xs.length+zs.length<=sizeLine/\∀p,H p=none->Q (.ref p) (upd H p (.lst (xs++zs)))
theorem BZ:OpR X (binaryOp .Add) (G3 X.K):=by
 intro pins s σ H x y v u Q I rx ry h;obtain⟨l,b,xs,zs,rfl,rfl,hH,hB,hz,q⟩:=h;cases rx;cases ry;obtain⟨its,r,⟨⟨cls,dd,data,sl⟩,n,ho,hc,_,hd⟩,z⟩:=I.list hH;obtain⟨its2,r2,⟨⟨cls2,dd2,data2,sl2⟩,n2,ho2,hc2,_,hd2⟩,z2⟩:=I.list hB;simp only at hc hd hc2 hd2;subst hc hd hc2 hd2;have l1:=r.length;have l2:=r2.length
 have ea:its.toArray++its2.toArray=(its++its2).toArray:=by simp
 refine concat_meets ⟨_,ho,rfl⟩ ⟨_,ho2,rfl⟩ noFill_list_add seq_list_add PySem.F.slot_list_add PySem.F.entry_list_add (PySem.F.args_list_add_2 _ _) (list_addW l b its.toArray its2.toArray n n2 dd dd2 sl sl2 (by rw[List.size_toArray,List.size_toArray];omega)) ⟨ho,ho2,?_⟩;rw[ea];exact⟨.ref _,_,I.lnew (t':=s.toks) (r.append r2) (by rw[List.length_append];omega),rfl,q _ I.fresh⟩
noncomputable def zu(K:PySem.W.Frag):R2:=fun x y H Q=>∃a b ys,x=.ref a/\y=.ref b/\SqT K H a []/\SqT K H b ys/\Q (.ref b) H
theorem wU:OpR X (binaryOp .Add) (zu X.K):=by
 intro pins s σ H x y v u Q I rx ry h;obtain⟨a,b,ys,rfl,rfl,ha,hb,q⟩:=h;cases rx;cases ry;obtain⟨its,r1,p1,_⟩:=I.tuple ha;obtain⟨its2,r2,p2,_⟩:=I.tuple hb;cases r1;obtain⟨⟨cls,dd,data,sl⟩,ho,hc,n,hd⟩:=id p1;obtain⟨⟨cls2,dd2,data2,sl2⟩,ho2,hc2,n2,hd2⟩:=id p2;simp only at hc hd hc2 hd2;subst hc hd hc2 hd2
 exact concat_meets ⟨_,ho,rfl⟩ ⟨_,ho2,rfl⟩ noFill_tuple_add seq_tuple_add PySem.F.slot_tuple_add PySem.F.entry_tuple_add (PySem.F.args_tuple_add_2 _ _)
  (tuple_addW0 a b _ its2.toArray n n2 dd dd2 sl sl2 (by simp)) ⟨ho,ho2,⟨.ref b,H,I,rfl,q⟩⟩
noncomputable def w5(K:PySem.W.Frag):R2:=fun x y H Q=>(((rI0 (fun i j=>.int (i+j)) x y H Q\/(∃i j,x=.str i/\y=.str j/\i.length+j.length<=sizeLine/\Q (.str (i++j)) H))\/G3 K x y H Q)\/Ft K x y H Q)\/zu K x y H Q
theorem vI:OpR X (binaryOp .Add) (w5 X.K):=OpR.or (OpR.or (OpR.or (OpR.or HX rB) BZ) DN) wU
theorem dC{n:Nat}(h:size n=true):n<=sizeLine:=by rw[sizeLine_eq];simpa[size]using h
theorem nu(x y:List Nat):strV x++strV y=strV (x++y):=by
 show(⟨(strV x).cps++(strV y).cps⟩:Str)=_;simp[strV]
theorem qe(x:List Nat):(strV x).length=x.length:=by simp[strV,Str.length]
theorem CJ(hk:W.K=X.K):Sem2 W (w5 X.K) (o2 .add):=by
 intro lk P H x y dx dy Q w d hS hK hx hy e k
 cases dx<;>cases dy<;>first | exact nope e | exact cV e | simp only[o2]at e
 ·simp only[arith]at e
  cases e;exact .inl (.inl (.inl (.inl ⟨_,_,aJ hx,aJ hy,k _ H (Same.refl H) cL⟩)))
 ·obtain⟨h1,e⟩:=gA e
  cases e;obtain⟨rfl,l1⟩:=aX hx;obtain⟨rfl,l2⟩:=aX hy;refine .inl (.inl (.inl (.inr ⟨_,_,rfl,rfl,by rw[qe,qe];exact dC h1,?_⟩)));rw[nu];exact k _ H (Same.refl H) (vW (by rw[List.length_append];simpa[size]using h1))
 ·obtain⟨h1,e⟩:=gA e
  cases e;simp only[RepT,Rep]at hx hy;obtain⟨a,xs,rfl,q1,q2⟩:=hx;obtain⟨b,ys,rfl,p1,p2⟩:=hy
  have hz:xs.length+ys.length<=sizeLine:=by rw[<-q2.length,<-p2.length];exact dC h1
  by_cases hx:xs=[]
  ·subst hx
   have hl:_=[]:=List.eq_nil_of_length_eq_zero q2.length;refine .inr ⟨a,b,ys,rfl,rfl,hk▸aK aO q1,hk▸aK aO p1,k _ H (Same.refl H) (.shared ?_)⟩;simp only[Rep];rw[hl];exact⟨b,ys,rfl,p1,p2⟩
  ·refine .inl (.inr ⟨a,b,xs,ys,rfl,rfl,hk▸aK aO q1,hk▸aK aO p1,hx,hz,fun hy=>?_,fun _ p hp=>?_⟩)
   ·subst hy
    have hl:_=[]:=List.eq_nil_of_length_eq_zero p2.length;refine k _ H (Same.refl H) (.shared ?_);simp only[Rep];rw[hl,List.append_nil];exact⟨a,xs,rfl,q1,q2⟩
   ·exact k _ _ (Same.upd hp) (gK hp (q2.append p2) hK)
 ·obtain⟨h1,e⟩:=gA e
  cases e;obtain⟨a,xs,rfl,q1,q2⟩:=hx;obtain⟨b,ys,rfl,p1,p2⟩:=hy;refine .inl (.inl (.inr ⟨a,b,xs,ys,rfl,rfl,hk▸q1,hk▸p1,by rw[<-q2.length,<-p2.length];exact dC h1,fun p hp=>?_⟩));exact k _ _ (Same.upd hp) (dh hp (q2.append p2) hK)
theorem sO{dx dy:D}{x y:V}{G:Hp}{t:Bool}(hx:RepT W H G dx x)(hy:RepT W H G dy y)(e:eqS dx dy=some t):scal x y=true/\decide (x=y)=t:=by
 cases dx<;>cases dy<;>first | exact nope e | exact cV e | simp only[eqS]at e
 all_goals simp only[Option.some.injEq]at e
 all_goals (first | (have hx:=(aX hx).1) | (simp only[RepT,Rep]at hx))
 all_goals (first | (have hy:=(aX hy).1) | (simp only[RepT,Rep]at hy))
 all_goals subst hx
 all_goals subst hy
 all_goals (refine⟨rfl,?_⟩;rw[<-e])
 all_goals first
  | simp
  | skip
 all_goals exact⟨fun h=>dI h,fun h=>by rw[h]⟩
mutual
noncomputable def pd:D->PyData
 | .non=>.none
 | .bl b=>.bool b
 | .int i=>.int i
 | .str x=>.str (strV x)
 | .tup l=>.tuple (pdL l)
 | .lst l=>.list (pdL l)
 | .dct _ _=>.none
 | .obj _ _ _=>.none
 | .err _=>.none
noncomputable def pdL:List D->List PyData
 | []=>[]
 | d::l=>pd d::pdL l
end
theorem gQ{n:Nat}{l:List D}(h:okD n (.lst l)=true):∃m,n=m+1/\l.all (okD m)=true:=by
 cases n with
 | zero=>simp[okD]at h
 | succ m=>exact⟨m,rfl,by simpa only[okD]using h⟩
theorem jM{n:Nat}{l:List D}(h:okD n (.tup l)=true):∃m,n=m+1/\l.all (okD m)=true:=by
 cases n with
 | zero=>simp[okD]at h
 | succ m=>exact⟨m,rfl,by simpa only[okD]using h⟩
mutual
theorem Hi:∀{d:D} {n:Nat},okD n d=true->(pd d).canLay0=true/\(pd d).depth<=n
 | .non,_,_=>⟨rfl,Nat.zero_le _⟩
 | .bl _,_,_=>⟨rfl,Nat.zero_le _⟩
 | .int _,_,_=>⟨rfl,Nat.zero_le _⟩
 | .str x,n,h=>by
   refine⟨?_,Nat.zero_le _⟩
   have h:(x.all fun c=>decide (c<1114112))=true:=by cases n<;>simpa only[okD]using h
   simp only[pd,PyData.canLay0,PyData.strOk,strV];simpa using h
 | .tup l,n,h=>by
   obtain⟨m,rfl,h⟩:=jM h;obtain⟨h1,h2⟩:=uC h;simp only[pd,PyData.canLay0,PyData.depth];exact⟨h1,by omega⟩
 | .lst l,n,h=>by
   obtain⟨m,rfl,h⟩:=gQ h;obtain⟨h1,h2⟩:=uC h;simp only[pd,PyData.canLay0,PyData.depth];exact⟨h1,by omega⟩
 | .dct _ _,n,h=>by cases n<;>simp[okD]at h
 | .obj _ _ _,n,h=>by cases n<;>simp[okD]at h
 | .err _,n,h=>by cases n<;>simp[okD]at h
theorem uC:∀{l:List D} {n:Nat},l.all (okD n)=true->PyData.canLayAll0 (pdL l)=true/\PyData.depthAll (pdL l)<=n
 | [],_,_=>⟨rfl,Nat.zero_le _⟩
 | d::l,n,h=>by
   rw[List.all_cons,Bool.and_eq_true]at h;obtain⟨h1,h2⟩:=Hi h.1;obtain⟨h3,h4⟩:=uC h.2;simp only[pdL,PyData.canLayAll0,PyData.depthAll,h1,h3,Bool.and_self,true_and];omega
end
mutual
theorem Dp:∀{a b:D} {n m:Nat},okD n a=true->okD m b=true->PyData.eqv (pd a) (pd b)=eqB a b
 | .non,b,_,m,_,hb=>by cases b<;>cases m<;>first | rfl | (simp[okD]at hb)
 | .bl _,b,_,m,_,hb=>by cases b<;>cases m<;>first | rfl | (simp[okD]at hb)
 | .int _,b,_,m,_,hb=>by cases b<;>cases m<;>first | rfl | (simp[okD]at hb)
 | .str x,.str y,_,_,_,_=>by
   simp only[pd,PyData.eqv,eqB];rw[Bool.eq_iff_iff];simp only[beq_iff_eq];exact⟨fun z=>dI z,fun z=>by rw[z]⟩
 | .str _,.non,_,_,_,_=>rfl
 | .str _,.bl _,_,_,_,_=>rfl
 | .str _,.int _,_,_,_,_=>rfl
 | .str _,.tup _,_,_,_,_=>rfl
 | .str _,.lst _,_,_,_,_=>rfl
 | .tup x,.tup y,n,m,ha,hb=>by
   obtain⟨_,rfl,ha⟩:=jM ha;obtain⟨_,rfl,hb⟩:=jM hb;simp only[pd,PyData.eqv,eqB,uV ha hb]
 | .tup _,.non,_,_,_,_=>rfl
 | .tup _,.bl _,_,_,_,_=>rfl
 | .tup _,.int _,_,_,_,_=>rfl
 | .tup _,.str _,_,_,_,_=>rfl
 | .tup _,.lst _,_,_,_,_=>rfl
 | .lst x,.lst y,n,m,ha,hb=>by
   obtain⟨_,rfl,ha⟩:=gQ ha;obtain⟨_,rfl,hb⟩:=gQ hb;simp only[pd,PyData.eqv,eqB,uV ha hb]
 | .lst _,.non,_,_,_,_=>rfl
 | .lst _,.bl _,_,_,_,_=>rfl
 | .lst _,.int _,_,_,_,_=>rfl
 | .lst _,.str _,_,_,_,_=>rfl
 | .lst _,.tup _,_,_,_,_=>rfl
 | .dct _ _,_,n,_,ha,_=>by cases n<;>simp[okD]at ha
 | .obj _ _ _,_,n,_,ha,_=>by cases n<;>simp[okD]at ha
 | .err _,_,n,_,ha,_=>by cases n<;>simp[okD]at ha
 | _,.dct _ _,_,m,_,hb=>by cases m<;>simp[okD]at hb
 | _,.obj _ _ _,_,m,_,hb=>by cases m<;>simp[okD]at hb
 | _,.err _,_,m,_,hb=>by cases m<;>simp[okD]at hb
theorem uV:∀{a b:List D} {n m:Nat},a.all (okD n)=true->b.all (okD m)=true->PyData.eqvAll (pdL a) (pdL b)=eqBs a b
 | [],[],_,_,_,_=>rfl
 | [],_::_,_,_,_,_=>rfl
 | _::_,[],_,_,_,_=>rfl
 | x::a,y::b,n,m,ha,hb=>by
   rw[List.all_cons,Bool.and_eq_true]at ha hb;simp only[pdL,PyData.eqvAll,eqBs,Dp ha.1 hb.1,uV ha.2 hb.2]
end
mutual
theorem cW{pins:List (Addr×Obj)}{s:Shared}{G:Hp}(hk:W.K=X.K)(I:Inv X pins σ H s)(g:Same G H):∀{d:D} {n:Nat} {v:V} {u:Value},okD n d=true->Rep W G d v->RelV v u->∃as,Reads s.heap u (pd d) as
 | .non,_,v,u,_,r,q=>by simp only[Rep]at r;subst r;cases q;exact⟨_,.none⟩
 | .bl b,_,v,u,_,r,q=>by simp only[Rep]at r;subst r;cases q;exact⟨_,.bool b⟩
 | .int i,_,v,u,_,r,q=>by simp only[Rep]at r;subst r;obtain⟨t,rfl⟩:=q;exact⟨_,.int i t⟩
 | .str x,_,v,u,_,r,q=>by simp only[Rep]at r;rw[r.1]at q;obtain⟨t,rfl⟩:=q;exact⟨_,.str _ t⟩
 | .tup l,n,v,u,h,r,q=>by
   obtain⟨m,rfl,h⟩:=jM h;simp only[Rep]at r;obtain⟨c,xs,rfl,r1,r2⟩:=r;cases q;obtain⟨its,rv,⟨ob,e1,e2,e3,e4⟩,_⟩:=I.tuple (hk▸aK g r1);obtain⟨as,ra⟩:=dU hk I g h r2 rv;exact⟨_,.tuple e1 e2 e4 ra⟩
 | .lst l,n,v,u,h,r,q=>by
   obtain⟨m,rfl,h⟩:=gQ h;simp only[Rep]at r;obtain⟨c,xs,rfl,r1,r2⟩:=r;cases q;obtain⟨its,rv,⟨ob,e3,e1,e2,_,e4⟩,_⟩:=I.list (hk▸g.seq r1);obtain⟨as,ra⟩:=dU hk I g h r2 rv;exact⟨_,.list e1 e2 e4 ra⟩
 | .dct _ _,n,_,_,h,_,_=>by cases n<;>simp[okD]at h
 | .obj _ _ _,n,_,_,h,_,_=>by cases n<;>simp[okD]at h
 | .err _,n,_,_,h,_,_=>by cases n<;>simp[okD]at h
theorem dU{pins:List (Addr×Obj)}{s:Shared}{G:Hp}(hk:W.K=X.K)(I:Inv X pins σ H s)(g:Same G H):∀{l:List D} {n:Nat} {vs:List V} {us:List Value},l.all (okD n)=true->Reps W G l vs->Vals vs us->∃as,ReadsAll s.heap us (pdL l) as
 | [],_,[],us,_,_,q=>by cases q;exact⟨_,.nil⟩
 | [],_,_::_,_,_,r,_=>by simp only[Reps]at r
 | _::_,_,[],_,_,r,_=>by simp only[Reps]at r
 | d::l,n,v::vs,us,h,r,q=>by
   rw[List.all_cons,Bool.and_eq_true]at h;simp only[Reps]at r
   cases q with
   | cons q1 q2=>
     obtain⟨as,ra⟩:=cW hk I g h.1 r.1 q1;obtain⟨bs,rb⟩:=dU hk I g h.2 r.2 q2;exact⟨_,.cons ra rb⟩
end
theorem fO{pins:List (Addr×Obj)}{s:Shared}{P:Addr->Prop}{d:D}{v:V}{u:Value}(hk:W.K=X.K)(I:Inv X pins σ H s)(h:okD 60 d=true)(r:RepT W H (vis H P) d v)(q:RelV v u):∃as,Reads s.heap u (pd d) as:=by
 cases d with
 | lst l=>
   obtain⟨m,hm,h⟩:=gQ h;obtain⟨c,xs,rfl,r1,r2⟩:=r;cases q;obtain⟨its,rv,⟨ob,e3,e1,e2,_,e4⟩,_⟩:=I.list (hk▸r1);obtain⟨as,ra⟩:=dU hk I aO h r2 rv;exact⟨_,.list e1 e2 e4 ra⟩
 | non=>exact cW (G:=vis H P) hk I aO h r q
 | bl b=>exact cW (G:=vis H P) hk I aO h r q
 | int b=>exact cW (G:=vis H P) hk I aO h r q
 | str b=>exact cW (G:=vis H P) hk I aO h r q
 | tup b=>exact cW (G:=vis H P) hk I aO h r q
 | dct _ _=>simp[okD]at h
 | obj _ _ _=>simp[okD]at h
 | err _=>simp[okD]at h
noncomputable def yj(W:Wd)(neg:Bool):R2:=fun x y H Q=>∃(P:Addr->Prop) (dx dy:D),okD 60 dx=true/\okD 60 dy=true/\RepT W H (vis H P) dx x/\RepT W H (vis H P) dy y/\Q (.bl (if neg then !eqB dx dy else eqB dx dy)) H
theorem fM{d:D}(h:okD 60 d=true):PySem.SeqAt.shaped (pd d)=true:=by
 obtain⟨h1,h2⟩:=Hi h;simp only[PySem.SeqAt.shaped,h1,Bool.true_and,decide_eq_true_eq];omega
theorem u5(hk:W.K=X.K)(hu:X.A.units+64<cLine):OpR X (compareOp .Eq) (yj W false):=by
 intro pins s σ H x y v u Q I rx ry h;obtain⟨P,dx,dy,h1,h2,t1,t2,q⟩:=h;obtain⟨as,ra⟩:=fO hk I h1 t1 rx;obtain⟨bs,rb⟩:=fO hk I h2 t2 ry;refine eq_dataH ra rb (fM h1) (fM h2) hu ?_;rw[Dp h1 h2];exact⟨.bl (eqB dx dy),H,I,rfl,q⟩
theorem tU(hk:W.K=X.K)(hu:X.A.units+64<cLine):OpR X (compareOp .NotEq) (yj W true):=by
 intro pins s σ H x y v u Q I rx ry h;obtain⟨P,dx,dy,h1,h2,t1,t2,q⟩:=h;obtain⟨as,ra⟩:=fO hk I h1 t1 rx;obtain⟨bs,rb⟩:=fO hk I h2 t2 ry;refine ne_dataH ra rb (fM h1) (fM h2) hu ?_;rw[Dp h1 h2];exact⟨.bl !eqB dx dy,H,I,rfl,q⟩
theorem my{a b:D}{t:Bool}(h:eqA a b=some t):eqS a b=some t\/(okD 60 a=true/\okD 60 b=true/\eqB a b=t):=by
 unfold eqA at h;split at h
 ·rename_i e;cases h;exact .inl e
 ·split at h
  ·split at h
   ·rename_i hc
    cases h;rw[Bool.and_eq_true]at hc;exact .inr ⟨hc.1,hc.2,rfl⟩
   ·cases h
  ·split at h
   ·rename_i hc
    cases h;rw[Bool.and_eq_true]at hc;exact .inr ⟨hc.1,hc.2,rfl⟩
   ·cases h
  ·cases h
noncomputable def Jy(W:Wd):R2:=fun x y H Q=>rEq x y H Q\/yj W false x y H Q
noncomputable def Jf(W:Wd):R2:=fun x y H Q=>rNe x y H Q\/yj W true x y H Q
theorem Gw:Sem2 W (Jy W) (o2 .eq):=by
 intro lk P H x y dx dy Q w d hS hK hx hy e k;simp only[o2]at e
 cases e1:eqA dx dy with
 | none=>rw[e1]at e;cases e
 | some t=>
   rw[e1]at e;cases e;rcases my e1 with e1 | ⟨h1,h2,h3⟩
   ·obtain⟨h1,h2⟩:=sO hx hy e1
    exact .inl ⟨h1,by rw[h2];exact k _ H (Same.refl H) bA⟩
   ·exact .inr ⟨P,dx,dy,h1,h2,hx,hy,by rw[h3];exact k _ H (Same.refl H) bA⟩
theorem GJ:Sem2 W (Jf W) (o2 .ne):=by
 intro lk P H x y dx dy Q w d hS hK hx hy e k;simp only[o2]at e
 cases e1:eqA dx dy with
 | none=>rw[e1]at e;cases e
 | some t=>
   rw[e1]at e;cases e;rcases my e1 with e1 | ⟨h1,h2,h3⟩
   ·obtain⟨h1,h2⟩:=sO hx hy e1
    exact .inl ⟨h1,by rw[h2];exact k _ H (Same.refl H) bA⟩
   ·exact .inr ⟨P,dx,dy,h1,h2,hx,hy,by rw[h3];exact k _ H (Same.refl H) bA⟩
noncomputable def zm:R2:=fun x y H Q=>rI0 (fun i j=>.bl (decide (i<j))) x y H Q\/(∃i j,x=.str i/\y=.str j/\Q (.bl (decide (i.cps.toList<j.cps.toList))) H)
theorem yF:OpR X (compareOp .Lt) zm:=OpR.or Kw sW
theorem lR:∀x y:List Nat,ltS x y=decide (x<y)
 | [],[]=>by simp[ltS]
 | [],b::y=>by simp[ltS]
 | a::x,[]=>by simp[ltS]
 | a::x,b::y=>by
   simp only[ltS,lR x y,List.cons_lt_cons_iff]
   by_cases h1:a<b
   ·simp[h1]
   ·by_cases h2:b<a
    ·have:a≠b:=by omega
     simp[h1,h2,this]
    ·have:a=b:=by omega
     simp[this]
theorem GF:Sem2 W zm (o2 .lt):=by
 intro lk P H x y dx dy Q w d hS hK hx hy e k
 cases dx<;>cases dy<;>first | exact nope e | exact cV e | simp only[o2]at e
 ·simp only[arith]at e
  cases e;exact .inl ⟨_,_,aJ hx,aJ hy,k _ H (Same.refl H) bA⟩
 ·cases e
  obtain⟨rfl,l1⟩:=aX hx;obtain⟨rfl,l2⟩:=aX hy;refine .inr ⟨_,_,rfl,rfl,?_⟩;rename_i sx sy
  have:decide ((strV sx).cps.toList<(strV sy).cps.toList)=ltS sx sy:=by rw[lR];rfl
  rw[this];exact k _ H (Same.refl H) bA
noncomputable def zj:R2:=fun x y H Q=>rI0 (fun i j=>.bl (decide (i<=j))) x y H Q\/(∃i j,x=.str i/\y=.str j/\Q (.bl (!decide (j.cps.toList<i.cps.toList))) H)
theorem yu:OpR X (compareOp .LtE) zj:=OpR.or M8 (by
 intro pins s σ H x y v u Q I rx ry h;obtain⟨i,j,rfl,rfl,q⟩:=h;obtain⟨t,rfl⟩:=rx;obtain⟨t',rfl⟩:=ry
 exact PySem.P.le_str (aL I q rfl))
theorem Gg:Sem2 W zj (o2 .le):=by
 intro lk P H x y dx dy Q w d hS hK hx hy e k
 cases dx<;>cases dy<;>first | exact nope e | exact cV e | simp only[o2]at e
 ·simp only[arith]at e
  cases e;exact .inl ⟨_,_,aJ hx,aJ hy,k _ H (Same.refl H) bA⟩
 ·cases e
  obtain⟨rfl,l1⟩:=aX hx;obtain⟨rfl,l2⟩:=aX hy;refine .inr ⟨_,_,rfl,rfl,?_⟩;rename_i sx sy
  have:decide ((strV sy).cps.toList<(strV sx).cps.toList)=ltS sy sx:=by rw[lR];rfl
  rw[this];exact k _ H (Same.refl H) bA
theorem dG{G:Hp}{d:D}{x:V}(h:RepT W H G d x):x=.non↔d=.non:=by
 cases d with
 | non=>simpa[RepT,Rep]using h
 | str s=>have h:=(aX h).1;subst h;simp
 | bl b=>simp only[RepT,Rep]at h;subst h;simp
 | int i=>simp only[RepT,Rep]at h;subst h;simp
 | tup l=>simp only[RepT,Rep]at h;obtain⟨a,xs,rfl,_⟩:=h;simp
 | lst l=>obtain⟨a,xs,rfl,_⟩:=h;simp
 | dct ks vs=>obtain⟨a,xs,rfl,_⟩:=h;simp
 | obj c ns vs=>obtain⟨a,xs,fs,rfl,_⟩:=h;simp
 | err c=>
   simp only[RepT,Rep]at h;obtain⟨a,rfl,_⟩:=h;exact⟨fun z=>(nomatch z),fun z=>(nomatch z)⟩
theorem Gi:OpR X (compareOp .Is) (fun x y H Q=>∃a b,x=.bl a/\y=.bl b/\Q (.bl (a==b)) H):=by
 intro pins s σ H x y v u Q I rx ry h;obtain⟨a,b,rfl,rfl,q⟩:=h;cases rx;cases ry;exact is_bool (aL I q rfl)
theorem Dl:OpR X (compareOp .IsNot) (fun x y H Q=>∃a b,x=.bl a/\y=.bl b/\Q (.bl (a !=b)) H):=by
 intro pins s σ H x y v u Q I rx ry h;obtain⟨a,b,rfl,rfl,q⟩:=h;cases rx;cases ry;exact isnot_bool (aL I q rfl)
theorem Gv:Sem2 W (fun x y H Q=>(y=.non/\Q (.bl (decide (x=.non))) H)\/∃a b,x=.bl a/\y=.bl b/\Q (.bl (a==b)) H) (o2 .is):=by
 intro lk P H x y dx dy Q w d hS hK hx hy e k
 cases dy<;>first | exact nope e | exact cV e | simp only[o2]at e
 ·refine .inl ⟨(dG hy).mpr rfl,?_⟩
  by_cases h:dx=.non
  ·subst h
   cases e;rw[decide_eq_true ((dG hx).mpr rfl)];exact k _ H (Same.refl H) bA
  ·have e':(false,D.bl false)=(w,d):=by cases dx<;>first | (exact absurd rfl h) | (cases e;rfl)
   cases e';rw[decide_eq_false (fun z=>h ((dG hx).mp z))];exact k _ H (Same.refl H) bA
 ·cases dx<;>first | exact cV e | skip
  cases e;exact .inr ⟨_,_,eO hx,eO hy,k _ H (Same.refl H) bA⟩
theorem vY:Sem2 W (fun x y H Q=>(y=.non/\Q (.bl (!decide (x=.non))) H)\/∃a b,x=.bl a/\y=.bl b/\Q (.bl (a !=b)) H) (o2 .isnot):=by
 intro lk P H x y dx dy Q w d hS hK hx hy e k
 cases dy<;>first | exact nope e | exact cV e | simp only[o2]at e
 ·refine .inl ⟨(dG hy).mpr rfl,?_⟩
  by_cases h:dx=.non
  ·subst h
   cases e;rw[decide_eq_true ((dG hx).mpr rfl)];exact k _ H (Same.refl H) bA
  ·have e':(false,D.bl true)=(w,d):=by cases dx<;>first | (exact absurd rfl h) | (cases e;rfl)
   cases e';rw[decide_eq_false (fun z=>h ((dG hx).mp z))];exact k _ H (Same.refl H) bA
 ·cases dx<;>first | exact cV e | skip
  cases e;exact .inr ⟨_,_,eO hx,eO hy,k _ H (Same.refl H) bA⟩
end
end Z
namespace L2
open PySem PySem.Spec PyProof.Rows
theorem ik{α β:Type}{f:α->β->Sem (ForInStep β)}(step:α->β->β):∀(l:List α) (c:β),(∀x∈l,∀c,f x c=pure (.yield (step x c)))->forIn l c f=pure (l.foldl (fun c x=>step x c) c)
 | [],c,_=>rfl
 | x::l,c,h=>by
   rw[List.forIn_cons,h x List.mem_cons_self,pure_bind]
   exact ik step l (step x c) fun y hy=>h y (List.mem_cons_of_mem _ hy)
noncomputable def cg(env:Env)(x:Str×NameKind)(c:List (Str×Addr)):List (Str×Addr):=if x.2=.free then(x.1,(env.cells.lookup x.1).getD 0)::c else c
noncomputable def cP(env:Env)(names:List (Str×NameKind)):List (Str×Addr):=names.foldl (fun c x=>cg env x c) []
theorem uD{scope:Scope}{env:Env}(h:∀y∈scope.names,y.2=.free->∃c,env.cells.lookup y.1=some c):closureFor scope env=pure (cP env scope.names):=by
 simp only[closureFor];rw[ik (cg env) scope.names [] (fun x hx c=>?_)]
 ·rfl
 ·obtain⟨n,kind⟩:=x
  by_cases hk:kind=.free
  ·subst hk
   obtain⟨a,e⟩:=h _ hx rfl;simp only at e;simp[cg,cellOf,e]
  ·have hb:(kind==NameKind.free)=false:=by simpa using hk
   simp[cg,hb,hk]
theorem pO{env:Env}{p:Str×Addr}:∀(names:List (Str×NameKind)) (acc:List (Str×Addr)),p∈names.foldl (fun c x=>cg env x c) acc->p∈acc\/((p.1,NameKind.free)∈names/\p.2=(env.cells.lookup p.1).getD 0)
 | [],acc,h=>.inl h
 | (n,k)::r,acc,h=>by
   rcases pO r _ h with h | ⟨h1,h2⟩
   ·simp only[cg]at h
    split at h
    ·rename_i hk
     rcases List.mem_cons.mp h with e | h
     ·subst e
      exact .inr ⟨by subst hk;exact List.mem_cons_self,rfl⟩
     ·exact .inl h
    ·exact .inl h
   ·exact .inr ⟨List.mem_cons_of_mem _ h1,h2⟩
theorem pF{env:Env}{p:Str×Addr}:∀(names:List (Str×NameKind)) (acc:List (Str×Addr)),p∈acc->p∈names.foldl (fun c x=>cg env x c) acc
 | [],_,h=>h
 | (n,k)::r,acc,h=>by
   refine pF r _ ?_;simp only[cg];split
   ·exact List.mem_cons_of_mem _ h
   ·exact h
theorem pJ{env:Env}{x:Str}:∀(names:List (Str×NameKind)) (acc:List (Str×Addr)),(x,NameKind.free)∈names->(x,(env.cells.lookup x).getD 0)∈names.foldl (fun c x=>cg env x c) acc
 | [],_,h=>by simp at h
 | (n,k)::r,acc,h=>by
   rcases List.mem_cons.mp h with e | h
   ·cases e
    refine pF r _ ?_;simp[cg]
   ·exact pJ r _ h
theorem ji{α:Type}{x:Str}{c:α}:∀{l:List (Str×α)},(x,c)∈l->∃c',l.lookup x=some c'
 | [],h=>by simp at h
 | (y,d)::l,h=>by
   simp only[List.lookup_cons]
   cases e:(x==y)with
   | true=>exact⟨d,rfl⟩
   | false=>
     rcases List.mem_cons.mp h with z | z
     ·cases z;simp at e
     ·exact ji z
theorem dw{env:Env}{names:List (Str×NameKind)}(h:∀y∈names,y.2=.free->∃c,env.cells.lookup y.1=some c){x:Str}{c:Addr}(e:(cP env names).lookup x=some c):env.cells.lookup x=some c:=by
 have hm:=PySem.mem_of_lookup e;rcases pO names [] hm with z | ⟨h1,h2⟩
 ·simp at z
 ·obtain⟨a,e'⟩:=h _ h1 rfl
  simp only at e' h2;rw[e']at h2 ⊢;rw[h2];rfl
theorem p8{env:Env}{names:List (Str×NameKind)}{x:Str}(h:(x,NameKind.free)∈names):∃c,(cP env names).lookup x=some c:=ji (pJ names [] h)
theorem dY{scope:Scope}{env:Env}{x:Str}:(relabel scope env).names.lookup x=(scope.names.lookup x).map fun k=>if(k==.free&&env.scope.kind==.function&&env.kindOf x==some .cell)then .cell else k:=by
 show List.lookup x (scope.names.map fun(n,k)=>if(k==NameKind.free&&env.scope.kind==.function&&env.kindOf n==some .cell)then(n,NameKind.cell)else(n,k))=_
 induction scope.names with
 | nil=>rfl
 | cons p r ih=>
   obtain⟨n,k⟩:=p;rw[List.map_cons]
   by_cases hx:x=n
   ·subst hx
    by_cases hc:(k==NameKind.free&&env.scope.kind==.function&&env.kindOf x==some .cell)=true
    ·simp only[hc,if_true,List.lookup_cons,beq_self_eq_true,Option.map_some]
    ·simp only[hc,if_false,List.lookup_cons,beq_self_eq_true,Option.map_some,Bool.false_eq_true]
   ·have hb:(x==n)=false:=by simpa using hx
    have e:List.lookup x ((if(k==NameKind.free&&env.scope.kind==.function&&env.kindOf n==some .cell)=true then(n,NameKind.cell)else(n,k))::(r.map fun(n,k)=>if(k==NameKind.free&&env.scope.kind==.function&&env.kindOf n==some .cell)then(n,NameKind.cell)else(n,k))) =
     List.lookup x (r.map fun(n,k)=>if(k==NameKind.free&&env.scope.kind==.function&&env.kindOf n==some .cell)then(n,NameKind.cell)else(n,k)):=by
     split<;>simp only[List.lookup_cons,hb]
    simp only[List.lookup_cons,hb];exact e.trans ih
noncomputable def cxC(X:Cx)(scope:Scope)(N:List Str)(fp:List Addr)(pins:List (Addr×Obj))(s:Shared)(H:Hp):Cx :=
 { X with N:=N,s₀:=s,H₀:=H,env:=compEnvC scope (cP X.env scope.names) s.heap.objs.size X.env,outer:=X.stack,ex:=fp,fn:=fun _=>false,pn:=X.pn++pins }
structure Blk(scope:Scope):Prop where
 kind:scope.kind=.function
 nocell:∀y∈scope.names,y.2≠.cell
 loc:∀y∈scope.names,y.2=.local->scope.names.lookup y.1=some .local
 fre:∀y∈scope.names,y.2=.free->scope.names.lookup y.1=some .free
section
variable{X:Cx}{pins:List (Addr×Obj)}{σ:St}{H:Hp}{s:Shared}{scope:Scope}{N:List Str}{fp:List Addr}
theorem xX{σ':St}{h₁:Heap}{tk:Nat}(I:Inv X pins σ H s)(B:Blk scope)(hfr:∀y∈scope.names,y.2=.free->∃c,X.env.cells.lookup y.1=some c)(hf:∀b∈fp,FpOk X pins H b)(hob:∀b∈fp,∃o,s.heap.get? b=some o)
 (hns:∃m,h₁.Ns s.heap.objs.size m) (hkeep:∀b o,s.heap.get? b=some o->h₁.get? b=some o) (hl:σ'.length=N.length)
 (hσ:∀(i:Nat) (x:Str) (v:V),N[i]?=some x->σ'[i]?=some (some v)->scope.names.lookup x=some .free/\(X.env.scope.names.lookup x=some .cell\/X.env.scope.names.lookup x=some .free)/\∃j:Nat,X.N[j]?=some x/\σ[j]?=some (some v)) :
 Inv (cxC X scope N fp pins s H) [] σ' H { s with heap:=h₁,toks:=tk }:=by
 have lt:∀{b:Addr} {o:Obj},s.heap.get? b=some o->b≠s.heap.objs.size:=fun e=>Nat.ne_of_lt (Heap.lt_size e)
 have kd:∀x,((relabel scope X.env).names.lookup x=some .cell\/(relabel scope X.env).names.lookup x=some .free)->(x,NameKind.free)∈scope.names:=fun x hx=>by
  rw[dY]at hx
  cases e:scope.names.lookup x with
  | none=>rw[e]at hx;simp at hx
  | some k=>
    have hm:=PySem.mem_of_lookup e;rw[e]at hx;simp only[Option.map_some,Option.some.injEq]at hx
    cases k with
    | free=>exact hm
    | cell=>exact absurd rfl (B.nocell _ hm)
    | _=>simp at hx
 refine⟨⟨I.ok.mod,?_,I.ok.glob,I.ok.blt,Nat.le_refl _,fun x y c h1 h2=>I.ok.inj x y c (dw hfr h1) (dw hfr h2),fun x hx=>p8 (kd x hx),fun x c h=>(nomatch h),I.ok.hd,I.ok.frames,.inl rfl,fun b hb=>⟨?_,fun x c e=>?_⟩,I.bs,Nat.le_trans I.ok.bsz I.sz,fun b o e hb=>?_,fun b hb z=>?_,I.stack,I.stkFree⟩,
  rfl,I.bare,Un.kept hkeep,?_,fun x c e=>?_,I.hok.fresh (Nat.le_refl _),fun x c e=>I.freeC x c (dw hfr e),fun p hp=>?_,I.hok.kept hkeep,hl⟩
 ·exact B.kind
 ·obtain⟨o,e⟩:=hob b hb
  exact lt e
 ·exact(hf b hb).2.2.2.2.1 x c (dw hfr e)
 ·rcases(hf b hb).2.2.2.1 with z | z
  ·exact I.ok.noex b o e z
  ·exact absurd (Nat.lt_of_lt_of_le (Heap.lt_size (I.ok.bs b o e).1) z) (Nat.lt_irrefl _)
 ·obtain⟨_,f1,f2,_⟩:=hf b hb
  rcases List.mem_cons.mp (I.stkSub b z)with e | e
  ·exact f1 e
  ·exact f2 e
 ·obtain⟨m,hm⟩:=hns
  refine⟨m,hm,fun i x v h1 h2 h3=>?_⟩;obtain⟨k1,k2,j,j1,j2⟩:=hσ i x v h1 h2;obtain⟨m0,_,hl0⟩:=I.loc;obtain⟨u,r,q⟩:=hl0 j x v j1 j2 (k2.elim (fun z=>.inr (.inl z)) fun z=>.inr (.inr z));refine⟨u,r,.inr ⟨?_,?_⟩⟩
  ·show(relabel scope X.env).names.lookup x=some .cell\/(relabel scope X.env).names.lookup x=some .free
   rw[dY,k1];simp only[Option.map_some,Option.some.injEq];split
   ·exact .inl rfl
   ·exact .inr rfl
  ·rcases q with⟨q,_⟩ | ⟨_,c,e,z⟩
   ·have q:X.env.scope.names.lookup x=some .local:=q
    rcases k2 with k2 | k2<;>(rw[q]at k2;cases k2)
   ·obtain⟨c',e'⟩:=p8 (env:=X.env) (PySem.mem_of_lookup k1)
    have:=dw hfr e';rw[e]at this;cases this;obtain⟨o,ho,hd⟩:=z;exact⟨c,e',o,hkeep c o ho,hd⟩
 ·obtain⟨v,o,ho,hd⟩:=I.cell x c (dw hfr e)
  exact⟨v,o,hkeep c o ho,hd⟩
 ·have hp:p∈X.pn++pins:=by
   have hp:p∈(X.pn++pins)++[]:=hp
   rwa [List.append_nil]at hp
  obtain⟨e,n,ne,nf,d⟩:=I.pin p hp;exact⟨hkeep _ _ e,n,lt e,fun z=>(List.mem_cons.mp (I.stkSub _ z)).elim ne nf,d⟩
theorem ym{pins':List (Addr×Obj)}{σ':St}{H':Hp}{s':Shared}{h2:Heap}(I:Inv X pins σ H s)(hf:∀b∈fp,FpOk X pins H b)(J:Inv (cxC X scope N fp pins s H) pins' σ' H' s')(sb:Heap.SameBut s.heap.objs.size s'.heap h2):Inv X pins σ H' { s' with heap:=h2 }:=by
 have lt:∀{b:Addr} {o:Obj},s.heap.get? b=some o->b≠s.heap.objs.size:=fun e=>Nat.ne_of_lt (Heap.lt_size e)
 have U:Un (frs X.stack) fp H H' s.heap s'.heap:=J.base
 have U2:Un (frs X.stack) fp H H' s.heap h2:=by
  refine⟨fun b o e n hb hx=>(sb.2 b (lt e)).trans (U.keep b o e n hb hx),fun b o e n hb hx=>?_,U.free,fun b o e hx=>?_,U.tups,U.frzs,U.tbls⟩
  ·obtain⟨sl,q⟩:=U.slot b o e n hb hx
   exact⟨sl,(sb.2 b (lt e)).trans q⟩
  ·obtain⟨o',q⟩:=U.there b o e hx
   exact⟨o',(sb.2 b (lt e)).trans q⟩
 have hC:H' s.heap.objs.size=none:=J.free
 have hok:HOk X.prog X.w H' h2:=fun b ob e=>(J.hok b ob e).stay (fun c u hc q=>(sb.2 c (fun z=>by
  subst z;rcases hc with z | z
  ·rw[<-z,hC]at e;cases e
  ·rw[hC]at z;cases z)).trans q) (fun _ q=>q) fun _ _ q=>q
 have os:s'.os=s.os:=J.os
 have e:({ s' with heap:=h2 }:Shared)={ s with heap:=h2,gens:=s'.gens,drawn:=s'.drawn,toks:=s'.toks }:=by
  cases s';cases s;simp only at os;subst os
  rfl
 rw[e]
 exact I.call U2 hok J.bare fun b hb=>⟨(hf b hb).2.2.2.1,(hf b hb).2.1,(hf b hb).2.2.2.2.1,(hf b hb).2.2.2.2.2⟩
noncomputable abbrev tests(ifs:List Expr)(env:Env):Sem Bool:=forIn ifs true fun c r=>if r=true then do let ok <-isTrue c env (eval c env);pure (ForInStep.yield ok)else pure (ForInStep.yield r)
noncomputable abbrev fV:Value->Shared->Prop:=fun _ _=>False
theorem never{α:Type}{t:Sem α}{Q Q':α->Shared->Prop}{M:Model}{A:Around}{E:Value->Shared->Prop}{s:Shared}(h:wpAny M A t Q fV s)(hQ:∀a s,Q a s->Q' a s):wpAny M A t Q' E s:=wpAny_mono h hQ fun _ _ z=>z.elim
theorem vD{prog:Program}{w:World}{A:Around}{elt tg iter:Expr}{ifs:List Expr}{pos:Pos}{it acc:Value}{env:Env}{R:Result->Shared->Prop}(Iv:Nat->Shared->Prop)
 (turn:∀n s,Iv n s->wpAny (model prog w) A (pyNext it) (fun r s1=>match r with
  | none=>R (.ok .next) s1
  | some v=>wpAny (model prog w) A (letOwnedTupleGo tg it v) (fun _ s2=>wpAny (model prog w) A (assign tg env v) (fun _ s3=>wpAny (model prog w) A (tests ifs env) (fun ok s4=>
   if ok=true then wpAny (model prog w) A (eval elt env) (fun x s5=>wpAny (model prog w) A (call (.builtin "list.append") [acc,x]) (fun _ s6=>∃m,m<n/\Iv m s6) fV s5) fV s4
   else ∃m,m<n/\Iv m s4) fV s3) fV s2) fV s1) fV s)
 (n:Nat) (h:Iv n s):codeAny (model prog w) A (.compLoop (.ListComp elt [⟨tg,iter,ifs,0⟩] scope pos) 0 it acc env) R s:=by
 refine codeAny_loop rfl Iv (fun n s hI=>?_) n h;show wpAny _ A ((compTurn (.ListComp elt [⟨tg,iter,ifs,0⟩] scope pos) 0 it acc env).onRaise (fun e=>do noteFrame e env;theTreesLotGoes e)) _ _ s;refine wpAny_noted ?_;rw[compTurn_list];refine wpAny_bind (wpAny_standAt (wpAny_bind (never (turn n s hI) fun r s1 h1=>?_)))
 cases r with
 | none=>exact wpAny_pure h1
 | some v=>
   refine wpAny_bind (never h1 fun _ s2 h2=>wpAny_bind (never h2 fun _ s3 h3=>wpAny_bind (never h3 fun ok s4 h4=>?_)))
   cases ok with
   | false=>exact wpAny_pure ⟨rfl,h4⟩
   | true=>exact wpAny_bind (wpAny_bind (never h4 fun x s5 h5=>wpAny_bind (never h5 fun _ s6 h6=>wpAny_pure (wpAny_pure ⟨rfl,h6⟩))))
noncomputable def dg(σ:St)(m:Nat)(caps:List Nat):St:=List.replicate m none++caps.map fun i=>(σ[i]?).join
noncomputable def xG(wi:TI)(m:Nat)(caps:List Nat)(g:TG)(tc:Hp->TT)(te:Hp->TE):TE:=fun σ H Q=>wi σ H fun J H1=>∀D,H1 D=none->∃W:Nat->Nat->List V->St->Hp->Prop,(∃k,W 0 k [] (dg σ m caps) (upd H1 D (.lst []))) /\
 ∀i k ys σ' H',W i k ys σ' H'->(J.stop i H'/\Q (.ref D) H')\/(J.go i H'/\∀x H2,J.yld i H' x H2->g x σ' H2 fun σ3 H3=>tc (upd H1 D (.lst [])) σ3 H3 fun b H4=>
  if b=true then te (upd H1 D (.lst [])) σ3 H4 fun y H5=>H5 D=some (.lst ys)/\ys.length<sizeLine/\∃k',k'<k/\W (i+1) k' (ys++[y]) σ3 (upd H5 D (.lst (ys++[y])))else ∃k',k'<k/\W (i+1) k' ys σ3 H4)
noncomputable def PIf(X:Cx)(ifs:List Expr)(t:TT):Prop:=∀(pins:List (Addr×Obj)) (s:Shared) (σ:St) (H:Hp) (Q:Bool->Hp->Prop),Inv X pins σ H s->t σ H Q->wpAny (model X.prog X.w) X.A (tests ifs X.env) (TP X pins σ Q) X.xe s
theorem Ff:PIf X [] (fun _ H Q=>Q true H):=fun pins s σ H Q I h=>wpAny_pure ⟨H,I,h⟩
theorem Fe{c:Expr}{t:TT}(h:PT X c t):PIf X [c] t:=fun pins s σ H Q I q=>by
 unfold tests;simp only[List.forIn_cons,List.forIn_nil,if_true];exact wpAny_bind (wpAny_bind (thn (h pins s σ H Q I q) fun b s' hb=>wpAny_pure (wpAny_pure hb)))
theorem yt{σ:St}{i:Nat}{v:V}(h:(σ[i]?).join=some v):σ[i]?=some (some v):=by
 cases e:σ[i]? with
 | none=>rw[e]at h;cases h
 | some o=>rw[e]at h;simp at h;rw[h]
theorem Do{m:Nat}{caps:List Nat}{i:Nat}{v:V}(h:(dg σ m caps)[i]?=some (some v)):∃j k:Nat,i=m+j/\caps[j]?=some k/\σ[k]?=some (some v):=by
 unfold dg at h
 by_cases hi:i<m
 ·rw[List.getElem?_append_left (by simpa using hi),List.getElem?_replicate]at h
  split at h<;>cases h
 ·rw[List.getElem?_append_right (by simpa using hi),List.length_replicate,List.getElem?_map]at h
  cases e:caps[i-m]? with
  | none=>rw[e]at h;cases h
  | some k=>
    rw[e]at h;exact⟨i-m,k,by omega,e,yt (Option.some.inj h)⟩
structure Caps(X:Cx)(scope:Scope)(N:List Str)(m:Nat)(caps:List Nat):Prop where
 len:N.length=m+caps.length
 see:∀(j k:Nat) (x:Str),caps[j]?=some k->N[m+j]?=some x->X.N[k]?=some x/\scope.names.lookup x=some .free/\(X.env.scope.names.lookup x=some .cell\/X.env.scope.names.lookup x=some .free)
 fre:∀y∈scope.names,y.2=.free->X.env.scope.names.lookup y.1=some .cell\/X.env.scope.names.lookup y.1=some .free
section
variable{elt tg iter:Expr}{ifs:List Expr}{pos:Pos}{wi:TI}{m:Nat}{caps:List Nat}{g:TG}{tc:Hp->TT}{te:Hp->TE}
theorem mK{use:Option (Value->Sem Unit)}{Q:VK}{Q':Value->Shared->Prop}(hx:X.xe=fV)(hc:X.calm=true)(B:Blk scope)(C:Caps X scope N m caps)(hi:PI X tg iter wi)
 (hg:∀fp pins s H,PG (cxC X scope N fp pins s H) tg g) (ht:∀fp pins s H,PIf (cxC X scope N fp pins s H) ifs (tc H)) (he:∀fp pins s H,PE (cxC X scope N fp pins s H) elt (te H))
 (hs:∀x,foldedSetIterable iter X.env x=pure x) (I:Inv X pins σ H s) (h:xG wi m caps g tc te σ H Q)
 (fin:∀(Cx':Addr) (D:Addr) (H':Hp) (s':Shared),(∃mm,s'.heap.Ns Cx' mm)->(∀h2,Heap.SameBut Cx' s'.heap h2->Inv X pins σ H' { s' with heap:=h2 })->FpOk X pins H' Cx'->Q (.ref D) H' ->
  compPost (model X.prog X.w) X.A X.xe use Q' (.ref D) Cx' (.ok .next) s') :
 wpAny (model X.prog X.w) X.A (comprehension (.ListComp elt [⟨tg,iter,ifs,0⟩] scope pos) scope X.env (firstIterPos [⟨tg,iter,ifs,0⟩] pos) (newList []) false (eval iter X.env) use) Q' X.xe s:=by
 have hfr:∀y∈scope.names,y.2=.free->∃c,X.env.cells.lookup y.1=some c:=fun y hy hk=>I.ok.has y.1 (C.fre y hy hk)
 refine wpAny_comprehension_free rfl hs (uD hfr) B.kind B.loc (thn (hi pins s σ H _ I h) fun v s1 h1=>thn h1 fun itv s2 h2=>?_);obtain⟨it,fp,tn,J,H2,rfl,I2,T,st2,f2,R⟩:=h2;refine wpAny_newObj_type ?_;have hD:H2 s2.heap.objs.size=none:=I2.fresh;have I3:=I2.lnew (its:=[]) (ys:=[]) (t':=s2.toks) .nil (Nat.zero_le _)
 have keep2:∀b o,s2.heap.get? b=some o->(s2.heap.push { cls:=.type "list",data:=.seq ([]:List Value).toArray }).get? b=some o:=fun b o e=>Heap.get?_push_of_some _ e
 have st3:=T.keep 0 _ _ st2 fun b _ o e=>keep2 b o e
 have nD:∀b∈fp,b≠s2.heap.objs.size:=fun b hb=>by
  obtain⟨o,e,_⟩:=T.obj 0 _ st2 b hb;exact Nat.ne_of_lt (Heap.lt_size e)
 have f3:∀b∈fp,FpOk X pins (upd H2 s2.heap.objs.size (.lst [])) b:=fun b hb=>⟨by rw[aV (nD b hb)];exact(f2 b hb).1,(f2 b hb).2⟩
 obtain⟨W,⟨k0,w0⟩,turn⟩:=R _ hD;generalize hD':s2.heap.objs.size=D at *;have e3:({ s2 with heap:=s2.heap.push { cls:=.type "list",data:=.seq ([]:List Value).toArray } }:Shared)={ s2 with heap:=s2.heap.push { cls:=.type "list",data:=.seq ([]:List Value).toArray },toks:=s2.toks }:=rfl;generalize hs3:({ s2 with heap:=s2.heap.push { cls:=.type "list",data:=.seq ([]:List Value).toArray },toks:=s2.toks }:Shared)=s3 at *
 have st3':tn 0 s3.heap:=by rw[<-hs3];exact st3
 show wpAny _ X.A (newFunctionEnv scope X.env.globals (cP X.env scope.names) [] X.env.qual none .none (some X.env)) _ _ _;rw[e3];refine wpAny_newFunctionEnv B.nocell (by intro y hy;simp at hy) (fun h₁ hns hsb=>?_) B.kind
 have hkeep:∀b o,s3.heap.get? b=some o->h₁.get? b=some o:=fun b o e=>hsb.extBut b o (Nat.ne_of_lt (Heap.lt_size e)) (Heap.get?_push_of_some _ e)
 have hob:∀b∈fp,∃o,s3.heap.get? b=some o:=fun b hb=>let⟨o,e,_⟩:=T.obj 0 _ st3' b hb;⟨o,e⟩
 have IC:Inv (cxC X scope N fp pins s3 (upd H2 D (.lst []))) [] (dg σ m caps) (upd H2 D (.lst [])) { s3 with heap:=h₁,toks:=s3.toks+([]:List (Str×Value)).length }:=by
  refine xX I3 B hfr f3 hob ⟨_,hns⟩ hkeep ?_ fun i x v h1 h2=>?_
  ·unfold dg
   rw[List.length_append,List.length_replicate,List.length_map,C.len]
  ·obtain⟨j,k,rfl,e1,e2⟩:=Do h2
   obtain⟨q1,q2,q3⟩:=C.see j k x e1 h1;exact⟨q2,q3,k,q1,e2⟩
 have st4:tn 0 h₁:=T.keep 0 _ _ st3' fun b _ o e=>hkeep b o e
 have stat:∀{H':Hp},(∀b∈fp,H' b=none)->∀b∈fp,FpOk (cxC X scope N fp pins s3 (upd H2 D (.lst []))) [] H' b:=fun{H'} hn b hb=>by
  obtain⟨o,e⟩:=hob b hb;obtain⟨_,f1,f2,_,f4,f5⟩:=f3 b hb;refine⟨hn b hb,Nat.ne_of_lt (Heap.lt_size e),fun z=>?_,.inl hb,fun x c q=>f4 x c (dw hfr q),fun p hp=>f5 p ?_⟩
  ·exact(List.mem_cons.mp (I3.stkSub b z)).elim f1 f2
  ·have hp:p∈(X.pn++pins)++[]:=hp
   rwa [List.append_nil]at hp
 have Dfp:∀b∈fp,b≠D:=nD
 have loop:codeAny (model X.prog X.w) X.A (.compLoop (.ListComp elt [⟨tg,iter,ifs,0⟩] scope pos) 0 (.ref it) (.ref D) (compEnvC scope (cP X.env scope.names) s3.heap.objs.size X.env)) (compPost (model X.prog X.w) X.A X.xe use Q' (.ref D) s3.heap.objs.size) { s3 with heap:=h₁,toks:=s3.toks+([]:List (Str×Value)).length }:=by
  refine vD (fun n s'=>∃i ys σ' H',Inv (cxC X scope N fp pins s3 (upd H2 D (.lst []))) [] σ' H' s'/\tn i s'.heap/\(∀b∈fp,H' b=none)/\W i n ys σ' H') ?_ k0 ⟨0,[],_,_,IC,st4,fun b hb=>(f3 b hb).1,w0⟩
  rintro n s4 ⟨i,ys,σ4,H4,I4,st4,fr4,w4⟩
  rcases turn i n ys σ4 H4 w4 with⟨stop,qn⟩ | ⟨go,step⟩
  ·refine thn (T.done (cxC X scope N fp pins s3 (upd H2 D (.lst []))) rfl rfl rfl hc i [] s4 σ4 H4 fV I4 (stat fr4) st4 stop) fun r s5 ⟨hr,I5⟩=>?_
   subst hr;exact fin _ D H4 s5 (let⟨mm,hm,_⟩:=I5.loc;⟨mm,hm⟩) (fun h2 sb=>ym I3 f3 I5 sb) (I3.fpOk (Nat.le_refl _) I5.free) qn
  ·refine thn (T.item (cxC X scope N fp pins s3 (upd H2 D (.lst []))) rfl rfl rfl hc i [] s4 σ4 H4 fV I4 (stat fr4) st4 go) fun r s5 ⟨u,hr,h5⟩=>?_
   subst hr
   refine thn h5 fun _ s6 ⟨x,H6,I6,r6,y6,st6,fr6⟩=>?_
   have I6':=I6.pinned (stat fr6) (T.obj _ _ st6)
   have xn:∀{α:Type} {t:Sem α} {Q1:α->Shared->Prop} {s:Shared},wpAny (model X.prog X.w) X.A t Q1 X.xe s->wpAny (model X.prog X.w) X.A t Q1 fV s:=fun h=>by rw[hx]at h;exact h
   refine thn (xn (hg fp pins s3 _ _ s6 σ4 H6 x u _ I6' r6 (step x H6 y6))) fun _ s7 ⟨σ7,H7,I7,q7⟩=>?_
   refine thn (xn (ht fp pins s3 _ _ s7 σ7 H7 _ I7 q7)) fun ok s8 ⟨H8,I8,q8⟩=>?_
   have again:∀{H9:Hp} {s9:Shared} {ys':List V},Inv (cxC X scope N fp pins s3 (upd H2 D (.lst []))) ([]++lU fp s6.heap) σ7 H9 s9->(∃k',k'<n/\W (i+1) k' ys' σ7 H9) ->
    ∃k',k'<n/\∃i ys σ' H',Inv (cxC X scope N fp pins s3 (upd H2 D (.lst []))) [] σ' H' s9/\tn i s9.heap/\(∀b∈fp,H' b=none)/\W i k' ys σ' H':=fun{H9 s9 ys'} I9 w9=>by
    obtain⟨k',hk',w9⟩:=w9;refine⟨k',hk',i+1,ys',σ7,H9,I9.unpinned,T.keep _ _ _ st6 fun b hb o e=>(I9.pin (b,o) (List.mem_append_right _ (List.mem_append_right _ (dN hb e)))).1,fun b hb=>?_,w9⟩;obtain⟨o,e,d⟩:=T.obj _ _ st6 b hb;exact(I9.pin (b,o) (List.mem_append_right _ (List.mem_append_right _ (dN hb e)))).2.1
   cases ok with
   | false=>exact again I8 q8
   | true=>
     refine thn (xn (he fp pins s3 _ _ s8 σ7 H8 _ I8 q8)) fun yv s9 ⟨y,H9,I9,r9,hD9,hz9,q9⟩=>?_
     refine thn (xn (km (X:=cxC X scope N fp pins s3 (upd H2 D (.lst []))) _ s9 σ7 H9 (.ref D) [y] (.ref D) [yv] (fun _ H'=>H'=upd H9 D (.lst (ys++[y]))) I9 rfl (.cons r9 .nil) ⟨D,ys,y,rfl,rfl,hD9,hz9,rfl⟩)) fun _ s10 ⟨_,H10,I10,_,e10⟩=>?_
     subst e10;exact again I10 q9
 exact codeAny_compStart_list loop (T.self _ 0 _ _ _ st4 loop)
theorem Cv(hx:X.xe=fV)(hc:X.calm=true)(B:Blk scope)(C:Caps X scope N m caps)(hi:PI X tg iter wi)(hg:∀fp pins s H,PG (cxC X scope N fp pins s H) tg g)(ht:∀fp pins s H,PIf (cxC X scope N fp pins s H) ifs (tc H))(he:∀fp pins s H,PE (cxC X scope N fp pins s H) elt (te H))
 (hs:∀x,foldedSetIterable iter X.env x=pure x):PE X (.ListComp elt [⟨tg,iter,ifs,0⟩] scope pos) (xG wi m caps g tc te):=by
 intro pins s σ H Q I h;rw[eval_ListComp]
 refine mK (use:=none) hx hc B C hi hg ht he hs I h fun C' D H' s' hn hb _ q=>?_
 obtain⟨mm,hm⟩:=hn;exact⟨mm,hm,fun h2 sb=>⟨.ref D,H',hb h2 sb,rfl,q⟩⟩
theorem qP{i:Nat}{x:Str}{px spos:Pos}(hx:X.xe=fV)(hc:X.calm=true)(B:Blk scope)(C:Caps X scope N m caps)(hi:PI X tg iter wi)(hg:∀fp pins s H,PG (cxC X scope N fp pins s H) tg g)(ht:∀fp pins s H,PIf (cxC X scope N fp pins s H) ifs (tc H))(he:∀fp pins s H,PE (cxC X scope N fp pins s H) elt (te H))
 (hs:∀x,foldedSetIterable iter X.env x=pure x) (hN:X.N.Nodup) (hix:X.N[i]?=some x) (hl:X.env.scope.names.lookup x=some .local) (hsw:swapsWith (.ListComp elt [⟨tg,iter,ifs,0⟩] scope pos) (some (.Name x px)) spos.line X.env=pure true) :
 PS X (.Assign [.Name x px] (.ListComp elt [⟨tg,iter,ifs,0⟩] scope pos) spos) (fun D σ H=>xG wi m caps g tc te σ H fun v H'=>D.nx (σ.set i (some v)) H'):=by
 intro pins s σ H D I h;rw[exec_Assign_Name_used _ _ _ _ hsw];refine wpAny_bind (wpAny_standAt (wpAny_bind ?_));show wpAny _ X.A (do let _ <-comprehension (.ListComp elt [⟨tg,iter,ifs,0⟩] scope pos) scope X.env (firstIterPos [⟨tg,iter,ifs,0⟩] pos) (newList []) false (eval iter X.env) (some (assign (.Name x px) X.env))) _ _ s;refine wpAny_bind (thn (mK (use:=some (assign (.Name x px) X.env)) (Q:=fun v H'=>D.nx (σ.set i (some v)) H') (Q':=fun _ s'=>SP X pins D .next s') hx hc B C hi hg ht he hs I h fun C' Da H' s' hn hb hf q=>?_) fun _ s' hq=>wpAny_pure (wpAny_pure hq));obtain⟨mm,hm⟩:=hn;obtain⟨f0,f1,f2,f3,f4,f5⟩:=hf;have I':Inv X pins σ H' s':=hb s'.heap (Heap.SameBut.refl _ _);show wpAny _ X.A (assign (.Name x px) X.env (.ref Da)) _ _ s';refine wpAny_assign_Name (kY I' hN hix (.inl hl) (v:=.ref Da) rfl (fun s'' I'' ⟨a,sb,ha⟩=>?_) (.inr hl))
 have hca:C'≠a:=by
  rcases ha with e | e
  ·rw[e];exact f1
  ·exact fun z=>f4 x a e z.symm
 refine⟨mm,hm.sameBut sb hca,fun h2 sb2=>⟨_,H',?_,q⟩⟩;have:=I''.turned (it:=C') (h':=h2) (t':=s''.toks) (fun b o hb e=>(sb2.2 b hb).trans e) f0 f1 f3 f4 f5;exact this
end
end
end L2
namespace Z
open PySem PySem.Spec PyProof.Rows L2
section
variable{X:Cx}{W:Wd}{lk lk':Bool}{σ:L2.St}{H H1 H':Hp}{me:Option Addr}{B:Addr->Prop}{δ:Dst}{Q Q':VK}{a b:Expr}{pos p:Pos}{o:Orc}
theorem fY{P:Addr->Prop}{t:Bool}{x:R (Bool×D)}(h:After X W lk σ H P (R.chk t x) Q):t=true/\After X W lk σ H P x Q:=by
 cases t with
 | true=>exact⟨rfl,h⟩
 | false=>exact h.elim
theorem M6{es:List Expr}{l:TL}{x1:Nat}(ha:PA X es (tL X W fun δ=>evL o δ l)):PE X (.Tuple es x1 pos) (tD X W lk fun δ=>ev o δ lk (.tup l)):=by
 refine PE.imp (Js ha) fun σ H Q h=>?_
 obtain⟨me,B,δ,S,h⟩:=tD_iff.mp h;simp only[ev]at h
 refine tL.mono (sE (fa:=fun δ=>evL o δ l) (C:=fun r H=>After X W lk σ H (Hid B σ δ) r Q) S h (fun r H1 s q=>q.mono s) (fun c q=>q) (fun q=>q)) fun vs H1 ⟨r,e1,S1,s1,t1,q1,h1⟩=>?_
 obtain⟨hc,h1⟩:=fY h1;simp only[Bool.and_eq_true,Bool.not_eq_true']at hc;have hr:=q1 hc.1;exact⟨by rw[<-hr.length];exact dC hc.2,fun p hp=>h1 _ _ (Same.upd hp) (gK hp hr S1.know)⟩
theorem Mp{es:List Expr}{l:TL}(ha:PA X es (tL X W fun δ=>evL o δ l)):PE X (.List es pos) (tD X W lk fun δ=>ev o δ lk (.lst l)):=by
 refine PE.imp (FJ ha) fun σ H Q h=>?_
 obtain⟨me,B,δ,S,h⟩:=tD_iff.mp h;simp only[ev]at h
 refine tL.mono (sE (fa:=fun δ=>evL o δ l) (C:=fun r H=>After X W lk σ H (Hid B σ δ) r Q) S h (fun r H1 s q=>q.mono s) (fun c q=>q) (fun q=>q)) fun vs H1 ⟨r,e1,S1,s1,t1,q1,h1⟩=>?_
 obtain⟨hc,h1⟩:=fY h1;simp only[Bool.and_eq_true,Bool.not_eq_true']at hc;have hr:=q1 hc.1;exact⟨by rw[<-hr.length];exact dC hc.2,fun p hp=>h1 _ _ (Same.upd hp) (dh hp hr S1.know)⟩
theorem Li{t:T}(ha:PE X a (tD X W true fun δ=>ev o δ true t)):PE X (.UnaryOp .USub a pos) (tD X W lk fun δ=>ev o δ lk (.neg t)):=by
 refine PE.imp (K9 HS ha) fun σ H Q h=>?_
 obtain⟨me,B,δ,S,h⟩:=tD_iff.mp h;simp only[ev]at h
 refine tD.mono (part (fa:=fun δ=>ev o δ true t) S h) fun v H1 ⟨r,e,S1,s1,t1,_,h1⟩=>?_
 cases e2:r.2 with
 | int i=>
   rw[e2]at t1 h1;exact⟨i,aJ t1,h1 _ H1 (Same.refl _) cL⟩
 | _=>rw[e2]at h1;exact h1.elim
theorem Ly{c:Expr}{tc ta tb:T}(hc:PT X c (tT X W fun δ=>ev o δ true tc))(ha:PE X a (tD X W lk fun δ=>ev o δ lk ta))(hb:PE X b (tD X W lk fun δ=>ev o δ lk tb)) :
 PE X (.IfExp c a b pos) (tD X W lk fun δ=>ev o δ lk (.ite tc ta tb)):=by
 refine PE.imp (wA hc ha hb) fun σ H Q h=>?_
 obtain⟨me,B,δ,S,h⟩:=tD_iff.mp h;simp only[ev]at h;refine⟨me,B,δ,S,?_⟩
 cases e:ev o δ true tc with
 | ok r=>
   rw[e]at h;dsimp only;rw[e];simp only[R.bind]
   cases e2:truth r.2 with
   | none=>simp only[R.bind,e2,R.of]at h;exact h.elim
   | some t=>
     simp only[R.bind,e2,R.of]at h ⊢;intro H1 s
     cases t with
     | true=>exact tD_iff.mpr ⟨me,B,δ,S.mono s,After.mono h s⟩
     | false=>exact tD_iff.mpr ⟨me,B,δ,S.mono s,After.mono h s⟩
 | exc c=>rw[e]at h;exact h.elim
 | stuck=>rw[e]at h;exact h.elim
noncomputable def tIfT(t ta tb:TT):TT:=fun σ H Q=>t σ H fun c H1=>if c=true then ta σ H1 Q else tb σ H1 Q
theorem xT{c:Expr}{tA ta tb:TT}(hc:PT X c tA)(ha:PT X a ta)(hb:PT X b tb):PT X (.IfExp c a b pos) (tIfT tA ta tb):=by
 intro pins s σ H Q I h
 have e:∀whole,isTrue (.IfExp c a b pos) X.env whole=(isTrue c X.env (eval c X.env) >>= fun t=>if t=true then isTrue a X.env (eval a X.env)else isTrue b X.env (eval b X.env)):=fun _=>by simp only[PySem.isTrue]
 rw[e];refine wpAny_bind (thn (hc pins s σ H _ I h) fun d s1 ⟨H1,I1,q1⟩=>?_)
 cases d with
 | true=>exact ha pins s1 σ H1 Q I1 q1
 | false=>exact hb pins s1 σ H1 Q I1 q1
theorem Jl{c:Expr}{tc ta tb:T}(hc:PT X c (tT X W fun δ=>ev o δ true tc))(ha:PT X a (tT X W fun δ=>ev o δ true ta))(hb:PT X b (tT X W fun δ=>ev o δ true tb)) :
 PT X (.IfExp c a b pos) (tT X W fun δ=>ev o δ true (.ite tc ta tb)):=by
 refine PT.imp (xT hc ha hb) fun σ H Q h=>?_
 obtain⟨me,B,δ,S,h⟩:=h;simp only[ev]at h;refine⟨me,B,δ,S,?_⟩
 cases e:ev o δ true tc with
 | ok r=>
   rw[e]at h;dsimp only;rw[e];simp only[R.bind]
   cases e2:truth r.2 with
   | none=>simp only[R.bind,e2,R.of]at h
   | some t=>
     simp only[R.bind,e2,R.of]at h ⊢;intro H1 s
     cases t with
     | true=>
       refine⟨me,B,δ,S.mono s,?_⟩;simp only[if_true]at h;dsimp only
       cases e3:ev o δ true ta with
       | ok r2=>
         simp only[e3,R.bind]at h ⊢
         cases e4:truth r2.2 with
         | none=>simp only[e4,R.of]at h
         | some b=>
           simp only[e4,R.of]at h ⊢
           exact fun H' s'=>h H' (s.trans s')
       | exc c=>simp only[e3,R.bind]at h;exact h.elim
       | stuck=>simp only[e3,R.bind]at h
     | false=>
       refine⟨me,B,δ,S.mono s,?_⟩;simp only[Bool.false_eq_true,if_false]at h;dsimp only
       cases e3:ev o δ true tb with
       | ok r2=>
         simp only[e3,R.bind]at h ⊢
         cases e4:truth r2.2 with
         | none=>simp only[e4,R.of]at h
         | some b=>
           simp only[e4,R.of]at h ⊢
           exact fun H' s'=>h H' (s.trans s')
       | exc c=>simp only[e3,R.bind]at h;exact h.elim
       | stuck=>simp only[e3,R.bind]at h
 | exc c=>rw[e]at h;exact h.elim
 | stuck=>rw[e]at h;exact h.elim
theorem SR.plain(hk:W.K=X.K)(hl:σ.length=δ.length)(hsh:∀(i:Nat) (w:Own) (d:D),δ[i]?=some (some (w,d))->w=.sh/\∃v,σ[i]?=some (some v)/\Rep W (vis H B) d v)
 (same:∀b o,X.H₀ b=some o->some b≠me->H b=some o) (soft:Soft H B) (gone:∀b,B b->∃o,H b=some o) (live:∀x,me=some x->∃o,H x=some o):SR X W me B H σ δ:=by
 have hid:∀b,Hid B σ δ b->B b:=fun b hb=>by
  rcases hb with hb | ⟨i,⟨w,d,h1,h2⟩,_⟩
  ·exact hb
  ·exact absurd (hsh i w d h1).1 h2
 refine⟨hk,hl,fun i d h=>?_,fun i d h=>?_,fun i d h=>?_,fun i j a h1 _=>?_,same,soft,gone,live⟩
 ·obtain⟨_,v,e1,e2⟩:=hsh i _ d h
  exact⟨v,e1,e2.mono (aQ hid)⟩
 ·exact absurd (hsh i _ d h).1 (by decide)
 ·exact absurd (hsh i _ d h).1 (by decide)
 ·obtain⟨⟨w,d,h1,h2⟩,_⟩:=h1
  exact absurd (hsh i w d h1).1 h2
theorem tR(hsh:∀(i:Nat) (w:Own) (d:D),δ[i]?=some (some (w,d))->w=.sh){b:Addr}:Hid B σ δ b↔B b:=by
 refine⟨fun hb=>?_,.inl⟩;rcases hb with hb | ⟨i,⟨w,d,h1,h2⟩,_⟩
 ·exact hb
 ·exact absurd (hsh i w d h1) h2
theorem iw(hsh:∀(i:Nat) (w:Own) (d:D),δ[i]?=some (some (w,d))->w=.sh):vis H (Hid B σ δ)=vis H B:=by
 have:Hid B σ δ=B:=funext fun b=>propext (tR hsh)
 rw[this]
theorem lM(S:SR X W me B H σ δ):∀{caps:List Nat} {cs:List D},dZ δ caps=some cs->∃vs:List V,caps.map (fun i=>(σ[i]?).join)=vs.map some/\RepTs W H (vis H (Hid B σ δ)) cs vs/\((caps.all fun i=>!isOwn δ i)=true->Reps W (vis H (Hid B σ δ)) cs vs)
 | [],cs,h=>by
   simp only[dZ,Option.some.injEq]at h;subst h;exact⟨[],rfl,by simp only[RepTs],fun _=>by simp only[Reps]⟩
 | i::caps,cs,h=>by
   simp only[dZ]at h
   cases e:Dr δ i with
   | none=>rw[e]at h;cases h
   | some d=>
     rw[e]at h
     cases e2:dZ δ caps with
     | none=>rw[e2]at h;cases h
     | some cs'=>
       rw[e2]at h;cases h;obtain⟨vs,h1,h2,h3⟩:=lM S e2
       have key:∃v,σ[i]?=some (some v)/\RepT W H (vis H (Hid B σ δ)) d v/\(isOwn δ i=false->Rep W (vis H (Hid B σ δ)) d v):=by
        unfold Dr at e;split at e
        ·rename_i w d' ed
         cases e
         cases w with
         | sh=>obtain⟨v,q1,q2⟩:=S.sh i _ ed;exact⟨v,q1,q2.top aO,fun _=>q2⟩
         | ow=>obtain⟨a,q1,q2,_⟩:=S.ow i _ ed;exact⟨_,q1,q2.top,fun z=>by simp[isOwn,ed]at z⟩
         | me=>obtain⟨_,a,_,q1,q2,_⟩:=S.mi i _ ed;exact⟨_,q1,q2.top,fun z=>by simp[isOwn,ed]at z⟩
        ·cases e
       obtain⟨v,k1,k2,k3⟩:=key;refine⟨v::vs,by simp[k1,h1],?_,fun hall=>?_⟩
       ·simp only[RepTs];exact⟨k2,h2⟩
       ·simp only[List.all_cons,Bool.and_eq_true,Bool.not_eq_true']at hall
        simp only[Reps];exact⟨k3 hall.1,h3 hall.2⟩
structure Yields(J:It)(H2:Hp)(xs:List V):Prop where
 go:∀i H',Same H2 H'->i<xs.length->J.go i H'
 yld:∀i H' x H'',Same H2 H'->i<xs.length->J.yld i H' x H''->H''=H'/\xs[i]?=some x
 stop:∀H',Same H2 H'->J.stop xs.length H'
theorem nY{K:PySem.W.Frag}{H2:Hp}{c:Addr}{xs:List V}(h:SqL K H2 c xs):Yields (Itl K c) H2 xs where
 go:=fun i H' s hi=>⟨xs,xs[i],s.seq h,by simp[hi]⟩
 yld:=fun i H' x H'' s _ ⟨e,y⟩=>⟨e,y xs (s.seq h)⟩
 stop:=fun H' s=>⟨xs,s.seq h,Nat.le_refl _⟩
theorem rD{K:PySem.W.Frag}{H2:Hp}{c:Addr}{xs:List V}(h:SqT K H2 c xs):Yields (Itt K c) H2 xs where
 go:=fun i H' s hi=>⟨xs,xs[i],aK s h,by simp[hi]⟩
 yld:=fun i H' x H'' s _ ⟨e,y⟩=>⟨e,y xs (aK s h)⟩
 stop:=fun H' s=>⟨xs,aK s h,Nat.le_refl _⟩
theorem kE{H2:Hp}(lo:Int)(n:Nat):Yields (Itr lo n) H2 ((List.range n).map fun(k:Nat)=>V.int (lo+(k:Int)))where
 go:=fun i H' s hi=>by simpa[Itr]using hi
 yld:=fun i H' x H'' s hi ⟨e,y⟩=>by
  refine⟨e,?_⟩
  have hi:i<n:=by simpa using hi
  rw[List.getElem?_map,List.getElem?_range hi,y]
  rfl
 stop:=fun H' s=>by simp[Itr]
noncomputable def Yl(W:Wd)(G0:Hp)(d:D)(x:V)(H' H'':Hp):Prop:=(H''=H'/\Rep W G0 d x)\/∃(p:Addr) (d1 d2:D) (v1 v2:V),d=.tup [d1,d2]/\x=.ref p/\H' p=none/\H''=upd H' p (.tup [v1,v2])/\Rep W G0 d1 v1/\Rep W G0 d2 v2
theorem Yl.rep{G0:Hp}{d:D}{x:V}{H' H'':Hp}{P:Addr->Prop}(h:Yl W G0 d x H' H'')(g:Same G0 (vis H' P))(gone:∀b,P b->∃u,H' b=some u):Same H' H''/\Rep W (vis H'' P) d x:=by
 rcases h with⟨rfl,r⟩ | ⟨p,d1,d2,v1,v2,rfl,rfl,hp,rfl,r1,r2⟩
 ·exact⟨Same.refl _,r.mono g⟩
 ·refine⟨Same.upd hp,?_⟩
  have up:=g.trans (aD (P:=P) (Same.upd (o:=.tup [v1,v2]) hp));simp only[Rep];refine⟨p,[v1,v2],rfl,.inl (.inl (bW bG fun z=>?_)),?_⟩
  ·obtain⟨u,e⟩:=gone p z
   rw[hp]at e;cases e
  ·simp only[Reps]
   exact⟨r1.mono up,r2.mono up,trivial⟩
structure Ylds(W:Wd)(J:It)(G G0:Hp)(l:List D):Prop where
 go:∀i H',Same G H'->i<l.length->J.go i H'
 yld:∀i H' x H'' d,Same G H'->l[i]?=some d->J.yld i H' x H''->Yl W G0 d x H' H''
 stop:∀H',Same G H'->J.stop l.length H'
theorem Ylds.of{J:It}{G G0:Hp}{l:List D}{xs:List V}(y:Yields J G xs)(r:Reps W G0 l xs):Ylds W J G G0 l where
 go:=fun i H' s hi=>y.go i H' s (by rw[<-r.length];exact hi)
 yld:=fun i H' x H'' d s e z=>by
  have hi:i<xs.length:=by rw[<-r.length];exact(List.getElem?_eq_some_iff.mp e).1
  obtain⟨h1,h2⟩:=y.yld i H' x H'' s hi z;obtain⟨v,h3,h4⟩:=r.get e;rw[h2]at h3;cases h3;exact .inl ⟨h1,h4⟩
 stop:=fun H' s=>by rw[r.length];exact y.stop H' s
theorem SR.cx{X':Cx}(S:SR X W me B H σ δ)(h1:X'.K=X.K)(h2:X'.H₀=X.H₀):SR X' W me B H σ δ :=
 ⟨by rw[h1];exact S.kf,S.len,S.sh,fun i d h=>let⟨a,q1,q2,q3,q4⟩:=S.ow i d h;⟨a,q1,q2,by rw[h2];exact q3,q4⟩,S.mi,S.apart,fun b o h=>S.same b o (by rw[<-h2];exact h),S.soft,S.gone,S.live⟩
theorem tD.cx{X':Cx}{f:Dst->R (Bool×D)}(h1:X'.K=X.K)(h2:X'.H₀=X.H₀)(h:tD X W lk f σ H Q):tD X' W lk f σ H Q:=by
 obtain⟨me,B,δ,S,h⟩:=h;exact⟨me,B,δ,S.cx h1 h2,h⟩
theorem tT.cx{X':Cx}{f:Dst->R (Bool×D)}{C:Bool->Hp->Prop}(h1:X'.K=X.K)(h2:X'.H₀=X.H₀)(h:tT X W f σ H C):tT X' W f σ H C:=by
 obtain⟨me,B,δ,S,h⟩:=h;exact⟨me,B,δ,S.cx h1 h2,h⟩
noncomputable def TgR(X:Cx)(W:Wd)(is:List Nat)(tup:Bool)(g:TG):Prop :=
 ∀{me:Option Addr} {B:Addr->Prop} {σ:L2.St} {H:Hp} {δ δ1:Dst} {d:D} {ds:List D} {v:V} {C:L2.St->Hp->Prop},SR X W me B H σ δ->Rep W (vis H (Hid B σ δ)) d v->takes is.length tup d=some ds->aR δ is ds=some δ1 ->
  (∀σ1,SR X W me B H σ1 δ1->Same (vis H (Hid B σ δ)) (vis H (Hid B σ1 δ1))->C σ1 H)->g v σ H C
theorem yp{i:Nat}:TgR X W [i] false (qY i):=by
 intro me B σ H δ δ1 d ds v C S r e1 e2 k;simp only[takes,Bool.false_eq_true,if_false,Option.some.injEq]at e1;subst e1;simp only[aR]at e2
 cases e3:setSlot δ i false d with
 | none=>rw[e3]at e2;cases e2
 | some δ'=>
   rw[e3]at e2;cases e2;obtain⟨S1,s1⟩:=uc S r e3;exact k _ S1 s1
theorem Ce{is:List Nat}(hk:W.K=X.K):TgR X W is true (gTup X.K is.length (dX is)):=by
 intro me B σ H δ δ1 d ds v C S r e1 e2 k;simp only[takes,if_true]at e1
 cases d with
 | tup l=>
   simp only at e1;split at e1
   ·rename_i hl
    cases e1;simp only[Rep]at r;obtain⟨a,xs,rfl,r1,r2⟩:=r;exact⟨a,xs,rfl,hk▸aK aO r1,by rw[<-r2.length];exact hl,eU S r2 e2 k⟩
   ·cases e1
 | _=>simp at e1
noncomputable def bZ(l:List D):Dst:=l.map fun d=>some (Own.sh,d)
theorem lK{l:List D}{i:Nat}{w:Own}{d:D}(h:(bZ l)[i]?=some (some (w,d))):w=.sh/\l[i]?=some d:=by
 unfold bZ at h;rw[List.getElem?_map]at h
 cases e:l[i]? with
 | none=>rw[e]at h;cases h
 | some x=>rw[e]at h;cases h;exact⟨rfl,rfl⟩
theorem iM:∀(ds:List D) (pre post:Dst) (mid:Dst),mid.length=ds.length->aR (pre++mid++post) (List.range' pre.length ds.length) ds=some (pre++bZ ds++post)
 | [],pre,post,mid,h=>by
   have:mid=[]:=List.eq_nil_of_length_eq_zero h;subst this;simp[aR,bZ]
 | d::ds,pre,post,[],h=>by simp at h
 | d::ds,pre,post,x::mid,h=>by
   simp only[List.length_cons,Nat.add_right_cancel_iff]at h;rw[List.length_cons,List.range'_succ];simp only[aR]
   have e1:setSlot (pre++x::mid++post) pre.length false d=some ((pre++[some (Own.sh,d)])++mid++post):=by
    unfold setSlot;rw[if_pos (by simp)];simp[List.set_append]
   rw[e1];simp only[Option.bind_some];have:=iM ds (pre++[some (Own.sh,d)]) post mid h;rw[List.length_append,List.length_singleton]at this;rw[this];simp[bZ]
theorem lY(ds:List D)(mid post:Dst)(h:mid.length=ds.length):aR (mid++post) (List.range ds.length) ds=some (bZ ds++post):=by
 have:=iM ds [] post mid h;simpa[List.range_eq_range']using this
theorem v9{m:Nat}{tup:Bool}{d:D}{ds:List D}(hm:tup=false->m=1)(h:takes m tup d=some ds):ds.length=m:=by
 unfold takes at h;split at h
 ·split at h
  ·split at h
   ·cases h;assumption
   ·cases h
  ·cases h
 ·rename_i ht
  cases h;rw[hm (by simpa using ht)];rfl
theorem lL{wi:L2.TI}{g:TG}{m:Nat}{caps:List Nat}{tup:Bool}{tc te:T}{it:TI}(hk:W.K=X.K)(hm:tup=false->m=1)
 (hwi:∀σ H (K:It->Hp->Prop),(∃me B δ l,SR X W me B H σ δ/\evI o δ true it=.ok l/\∀J H2,Same H H2->Ylds W J H2 (vis H2 (Hid B σ δ)) l->K J H2)->wi σ H K)
 (hg:∀H0,TgR { X with H₀:=H0 } W (List.range m) tup g) (h:tD X W lk (fun δ=>ev o δ lk (.comp caps m tup it tc te)) σ H Q) :
 xG wi m caps g (fun H0=>tT { X with H₀:=H0 } W fun δ=>ev o δ true tc) (fun H0=>tD { X with H₀:=H0 } W false fun δ=>ev o δ false te) σ H Q:=by
 obtain⟨me,B,δ,S,h⟩:=tD_iff.mp h;simp only[ev]at h
 cases e1:evI o δ true it with
 | exc c=>rw[e1]at h;exact h.elim
 | stuck=>rw[e1]at h;exact h.elim
 | ok l=>
 rw[e1]at h
 cases e2:dZ δ caps with
 | none=>rw[e2]at h;exact h.elim
 | some cs=>
 rw[e2]at h
 have h:After X W lk σ H (Hid B σ δ) ((bV (fun x=>ev o ((x++cs).map fun d=>some (.sh,d)) false te) (fun x=>ev o ((x++cs).map fun d=>some (.sh,d)) true tc) m tup l).bind fun r=>
  R.chk (size r.length&&(immL r||caps.all fun i=>!isOwn δ i)) (.ok (true,.lst r))) Q:=h
 refine hwi σ H _ ⟨me,B,δ,l,S,e1,fun J H2 s yl=>?_⟩;intro Da hD;obtain⟨vs,c1,c2,c3⟩:=lM S e2;generalize hown:(caps.all fun i=>!isOwn δ i)=own at h c3;generalize hP:Hid B σ δ=P at *
 have softP:Soft H2 P:=by subst hP;exact S.softH.mono S.know s
 have goneP:∀b,P b->∃u,H2 b=some u:=fun b hb=>by
  subst hP;obtain⟨u,e⟩:=S.know b hb;exact⟨u,s b u e⟩
 let Bq:Addr->Prop:=fun b=>(P b/\(own=true\/V.ref b∉vs))\/b=Da
 have nD:∀{b:Addr} {u:HO},H2 b=some u->b≠Da:=fun e z=>by rw[z,hD]at e;cases e
 have upv:∀{H':Hp},Same H2 H'->Same (vis H2 Bq) (vis H' Bq):=fun s'=>aD s'
 have inP:Same (vis H2 P) (vis H2 Bq):=fun b u e=>by
  obtain⟨e1,e2⟩:=bQ e
  refine bW e1 fun z=>?_
  rcases z with⟨z,_⟩ | z
  ·exact e2 z
  ·exact nD e1 z
 have capR:Reps W (vis H2 Bq) cs vs:=by
  cases own with
  | true=>exact((c3 rfl).mono (aD s)).mono inP
  | false=>
    have q:=c2.lend vs (fun v hv=>hv)
    refine(q.mono (aD s)).mono fun b u e=>?_
    obtain⟨e1,e2⟩:=bQ e
    refine bW e1 fun z=>?_
    rcases z with⟨z1,z2⟩ | z
    ·rcases z2 with z2 | z2
     ·cases z2
     ·exact e2 ⟨z1,z2⟩
    ·exact nD e1 z
 let δ0:Dst:=List.replicate m none++bZ cs
 have δ0sh:∀(i:Nat) (w:Own) (d:D),δ0[i]?=some (some (w,d))->w=.sh/\m<=i/\cs[i-m]?=some d:=fun i w d e=>by
  by_cases hi:i<m
  ·have e:(List.replicate m none++bZ cs)[i]?=some (some (w,d)):=e
   rw[List.getElem?_append_left (by simpa using hi),List.getElem?_replicate]at e;split at e<;>cases e
  ·have e:(List.replicate m none++bZ cs)[i]?=some (some (w,d)):=e
   rw[List.getElem?_append_right (by simpa using hi),List.length_replicate]at e;obtain⟨e1,e2⟩:=lK e;exact⟨e1,by omega,e2⟩
 have softQ:∀{H':Hp} {ys:List V},Same H2 H'->H' Da=some (.lst ys)->Soft H' Bq:=fun{H' ys} s' hd b hb u e=>by
  rcases hb with⟨hb,_⟩ | hb
  ·obtain⟨u',e'⟩:=goneP b hb
   have:=s' b u' e';rw[e]at this;cases this;exact softP b hb u e'
  ·rw[hb,hd]at e;cases e
   exact⟨(by intro _ z;cases z),(by intro _ _ z;cases z)⟩
 have goneQ:∀{H':Hp} {ys:List V},Same H2 H'->H' Da=some (.lst ys)->∀b,Bq b->∃u,H' b=some u:=fun{H' ys} s' hd b hb=>by
  rcases hb with⟨hb,_⟩ | hb
  ·obtain⟨u',e'⟩:=goneP b hb
   exact⟨u',s' b u' e'⟩
  ·exact⟨_,by rw[hb];exact hd⟩
 let X0:Cx:={ X with H₀:=upd H2 Da (.lst []) }
 have mkS:∀{H':Hp} {σ':L2.St} {ys:List V},σ'.length=m+cs.length->(∀(j:Nat) (d:D),cs[j]?=some d->∃v,σ'[m+j]?=some (some v)/\Rep W (vis H' Bq) d v)->Same H2 H'->H' Da=some (.lst ys)->SR X0 W (some Da) Bq H' σ' δ0:=fun{H' σ' ys} hl hc s' hd=>by
  refine SR.plain hk (by rw[hl];simp[δ0,bZ]) (fun i w d e=>?_) (fun b u e hb=>?_) (softQ s' hd) (goneQ s' hd) (fun x hx=>by cases hx;exact⟨_,hd⟩)
  ·obtain⟨h1,h2,h3⟩:=δ0sh i w d e
   obtain⟨v,q1,q2⟩:=hc _ d h3;exact⟨h1,v,by rw[<-q1];congr 1;omega,q2⟩
  ·have hb':b≠Da:=fun z=>hb (by rw[z])
   have e:upd H2 Da (.lst []) b=some u:=e;rw[aV hb']at e;exact s' b u e
 generalize hT:((bV (fun x=>ev o ((x++cs).map fun d=>some (.sh,d)) false te) (fun x=>ev o ((x++cs).map fun d=>some (.sh,d)) true tc) m tup l).bind fun r=>
  R.chk (size r.length&&(immL r||own)) (R.ok (true,D.lst r)))=Tt at h
 refine⟨fun i k ys σ' H'=>∃rs,i<=l.length/\k=l.length-i/\σ'.length=m+cs.length/\(∀(j:Nat) (d:D),cs[j]?=some d->∃v,σ'[m+j]?=some (some v)/\Rep W (vis H' Bq) d v)/\Same H2 H'/\H' Da=some (.lst ys)/\Reps W (vis H' Bq) rs ys /\
  ((bV (fun x=>ev o ((x++cs).map fun d=>some (.sh,d)) false te) (fun x=>ev o ((x++cs).map fun d=>some (.sh,d)) true tc) m tup (l.drop i)).bind fun r=>R.chk (size (rs++r).length&&(immL (rs++r)||own)) (R.ok (true,D.lst (rs++r))))=Tt,⟨l.length,[],Nat.zero_le _,by simp,?_,?_,Same.upd hD,bG,by simp only[Reps],by simpa using hT⟩,?_⟩
 ·unfold dg
  rw[c1,List.length_append,List.length_replicate,List.length_map,capR.length]
 ·intro j d e
  obtain⟨v,q1,q2⟩:=capR.get e;refine⟨v,?_,q2.mono (upv (Same.upd hD))⟩;unfold dg;rw[c1,List.getElem?_append_right (by simp),List.length_replicate,Nat.add_sub_cancel_left,List.getElem?_map,q1]
  rfl
 ·rintro i k ys σ' H' ⟨rs,hi,rfl,hl,hc,s',hd,hr,hTi⟩
  by_cases hlt:i<l.length
  ·
   refine .inr ⟨yl.go i H' s' (by omega),fun x H'' y=>?_⟩
   obtain⟨d,ed⟩:∃d,l[i]?=some d:=⟨_,List.getElem?_eq_getElem hlt⟩
   obtain⟨sy,rd⟩:=(yl.yld i H' x H'' d s' ed y).rep (inP.trans (upv s')) (goneQ s' hd)
   replace hc:∀(j:Nat) (d:D),cs[j]?=some d->∃v,σ'[m+j]?=some (some v)/\Rep W (vis H'' Bq) d v:=fun j d e=>
    let⟨v,q1,q2⟩:=hc j d e
    ⟨v,q1,q2.mono (aD sy)⟩
   replace hd:=sy Da _ hd
   replace hr:=hr.mono (aD (P:=Bq) sy)
   replace s':=s'.trans sy
   have hdr:l.drop i=d::l.drop (i+1):=by
    obtain⟨h1,h2⟩:=List.getElem?_eq_some_iff.mp ed;rw[List.drop_eq_getElem_cons h1,h2]
   rw[hdr,bV]at hTi
   cases e3:takes m tup d with
   | none=>rw[e3]at hTi;subst hTi;exact h.elim
   | some ds=>
   rw[e3]at hTi;have lds:=v9 hm e3;have S0:=mkS hl hc s' hd
   have hset:aR δ0 (List.range m) ds=some (bZ ds++bZ cs):=by
    have:=lY ds (List.replicate m none) (bZ cs) (by simp[lds]);rw[lds]at this;exact this
   have δ1sh:∀(i:Nat) (w:Own) (d:D),(bZ ds++bZ cs)[i]?=some (some (w,d))->w=.sh:=fun i w d e=>by
    have:bZ ds++bZ cs=bZ (ds++cs):=by simp[bZ]
    rw[this]at e;exact(lK e).1
   have hap:(bZ ds++bZ cs)=(ds++cs).map fun d=>some (Own.sh,d):=by simp[bZ]
   have vp0:vis H'' (Hid Bq σ' δ0)=vis H'' Bq:=iw fun i w d e=>(δ0sh i w d e).1
   refine hg (upd H2 Da (.lst [])) S0 (by rw[vp0];exact rd) (by rw[List.length_range];exact e3) hset fun σ1 S1 s1=>?_
   have capS:∀{H4:Hp},Same H'' H4->∀(j:Nat) (d:D),cs[j]?=some d->∃v,σ1[m+j]?=some (some v)/\Rep W (vis H4 Bq) d v:=fun{H4} s4 j d e=>by
    obtain⟨v,q1,q2⟩:=S1.sh (m+j) d (by
     rw[List.getElem?_append_right (by simp[bZ,lds])]
     simp[bZ,lds,e])
    rw[iw δ1sh]at q2;exact⟨v,q1,q2.mono (aD s4)⟩
   have len1:σ1.length=m+cs.length:=by rw[S1.len];simp[bZ,lds]
   have hTi:((ev o ((ds++cs).map fun d=>some (.sh,d)) true tc).bind fun t=>(R.of (truth t.2)).bind fun b=>if b then(ev o ((ds++cs).map fun d=>some (.sh,d)) false te).bind fun y=>(bV (fun x=>ev o ((x++cs).map fun d=>some (.sh,d)) false te) (fun x=>ev o ((x++cs).map fun d=>some (.sh,d)) true tc) m tup (l.drop (i+1))).bind fun r=>.ok (y.2::r)
    else bV (fun x=>ev o ((x++cs).map fun d=>some (.sh,d)) false te) (fun x=>ev o ((x++cs).map fun d=>some (.sh,d)) true tc) m tup (l.drop (i+1))).bind (fun r=>R.chk (size (rs++r).length&&(immL (rs++r)||own)) (R.ok (true,D.lst (rs++r))))=Tt:=hTi
   refine⟨some Da,Bq,_,S1,?_⟩;show(match(ev o (bZ ds++bZ cs) true tc).bind (fun x=>R.of (truth x.2))with | .ok b=>_ | .exc c=>_ | .stuck=>_);rw[hap]
   cases e4:ev o ((ds++cs).map fun d=>some (Own.sh,d)) true tc with
   | exc c=>rw[e4]at hTi;subst hTi;exact h.elim
   | stuck=>rw[e4]at hTi;subst hTi;exact h.elim
   | ok t=>
   rw[e4]at hTi;show(match R.of (truth t.2)with | .ok b=>_ | .exc c=>_ | .stuck=>_)
   cases e5:truth t.2 with
   | none=>simp only[R.bind,e5,R.of]at hTi;subst hTi;exact h.elim
   | some bb=>
   simp only[R.bind,e5,R.of]at hTi;intro H4 s4;have hd4:H4 Da=some (.lst ys):=s4 Da _ hd
   cases bb with
   | false=>
     simp only[Bool.false_eq_true,if_false]at hTi ⊢;exact⟨l.length-(i+1),by omega,rs,by omega,rfl,len1,capS s4,s'.trans s4,hd4,hr.mono (aD s4),hTi⟩
   | true=>
     simp only[if_true]at hTi ⊢;refine tD_iff.mpr ⟨some Da,Bq,_,S1.mono s4,?_⟩;rw[hap]
     cases e6:ev o ((ds++cs).map fun d=>some (Own.sh,d)) false te with
     | exc c=>rw[e6]at hTi;subst hTi;exact h.elim
     | stuck=>rw[e6]at hTi;subst hTi;exact h.elim
     | ok y6=>
     rw[e6]at hTi
     cases e7:bV (fun x=>ev o ((x++cs).map fun d=>some (.sh,d)) false te) (fun x=>ev o ((x++cs).map fun d=>some (.sh,d)) true tc) m tup (l.drop (i+1))with
     | exc c=>simp only[e7]at hTi;subst hTi;exact h.elim
     | stuck=>simp only[e7]at hTi;subst hTi;exact h.elim
     | ok rr=>
     simp only[e7]at hTi;intro v H5 s5 q;rw[<-hap]at q;have q':=q.keep (S1.mono s4).know;rw[iw δ1sh]at q';have hd5:H5 Da=some (.lst ys):=s5 Da _ hd4
     have hsz:size (rs++y6.2::rr).length=true:=by
      subst hTi;have:=(fY h).1;simp only[Bool.and_eq_true]at this;exact this.1
     have hlen:ys.length<sizeLine:=by
      have:=dC hsz;rw[List.length_append,List.length_cons,hr.length]at this;omega
     have up6:Same (vis H5 Bq) (vis (upd H5 Da (.lst (ys++[v]))) Bq):=fun b u e=>by
      obtain⟨z1,z2⟩:=bQ e
      have hb:b≠Da:=fun z=>z2 (.inr z)
      exact bW (by rw[aV hb];exact z1) z2
     have s6:Same H2 (upd H5 Da (.lst (ys++[v]))):=fun b u e=>by
      rw[aV (nD e)];exact s5 b u (s4 b u (s' b u e))
     refine⟨hd5,hlen,l.length-(i+1),by omega,rs++[y6.2],by omega,rfl,len1,fun j d e=>?_,s6,bG,?_,?_⟩
     ·obtain⟨w,q1,q2⟩:=capS (s4.trans s5) j d e
      exact⟨w,q1,q2.mono up6⟩
     ·refine Reps.append ((hr.mono (aD (s4.trans s5))).mono up6) ?_
      simp only[Reps];exact⟨q'.mono up6,trivial⟩
     ·show R.chk _ _=_
      rw[<-hTi];simp only[R.bind,List.append_assoc,List.singleton_append]
  ·
   have hil:i=l.length:=by omega
   subst hil;refine .inl ⟨yl.stop H' s',?_⟩;rw[List.drop_length,bV]at hTi;simp only[R.bind,List.append_nil]at hTi;subst hTi;obtain⟨hc1,h⟩:=fY h;simp only[Bool.and_eq_true,Bool.or_eq_true]at hc1;refine h (.ref Da) H' (s.trans s') ?_;unfold Res;rw[if_pos rfl];refine⟨Da,rfl,s.free hD,ys,hd,?_⟩;rcases hc1.2 with him | ho
   ·refine(Reps.imm (H:=H') (P:=fun b=>P b\/b=Da) (fun b hb u e=>?_) him (hr.mono aO))
    rcases hb with hb | hb
    ·obtain⟨u',e'⟩:=goneP b hb
     have:=s' b u' e';rw[e]at this;cases this;exact softP b hb u e'
    ·rw[hb,hd]at e;cases e
     exact⟨(by intro _ z;cases z),(by intro _ _ z;cases z)⟩
   ·refine hr.mono (aQ fun b hb=>?_)
    rcases hb with hb | hb
    ·exact .inl ⟨hb,.inl ho⟩
    ·exact .inr hb
end
end Z
namespace Z
open PySem PySem.Spec PyProof.Rows L2
section
variable{X:Cx}{W:Wd}{lk lk':Bool}{σ:L2.St}{H H1 H':Hp}{me:Option Addr}{B:Addr->Prop}{δ:Dst}{Q Q':VK}{a b:Expr}{pos p pos':Pos}{o:Orc}
theorem get_set{i j:Nat}{w w':Own}{d d' x:D}(hi:δ[i]?=some (some (w,d)))(h:(δ.set i (some (w,d')))[j]?=some (some (w',x))):(j=i/\w'=w/\x=d')\/(j≠i/\δ[j]?=some (some (w',x))):=by
 have hl:i<δ.length:=(List.getElem?_eq_some_iff.mp hi).1
 by_cases hj:j=i
 ·subst hj
  rw[List.getElem?_set_self hl]at h;cases h;exact .inl ⟨rfl,rfl,rfl⟩
 ·rw[List.getElem?_set_ne (Ne.symm hj)]at h
  exact .inr ⟨hj,h⟩
theorem fJ{i:Nat}{w:Own}{d d':D}(hi:δ[i]?=some (some (w,d))){j:Nat}{c:Addr}:eE σ (δ.set i (some (w,d'))) j c↔eE σ δ j c:=by
 have hl:i<δ.length:=(List.getElem?_eq_some_iff.mp hi).1
 constructor
 ·rintro⟨⟨w',x,h1,h2⟩,h3⟩
  rcases get_set hi h1 with⟨rfl,rfl,rfl⟩ | ⟨_,h⟩
  ·exact⟨⟨_,_,hi,h2⟩,h3⟩
  ·exact⟨⟨w',x,h,h2⟩,h3⟩
 ·rintro⟨⟨w',x,h1,h2⟩,h3⟩
  by_cases hj:j=i
  ·subst hj
   rw[hi]at h1;cases h1;exact⟨⟨w,d',by rw[List.getElem?_set_self hl],h2⟩,h3⟩
  ·exact⟨⟨w',x,by rw[List.getElem?_set_ne (Ne.symm hj)];exact h1,h2⟩,h3⟩
theorem jr{i:Nat}{w:Own}{d d':D}(hi:δ[i]?=some (some (w,d))):Hid B σ (δ.set i (some (w,d')))=Hid B σ δ:=by
 funext c
 apply propext
 unfold Hid
 constructor
 ·rintro(h | ⟨j,h⟩)
  ·exact .inl h
  ·exact .inr ⟨j,(fJ hi).mp h⟩
 ·rintro(h | ⟨j,h⟩)
  ·exact .inl h
  ·exact .inr ⟨j,(fJ hi).mpr h⟩
theorem SR.own(S:SR X W me B H σ δ){i:Nat}{w:Own}{d:D}(hi:ownD δ i=some (w,d)):δ[i]?=some (some (w,d))/\w≠.sh/\∃c,σ[i]?=some (some (V.ref c))/\OwnAt W H (vis H (Hid B σ δ)) c d/\¬B c/\(∀u,X.H₀ c=some u->some c=me):=by
 unfold ownD at hi;split at hi
 ·rename_i d' e
  cases hi;obtain⟨c,h1,h2,h3,h4,h5⟩:=S.ow i _ e;exact⟨e,by decide,c,h1,h2,h4,fun u z=>by rw[h3]at z;cases z⟩
 ·rename_i d' e
  cases hi;obtain⟨_,c,h0,h1,h2,h4⟩:=S.mi i _ e;exact⟨e,by decide,c,h1,h2,h4,fun u _=>h0.symm⟩
 ·cases hi
theorem SR.write(S:SR X W me B H σ δ){i:Nat}{w:Own}{d d':D}{c:Addr}{u:HO}(hi:δ[i]?=some (some (w,d)))(hw:w≠.sh)(hc:σ[i]?=some (some (V.ref c)))(hB:¬B c)(hX:∀u,X.H₀ c=some u->some c=me)
 (new:OwnAt W (upd H c u) (vis H (Hid B σ δ)) c d'):SR X W me B (upd H c u) σ (δ.set i (some (w,d')))/\Same (vis H (Hid B σ δ)) (vis (upd H c u) (Hid B σ (δ.set i (some (w,d'))))):=by
 have hid:Hid B σ δ c:=.inr ⟨i,⟨w,d,hi,hw⟩,hc⟩
 have up:Same (vis H (Hid B σ δ)) (vis (upd H c u) (Hid B σ δ)):=fun b v e=>by
  obtain⟨e1,e2⟩:=bQ e
  have hb:b≠c:=fun z=>e2 (z▸hid)
  exact bW (by rw[aV hb];exact e1) e2
 have other:∀{j:Nat} {x:Own} {y:D},j≠i->δ[j]?=some (some (x,y))->x≠.sh->∀{e:Addr},σ[j]?=some (some (V.ref e))->e≠c:=fun hj h1 h2 e h3 z=>by
  subst z;exact hj (S.apart _ _ _ ⟨⟨_,_,h1,h2⟩,h3⟩ ⟨⟨_,_,hi,hw⟩,hc⟩)
 refine⟨?_,by rw[jr hi];exact up⟩;refine⟨S.kf,by simp[S.len],fun j y h=>?_,fun j y h=>?_,fun j y h=>?_,fun j k e h1 h2=>S.apart j k e ((fJ hi).mp h1) ((fJ hi).mp h2),fun b v e hb=>?_,fun b hb v e=>?_,fun b hb=>?_,fun x hx=>?_⟩
 ·rw[jr hi]
  rcases get_set hi h with⟨_,rfl,_⟩ | ⟨_,h⟩
  ·exact absurd rfl hw
  ·obtain⟨v,h1,h2⟩:=S.sh j y h
   exact⟨v,h1,h2.mono up⟩
 ·rw[jr hi]
  rcases get_set hi h with⟨rfl,rfl,rfl⟩ | ⟨hj,h⟩
  ·obtain⟨e,h1,h2,h3,h4,h5⟩:=S.ow j d hi
   rw[hc]at h1;cases h1;exact⟨c,hc,new.mono (fun _ q=>q) up,h3,h4,h5⟩
  ·obtain⟨e,h1,h2,h3⟩:=S.ow j y h
   exact⟨e,h1,h2.mono (fun v q=>by rw[aV (other hj h (by decide) h1)];exact q) up,h3⟩
 ·rw[jr hi]
  rcases get_set hi h with⟨rfl,rfl,rfl⟩ | ⟨hj,h⟩
  ·obtain⟨h0,e,h1,h2,h3,h4⟩:=S.mi j d hi
   rw[hc]at h2;cases h2;exact⟨h0,c,h1,hc,new.mono (fun _ q=>q) up,h4⟩
  ·obtain⟨h0,e,h1,h2,h3,h4⟩:=S.mi j y h
   exact⟨h0,e,h1,h2,h3.mono (fun v q=>by rw[aV (other hj h (by decide) h2)];exact q) up,h4⟩
 ·have hbc:b≠c:=fun z=>hb (by subst z;exact hX v e)
  rw[aV hbc];exact S.same b v e hb
 ·have hbc:b≠c:=fun z=>hB (z▸hb)
  rw[aV hbc]at e;exact S.soft b hb v e
 ·have hbc:b≠c:=fun z=>hB (z▸hb)
  rw[aV hbc];exact S.gone b hb
 ·by_cases hxc:x=c
  ·subst hxc;exact⟨u,bG⟩
  ·rw[aV hxc];exact S.live x hx
theorem PS.or{st:Stmt}{t t':TS}(h:PS X st t)(h':PS X st t'):PS X st (fun D σ H=>t D σ H\/t' D σ H):=by
 intro pins s σ H D I q;rcases q with q | q
 ·exact h pins s σ H D I q
 ·exact h' pins s σ H D I q
theorem jE{H G:Hp}{d:D}{x:DK}{y:V}(h:keyOf d=some x)(r:RepT W H G d y):y=kV (keyV x):=by
 cases d<;>first | exact nope h | simp only[keyOf]at h
 ·cases h;exact aJ r
 ·cases h;exact(aX r).1
end
end Z
namespace Z
open PySem PySem.Spec PyProof.Rows L2
section
variable{X:Cx}{W:Wd}{lk lk':Bool}{σ:L2.St}{H H1 H':Hp}{me:Option Addr}{B:Addr->Prop}{δ:Dst}{Q Q':VK}{a b:Expr}{pos p pos' apos cpos:Pos}{o:Orc}
noncomputable def az:Expr->Bool
 | .Starred _ _=>true
 | _=>false
theorem bU{e:Expr}{es:List Expr}{env:Env}(h:az e=false):starEach (e::es) env=(false,eval e env)::starEach es env:=by
 cases e<;>first | rfl | (simp[az]at h)
theorem few1{e:Expr}{env:Env}(h:az e=false):((backTo cpos (starEach [e] env)).all (fun x=>!x.1)&&(backToKw cpos (keywordEach [] env)).all (fun x=>x.1.isSome)
 && decide (([e]:List Expr).length+([]:List Keyword).length+(if([]:List Keyword).isEmpty then 0 else 1)<30))=true:=by
 rw[bU h];rfl
noncomputable def plainBase:Expr->Bool
 | .Call (.Name _ _) [] [] _=>false
 | _=>true
theorem iz{e:Expr}{m:Str}{env:Env}{w:Sem Value}(h:plainBase e=true):attributeBase e m env w=w:=by
 unfold attributeBase;split
 ·simp[plainBase]at h
 ·rfl
theorem kZ{f:Expr}{args:List Expr}{kws:List Keyword}{pp:Pos}{l:Nat}{env:Env}:swapsWith (.Call f args kws pp) none l env=pure false:=rfl
theorem sX{i:Nat}{x:Str}{e:Expr}{te:T}(hv:PE X (.Name x p) (tVar i))(he:PE X e (tD X W false fun δ=>ev o δ false te))(hst:az e=false)(hline:(apos.endLine==cpos.line)=true) :
 PS X (.Expr (.Call (.Attribute (.Name x p) "append" apos) [e] [] cpos) pos) (tS X W (evS o (.append i te))):=by
 refine PS.imp (tZ (JS PySem.F.plainAttrs_list PySem.F.slot_list_append PySem.F.type_list_append km hv (bF he cR (bU hst)) (iz rfl) (few1 hst) hline (bU hst) rfl) kZ) fun En σ H ⟨me,B,δ,S,h⟩=>?_
 simp only[evS]at h;obtain⟨S1,e1⟩:=S.evF o te;have sub1:=gU (B:=B) (σ:=σ) (δ:=δ) o te;generalize (evF o δ te).1=δ1 at *;generalize (evF o δ te).2=r1 at *;obtain⟨r,e2,h⟩:=SO.of_ok h;obtain⟨q,e4,h⟩:=dM h
 cases e5:ownD δ1 i with
 | none=>rw[e5]at e4;cases e4
 | some c=>
 obtain⟨w,d⟩:=c;rw[e5]at e4;simp only[Option.bind_some]at e4
 cases d with
 | lst l=>
   simp only at e4;split at e4
   ·rename_i hsz
    cases e4;obtain⟨_,_,ad,o3,⟨xs0,q0,_⟩,_⟩:=S1.own e5;refine⟨_,o3,.inl ⟨rfl,xs0,SqL.of q0⟩,tD_iff.mpr ⟨me,B,δ1,S1,?_⟩⟩;rw[<-e1,e2];intro v H1 s1 q1;obtain⟨o1,o2,ad',o3',⟨xs,q2,q3⟩,o5,o6⟩:=(S1.mono s1).own e5;rw[o3]at o3';cases o3';have hz:=dC hsz;have hl:=q3.length;refine⟨ad,xs,v,rfl,rfl,q2,by omega,?_⟩;have rv:=q1.keep S1.know;obtain⟨S3,s3⟩:=(S1.mono s1).write (u:=.lst (xs++[v])) (d':=.lst (l++[r.2])) o1 o2 o3 o5 o6 ⟨_,bG,q3.append (by simp only[Reps];exact⟨rv,trivial⟩)⟩;exact h _ _ S3 (((aQ sub1).trans (aD s1)).trans s3)
   ·cases e4
 | _=>cases e4
theorem Cu:PS X (.Pass pos) (tS X W (evS o .pass)):=by
 refine PS.imp Ds fun En σ H ⟨me,B,δ,S,h⟩=>?_
 simp only[evS]at h;exact h _ _ S (Same.refl _)
theorem Jm:PS X (.Break pos) (tS X W (evS o .brk)):=by
 refine PS.imp yS fun En σ H ⟨me,B,δ,S,h⟩=>?_
 simp only[evS]at h;exact h _ _ S (Same.refl _)
theorem De:PS X (.Continue pos) (tS X W (evS o .cont)):=by
 refine PS.imp n6 fun En σ H ⟨me,B,δ,S,h⟩=>?_
 simp only[evS]at h;exact h _ _ S (Same.refl _)
theorem BR:PS X (.Return none pos) (tS X W (evS o .retn)):=by
 refine PS.imp Ej fun En σ H ⟨me,B,δ,S,h⟩=>?_
 simp only[evS]at h;refine h _ _ _ S (Same.refl _) ?_;exact .shared (by simp only[Rep])
theorem yq{G:Hp}(lo:Int)(n:Nat):Reps W G ((List.range n).map fun(k:Nat)=>D.int (lo+(k:Int))) ((List.range n).map fun(k:Nat)=>V.int (lo+(k:Int))):=by
 induction List.range n with
 | nil=>simp only[List.map_nil,Reps]
 | cons k l ih=>simp only[List.map_cons,Reps,Rep];exact⟨trivial,ih⟩
theorem HQ{i:Int}(h:inR i=true):-1000000<=i/\i<=1000000:=by
 unfold inR at h;simpa using h
end
end Z
namespace Z
open PySem PySem.Spec PyProof.Rows L2
section
variable{X:Cx}{W:Wd}{o:Orc}{p pos apos cpos:Pos}
theorem v5{i:Nat}{x:Str}{e:Expr}{te:T}(hv:PE X (.Name x p) (tVar i))(he:PE X e (tD X W false fun δ=>ev o δ false te))(hst:az e=false)(hline:(apos.endLine==cpos.line)=true) :
 PS X (.Expr (.Call (.Attribute (.Name x p) "extend" apos) [e] [] cpos) pos) (tS X W (evS o (.extend i te))):=by
 refine PS.imp (tZ (JS PySem.F.plainAttrs_list PySem.F.slot_list_extend PySem.F.type_list_extend vQ hv (bF he cR (bU hst)) (iz rfl) (few1 hst) hline (bU hst) rfl) kZ) fun En σ H ⟨me,B,δ,S,h⟩=>?_
 simp only[evS]at h;obtain⟨S1,e1⟩:=S.evF o te;have sub1:=gU (B:=B) (σ:=σ) (δ:=δ) o te;generalize (evF o δ te).1=δ1 at *;generalize (evF o δ te).2=r1 at *;obtain⟨⟨rw,rd⟩,e2,h0⟩:=SO.of_ok h;obtain⟨q,e4,h9⟩:=dM h0;clear h0 h
 cases e5:ownD δ1 i with
 | none=>rw[e5]at e4;cases e4
 | some c=>
 obtain⟨w,d⟩:=c;rw[e5]at e4;simp only[Option.bind_some]at e4
 cases d<;>first | exact nope e4 | skip
 rename_i l
 cases rd<;>first | exact nope e4 | skip
 rename_i l';simp only at e4;split at e4
 ·rename_i hc
  cases e4;obtain⟨hsz,hw⟩:=Bool.and_eq_true_iff.mp hc;have hw:rw=true:=hw;subst hw;obtain⟨_,_,ad,o3,⟨xs0,q0,_⟩,_⟩:=S1.own e5;refine⟨_,o3,.inl ⟨rfl,xs0,SqL.of q0⟩,tD_iff.mpr ⟨me,B,δ1,S1,?_⟩⟩;rw[<-e1,e2];intro v H1 s1 q1;obtain⟨o1,o2,ad',o3',⟨xs,q2,q3⟩,o5,o6⟩:=(S1.mono s1).own e5;rw[o3]at o3';cases o3';unfold Res at q1;rw[if_pos rfl]at q1;obtain⟨b,rfl,hb,zs,z1,z2⟩:=q1;have hz:=dC hsz;have hl:=q3.length;have hl':=z2.length;refine⟨ad,b,xs,zs,rfl,rfl,q2,z1,by omega,?_⟩
  have rv:Reps W (vis H1 (Hid B σ δ1)) l' zs:=z2.mono fun c oc ec=>by
   obtain⟨g1,g2⟩:=bQ ec
   exact bW g1 fun z=>g2 (.inl z)
  obtain⟨S3,s3⟩:=(S1.mono s1).write (u:=.lst (xs++zs)) (d':=.lst (l++l')) o1 o2 o3 o5 o6 ⟨_,bG,q3.append rv⟩;exact h9 _ _ S3 (((aQ sub1).trans (aD s1)).trans s3)
 ·cases e4
end
end Z
namespace L2
open PySem PySem.Spec PyProof.Rows
section
variable{X:Cx}
theorem qT{ys:List Bool}:∀{us:List Value},Vals (ys.map V.bl) us->us=ys.map Value.bool:=by
 induction ys with
 | nil=>intro us h;cases h;rfl
 | cons y ys ih=>
   intro us h;rw[List.map_cons]at h
   cases h with
   | cons r t=>cases r;rw[ih t];rfl
theorem old_kept{s:Shared}{h':Heap}{ob:Obj}(hk:∀b x,b∉[s.heap.objs.size]->(s.heap.push ob).get? b=some x->h'.get? b=some x):∀b x,s.heap.get? b=some x->h'.get? b=some x :=
 fun b x e=>hk b x (fun z=>absurd (Heap.lt_size e) (by rw[List.mem_singleton.mp z];exact Nat.lt_irrefl _)) (Heap.get?_push_of_some _ e)
theorem uz(hc:X.calm=true):CallR X (.builtin "all") (fun xs H Q=>∃(c:Addr) (bs:List Bool),xs=[.ref c]/\SqL X.K H c (bs.map V.bl)/\Q (.bl (bs.all id)) H):=by
 intro pins s σ H xs us Q I r h;obtain⟨c,bs,rfl,hq,q⟩:=h;obtain⟨u,rfl,rx⟩:=vals1 r;cases rx;obtain⟨its,rv,pl,hz⟩:=I.list hq;have eits:=qT rv;subst eits;have hl:s.heap.IsList c (bs.map Value.bool).toArray:=pl.isList
 have hlt:c<s.heap.objs.size:=by obtain⟨_,e,_⟩:=hl;exact Heap.lt_size e
 refine call_all_walk (wpAny_pyIter_list hl ?_)
 refine⟨s.heap.objs.size,[s.heap.objs.size,c],[s.heap.objs.size],(bs.map Value.bool).toArray.size,_,_,fun i=>(bs[i]?).getD true,rfl,Walks.list (A:=X.A.in1) (I.ok.hd hc) _ c (Nat.ne_of_lt hlt) _,
  ⟨⟨_,Heap.get?_push_size _ rfl,rfl,rfl⟩,hl.push _⟩,fun i v s' Q' E' hP hQ=>?_,fun h' tk hk=>?_⟩
 ·have hP:(bs.map Value.bool)[i]?=some v:=by simpa using hP
  rw[List.getElem?_map]at hP
  cases e:bs[i]? with
  | none=>rw[e]at hP;cases hP
  | some b=>
    rw[e]at hP;cases hP;simp only[e,Option.getD_some]at hQ;exact wpAny_truthy_bool hQ
 ·have e:((List.range (bs.map Value.bool).toArray.size).all fun i=>(bs[i]?).getD true)=bs.all id:=by
   rw[List.size_toArray,List.length_map,Bool.eq_iff_iff,List.all_eq_true,List.all_eq_true]
   constructor
   ·intro h b hb
    obtain⟨i,hi,rfl⟩:=List.getElem_of_mem hb;have:=h i (List.mem_range.mpr hi);simpa[List.getElem?_eq_getElem hi]using this
   ·intro h i hi
    have hi:=List.mem_range.mp hi;simpa[List.getElem?_eq_getElem hi]using h _ (List.getElem_mem hi)
  rw[e];exact⟨.bl (bs.all id),H,I.kept (old_kept hk),rfl,q⟩
section
variable{prog:Program}{w:World}{A:Around}{E:Value->Shared->Prop}{s:Shared}
theorem oA{T:String}{r d:Addr}{n:Nat}{P:Nat->Value->Prop}{OK:Heap->Prop}{Q:List Value->Shared->Prop}(K:PySem.W.KdlSrc prog w T r d n P OK)(hh:A.handled=none)(hok:OK s.heap)(hn:n<=sizeLine)
 (h:∀h' tk acc,(∀b o,s.heap.get? b=some o->h'.get? b=some o)->ItemsOf P acc n->Q acc.toList { s with heap:=h',toks:=tk }):wpAny (model prog w) A (collect (.ref r)) Q E s:=by
 have hlt:=K.there _ hok;unfold collect;refine wpAny_bind (wpAny_runValue (codeAny_builtin PySem.F.entry_proto_collect ?_));rw[Around.under_plainId PySem.F.plain_proto_collect _];show wpAny _ A.in1 (newList [] >>= fun acc=>again (.builtin "list.__iadd__" ⟨[acc,.ref r],[]⟩)) _ _ s;refine wpAny_bind (wpAny_newObj_type ?_);refine wpAny_pure ⟨plainId_quiet PySem.F.plain_list_iadd _,codeAny_builtin PySem.F.entry_list_iadd ?_⟩;rw[Around.under_plainId PySem.F.plain_list_iadd _];show wpAny _ A.in1 (Builtin.List.listExtendWith (.ref s.heap.objs.size) (.ref r) (.ref s.heap.objs.size)) _ _ _;have hS0:(s.heap.push { cls:=.type "list",data:=.seq ([]:List Value).toArray }).get? s.heap.objs.size=some { cls:=.type "list",data:=.seq #[] 0 }:=Heap.get?_push_size _ rfl
 have hok0:OK (s.heap.push { cls:=.type "list",data:=.seq ([]:List Value).toArray }):=K.keep _ _ hok fun b _ o e=>Heap.get?_push_of_some _ e
 have fin:∀r' s',(∃h' tk acc c',r'=Except.ok (Flow.ret (.ref s.heap.objs.size))/\s'=({ s with heap:=h',toks:=tk }:Shared)/\(∀b o,s.heap.get? b=some o->h'.get? b=some o)/\h'.get? s.heap.objs.size=some { cls:=.type "list",dict:=none,data:=.seq acc c',slots:=#[] }/\ItemsOf P acc n) ->
  (match r' with
   | Except.ok (Flow.ret v)=>wpAny (model prog w) A (match v with
     | Value.ref a=>(do
       let ob <-load a
       match ob.data with
       | Data.seq xs _=>pure xs.toList
       | _=>unsupported "internal:collect")
     | _=>unsupported "internal:collect") Q E s'
   | Except.ok _=>False
   | Except.error e=>E e s'):=by
  rintro r' s' ⟨h',tk,acc,c',rfl,rfl,hk,hS,hacc⟩
  show wpAny _ A (load s.heap.objs.size >>= _) _ _ _;refine wpAny_bind (wpAny_load hS ?_);exact wpAny_pure (h h' tk acc hk hacc)
 refine wpAny_mono (PySem.W.kdl_extend (A:=A) (s:={ s with heap:=s.heap.push { cls:=.type "list",data:=.seq ([]:List Value).toArray } }) (R:=fun r' s'=>∃h' tk acc c',r'=Except.ok (Flow.ret (.ref s.heap.objs.size))/\s'=({ s with heap:=h',toks:=tk }:Shared)/\(∀b o,s.heap.get? b=some o->h'.get? b=some o)/\h'.get? s.heap.objs.size=some { cls:=.type "list",dict:=none,data:=.seq acc c',slots:=#[] }/\ItemsOf P acc n)
  K hh hok0 s.heap.objs.size (Nat.ne_of_gt hlt.1) (Nat.ne_of_gt hlt.2) (.ref s.heap.objs.size) 0 hS0 (fun h' tk acc c' hk hS hacc=>⟨h',tk,acc,c',rfl,rfl,fun b o e=>hk b o (Nat.ne_of_lt (Heap.lt_size e)) (Heap.get?_push_of_some _ e),hS,hacc⟩) hn) (fun f s' hf=>?_) fun e s' he=>?_
 ·cases f with
  | done f=>exact fin _ _ hf
  | again c'=>exact⟨hf.1,codeAny_mono hf.2 fun r' s' q=>fin r' s' q⟩
 ·obtain⟨_,_,_,_,z,_⟩:=he
  cases z
theorem sorted_by{κ:PyProof.Rows.KeyKind}(hO:κ.OneLt){x:Value}{Q:Value->Shared->Prop}
 (hc:∀E',wpAny (model prog w) A.in1 (collect x) (fun vs s1=>KeysOf κ (pairsOf vs)/\(∀v₁ v₂ rest,vs=v₁::v₂::rest->keyKind' (v₁::v₂::rest).toArray=pure oneType')/\vs.length<64 /\
  ∀(h':Heap) (st:SortSt),(∀b o,s1.heap.get? b=some o->h'.get? b=some o)->(arrOf st).Perm (pairsOf vs)->SortedToK κ (arrOf st) (pairsOf vs).size->(∃e,h'.get? s1.heap.objs.size=some (seqObj "list" ((arrOf st).map (·.2)) e)) ->
   Q (.ref s1.heap.objs.size) { s1 with heap:=h' }) E' s):wpAny (model prog w) A (call (.builtin "sorted") [x]) Q E s:=by
 refine Calls.call_function_entry kind_sorted plain_sorted entry_sorted (args_sorted1 _) ?_;unfold Builtin.«sorted»;refine wpAny_bind (m:=checkCount "sorted" 1 1 _) (wpAny_pure ?_);refine wpAny_bind (wpAny_mono (hc _) (fun vs s1 h1=>?_) fun _ _ e=>e);obtain⟨h0,hkk,h64,hQ⟩:=h1;refine wpAny_bind (wpAny_newList ?_);have hoL:(s1.heap.push (seqObj "list" vs.toArray 0)).get? s1.heap.objs.size=some (seqObj "list" vs.toArray 0):=Heap.get?_push_size _ rfl;refine wpAny_bind (wpAny_holding (wpAny_call_entry slot_list_sort ⟨_,hoL,rfl⟩ entry_list_sort (list_sort_treeK hO hoL h0 hkk h64 fun st' a1 a2=>⟨_,rfl,?_⟩) (args_list_sort _)));refine wpAny_pure ⟨_,rfl,hQ _ st' (fun b o e=>?_) a1 a2 (sortedHeap_at hoL)⟩;have hlt:=Heap.lt_size e;rw[sortedHeap_old (Nat.ne_of_lt hlt) (by rw[size_push'];exact Nat.lt_succ_of_lt hlt)];exact Heap.get?_push_of_some _ e
end
theorem lz:∀{ss:List Str} {its:List Value},Vals (ss.map V.str) its->StrsAre its ss
 | [],its,h=>by cases h;exact .nil
 | x::ss,its,h=>by
   rw[List.map_cons]at h
   cases h with
   | cons r t=>
     obtain⟨tk,rfl⟩:=r;exact .cons x tk (lz t)
theorem iB:∀{ss:List Str} {its:List Value},StrsAre its ss->Vals (ss.map V.str) its
 | _,_,.nil=>.nil
 | _,_,.cons x tk t=>by rw[List.map_cons];exact .cons ⟨tk,rfl⟩ (iB t)
theorem uO{vs:List (Key×Value)}:∀{ss:List Str} {its:List Value},vs.map (·.1)=ss.map Sum.inr->its.length=vs.length->(∀(i:Nat) v,its[i]?=some v->∃k x,vs[i]?=some (k,x)/\j7 k v=true)->StrsAre its ss:=by
 induction vs with
 | nil=>
   intro ss its e hl h
   cases ss with
   | nil=>
     have:its=[]:=List.eq_nil_of_length_eq_zero hl;subst this;exact .nil
   | cons _ _=>simp at e
 | cons q vs ih=>
   intro ss its e hl h
   cases ss with
   | nil=>simp at e
   | cons x ss=>
     cases its with
     | nil=>simp at hl
     | cons v its=>
       simp only[List.map_cons,List.cons.injEq]at e;obtain⟨k,y,e1,e2⟩:=h 0 v rfl;simp at e1
       have e3:k=Sum.inr x:=by rw[<-e.1,e1]
       rw[e3]at e2;rcases aW e2 with⟨i,t,z,_⟩ | ⟨x',t,z,rfl⟩
       ·cases z
       ·cases z
        exact .cons x t (ih e.2 (by simpa using hl) fun i u hu=>by simpa using h (i+1) u (by simpa using hu))
theorem jY(hc:X.calm=true):CallR X (.builtin "sorted") (fun xs H Q=>∃(c:Addr) (ss:List Str),xs=[.ref c]/\(SqL X.K H c (ss.map V.str)\/∃kvs:List (Key×V),(∃ep,H c=some (.dK kvs ep))/\kvs.map (·.1)=ss.map Sum.inr)/\ss.length<64 /\
 ∀(l:Addr) (ss':List Str),ss'.Perm ss->PyProof.Rows.sortedS ss'=true->H l=none->Q (.ref l) (upd H l (.lst (ss'.map V.str)))):=by
 intro pins s σ H xs us Q I r h;obtain⟨c,ss,rfl,hq,h64,q⟩:=h;obtain⟨u,rfl,rx⟩:=vals1 r;cases rx
 have key:∀(vs:List Value) (s1:Shared),Inv X pins σ H s1->StrsAre vs ss->vs.length=ss.length->KeysOf PyProof.Rows.strKind (pairsOf vs)/\(∀v₁ v₂ rest,vs=v₁::v₂::rest->keyKind' (v₁::v₂::rest).toArray=pure oneType')/\vs.length<64 /\
  ∀(h':Heap) (st:SortSt),(∀b o,s1.heap.get? b=some o->h'.get? b=some o)->(arrOf st).Perm (pairsOf vs)->SortedToK PyProof.Rows.strKind (arrOf st) (pairsOf vs).size->(∃e,h'.get? s1.heap.objs.size=some (seqObj "list" ((arrOf st).map (·.2)) e)) ->
   EP X pins σ Q (.ref s1.heap.objs.size) { s1 with heap:=h' }:=fun vs s1 I1 hS hlen=>by
  refine⟨hS.keysOf,fun v₁ v₂ rest e=>keyKind_strs (by rw[<-e];exact hS),by omega,fun h' st hk hp hs ho=>?_⟩;obtain⟨ss',a1,a2,a3⟩:=sorted_out_str hS hp hs;obtain⟨e,ho⟩:=ho;have hl:=a2.length_eq;refine⟨.ref s1.heap.objs.size,_,I1.laid (a:=s1.heap.objs.size) (o:=.lst (ss'.map V.str)) (t':=s1.toks) hk (Nat.le_refl _) ?_,rfl,q _ ss' a2 a3 I1.fresh⟩;refine⟨by rw[List.length_map,sizeLine_eq];omega,((arrOf st).map (·.2)).toList,e,iB a1,?_⟩;rw[ho]
 refine sorted_by PyProof.Rows.strKind_oneLt fun E'=>?_
 rcases hq with hq | ⟨kvs,hd,hks⟩
 ·obtain⟨its,rv,pl,hz⟩:=I.list hq
  have hS:=lz rv
  have hlen:its.length=ss.length:=by have:=rv.length;rw[List.length_map]at this;omega
  refine collect_list (vs:=its) pl.isList ?_ (by rw[hlen,sizeLine_eq];omega);refine key its _ (I.kept (t':=s.toks) fun b o e=>?_) hS hlen;rw[Heap.get?_update_ne _ _ _ _ (Nat.ne_of_lt (Heap.lt_size e))];exact Heap.get?_push_of_some _ e
 ·obtain⟨z,lo,vs,rel,dd⟩:=qH I.hok (hd.imp fun _ z=>.inl z)
  have hkeys:vs.map (·.1)=ss.map Sum.inr:=by rw[<-hks];exact rel.keys.symm
  have hlen:vs.length=ss.length:=by simpa using congrArg List.length hkeys
  obtain⟨ep,dd⟩:=dd.dictAt
  refine oA (A:=X.A.in1) (PySem.W.kdl_dict (knd:=bB X.prog X.w) (kvs:=vs) (ep:=ep) lo) (I.ok.hd hc) dd (by rw[hlen,sizeLine_eq];omega) fun h' tk acc hk hacc=>?_
  have hal:acc.toList.length=vs.length:=by rw[Array.length_toList];exact hacc.1
  exact key acc.toList _ (I.kept hk) (uO hkeys hal fun i v e=>hacc.2 i v (by rw[<-Array.getElem?_toList];exact e)) (by omega)
end
end L2
namespace Z
open PySem PySem.Spec PyProof.Rows L2
section
variable{prog:Program}{w:World}{A:Around}{E:Value->Shared->Prop}{s:Shared}
noncomputable def PrAt(h:Heap)(p:Addr)(x:Str):Prop:=∃o t v n,h.get? p=some o/\o.cls=.type "tuple"/\o.data=.seq #[.str x t,v] n
noncomputable def ord2:List (Addr×Str)->List (Addr×Str)
 | [r0,r1]=>if r1.2.cps.toList<r0.2.cps.toList then[r1,r0]else[r0,r1]
 | l=>l
theorem PrAt.up{h h':Heap}{p:Addr}{x:Str}(r:PrAt h p x)(k:∀o,h.get? p=some o->h'.get? p=some o):PrAt h' p x:=by
 obtain⟨o,t,v,n,e,c,d⟩:=r;exact⟨o,t,v,n,k o e,c,d⟩
theorem ask2{cmp:Nat->Nat->(Bool->Shared->Prop)->Shared->Prop}{G:Array Nat->Shared->Prop}(h:cmp 1 0 (fun b s'=>G (if b then #[1,0]else #[0,1]) s') s)(hm:∀C C',(∀b s',C b s'->C' b s')->cmp 1 0 C s->cmp 1 0 C' s):(PySem.W.kas_sort 2).kasWp cmp G s:=by
 refine hm _ _ (fun b s' q=>?_) h
 cases b with
 | true=>exact q
 | false=>exact q
theorem wD{a:Addr}{vs:List Value}{n:Nat}{P:PySem.Fin->Shared->Prop}(ho:s.heap.get? a=some (seqObj "list" vs.toArray n)){xs:List (Addr×Str)}(hv:vs=xs.map fun r=>.ref r.1)(h1:xs.length<=2)(hp:∀r∈xs,PrAt s.heap r.1 r.2/\r.1≠a)(hd:∀r0 r1,xs=[r0,r1]->r0.2≠r1.2)
 (h:∀h' e ys,(∀b o,b≠a->s.heap.get? b=some o->h'.get? b=some o)->ys=ord2 xs->h'.get? a=some (seqObj "list" (ys.map fun r=>Value.ref r.1).toArray e)->P (.done (.ret .none)) { s with heap:=h' }) :
 wpAny (model prog w) A (Builtin.«list.sort» ⟨[.ref a],[]⟩) P E s:=by
 have hl:vs.length<=2:=by rw[hv,List.length_map];exact h1
 have la:a<s.heap.objs.size:=Heap.lt_size ho;rw[list_sort_plain];refine wpAny_bind (listItems_at ho rfl (wpAny_bind (listUpdate_at ho rfl ?_ (by rw[List.size_toArray,sizeLine_eq];omega) (Nat.zero_le _))))
 obtain⟨e1,g1⟩:∃e1,(s.heap.update a (Obj.mapSeq fun _=>(#[]:Array Value))).get? a=some (seqObj "list" #[] e1):=⟨_,get?_update_seq ho fun _=>#[]⟩
 refine wpAny_bind (seqEpoch_at g1 rfl (wpAny_bind (wpAny_newTuple (wpAny_bind (wpAny_newList (wpAny_holding ?_) (Nat.zero_le _))) (by show vs.length<=_;rw[sizeLine_eq];omega))))
 have up:∀b o,b≠a->s.heap.get? b=some o->(((s.heap.update a (Obj.mapSeq fun _=>(#[]:Array Value))).push (seqObj "tuple" vs.toArray 0)).push (seqObj "list" #[] 0)).get? b=some o:=fun b o nb e=>Heap.get?_push_of_some _ (Heap.get?_push_of_some _ (by rw[Heap.get?_update_ne _ _ _ _ nb];exact e))
 have g6:(((s.heap.update a (Obj.mapSeq fun _=>(#[]:Array Value))).push (seqObj "tuple" vs.toArray 0)).push (seqObj "list" #[] 0)).get? a=some (seqObj "list" #[] e1):=Heap.get?_push_of_some _ (Heap.get?_push_of_some _ g1);show wpAny (model prog w) A _ P E { s with heap:=((s.heap.update a (Obj.mapSeq fun _=>(#[]:Array Value))).push (seqObj "tuple" vs.toArray 0)).push (seqObj "list" #[] 0) };generalize hH:((s.heap.update a (Obj.mapSeq fun _=>(#[]:Array Value))).push (seqObj "tuple" vs.toArray 0)).push (seqObj "list" #[] 0)=H6 at up g6 ⊢;dsimp only
 have out:∀ys:List (Addr×Str),∀b o,b≠a->s.heap.get? b=some o->(H6.update a (Obj.mapSeq fun _=>(ys.map fun r=>Value.ref r.1).toArray)).get? b=some o:=fun ys b o nb e=>by
  rw[Heap.get?_update_ne _ _ _ _ nb];exact up b o nb e
 match xs,hv,h1,hp,hd with
 | [],hv,_,_,_=>
   subst hv;rw[if_pos (by simp),if_pos (by simp)];refine wpAny_bind (wpAny_pure ?_);rw[StateT.run_pure]
   have hz:Array.map (fun x=>x.2) (arrOf (SortSt.mk' general' ((List.map (fun r:Addr×Str=>Value.ref r.1) []).toArray.zip (List.map (fun r:Addr×Str=>Value.ref r.1) []).toArray) #[] 7 none))=(List.map (fun r:Addr×Str=>Value.ref r.1) []).toArray:=by
    show Array.map _ (Array.zip _ _)=_;simp
   refine wpAny_bind (wpAny_pure (wpAny_bind (seqEpoch_at g6 rfl (wpAny_bind (listUpdate_at g6 rfl ?_ (Nat.zero_le _) (by show(Array.map (fun x=>x.2) (arrOf (SortSt.mk' general' _ #[] 7 none))).size<=_;rw[hz];simp;try rw[sizeLine_eq];try omega))))));simp only[bne_self_eq_false,Bool.false_eq_true,if_false];rw[hz];exact wpAny_pure (h _ _ [] (out []) rfl (get?_update_seq g6 fun _=>_))
 | [r0],hv,_,_,_=>
   subst hv;rw[if_pos (by simp),if_pos (by simp)];refine wpAny_bind (wpAny_pure ?_);rw[StateT.run_pure]
   have hz:Array.map (fun x=>x.2) (arrOf (SortSt.mk' general' ((List.map (fun r:Addr×Str=>Value.ref r.1) [r0]).toArray.zip (List.map (fun r:Addr×Str=>Value.ref r.1) [r0]).toArray) #[] 7 none))=(List.map (fun r:Addr×Str=>Value.ref r.1) [r0]).toArray:=by
    show Array.map _ (Array.zip _ _)=_;simp
   refine wpAny_bind (wpAny_pure (wpAny_bind (seqEpoch_at g6 rfl (wpAny_bind (listUpdate_at g6 rfl ?_ (Nat.zero_le _) (by show(Array.map (fun x=>x.2) (arrOf (SortSt.mk' general' _ #[] 7 none))).size<=_;rw[hz];simp;try rw[sizeLine_eq];try omega))))));simp only[bne_self_eq_false,Bool.false_eq_true,if_false];rw[hz];exact wpAny_pure (h _ _ [r0] (out [r0]) rfl (get?_update_seq g6 fun _=>_))
 | [r0,r1],hv,_,hp,hd=>
   subst hv;have hne:=hd r0 r1 rfl
   obtain⟨o0,t0,v0,n0,c0,c1,c2⟩:=(hp r0 (by simp)).1.up fun o e=>up _ o (hp r0 (by simp)).2 e
   obtain⟨o1,t1,v1,n1,d0,d1,d2⟩:=(hp r1 (by simp)).1.up fun o e=>up _ o (hp r1 (by simp)).2 e
   rw[if_neg (by simp),if_neg (by simp)];refine wpAny_bind (PySem.W.kat_kind (s:={ s with heap:=H6 }) (fs:=[.str r0.2 t0,.str r1.2 t1]) (T:=.type "str") (.cons c0 c1 c2 rfl (.cons d0 d1 d2 rfl .nil)) (by simp) (fun v hv=>?_) (by decide) ?_)
   ·simp only[List.mem_cons,List.not_mem_nil,or_false]at hv
    rcases hv with rfl | rfl
    all_goals(exact .now)
   refine wpAny_bind (wpAny_mono (PySem.W.kat_run (s:={ s with heap:=H6 }) (vs:=[.ref r0.1,.ref r1.1]) (ks:=[.ref r0.1,.ref r1.1]) (Q:=fun st' s'=>∃p:Array Nat,p.size=2/\arrOf st'=p.map (PySem.W.kas_item (#[.ref r0.1,.ref r1.1].zip #[.ref r0.1,.ref r1.1]))/\failedOf st'=none/\s'={ s with heap:=H6 }/\p=if decide (r1.2.cps.toList<r0.2.cps.toList)=true then #[1,0]else #[0,1]) (G:=fun p s'=>s'={ s with heap:=H6 }/\p=if decide (r1.2.cps.toList<r0.2.cps.toList)=true then #[1,0]else #[0,1])
    rfl (by simp) (by simp) (fun p' st' s' a1 a2 a3 a4=>⟨p',a1,a2,a3,a4⟩) (ask2 ?_ fun C C' hC hc=>wpAny_mono hc hC fun _ _ z=>z)) ?_ fun _ _ z=>z)
   ·refine PySem.W.kat_lt d0 d2 c0 c2 (PySem.W.kat_cons (wpAny_eqBool_str ?_))
    rw[decide_eq_false (Ne.symm hne)];exact PySem.W.kat_no (oneLt_str ⟨rfl,rfl⟩)
   ·rintro⟨⟨⟩,st'⟩ s' ⟨p,z1,z2,z3,rfl,z5⟩
    dsimp only;have hout:=PySem.W.kat_snds (ks:=[.ref r0.1,.ref r1.1]) (vs:=[.ref r0.1,.ref r1.1]) rfl z2;rw[hout];refine wpAny_bind (seqEpoch_at g6 rfl (wpAny_bind (listUpdate_at g6 rfl ?_ (Nat.zero_le _) (by rw[List.size_toArray,List.length_map,Array.length_toList,z1,sizeLine_eq];omega))));rw[z3];simp only[bne_self_eq_false,Bool.false_eq_true,if_false];refine wpAny_pure ?_
    by_cases q:r1.2.cps.toList<r0.2.cps.toList
    ·rw[decide_eq_true q,if_pos rfl]at z5
     subst z5;exact h _ _ [r1,r0] (out [r1,r0]) (by rw[ord2,if_pos q]) (get?_update_seq g6 fun _=>_)
    ·rw[decide_eq_false q,if_neg (by simp)]at z5
     subst z5;exact h _ _ [r0,r1] (out [r0,r1]) (by rw[ord2,if_neg q]) (get?_update_seq g6 fun _=>_)
end
section
variable{X:Cx}
theorem mC:∀{xs:List (Addr×Str)} {its:List Value},Vals (xs.map fun r=>V.ref r.1) its->its=xs.map fun r=>.ref r.1
 | [],its,h=>by cases h;rfl
 | r::xs,its,h=>by
   rw[List.map_cons]at h
   cases h with
   | cons r' t=>cases r';rw[List.map_cons,mC t]
theorem lN:∀(xs:List (Addr×Str)),Vals (xs.map fun r=>V.ref r.1) (xs.map fun r=>.ref r.1)
 | []=>.nil
 | r::xs=>by rw[List.map_cons,List.map_cons];exact .cons rfl (lN xs)
theorem wk(xs:List (Addr×Str)):(ord2 xs).length=xs.length:=by
 unfold ord2;split
 ·split<;>rfl
 ·rfl
theorem kJ(hc:X.calm=true):CallR X (.builtin "sorted") (fun zs H Q=>∃(c:Addr) (xs:List (Addr×Str)),zs=[.ref c]/\SqL X.K H c (xs.map fun r=>V.ref r.1)/\xs.length<=2/\(∀r∈xs,∃v,SqT X.K H r.1 [.str r.2,v])/\(∀r0 r1,xs=[r0,r1]->r0.2≠r1.2) /\
 ∀(l:Addr),H l=none->Q (.ref l) (upd H l (.lst ((ord2 xs).map fun r=>V.ref r.1)))):=by
 intro pins s σ H zs us Q I r h;obtain⟨c,xs,rfl,hq,h2,ht,hd,q⟩:=h;obtain⟨u,rfl,rx⟩:=vals1 r;cases rx;obtain⟨its,rv,pl,hz⟩:=I.list hq;have ev:=mC rv
 have hlen:its.length<=2:=by rw[ev,List.length_map];exact h2
 refine Calls.call_function_entry kind_sorted plain_sorted entry_sorted (args_sorted1 _) ?_;unfold Builtin.«sorted»;refine wpAny_bind (m:=checkCount "sorted" 1 1 _) (wpAny_pure (wpAny_bind (collect_list (vs:=its) pl.isList ?_ (by rw[sizeLine_eq];omega))))
 have k1:∀b o,s.heap.get? b=some o->((s.heap.push (seqObj "list" #[] 0)).update s.heap.objs.size (Obj.mapSeq (·++its.toArray))).get? b=some o:=fun b o e=>by
  rw[Heap.get?_update_ne _ _ _ _ (Nat.ne_of_lt (Heap.lt_size e))];exact Heap.get?_push_of_some _ e
 generalize (s.heap.push (seqObj "list" #[] 0)).update s.heap.objs.size (Obj.mapSeq (·++its.toArray))=h1 at k1 ⊢;have I1:Inv X pins σ H { s with heap:=h1 }:=I.kept (t':=s.toks) k1;refine wpAny_bind (wpAny_newList ?_ (by rw[sizeLine_eq];omega));have hoL:(h1.push (seqObj "list" its.toArray 0)).get? h1.objs.size=some (seqObj "list" its.toArray 0):=Heap.get?_push_size _ rfl;refine wpAny_bind (wpAny_holding (wpAny_call_entry slot_list_sort ⟨_,hoL,rfl⟩ entry_list_sort (wD hoL ev h2 (fun r hr=>?_) hd fun h' e ys hk hy ho=>⟨_,rfl,?_⟩) (args_list_sort _)))
 ·obtain⟨v,hv⟩:=ht r hr
  obtain⟨its',rv',pt,_⟩:=I1.tuple hv
  obtain⟨o,e,c,n,d⟩:=(show h1.IsTuple r.1 its'.toArray from pt)
  refine⟨?_,Nat.ne_of_lt (Heap.lt_size e)⟩
  cases rv' with
  | cons r1 r2=>
    cases r2 with
    | cons r3 r4=>
      cases r4;obtain⟨t,rfl⟩:=r1;exact⟨o,t,_,n,Heap.get?_push_of_some _ e,c,d⟩
 ·subst hy
  refine wpAny_pure ⟨_,rfl,.ref h1.objs.size,_,I1.laid (a:=h1.objs.size) (o:=.lst ((ord2 xs).map fun r=>V.ref r.1)) (t':=s.toks) (fun b o q=>hk b o (Nat.ne_of_lt (Heap.lt_size q)) (Heap.get?_push_of_some _ q)) (Nat.le_refl _) ?_,rfl,q _ I1.fresh⟩;exact⟨by rw[List.length_map,wk,sizeLine_eq];omega,_,e,lN _,ho⟩
end
end Z
namespace Z
open PySem PySem.Spec PyProof.Rows L2
section
variable{X:Cx}{W:Wd}{lk lk':Bool}{σ:L2.St}{H H1 H':Hp}{me:Option Addr}{B:Addr->Prop}{δ:Dst}{Q Q':VK}{a b c:Expr}{pos p pos' apos cpos:Pos}{o:Orc}{fa fb fc:Dst->R (Bool×D)}
theorem iG{G:Hp}:∀{l:List D} {x:List (List Nat)} {vs:List V},strsOf l=some x->Reps W G l vs->vs=x.map fun y=>V.str (strV y)
 | [],x,vs,h,r=>by
   simp only[strsOf,Option.some.injEq]at h;subst h
   cases vs with
   | nil=>rfl
   | cons _ _=>simp only[Reps]at r
 | d::l,x,[],h,r=>by simp only[Reps]at r
 | d::l,x,v::vs,h,r=>by
   cases d with
   | str y=>
     simp only[strsOf]at h
     cases e:strsOf l with
     | none=>rw[e]at h;cases h
     | some x'=>
       rw[e]at h;cases h;simp only[Reps,Rep]at r;rw[r.1.1,iG e r.2]
       rfl
   | _=>simp[strsOf]at h
theorem jG{G:Hp}{d:D}{x:V}(h:gq d=true)(r:RepT W H G d x):j5 x=true:=by
 cases d with
 | str s=>rw[(aX r).1];rfl
 | non=>simp only[RepT,Rep]at r;subst r;rfl
 | bl b=>simp only[RepT,Rep]at r;subst r;rfl
 | int i=>simp only[RepT,Rep]at r;subst r;rfl
 | _=>simp[gq]at h
theorem yg{y x:D}{t:Bool}(h:eqS y x=some t):gq y=true/\gq x=true:=by
 cases y<;>cases x<;>simp[eqS]at h<;>exact⟨rfl,rfl⟩
theorem DY{G G':Hp}{dy dx:D}{y x:V}{t:Bool}(h:eqS dy dx=some t)(ry:RepT W H G dy y)(rx:RepT W H G' dx x):eqV y x=t:=by
 cases dy<;>cases dx<;>first | exact nope h | exact cV h | simp only[eqS]at h
 all_goals simp only[Option.some.injEq]at h
 all_goals (first | (have ry:=(aX ry).1) | (simp only[RepT,Rep]at ry))
 all_goals (first | (have rx:=(aX rx).1) | (simp only[RepT,Rep]at rx))
 all_goals subst ry
 all_goals subst rx
 all_goals (rw[<-h])
 all_goals first
  | rfl
  | simp[eqV]
 all_goals (rw[Bool.eq_iff_iff];simp only[beq_iff_eq,decide_eq_true_eq];exact⟨fun z=>dI z,fun z=>by rw[z]⟩)
theorem uF{G G':Hp}{dx:D}{x:V}(rx:RepT W G G' dx x):∀{l:List D} {vs:List V} {t:Bool},inS dx l=some t->Reps W G l vs->vs.all j5=true/\inV x vs=t
 | [],[],t,h,_=>by
   simp only[inS,Option.some.injEq]at h;subst h;exact⟨rfl,rfl⟩
 | [],_::_,_,_,r=>by simp only[Reps]at r
 | _::_,[],_,_,r=>by simp only[Reps]at r
 | d::l,v::vs,t,h,r=>by
   simp only[Reps]at r;simp only[inS]at h
   cases e1:eqS d dx with
   | none=>rw[e1]at h;cases h
   | some s1=>
     cases e2:inS dx l with
     | none=>rw[e1,e2]at h;cases h
     | some s2=>
       rw[e1,e2]at h;cases h;obtain⟨k1,k2⟩:=uF rx e2 r.2;have rt:RepT W G G d v:=r.1.top (Same.refl _);refine⟨?_,?_⟩
       ·rw[List.all_cons,k1,Bool.and_true]
        exact jG (yg e1).1 rt
       ·show(eqV v x||inV x vs)=_
        rw[k2,DY e1 rt rx]
theorem qt{G G' H':Hp}{d:D}{x:V}(h:gq d=true)(r:RepT W H G d x):RepT W H' G' d x:=by
 cases d with
 | str s=>simpa only[RepT,Rep]using r
 | non=>simpa only[RepT,Rep]using r
 | bl b=>simpa only[RepT,Rep]using r
 | int i=>simpa only[RepT,Rep]using r
 | _=>simp[gq]at h
noncomputable def jz(neg:Bool)(x y:D):R (Bool×D):=match y with
 | .lst l=>.of ((if gq x then inS x l else none).map fun t=>(false,.bl (if neg then !t else t)))
 | .tup l=>.of ((if gq x then inS x l else none).map fun t=>(false,.bl (if neg then !t else t)))
 | _=>.stuck
theorem rY(neg:Bool)(hk:W.K=X.K):Sem2 W (rIn X.K neg) (jz neg):=by
 intro lk P H x y dx dy Q w d hS hK hx hy e k
 cases dy<;>first | exact nope e | exact cV e | simp only[jz]at e
 ·rename_i l
  by_cases hf:gq dx=true
  ·rw[if_pos hf]at e
   cases e1:inS dx l with
   | none=>rw[e1]at e;cases e
   | some t=>
     rw[e1]at e;cases e;simp only[RepT,Rep]at hy;obtain⟨c,vs,rfl,q1,q2⟩:=hy;obtain⟨k1,k2⟩:=uF (qt (G':=H) hf hx) e1 q2;refine⟨c,vs,rfl,.inr (hk▸aK aO q1),jG hf hx,k1,?_⟩;rw[k2];exact k _ H (Same.refl H) bA
  ·rw[if_neg hf]at e;cases e
 ·rename_i l
  by_cases hf:gq dx=true
  ·rw[if_pos hf]at e
   cases e1:inS dx l with
   | none=>rw[e1]at e;cases e
   | some t=>
     rw[e1]at e;cases e;obtain⟨c,vs,rfl,q1,q2⟩:=hy;obtain⟨k1,k2⟩:=uF (qt (G':=H) hf hx) e1 q2;refine⟨c,vs,rfl,.inl (hk▸q1),jG hf hx,k1,?_⟩;rw[k2];exact k _ H (Same.refl H) bA
  ·rw[if_neg hf]at e;cases e
theorem oY:∀{ks:List DK} {vs:List D} {x:DK},ks.length=vs.length->((look ks vs x).isSome=decide (x∈ks))
 | [],[],_,_=>by simp[look]
 | [],_::_,_,h=>by simp at h
 | _::_,[],_,h=>by simp at h
 | k::ks,v::vs,x,h=>by
   simp only[look]
   by_cases hk:k=x
   ·subst hk;simp
   ·rw[if_neg hk,oY (by simpa using h)]
    simp[Ne.symm hk]
theorem nZ(neg:Bool):iy (jz neg):=by
 intro x y c
 cases y<;>simp only[jz]<;>first | exact eY | (intro z;cases z)
noncomputable def opIn(neg:Bool):O2:=if neg then .notin else .in
theorem wZ(neg:Bool)(x y:D)(h:∀ks vs,y≠.dct ks vs)(h':∀t,y≠.str t):o2 (opIn neg) x y=jz neg x y:=by
 cases neg<;>cases y<;>simp only[opIn,if_true,Bool.false_eq_true,if_false,o2,isIn,jz]<;>first | rfl | (exact absurd rfl (h _ _)) | (exact absurd rfl (h' _)) | skip
noncomputable def rInS(neg:Bool):R2:=fun x y H Q=>∃i j,x=.str i/\y=.str j/\Q (.bl (if neg then !(!(Builtin.Str.occurrences j i 0 j.length 1).isEmpty)else !(Builtin.Str.occurrences j i 0 j.length 1).isEmpty)) H
theorem jW(neg:Bool)(hk:W.K=X.K)(h:tD X W lk (fun δ=>(fa δ).bind fun x=>(fb δ).bind fun y=>o2 (opIn neg) x.2 y.2) σ H Q) :
 tOp (rIn X.K neg) (tD X W true fa) (tD X W true fb) σ H Q\/(fun σ H Q=>tD X W true fa σ H fun y H1=>tD X W true fb σ H1 fun x H2=>∃a o,x=.ref a/\DGet H2 a y o/\Q (.bl (if neg then !o.isSome else o.isSome)) H2) σ H Q\/tOp (rInS neg) (tD X W true fa) (tD X W true fb) σ H Q:=by
 obtain⟨me,B,δ,S,h⟩:=tD_iff.mp h
 by_cases hs:∃r t,fb δ=.ok r/\r.2=.str t
 ·obtain⟨r,t,e,e2⟩:=hs
  refine .inr (.inr ?_)
  refine tD.mono (part S h) fun v H1 ⟨r1,e1,S1,s1,t1,_,h1⟩=>?_
  refine tD.mono (part (g:=fun y=>o2 (opIn neg) r1.2 y.2) S1 h1) fun u H2 ⟨r2,e3,S2,s2,t2,_,h2⟩=>?_
  have:r2=r:=by rw[e]at e3;cases e3;rfl
  subst this;rw[e2]at t2 h2
  have hc:∃c,r1.2=.str [c]:=by
   cases e4:r1.2 with
   | str z=>
     cases z with
     | nil=>rw[e4]at h2;cases neg<;>exact h2.elim
     | cons c z=>
       cases z with
       | nil=>exact⟨c,rfl⟩
       | cons _ _=>rw[e4]at h2;cases neg<;>exact h2.elim
   | _=>rw[e4]at h2;cases neg<;>exact h2.elim
  obtain⟨c,e4⟩:=hc;rw[e4]at h2;have t1:=t1.mono s2 (aD s2);rw[e4]at t1;simp only[RepT,Rep]at t1 t2;refine⟨strV [c],strV t,t1.1,t2.1,?_⟩
  have ef:(!(Builtin.Str.occurrences (strV t) (strV [c]) 0 (strV t).length 1).isEmpty)=decide (c∈t):=by
   rw[show strV [c]=⟨#[c]⟩from rfl,PySem.StrLaws.found_one];rfl
  rw[ef]
  have h2:After X W lk σ H2 (Hid B σ δ) (.ok (false,.bl (if neg then !decide (c∈t)else decide (c∈t)))) Q:=by
   cases neg<;>exact h2
  exact h2 _ H2 (Same.refl _) bA
 by_cases hd:∃r ks vs,fb δ=.ok r/\r.2=.dct ks vs
 ·obtain⟨r,ks,vs,e,e2⟩:=hd
  refine .inr (.inl ?_)
  refine tD.mono (part S h) fun v H1 ⟨r1,e1,S1,s1,t1,_,h1⟩=>?_
  refine tD.mono (part (g:=fun y=>o2 (opIn neg) r1.2 y.2) S1 h1) fun u H2 ⟨r2,e3,S2,s2,t2,_,h2⟩=>?_
  have:r2=r:=by rw[e]at e3;cases e3;rfl
  subst this;rw[e2]at t2 h2;obtain⟨ad,kvs,rfl,q1,q2,q3,q4⟩:=t2
  cases e4:keyOf r1.2 with
  | none=>
    refine absurd h2 fun h2=>?_
    cases neg<;>simp only[opIn,if_true,Bool.false_eq_true,if_false,o2,isIn,e4]at h2<;>exact h2.elim
  | some kx=>
    have h2:After X W lk σ H2 (Hid B σ δ) (.ok (false,.bl (if neg then !decide (kx∈ks)else decide (kx∈ks)))) Q:=by
     cases neg<;>simpa only[opIn,if_true,Bool.false_eq_true,if_false,o2,isIn,e4,Option.map_some,R.of]using h2
    have hl:ks.length=vs.length:=by
     have h1:=congrArg List.length q2;simp only[List.length_map]at h1;have h3:=q4.length;simp only[List.length_map]at h3;omega
    have hv:(valV kvs (keyV kx)).isSome=decide (kx∈ks):=by
     rw[<-oY (x:=kx) hl]
     cases e5:look ks vs kx with
     | some d=>obtain⟨w,p1,_⟩:=ju q2 q4 e5;rw[p1];rfl
     | none=>rw[kO q2 q4 e5];rfl
    refine⟨ad,valV kvs (keyV kx),rfl,?_,?_⟩
    ·rw[jE e4 (t1.mono s2 (aD s2))]
     obtain⟨ep,q1⟩:=q1;exact DGet.k q1
    ·rw[hv]
     exact h2 _ H2 (Same.refl _) bA
 ·refine .inl (lE (lk:=lk) (rY neg hk) (nZ neg) ?_)
  refine tD_iff.mpr ⟨me,B,δ,S,?_⟩
  have e:((fa δ).bind fun x=>(fb δ).bind fun y=>jz neg x.2 y.2)=((fa δ).bind fun x=>(fb δ).bind fun y=>o2 (opIn neg) x.2 y.2):=by
   congr 1
   funext x
   cases e3:fb δ with
   | ok r=>
     show jz neg x.2 r.2=o2 (opIn neg) x.2 r.2;rw[wZ neg x.2 r.2 (fun ks vs z=>hd ⟨r,ks,vs,e3,z⟩) fun t z=>hs ⟨r,t,e3,z⟩]
   | exc c=>rfl
   | stuck=>rfl
  show After X W lk σ H (Hid B σ δ) ((fa δ).bind fun x=>(fb δ).bind fun y=>jz neg x.2 y.2) Q;rw[e];exact h
theorem PT.or{e:Expr}{t t':TT}(h:PT X e t)(h':PT X e t'):PT X e (fun σ H Q=>t σ H Q\/t' σ H Q):=by
 intro pins s σ H Q I q;rcases q with q | q
 ·exact h pins s σ H Q I q
 ·exact h' pins s σ H Q I q
theorem Hk(neg:Bool):∀x y r,o2 (opIn neg) x y=.ok r->∃b,r=(false,.bl b):=by
 intro x y r h
 cases neg with
 | false=>
   simp only[opIn,Bool.false_eq_true,if_false,o2]at h
   cases e:isIn x y with
   | none=>rw[e]at h;cases h
   | some b=>rw[e]at h;cases h;exact⟨_,rfl⟩
 | true=>
   simp only[opIn,if_true,o2]at h
   cases e:isIn x y with
   | none=>rw[e]at h;cases h
   | some b=>rw[e]at h;cases h;exact⟨_,rfl⟩
theorem d_in(hk:W.K=X.K)(hu:X.A.units+1<cLine)(ha:PE X a (tD X W true fa))(hb:PE X b (tD X W true fb))(hm:behindInMarks .In b=false) :
 (∀lk,PE X (.Compare a [.In] [b] pos) (tD X W lk fun δ=>(fa δ).bind fun x=>(fb δ).bind fun y=>o2 .in x.2 y.2))/\PT X (.Compare a [.In] [b] pos) (tT X W fun δ=>(fa δ).bind fun x=>(fb δ).bind fun y=>o2 .in x.2 y.2):=by
 refine⟨fun lk=>PE.imp (PE.or (iY lu ha hb hm) (PE.or (sG (Ad hu ha hb) hm) (iY m9 ha hb hm))) fun σ H Q h=>jW false hk h,PT.imp (PT.or (j0 lu ha hb hm) (PT.or (uL (Ad hu ha hb) hm) (j0 m9 ha hb hm))) fun σ H Q h=>?_⟩
 exact jW (lk:=true) false hk (xH (fun δ r e=>by
  obtain⟨y,_,e⟩:=eQ e;obtain⟨z,_,e⟩:=eQ e
  exact Hk false _ _ _ e) h)
theorem Dv(hk:W.K=X.K)(hu:X.A.units+1<cLine)(ha:PE X a (tD X W true fa))(hb:PE X b (tD X W true fb))(hm:behindInMarks .NotIn b=false) :
 (∀lk,PE X (.Compare a [.NotIn] [b] pos) (tD X W lk fun δ=>(fa δ).bind fun x=>(fb δ).bind fun y=>o2 .notin x.2 y.2))/\PT X (.Compare a [.NotIn] [b] pos) (tT X W fun δ=>(fa δ).bind fun x=>(fb δ).bind fun y=>o2 .notin x.2 y.2):=by
 refine⟨fun lk=>PE.imp (PE.or (iY gC ha hb hm) (PE.or (sG (lW hu ha hb) hm) (iY gD ha hb hm))) fun σ H Q h=>jW true hk h,PT.imp (PT.or (j0 gC ha hb hm) (PT.or (uL (lW hu ha hb) hm) (j0 gD ha hb hm))) fun σ H Q h=>?_⟩
 exact jW (lk:=true) true hk (xH (fun δ r e=>by
  obtain⟨y,_,e⟩:=eQ e;obtain⟨z,_,e⟩:=eQ e
  exact Hk true _ _ _ e) h)
end
end Z
namespace Z
open PySem PySem.Spec PyProof.Rows L2
theorem cY(x:List Nat):∀l,(insS x l).Perm (x::l)
 | []=>.refl _
 | y::l=>by
   simp only[insS];split
   ·exact .refl _
   ·exact((cY x l).cons y).trans (.swap x y l)
theorem sortS_perm:∀l,(gn l).Perm l
 | []=>.refl _
 | x::l=>(cY x (gn l)).trans ((sortS_perm l).cons x)
theorem iC(x:List Nat):∀{l:List (List Nat)},l.Pairwise (·<=·)->(insS x l).Pairwise (·<=·)
 | [],_=>by simp[insS]
 | y::l,h=>by
   obtain⟨h1,h2⟩:=List.pairwise_cons.mp h;simp only[insS,lR];split
   ·rename_i hx
    have hx:x<y:=of_decide_eq_true hx;refine List.pairwise_cons.mpr ⟨fun z hz=>?_,h⟩;rcases List.mem_cons.mp hz with e | hz
    ·subst e;exact List.le_of_lt hx
    ·exact List.le_trans (List.le_of_lt hx) (h1 z hz)
   ·rename_i hx
    have hx:¬x<y:=fun z=>hx (decide_eq_true z)
    refine List.pairwise_cons.mpr ⟨fun z hz=>?_,iC x h2⟩;rcases List.mem_cons.mp ((cY x l).mem_iff.mp hz)with e | hz
    ·subst e;exact List.not_lt.mp hx
    ·exact h1 z hz
theorem gG:∀l,(gn l).Pairwise (·<=·)
 | []=>.nil
 | x::l=>iC x (gG l)
theorem dD:∀(p:Str) (l:List Str),PyProof.Rows.risingS p l=true->(p::l).Pairwise (fun a b=>a.cps.toList<=b.cps.toList)
 | p,[],_=>by simp
 | p,x::r,h=>by
   simp only[PyProof.Rows.risingS,Bool.and_eq_true,Bool.not_eq_true',ltCps_eq,decide_eq_false_iff_not]at h;have ih:=dD x r h.2;have hp:p.cps.toList<=x.cps.toList:=List.not_lt.mp h.1;refine List.pairwise_cons.mpr ⟨fun z hz=>?_,ih⟩;rcases List.mem_cons.mp hz with e | hz
   ·subst e;exact hp
   ·exact List.le_trans hp ((List.pairwise_cons.mp ih).1 z hz)
theorem jg(s:Str):strV s.cps.toList=s:=by
 cases s;simp[strV]
theorem eV{x:List (List Nat)}{ss:List Str}(hp:ss.Perm (x.map strV))(hs:PyProof.Rows.sortedS ss=true):ss=(gn x).map strV:=by
 have hpw:ss.Pairwise (fun a b=>a.cps.toList<=b.cps.toList):=by
  cases ss with
  | nil=>exact .nil
  | cons p l=>exact dD p l hs
 have hpw2:((gn x).map strV).Pairwise (fun a b:Str=>a.cps.toList<=b.cps.toList):=by
  rw[List.pairwise_map]
  refine(gG x).imp fun{a b} h=>?_
  simpa[strV]using h
 refine List.Perm.eq_of_pairwise (le:=fun a b:Str=>a.cps.toList<=b.cps.toList) (fun a b _ _ h1 h2=>?_) hpw hpw2 (hp.trans ((sortS_perm x).map strV).symm);have:=List.le_antisymm h1 h2;rw[<-jg a,<-jg b,this]
section
variable{X:Cx}{W:Wd}{lk lk':Bool}{σ:L2.St}{H H1 H':Hp}{me:Option Addr}{B:Addr->Prop}{δ:Dst}{Q Q':VK}{a b c:Expr}{pos p pos' apos cpos:Pos}{o:Orc}{fa fb fc:Dst->R (Bool×D)}
theorem jl{G:Hp}:∀{l:List D} {x:List Bool} {vs:List V},boolsOf l=some x->Reps W G l vs->vs=x.map V.bl
 | [],x,vs,h,r=>by
   simp only[boolsOf,Option.some.injEq]at h;subst h
   cases vs with
   | nil=>rfl
   | cons _ _=>simp only[Reps]at r
 | d::l,x,[],h,r=>by simp only[Reps]at r
 | d::l,x,v::vs,h,r=>by
   cases d with
   | bl y=>
     simp only[boolsOf]at h
     cases e:boolsOf l with
     | none=>rw[e]at h;cases h
     | some x'=>
       rw[e]at h;cases h;simp only[Reps,Rep]at r;rw[r.1,jl e r.2]
       rfl
   | _=>simp[boolsOf]at h
theorem Dq(hk:W.K=X.K):Sem1 W (fun xs H Q=>∃(c:Addr) (bs:List Bool),xs=[.ref c]/\SqL X.K H c (bs.map V.bl)/\Q (.bl (bs.all id)) H) (b1D .all):=by
 intro lk P H x dx Q w d hS hK hx e k
 cases dx<;>first | exact nope e | exact cV e | simp only[b1D]at e
 rename_i l
 cases e1:boolsOf l with
 | none=>rw[e1]at e;cases e
 | some bs=>
   rw[e1]at e;cases e;obtain⟨c,vs,rfl,q1,q2⟩:=hx;have:=jl e1 q2;subst this;exact⟨c,bs,rfl,hk▸q1,k _ H (Same.refl H) bA⟩
theorem sI(hk:W.K=X.K):Sem1 W (fun xs H Q=>∃p ys,xs=[.ref p]/\((SqL X.K H p ys/\∀l,H l=none->Q (.ref l) (upd H l (.tup ys)))\/(SqT X.K H p ys/\Q (.ref p) H))) (b1D .tuple):=by
 intro lk P H x dx Q w d hS hK hx e k
 cases dx<;>first | exact nope e | exact cV e | simp only[b1D]at e
 ·cases e
  have hx':=hx;simp only[RepT,Rep]at hx;obtain⟨c,vs,rfl,q1,q2⟩:=hx;exact⟨c,vs,rfl,.inr ⟨hk▸aK aO q1,k _ H (Same.refl H) (.shared hx')⟩⟩
 ·cases e
  obtain⟨c,vs,rfl,q1,q2⟩:=hx;exact⟨c,vs,rfl,.inl ⟨hk▸q1,fun l hl=>k _ _ (Same.upd hl) (gK hl q2 hK)⟩⟩
theorem pN:∀{l:List D} {x:List (List Nat)},strsOf l=some x->l.length=x.length
 | [],x,h=>by simp only[strsOf,Option.some.injEq]at h;subst h;rfl
 | d::l,x,h=>by
   cases d with
   | str y=>
     simp only[strsOf]at h
     cases e:strsOf l with
     | none=>rw[e]at h;cases h
     | some x'=>rw[e]at h;cases h;simp[pN e]
   | _=>simp[strsOf]at h
theorem jj:∀{ks:List DK} {x:List (List Nat)},strsOf (ks.map keyD)=some x->ks=x.map DK.s
 | [],x,h=>by simp only[List.map_nil,strsOf,Option.some.injEq]at h;subst h;rfl
 | k::ks,x,h=>by
   cases k with
   | i n=>simp[keyD,strsOf]at h
   | s y=>
     simp only[List.map_cons,keyD,strsOf]at h
     cases e:strsOf (ks.map keyD)with
     | none=>rw[e]at h;cases h
     | some x'=>rw[e]at h;cases h;rw[jj e];rfl
theorem jw:∀{l:List D} {x:List (List Nat)} {vs:List V} {G:Hp},strsOf l=some x->Reps W G l vs->∀y∈x,y.length<=16777216
 | [],x,vs,G,h,_,y,hy=>by simp only[strsOf,Option.some.injEq]at h;subst h;simp at hy
 | d::l,x,[],G,h,r,y,hy=>by simp only[Reps]at r
 | d::l,x,v::vs,G,h,r,y,hy=>by
   cases d with
   | str z=>
     simp only[strsOf]at h
     cases e:strsOf l with
     | none=>rw[e]at h;cases h
     | some x'=>
       rw[e]at h;cases h;simp only[Reps,Rep]at r;rcases List.mem_cons.mp hy with q | q
       ·subst q;exact r.1.2
       ·exact jw e r.2 y q
   | _=>simp[strsOf]at h
theorem iW{G:Hp}:∀{x:List (List Nat)},(∀y∈x,y.length<=16777216)->Reps W G (x.map D.str) ((x.map strV).map V.str)
 | [],_=>by simp only[List.map_nil,Reps]
 | y::x,h=>by
   simp only[List.map_cons,Reps,Rep];exact⟨⟨trivial,h y List.mem_cons_self⟩,iW fun z hz=>h z (List.mem_cons_of_mem _ hz)⟩
noncomputable def nC(a:D):R (Bool×D):=.of ((jo a).bind fun l=>(strsOf l).bind fun x=>if x.length<64 then some (true,.lst ((gn x).map .str))else none)
theorem qN(hk:W.K=X.K):Sem1 W (fun xs H Q=>∃(c:Addr) (ss:List Str),xs=[.ref c]/\(SqL X.K H c (ss.map V.str)\/∃kvs:List (Key×V),IsK H c kvs/\kvs.map (·.1)=ss.map Sum.inr)/\ss.length<64 /\
 ∀(l:Addr) (ss':List Str),ss'.Perm ss->PyProof.Rows.sortedS ss'=true->H l=none->Q (.ref l) (upd H l (.lst (ss'.map V.str)))) nC:=by
 intro lk P H x dx Q w d hS hK hx e k;simp only[nC]at e
 cases e0:jo dx with
 | none=>rw[e0]at e;cases e
 | some l=>
 rw[e0]at e;simp only[Option.bind_some]at e
 cases e1:strsOf l with
 | none=>rw[e1]at e;cases e
 | some xs=>
 rw[e1]at e;simp only[Option.bind_some]at e;split at e
 ·rename_i h64
  cases e
  have fin:(∀y∈xs,y.length<=16777216)->∀(l':Addr) (ss':List Str),ss'.Perm (xs.map strV)->PyProof.Rows.sortedS ss'=true->H l'=none->Q (.ref l') (upd H l' (.lst (ss'.map V.str))):=fun hall l' ss' hp hs hl=>by
   rw[eV hp hs];refine k _ _ (Same.upd hl) (dh hl (iW fun y hy=>hall y ((sortS_perm xs).mem_iff.mp hy)) hK)
  cases dx<;>first | exact nope e0 | exact cV e0 | simp only[jo]at e0
  ·cases e0
   obtain⟨c,vs,rfl,q1,q2⟩:=hx;have hall:=jw e1 q2;have ev:=iG e1 q2;subst ev;refine⟨c,xs.map strV,rfl,.inl ?_,by simpa using h64,fin hall⟩;rw[List.map_map];exact hk▸q1
  ·cases e0
   obtain⟨c,kvs,rfl,q1,q2,q3,q4⟩:=hx;have hks:=jj e1;subst hks;refine⟨c,xs.map strV,rfl,.inr ⟨kvs,q1,?_⟩,by simpa using h64,fin fun y hy=>q3.2 y (List.mem_map_of_mem hy)⟩;rw[q2,List.map_map,List.map_map]
   rfl
 ·cases e
end
end Z
namespace Z
open PySem PySem.Spec PyProof.Rows L2
section
variable{X:Cx}{W:Wd}
theorem oV{l r:List D}(h:wQ l=some r):(∃x a,l=[.tup [.str x,a]]/\r=l)\/∃x a y b,l=[.tup [.str x,a],.tup [.str y,b]]/\x≠y/\r=if ltS y x then[.tup [.str y,b],.tup [.str x,a]]else[.tup [.str x,a],.tup [.str y,b]]:=by
 unfold wQ at h;split at h
 ·cases h;exact .inl ⟨_,_,rfl,rfl⟩
 ·split at h
  ·cases h
  ·cases h;exact .inr ⟨_,_,_,_,rfl,by assumption,rfl⟩
 ·cases h
theorem nO(hk:W.K=X.K):Sem1 W (fun xs H Q=>(∃(c:Addr) (ss:List Str),xs=[.ref c]/\(SqL X.K H c (ss.map V.str)\/∃kvs:List (Key×V),IsK H c kvs/\kvs.map (·.1)=ss.map Sum.inr)/\ss.length<64 /\
 ∀(l:Addr) (ss':List Str),ss'.Perm ss->PyProof.Rows.sortedS ss'=true->H l=none->Q (.ref l) (upd H l (.lst (ss'.map V.str)))) \/
 (∃(c:Addr) (rs:List (Addr×Str)),xs=[.ref c]/\SqL X.K H c (rs.map fun r=>V.ref r.1)/\rs.length<=2/\(∀r∈rs,∃v,SqT X.K H r.1 [.str r.2,v])/\(∀r0 r1,rs=[r0,r1]->r0.2≠r1.2) /\
  ∀(l:Addr),H l=none->Q (.ref l) (upd H l (.lst ((ord2 rs).map fun r=>V.ref r.1))))) (b1D .sorted):=by
 intro lk P H x dx Q w d hS hK hx e k;simp only[b1D]at e
 cases e0:jo dx with
 | none=>rw[e0]at e;cases e
 | some l=>
 rw[e0]at e;simp only[Option.bind_some]at e
 cases e1:strsOf l with
 | some xs=>
   rw[e1]at e;simp only at e;exact .inl (qN hk lk P H x dx Q w d hS hK hx (by simp only[nC,e0,Option.bind_some,e1];exact e) k)
 | none=>
 rw[e1]at e;simp only at e
 cases e2:wQ l with
 | none=>rw[e2]at e;cases e
 | some r=>
 rw[e2]at e;simp only[Option.map_some]at e;cases e
 cases dx<;>first | exact nope e0 | exact cV e0 | simp only[jo]at e0
 ·cases e0
  obtain⟨c,vs,rfl,q1,q2⟩:=hx;refine .inr ?_;rcases oV e2 with⟨x,a,rfl,rfl⟩ | ⟨x,a,y,b,rfl,hxy,rfl⟩
  ·obtain⟨v1,vs,rfl⟩:∃v1 vs',vs=v1::vs':=by cases vs with | nil=>simp only[Reps]at q2 | cons v1 vs'=>exact⟨_,_,rfl⟩
   have⟨q3,q4⟩:=(show Rep W (vis H P) (.tup [.str x,a]) v1/\Reps W (vis H P) [] vs by simpa only[Reps]using q2)
   obtain rfl:vs=[]:=by cases vs with | nil=>rfl | cons _ _=>simp only[Reps]at q4
   have q3':=q3;simp only[Rep]at q3';obtain⟨p,ws,rfl,s1,s2⟩:=q3'
   obtain⟨w1,w2,rfl⟩:∃w1 w2,ws=[w1,w2]:=by
    match ws,s2 with
    | [w1,w2],_=>exact⟨_,_,rfl⟩
    | [],s2=>simp only[Reps]at s2
    | [_],s2=>simp only[Reps]at s2;exact s2.2.elim
    | _::_::_::_,s2=>simp only[Reps]at s2;exact s2.2.2.elim
   simp only[Reps,Rep]at s2;obtain⟨⟨rfl,_⟩,_⟩:=s2;refine⟨c,[(p,strV x)],rfl,hk▸q1,by simp,fun r hr=>?_,(fun _ _ z=>by cases z),fun l hl=>k _ _ (Same.upd hl) (dh hl q2 hK)⟩;simp only[List.mem_cons,List.not_mem_nil,or_false]at hr;subst hr;exact⟨w2,hk▸aK aO s1⟩
  ·obtain⟨v1,v2,rfl⟩:∃v1 v2,vs=[v1,v2]:=by
    match vs,q2 with
    | [w1,w2],_=>exact⟨_,_,rfl⟩
    | [],s2=>simp only[Reps]at s2
    | [_],s2=>simp only[Reps]at s2;exact s2.2.elim
    | _::_::_::_,s2=>simp only[Reps]at s2;exact s2.2.2.elim
   have⟨q3,q4⟩:=(show Rep W (vis H P) (.tup [.str x,a]) v1/\Rep W (vis H P) (.tup [.str y,b]) v2 by simp only[Reps]at q2;exact⟨q2.1,q2.2.1⟩)
   have one:∀{x:List Nat} {a:D} {v:V},Rep W (vis H P) (.tup [.str x,a]) v->∃p w2,v=.ref p/\SqT W.K (vis H P) p [.str (strV x),w2]:=fun{x a v} q3=>by
    simp only[Rep]at q3;obtain⟨p,ws,rfl,s1,s2⟩:=q3
    obtain⟨w1,w2,rfl⟩:∃w1 w2,ws=[w1,w2]:=by
     match ws,s2 with
     | [w1,w2],_=>exact⟨_,_,rfl⟩
     | [],s2=>simp only[Reps]at s2
     | [_],s2=>simp only[Reps]at s2;exact s2.2.elim
     | _::_::_::_,s2=>simp only[Reps]at s2;exact s2.2.2.elim
    simp only[Reps,Rep]at s2;obtain⟨⟨rfl,_⟩,_⟩:=s2;exact⟨p,w2,rfl,s1⟩
   obtain⟨p1,w1,rfl,s1⟩:=one q3;obtain⟨p2,w2,rfl,s2⟩:=one q4;refine⟨c,[(p1,strV x),(p2,strV y)],rfl,hk▸q1,by simp,fun r hr=>?_,fun r0 r1 z=>?_,fun l hl=>k _ _ (Same.upd hl) ?_⟩
   ·simp only[List.mem_cons,List.not_mem_nil,or_false]at hr
    rcases hr with rfl | rfl
    ·exact⟨w1,hk▸aK aO s1⟩
    ·exact⟨w2,hk▸aK aO s2⟩
   ·cases z
    exact fun z=>hxy (dI z)
   ·have ho:ord2 [(p1,strV x),(p2,strV y)]=if ltS y x=true then[(p2,strV y),(p1,strV x)]else[(p1,strV x),(p2,strV y)]:=by
     simp only[ord2,strV,lR,decide_eq_true_eq]
     by_cases z:y<x<;>simp[z]
    rw[ho]
    by_cases z:ltS y x=true
    ·rw[if_pos z,if_pos z]
     exact dh hl (by simp only[List.map_cons,List.map_nil,Reps];exact⟨q4,q3,trivial⟩) hK
    ·rw[if_neg z,if_neg z]
     exact dh hl (by simp only[List.map_cons,List.map_nil,Reps];exact⟨q3,q4,trivial⟩) hK
 ·cases e0
  rename_i ks vs
  exfalso
  rcases oV e2 with⟨x,a,z,_⟩ | ⟨x,a,y,b,z,_⟩<;>(cases ks with
   | nil=>simp at z
   | cons k ks=>cases k<;>simp[keyD]at z)
end
end Z
namespace Z
open PySem
structure Tj(led:Bool)(t:SetTable):Prop where
 led:t.led=led
 up:t.place.toList.Pairwise (·<·)
 dum:t.dummies=#[]
theorem jT{xs:Array Nat}{j:Nat}(hp:xs.toList.Pairwise (·<·)):∀(fuel lo hi:Nat),hi-lo<=fuel->lo<=hi->hi<=xs.size->(∀i,i<lo->xs.getD i 0<j)->(∀i,hi<=i->i<xs.size->j<=xs.getD i 0) ->
 SetTable.below.go xs j fuel lo hi<=xs.size/\(∀i,i<SetTable.below.go xs j fuel lo hi->xs.getD i 0<j)/\(∀i,SetTable.below.go xs j fuel lo hi<=i->i<xs.size->j<=xs.getD i 0)
 | 0,lo,hi,h1,h2,h3,h4,h5=>by
   have:lo=hi:=by omega
   subst this;exact⟨h3,h4,h5⟩
 | n+1,lo,hi,h1,h2,h3,h4,h5=>by
   have mono:∀a b,a<=b->b<xs.size->xs.getD a 0<=xs.getD b 0:=fun a b hab hb=>by
    rcases Nat.lt_or_eq_of_le hab with hab | rfl
    ·have:=List.pairwise_iff_getElem.mp hp a b (by simpa using(by omega:a<xs.size)) (by simpa using hb) hab
     simp only[Array.getElem_toList]at this;rw[Array.getD_eq_getD_getElem?,Array.getD_eq_getD_getElem?,Array.getElem?_eq_getElem (by omega),Array.getElem?_eq_getElem hb];exact Nat.le_of_lt this
    ·exact Nat.le_refl _
   unfold SetTable.below.go
   by_cases hl:lo<hi
   ·rw[if_pos hl]
    have hm:(lo+hi)/2<xs.size:=by omega
    have hd:xs.getD ((lo+hi)/2) j=xs.getD ((lo+hi)/2) 0:=by
     rw[Array.getD_eq_getD_getElem?,Array.getD_eq_getD_getElem?,Array.getElem?_eq_getElem hm];rfl
    dsimp only;rw[hd]
    by_cases hc:xs.getD ((lo+hi)/2) 0<j
    ·rw[if_pos hc]
     refine jT hp n ((lo+hi)/2+1) hi (by omega) (by omega) h3 (fun i hi'=>?_) h5;exact Nat.lt_of_le_of_lt (mono i ((lo+hi)/2) (by omega) hm) hc
    ·rw[if_neg hc]
     refine jT hp n lo ((lo+hi)/2) (by omega) (by omega) (by omega) h4 fun i hi' hs=>?_
     exact Nat.le_trans (by omega) (mono ((lo+hi)/2) i hi' hs)
   ·rw[if_neg hl]
    have:lo=hi:=by omega
    subst this;exact⟨h3,h4,h5⟩
theorem below_at{xs:Array Nat}(hp:xs.toList.Pairwise (·<·))(j:Nat):SetTable.below xs j<=xs.size/\(∀i,i<SetTable.below xs j->xs.getD i 0<j)/\(∀i,SetTable.below xs j<=i->i<xs.size->j<=xs.getD i 0) :=
 jT hp xs.size 0 xs.size (by omega) (Nat.zero_le _) (Nat.le_refl _) (fun i hi=>absurd hi (Nat.not_lt_zero _)) fun i h1 h2=>absurd h2 (by omega)
theorem Hn{xs:Array Nat}(hp:xs.toList.Pairwise (·<·)){j:Nat}(hn:xs[SetTable.below xs j]?≠some j):(SetTable.insertAt xs (SetTable.below xs j) j).toList.Pairwise (·<·):=by
 obtain⟨h1,h2,h3⟩:=below_at hp j;generalize SetTable.below xs j=p at *
 have e:(SetTable.insertAt xs p j).toList=xs.toList.take p++j::xs.toList.drop p:=by
  unfold SetTable.insertAt;simp[List.take_of_length_le]
 rw[e]
 have hat:∀i,i<xs.size->xs.getD i 0=xs.toList[i]!:=fun i hi=>by
  rw[Array.getD_eq_getD_getElem?,Array.getElem?_eq_getElem hi];simp[hi]
 refine List.pairwise_append.mpr ⟨hp.take,List.pairwise_cons.mpr ⟨fun b hb=>?_,hp.drop⟩,fun a ha b hb=>?_⟩
 ·obtain⟨i,hi,rfl⟩:=List.getElem_of_mem hb
  rw[List.length_drop,Array.length_toList]at hi;rw[List.getElem_drop]
  have hs:p+i<xs.size:=by omega
  have:=h3 (p+i) (by omega) hs;rw[Array.getD_eq_getD_getElem?,Array.getElem?_eq_getElem hs]at this;simp only[Array.getElem_toList,Option.getD_some]at this ⊢;rcases Nat.lt_or_eq_of_le this with q | q
  ·exact q
  ·exfalso
   have hps:p<xs.size:=by omega
   have h0:=h3 p (Nat.le_refl _) hps;rw[Array.getD_eq_getD_getElem?,Array.getElem?_eq_getElem hps,Option.getD_some]at h0;rcases Nat.eq_zero_or_pos i with rfl | hpos
   ·exact hn (by rw[Array.getElem?_eq_getElem hps,q];rfl)
   ·have:=List.pairwise_iff_getElem.mp hp p (p+i) (by simpa using hps) (by simpa using hs) (by omega)
    simp only[Array.getElem_toList]at this;omega
 ·obtain⟨i,hi,rfl⟩:=List.getElem_of_mem ha
  rw[List.length_take,Array.length_toList]at hi;rw[List.getElem_take]
  have hs:i<xs.size:=by omega
  have hlt:=h2 i (by omega);rw[Array.getD_eq_getD_getElem?,Array.getElem?_eq_getElem hs,Option.getD_some]at hlt;simp only[Array.getElem_toList];rcases List.mem_cons.mp hb with rfl | hb
  ·exact hlt
  ·obtain⟨k,hk,rfl⟩:=List.getElem_of_mem hb
   rw[List.length_drop,Array.length_toList]at hk;rw[List.getElem_drop]
   have hks:p+k<xs.size:=by omega
   have:=h3 (p+k) (by omega) hks;rw[Array.getD_eq_getD_getElem?,Array.getElem?_eq_getElem hks,Option.getD_some]at this;simp only[Array.getElem_toList];omega
theorem gP{t:SetTable}(hd:t.dummies=#[]){f:Nat->Int}{h:Int}:∀(n:Nat) (p:SetTable.Probe) (j:Nat) (d:Option Nat),p.dummy=none->SetTable.probe.go t f h n p=some (.empty j d)->t.place[SetTable.below t.place j]?≠some j/\d=none
 | 0,p,j,d,_,e=>by simp[SetTable.probe.go]at e
 | n+1,p,j,d,hp,e=>by
   unfold SetTable.probe.go at e
   have hs:t.slot p.j=if t.place[SetTable.below t.place p.j]?==some p.j then .live (SetTable.below t.place p.j)else .empty:=by
    unfold SetTable.slot;dsimp only;rw[hd]
    rfl
   rw[hs]at e
   by_cases hc:(t.place[SetTable.below t.place p.j]?==some p.j)=true
   ·rw[if_pos hc]at e
    dsimp only at e;split at e
    ·cases e
    ·exact gP hd n _ j d (by unfold SetTable.advance;split<;>exact hp) e
   ·rw[if_neg hc]at e
    cases e;exact⟨fun z=>hc (by rw[z];simp),hp⟩
theorem CG{t:SetTable}(hd:t.dummies=#[]){h:Int}{j:Nat}{b:Bool}(e:t.freeSlot h=some (j,b)):t.place[SetTable.below t.place j]?≠some j:=by
 unfold SetTable.freeSlot at e;split at e
 ·rename_i j' d hp
  obtain⟨h1,rfl⟩:=gP hd _ _ j' d rfl hp;simp only[Option.getD_none,Option.some.injEq,Prod.mk.injEq]at e;rw[<-e.1];exact h1
 ·cases e
theorem yR(n:Nat):(Array.range n).toList.Pairwise (·<·):=by
 rw[Array.toList_range];exact List.pairwise_lt_range
theorem fG{led:Bool}{t:SetTable}(h:t.led=led)(n:Nat):Tj led (t.standIn n):=⟨h,yR n,rfl⟩
theorem CZ{led:Bool}{t:SetTable}(h:Tj led t):Tj led { t with plain:=false }:=⟨h.led,h.up,h.dum⟩
theorem wO{led:Bool}{t:SetTable}(h:Tj led t)(es:Array (Int×Value))(hh:Int)(x:Value):Tj led (layNew t es hh x).2.1:=by
 unfold layNew
 cases e:t.freeSlot hh with
 | none=>exact fG h.led _
 | some q=>
   obtain⟨j,b⟩:=q;have hf:=CG h.dum e
   have hp:Tj led (t.put j).1:=⟨h.led,Hn h.up hf,by unfold SetTable.put;dsimp only;rw[h.dum];rfl⟩
   dsimp only;unfold SetTable.orStandIn;split
   ·exact hp
   ·exact fG hp.led _
theorem Dn{mask finger moves:Nat}{led plain:Bool}{hs:Array Int}{q:SetTable×Array Nat}(h:SetTable.laid mask finger moves led plain hs=some q):Tj led q.1:=by
 unfold SetTable.laid at h
 cases e:SetTable.layClean mask hs with
 | none=>rw[e]at h;cases h
 | some owner=>
   rw[e]at h;cases h;refine⟨rfl,?_,rfl⟩;dsimp only;rw[List.pairwise_map];refine List.Pairwise.filterMap _ (fun a b hab x hx y hy=>?_) List.pairwise_lt_range (R:=fun a b=>a<b);obtain⟨u,_,rfl⟩:=Option.map_eq_some_iff.mp hx;obtain⟨v,_,rfl⟩:=Option.map_eq_some_iff.mp hy;exact hab
theorem CK{led:Bool}{t:SetTable}(h:Tj led t)(es:Array (Int×Value))(n:Nat):Tj led (relayAll t es n).2.1:=by
 unfold relayAll
 cases e:t.relaid (es.map (·.1)) n with
 | none=>exact fG h.led _
 | some q=>
   obtain⟨t',od⟩:=q;have:=Dn e;dsimp only;split
   ·exact⟨this.led.trans h.led,this.up,this.dum⟩
   ·exact fG h.led _
end Z
namespace Z
open PySem
section
variable{prog:Program}{w:World}{K:Type} [DecidableEq K](knd:KeyKind prog w K)(pj:Value->K)
noncomputable def SetL(h:Heap)(a:Addr)(led:Bool)(ks:List K):Prop:=∃o es ep t,h.get? a=some o/\o.ExactSet/\o.data=.set es ep t/\ElemsOf knd es.toList/\(es.toList.map fun e=>pj e.2).Perm ks/\es.size<scanBound/\t.fits es.size=true/\Tj led t
variable{knd pj}
variable{A:Around}{E:Value->Shared->Prop}{s:Shared}(hpj:∀v k,knd.is k v=true->pj v=k)
theorem SetL.kept{h h':Heap}{a:Addr}{led:Bool}{ks:List K}(S:SetL knd pj h a led ks)(hk:∀o,h.get? a=some o->h'.get? a=some o):SetL knd pj h' a led ks:=by
 obtain⟨o,es,ep,t,ho,r⟩:=S;exact⟨o,es,ep,t,hk o ho,r⟩
theorem Fo{h:Heap}{a:Addr}{o:Obj}{es es':Array (Int×Value)}{ep:Nat}{t t':SetTable}(ho:h.get? a=some o)(hd:o.data=.set es ep t):(h.update a (Obj.putSet es' t')).get? a=some { o with data:=.set es' (ep+1) t' }:=by
 have q:=Heap.get?_update_self (Obj.putSet es' t') ho (by rw[putSet_of es' t' hd];rfl);rw[q,putSet_of es' t' hd]
include hpj
theorem rZ{h:Heap}{a:Addr}{o:Obj}{es es':Array (Int×Value)}{ep:Nat}{t t':SetTable}{led:Bool}{ks:List K}(ho:h.get? a=some o)(hx:o.ExactSet)(hd:o.data=.set es ep t)(he:ElemsOf knd es'.toList)(hp:(es'.toList.map fun e=>pj e.2).Perm ks)(hb:es'.size<scanBound)(hf:t'.fits es'.size=true)(hj:Tj led t'):SetL knd pj (h.update a (Obj.putSet es' t')) a led ks :=
 ⟨_,es',ep+1,t',Fo ho hd,hx,rfl,he,hp,hb,hf,hj⟩
theorem Ed{es:List (Int×Value)}(he:ElemsOf knd es)(k:K):k∈(es.map fun e=>pj e.2)↔∃e∈es,knd.is k e.2=true:=by
 rw[List.mem_map]
 constructor
 ·rintro⟨e,h1,rfl⟩
  obtain⟨⟨k',h2,_⟩,_⟩:=he e h1;exact⟨e,h1,(hpj _ _ h2)▸h2⟩
 ·rintro⟨e,h1,h2⟩
  exact⟨e,h1,hpj _ _ h2⟩
theorem J6{a:Addr}{o:Obj}{es:Array (Int×Value)}{ep:Nat}{t:SetTable}(ho:s.heap.get? a=some o)(hx:o.ExactSet)(hd:o.data=.set es ep t){es1:Array (Int×Value)}{t1:SetTable}{led wd:Bool}{ks:List K}(he:ElemsOf knd es1.toList)(hp:(es1.toList.map fun e=>pj e.2).Perm ks)(hb:es1.size<scanBound)(hf:t1.fits es1.size=true)(hj:Tj led t1)
 {g:Bool->Sem Unit} (hg:∀(b:Bool) (s₁:Shared) (Q':Unit->Shared->Prop),Q' () s₁->wpAny (model prog w) A (g b) Q' E s₁) {R:Option Bool->Shared->Prop}
 (q:∀h',Heap.SameBut a s.heap h'->SetL knd pj h' a led ks->R (some true) { s with heap:=h' }) :
 wpAny (model prog w) A (storeSet a es1 t1 >>= fun _=>if(!wd&&t1.tooFull)=true then(g (relayAll t1 es1 (SetTable.grown es1.size)).2.2 >>= fun _=>storeSet a (relayAll t1 es1 (SetTable.grown es1.size)).1 (relayAll t1 es1 (SetTable.grown es1.size)).2.1 >>= fun _=>pure (some true))else pure (some true)) R E s:=by
 refine wpAny_bind (wpAny_storeSet_of ho hd ?_ (fits_of_scanBound hb));have u1:=Heap.SameBut.update s.heap a (Obj.putSet es1 t1)
 by_cases c:(!wd&&t1.tooFull)=true
 ·rw[if_pos c]
  have y1:=relayAll_perm t1 es1 (SetTable.grown es1.size);have y2:=relayAll_fits t1 es1 (SetTable.grown es1.size);have y3:=CK hj es1 (SetTable.grown es1.size);generalize relayAll t1 es1 (SetTable.grown es1.size)=r at *
  have y4:r.1.size=es1.size:=by have:=y1.length_eq;simpa using this
  refine wpAny_bind (hg _ _ _ (wpAny_bind (wpAny_storeSet_of (Fo ho hd) rfl ?_ (fits_of_scanBound (by omega)))));refine wpAny_pure (q _ (u1.trans (Heap.SameBut.update _ a _)) ?_);exact rZ hpj (Fo ho hd) hx rfl (he.perm y1) ((y1.map _).trans hp) (by omega) y2 y3
 ·rw[if_neg c]
  exact wpAny_pure (q _ u1 (rZ hpj ho hx hd he hp hb hf hj))
theorem M4{a:Addr}{led:Bool}{ks:List K}{k:K}{x:Value}{Q:Bool->Shared->Prop}(hk:knd.is k x=true)(hsc:x.scannable=true)(S:SetL knd pj s.heap a led ks)(hr:ks.length+1<scanBound)
 (q:∀(b:Bool) h',Heap.SameBut a s.heap h'->SetL knd pj h' a led (if k∈ks then ks else ks++[k])->Q b { s with heap:=h' }):wpAny (model prog w) A (setAddHashed a x (knd.hash k)) Q E s:=by
 obtain⟨o,es,ep,t,ho,hx,hd,he,hp,hb,hf,hj⟩:=S;have hin:=Ed hpj he k;have hkm:k∈ks↔∃e∈es.toList,knd.is k e.2=true:=hp.mem_iff.symm.trans hin
 have hsz:es.size=ks.length:=by have:=hp.length_eq;simpa using this
 unfold setAddHashed setAddHashedIn;refine wpAny_holding (wpAny_bind (wpAny_setState_of ho hd hf ?_));simp only[byScan_of hsc hb he,↓reduceIte];unfold setAddByScan;refine wpAny_bind (wpAny_bind (wpAny_rule (wpAny_bind (wpAny_setScan_of hk ho hd hf he ?_))))
 cases c:List.findIdx? (fun e=>knd.is k e.2) es.toList with
 | some j=>
   obtain⟨c1,c2,_⟩:=List.findIdx?_eq_some_iff_getElem.mp c;have hm:k∈ks:=hkm.mpr ⟨_,List.getElem_mem c1,c2⟩;have z:=q false s.heap (Heap.SameBut.refl a s.heap) (by rw[if_pos hm];exact⟨o,es,ep,t,ho,hx,hd,he,hp,hb,hf,hj⟩);exact wpAny_pure (wpAny_pure z)
 | none=>
   have hm:k∉ks:=fun z=>by
    obtain⟨e,c1,c2⟩:=hkm.mp z;have:=List.findIdx?_eq_none_iff.mp c e c1;rw[c2]at this;cases this
   simp only[if_neg hm]at q;have y1:=layNew_perm t es (knd.hash k) x;have y2:=layNew_fits t es (knd.hash k) x;have y3:=wO hj es (knd.hash k) x;dsimp only;generalize layNew t es (knd.hash k) x=r at *;obtain⟨es1,t1,wd,gv⟩:=r;dsimp only at y1 y2 y3 ⊢;rw[Array.toList_push]at y1
   have z1:es1.size=es.size+1:=by have:=y1.length_eq;simpa using this
   have z2:ElemsOf knd es1.toList:=(he.push hk hsc).perm y1
   have z3:(es1.toList.map fun e=>pj e.2).Perm (ks++[k]):=(y1.map _).trans (by
    rw[List.map_append,List.map_cons,List.map_nil,hpj x k hk]
    exact List.Perm.append hp (List.Perm.refl _))
   have fin:∀(b:Bool) (g:Bool->Sem Unit),(∀(b:Bool) (s₁:Shared) (Q':Unit->Shared->Prop),Q' () s₁->wpAny (model prog w) A (g b) Q' E s₁)->_:=fun b g hg=>J6 (s:=s) (E:=E) (A:=A) (wd:=wd) (t1:=if b=true then t1 else{ t1 with plain:=false }) hpj ho hx hd z2 z3 (by omega) (by cases b<;>first | exact y2 | exact SetTable.fits_plain_off y2) (by cases b<;>first | exact y3 | exact CZ y3) hg (R:=fun r s'=>wpAny (model prog w) A (match r with | some added=>pure added | none=>setAddHashedIn a x (knd.hash k) 99999) Q E s') fun h' w1 w2=>wpAny_pure (q true h' w1 w2)
   cases gv
   ·refine wpAny_bind (wpAny_pure ?_)
    by_cases c2:t1.plain=true
    ·rw[if_pos c2,hashByValue_scannable 8 hsc]
     exact wpAny_bind (wpAny_pure (fin _ _ (by intro b s₁ Q' hq;cases b<;>first | exact wpAny_pure hq | exact wpAny_rule hq)))
    ·rw[if_neg c2]
     exact wpAny_bind (wpAny_pure (fin true _ (by intro b s₁ Q' hq;cases b<;>first | exact wpAny_pure hq | exact wpAny_rule hq)))
   ·refine wpAny_bind (wpAny_rule ?_)
    by_cases c2:t1.plain=true
    ·rw[if_pos c2,hashByValue_scannable 8 hsc]
     exact wpAny_bind (wpAny_pure (fin _ _ (by intro b s₁ Q' hq;cases b<;>first | exact wpAny_pure hq | exact wpAny_rule hq)))
    ·rw[if_neg c2]
     exact wpAny_bind (wpAny_pure (fin true _ (by intro b s₁ Q' hq;cases b<;>first | exact wpAny_pure hq | exact wpAny_rule hq)))
end
end Z
namespace Z
open PySem PySem.Spec PyProof.Rows
section
variable{prog:Program}{w:World}{K:Type} [DecidableEq K]{knd:KeyKind prog w K}{pj:Value->K}
noncomputable def ded(f:Nat->K):Nat->List K
 | 0=>[]
 | i+1=>if f i∈ded f i then ded f i else ded f i++[f i]
theorem uZ(f:Nat->K):∀i,(ded f i).length<=i
 | 0=>Nat.le_refl _
 | i+1=>by
   have:=uZ f i;rw[ded];split
   ·omega
   ·rw[List.length_append,List.length_singleton];omega
theorem u9(f:Nat->K):∀i,(ded f i).Nodup
 | 0=>List.nodup_nil
 | i+1=>by
   have:=u9 f i;rw[ded];split
   ·exact this
   ·rename_i h
    refine List.nodup_append.mpr ⟨this,List.pairwise_singleton _ _,fun a ha b hb=>?_⟩;rw[List.mem_singleton]at hb;subst hb
    exact fun z=>h (z▸ha)
theorem uH(f:Nat->K)(k:K):∀i,k∈ded f i↔∃j,j<i/\f j=k
 | 0=>by simp[ded]
 | i+1=>by
   have ih:=uH f k i;rw[ded]
   constructor
   ·intro h
    have h':k∈ded f i\/k=f i:=by
     split at h
     ·exact .inl h
     ·simpa using h
    rcases h' with h' | rfl
    ·obtain⟨j,h1,h2⟩:=ih.mp h';exact⟨j,by omega,h2⟩
    ·exact⟨i,by omega,rfl⟩
   ·rintro⟨j,h1,h2⟩
    by_cases e:j=i
    ·subst e
     split
     ·rename_i h;exact h2▸h
     ·rw[List.mem_append,List.mem_singleton];exact .inr h2.symm
    ·have:=ih.mpr ⟨j,by omega,h2⟩
     split
     ·exact this
     ·exact List.mem_append_left _ this
variable{A:Around}{R:Result->Shared->Prop}{I:Addr}{fp wr:List Addr}{G:Array GenState->Array GenState->Prop}{n:Nat}{P:Nat->Value->Prop}{St:Nat->Shared->Prop}
theorem yQ(hpj:∀v k,knd.is k v=true->pj v=k)(W:WalksS prog w A.in1 I fp wr G n P St){S:Addr}(hS:S∉fp)(f:Nat->K)(hf:∀i v,P i v->knd.is (f i) v=true/\v.scannable=true)(hb:n+1<scanBound)(led:Bool) :
 ∀(d i:Nat) (s:Shared),n-i=d->i<=n->St i s->SetL knd pj s.heap S led (ded f i)->(∀s',Moved (S::wr) G s s'->SetL knd pj s'.heap S led (ded f n)->R (.ok (.ret .none)) s')->codeAny (model prog w) A (.builtin "set.update.loop" ⟨[.ref S,.ref I],[]⟩) R s:=by
 have hw:S∉wr:=fun h=>hS (W.sub _ h)
 have up:∀{s s':Shared},Moved wr G s s'->Moved (S::wr) G s s':=fun m=>⟨fun b o z=>m.heap b o fun y=>z (.tail _ y),m.gens,m.drawn,m.os,m.toks⟩
 intro d
 induction d with
 | zero=>
   intro i s hd hi st hl q
   obtain rfl:i=n:=by omega
   refine codeAny_builtin PyProof.Rows.F.entry_set_update_loop ?_;rw[Around.under_plainId PyProof.Rows.F.plain_set_update_loop _];unfold Builtin.«set.update.loop»;dsimp only;refine wpAny_bind (W.done s _ _ st fun s' m=>?_);exact wpAny_pure (q s' (up m) (hl.kept fun o=>m.heap S o hw))
 | succ d ih=>
   intro i s hd hi st hl q;refine codeAny_builtin PyProof.Rows.F.entry_set_update_loop ?_;rw[Around.under_plainId PyProof.Rows.F.plain_set_update_loop _];unfold Builtin.«set.update.loop»;dsimp only;refine wpAny_bind (W.item i s _ _ (by omega) st fun v s' hP st' m=>?_);obtain⟨hk,hsc⟩:=hf i v hP;dsimp only;refine wpAny_bind (wpAny_holding ?_);unfold setAdd;refine wpAny_holding (wpAny_bind (knd.pyHash hk ?_))
   have hl':SetL knd pj s'.heap S led (ded f i):=hl.kept fun o=>m.heap S o hw
   refine M4 (s:={ s' with toks:=s'.toks+1 }) hpj hk hsc hl' (by have:=uZ f i;omega) fun b h' sb hl2=>?_
   refine wpAny_pure ⟨plainId_quiet PyProof.Rows.F.plain_set_update_loop _,ih (i+1) _ (by omega) (by omega) (W.frame (i+1) s' _ _ st' (Nat.le_succ _) fun b hb o e=>?_) hl2 fun s'' m2 hl3=>?_⟩
   ·rw[sb.2 b fun z=>hS (z▸hb)];exact e
   ·refine q s'' (Moved.trans W.gtrans ((up m).then_heap (Nat.le_succ _) fun b o hb e=>?_) m2) hl3
    rw[sb.2 b fun z=>hb (z▸List.mem_cons_self)];exact e
end
end Z
namespace Z
open PySem PySem.Spec PyProof.Rows
section
variable{prog:Program}{w:World}{K:Type} [DecidableEq K]{knd:KeyKind prog w K}{pj:Value->K}{A:Around}{E:Value->Shared->Prop}{s:Shared}
noncomputable def byT(w:World):Bool:=w.params.followText "set-order"
noncomputable def newS(w:World):Obj:={ cls:=.type "set",dict:=none,data:=.set #[] 0 (.fresh 0 0 (!byT w)) }
theorem JC(h:Heap):SetL knd pj (h.push (newS w)) h.objs.size (!byT w) [] :=
 ⟨newS w,#[],0,_,Heap.get?_push_size _ rfl,⟨rfl,rfl,rfl⟩,rfl,fun e he=>by simp at he,List.Perm.refl _,by decide,rfl,⟨rfl,List.Pairwise.nil,rfl⟩⟩
theorem Cz(a:Value){Q:Value->Shared->Prop}(h:Q (.ref s.heap.objs.size) { s with heap:=s.heap.push (newS w) }):codeAny (model prog w) A (.call (.builtin "set.__new__") ⟨[.type "set",a],[]⟩) (wants Q E) s:=by
 refine codeAny_of_tree ?_;have e:=PySem.F.newCall_set_1 a;show wpAny _ A.in1 (checkBuiltinCall "set.__new__" ⟨[.type "set",a],[]⟩ >>= fun _=>again (.builtin "set.__new__" ⟨[.type "set",a],[]⟩)) _ _ s;rw[e];refine wpAny_bind (wpAny_pure (wpAny_pure ⟨plainId_quiet PySem.F.plain_set_new _,codeAny_builtin PySem.F.entry_set_new ?_⟩));rw[Around.under_plainId PySem.F.plain_set_new _];unfold Builtin.«set.__new__» Builtin.Frozenset.newClass;have hs:=sub_set_self;obtain⟨hp,g,d,tk,os⟩:=s;dsimp only
 wp_walk
 refine wpAny_askSetting (wpAny_pure ?_);simp only[newObj];refine wpAny_bind (wpAny_alloc (wpAny_pure (wpAny_pure ?_)));exact h
set_option maxHeartbeats 3200000 in
theorem set_list(hpj:∀v k,knd.is k v=true->pj v=k){l:Addr}{items:Array Value}(f:Nat->K){Q:Value->Shared->Prop}(hh:A.handled=none)(hl:s.heap.IsList l items)(hf:∀i v,items[i]?=some v->knd.is (f i) v=true/\v.scannable=true)(hb:items.size+1<scanBound)
 (q:∀(h':Heap) (tk:Nat),s.toks<=tk->SetL knd pj h' s.heap.objs.size (!byT w) (ded f items.size)->(∀b o,s.heap.get? b=some o->h'.get? b=some o)->Q (.ref s.heap.objs.size) { s with heap:=h',toks:=tk }) :
 wpAny (model prog w) A (call (.type "set") [.ref l]) Q E s:=by
 obtain⟨mc,ml,hmro⟩:=PySem.F.called_set.mro;have y1:=PySem.F.called_set.made;have y2:=PySem.F.called_set.sub;have y3:=PySem.F.called_set.notType;have y4:=PySem.F.called_set.canCreate;have y5:=PySem.F.typeCall_set_1 (.ref l);have hn:=JC (knd:=knd) (pj:=pj) (w:=w) s.heap;refine wpAny_call (codeAny_of_tree ?_);show wpAny _ _ (callAny (.type "set") _) _ _ _;refine wpAny_pure ⟨Code.quiet_builtin _ (by decide +kernel),codeAny_builtin PySem.F.entry_type_call ?_⟩;rw[Around.under_plain (weight_type_call_type "set" [.ref l] []) rfl]
 repeat (any_goals (first | assumption | wp_step))
 refine codeAny_mono (Cz (.ref l) (E:=E) (Q:=fun ob s1=>ob=.ref s.heap.objs.size/\s1={ s with heap:=s.heap.push (newS w) }) ⟨rfl,rfl⟩) fun r s1 hr=>?_
 cases r with
 | error e=>exact hr
 | ok fl=>
   cases fl with
   | ret ob=>
     obtain⟨rfl,rfl⟩:=hr
     have hT:Shared.TypeIs { s with heap:=s.heap.push (newS w) } (.ref s.heap.objs.size) "set":=⟨newS w,Heap.get?_push_size _ rfl,rfl⟩
     have y6:=PySem.F.called_set.init.lookup;have y7:=PySem.F.called_set.init.bind (.ref s.heap.objs.size)
     repeat (any_goals (first | assumption | wp_step))
     refine codeAny_mono (codeAny_call_builtin (R:=wants (fun r s2=>r=.none/\∃h' tk,s2={ s with heap:=h',toks:=tk }/\s.toks<=tk/\SetL knd pj h' s.heap.objs.size (!byT w) (ded f items.size)/\(∀b o,s.heap.get? b=some o->h'.get? b=some o)) E) PySem.F.called_set.init.plain PySem.F.entry_set_init (check_set_init_1 hT ?_)) fun r2 s2 hr2=>?_
     ·obtain⟨ol,o1,o2,nl,o3⟩:=hl
      obtain⟨oc,od,dt,os⟩:=ol;simp only at o2 o3;subst o2;subst o3;have hS0:(s.heap.push (newS w)).get? s.heap.objs.size=some (newS w):=Heap.get?_push_size _ rfl;have o4:(s.heap.push (newS w)).get? l=some { cls:=.type "list",dict:=od,data:=.seq items nl,slots:=os }:=Heap.get?_push_of_some _ o1;have z1:=PySem.F.sub_list_set;have z2:=PySem.F.sub_list_frozenset
      have z3:(Value.type "list"==Value.type "dict")=false:=by decide
      have hl1:(s.heap.push (newS w)).IsList l items:=⟨_,o4,rfl,nl,rfl⟩
      unfold Builtin.«set.__init__» noKeywords Builtin.Frozenset.updateFrom newS at *;generalize hPI:pyIter=PI
      wp_walk
      subst hPI;refine wpAny_pyIter_list hl1 (wpAny_bind (wpAny_runValue ?_));have b1:l<s.heap.objs.size:=Heap.lt_size o1
      have b2:A.in1.in1.in1.handled=none:=by simp[hh]
      have b3:l≠(s.heap.push ({ cls:=.type "set",dict:=none,data:=.set #[] 0 (.fresh 0 0 (!byT w)) }:Obj)).objs.size:=by
       rw[Heap.size_push];exact Nat.ne_of_lt (Nat.lt_succ_of_lt b1)
      refine yQ hpj (Walks.list b2 _ l b3 items).toS (S:=s.heap.objs.size) ?_ f hf hb (!byT w) items.size 0 _ (by omega) (Nat.zero_le _) ⟨⟨_,Heap.get?_push_size _ rfl,rfl,rfl⟩,hl1.push _⟩ (hn.kept fun o e=>Heap.get?_push_of_some _ e) fun s' m hl'=>?_
      ·rw[Heap.size_push]
       simp only[List.mem_cons,List.not_mem_nil,or_false,not_or];exact⟨Nat.ne_of_lt (Nat.lt_succ_self _),Nat.ne_of_gt b1⟩
      ·obtain⟨h',g',d',t',o'⟩:=s'
       obtain⟨m1,m2,m3,m4,m5⟩:=m;have m2:g'=s.gens:=m2;have m3:d'=s.drawn:=m3;have m4:o'=s.os:=m4;subst m2;subst m3;subst m4;refine wpAny_pure (wpAny_pure ⟨rfl,h',t',rfl,m5,hl',fun b o e=>?_⟩);have:=Heap.lt_size e;refine m1 b o ?_ (Heap.get?_push_of_some _ (Heap.get?_push_of_some _ e));rw[Heap.size_push];simp only[List.mem_cons,List.not_mem_nil,or_false,not_or];exact⟨Nat.ne_of_lt this,Nat.ne_of_lt (Nat.lt_succ_of_lt this)⟩
     ·cases r2 with
      | error e=>exact hr2
      | ok fl2=>
        cases fl2 with
        | ret v=>
          obtain⟨rfl,h',tk,rfl,a1,a2,a3⟩:=hr2
          repeat (any_goals (first | assumption | wp_step))
          exact q h' tk a1 a2 a3
        | _=>exact hr2.elim
   | _=>exact hr.elim
end
end Z
namespace Z
open PySem PySem.Spec PyProof.Rows
theorem slot_sin:PySem.Slot "set_iterator" "__next__" "set_iterator.__next__":=by
 refine .of (owner:="set_iterator") (n:="__next__") ?_ ?_ ?_ ?_ ?_ ?_
 ·rw[typeLookup_type,builtinLookup_eq_fast];kernel_rfl
 ·decide +kernel
 ·decide +kernel
 ·decide +kernel
 ·first | exact .inl (by decide +kernel) | exact .inr (by decide +kernel)
 ·rw[isSubtype_type];kernel_rfl
theorem qb:PySem.Slot "set_iterator" "__iter__" "set_iterator.__iter__":=by
 refine .of (owner:="set_iterator") (n:="__iter__") ?_ ?_ ?_ ?_ ?_ ?_
 ·rw[typeLookup_type,builtinLookup_eq_fast];kernel_rfl
 ·decide +kernel
 ·decide +kernel
 ·decide +kernel
 ·first | exact .inl (by decide +kernel) | exact .inr (by decide +kernel)
 ·rw[isSubtype_type];kernel_rfl
theorem lO:entryFor table "set_iterator.__next__"=some Builtin.«set_iterator.__next__»:=entryFor_of_tree (by kernel_rfl)
theorem oZ:Manifest.owners.lookup (String.ofList ['r','o','t','a','r','e','t','i','_','t','e','s'].reverse)=some Manifest.sig_set_iterator:=by kernel_rfl
theorem qG(a:Value):argsOk "set_iterator.__next__" ⟨[a],[]⟩:=by
 unfold argsOk;rw[signature?_of (id:="set_iterator.__next__") (n:=['_','_','t','x','e','n','_','_']) (o:=['r','o','t','a','r','e','t','i','_','t','e','s']) (by kernel_rfl) oZ]
 kernel_rfl
theorem yo(a:Value):argsOk "set_iterator.__iter__" ⟨[a],[]⟩:=by
 unfold argsOk;rw[signature?_of (id:="set_iterator.__iter__") (n:=['_','_','r','e','t','i','_','_']) (o:=['r','o','t','a','r','e','t','i','_','t','e','s']) (by kernel_rfl) oZ]
 kernel_rfl
theorem yP:entryFor table "set.__iter__"=some Builtin.«frozenset.__iter__»:=entryFor_alias (id':="frozenset.__iter__") (by kernel_rfl) rfl (by decide +kernel) (by kernel_rfl)
theorem sZ:entryFor table "set_iterator.__iter__"=some Builtin.«dict_keyiterator.__iter__»:=entryFor_alias (id':="dict_keyiterator.__iter__") (by kernel_rfl) rfl (by decide +kernel) (by kernel_rfl)
end Z
namespace Z
open PySem PySem.Spec PyProof.Rows
noncomputable def sit(f:Value)(i:Nat)(a:Addr)(n ep:Nat):Obj:={ cls:=.type "set_iterator",data:=.fields #[f,rawInt i,.ref a,rawInt n,rawInt ep] }
section
variable{prog:Program}{w:World}{A:Around}{E:Value->Shared->Prop}{s:Shared}{I a:Addr}{o:Obj}{es:Array (Int×Value)}{ep:Nat}{t:SetTable}
theorem du{f:Value}{i n:Nat}(h:s.heap.get? I=some (sit f i a n ep)):s.TypeIs (.ref I) "set_iterator":=⟨_,h,rfl⟩
theorem vO{f:Value}{i n:Nat}{Q:Value->Shared->Prop}(h:s.heap.get? I=some (sit f i a n ep))(q:Q (.ref I) s):wpAny (model prog w) A (pyIter (.ref I)) Q E s:=by
 refine wpAny_pyIter_slot (du h) qb (wpAny_call_entry qb (du h) sZ ?_ (yo _));exact wpAny_pure ⟨_,rfl,"set_iterator",_,du h,slot_sin.lookup,q⟩
theorem qz{slot:Int}{tk:Tok}{i:Nat}{Q:Option Value->Shared->Prop}(h:s.heap.get? I=some (sit (.int slot tk) i a es.size ep))(ho:s.heap.get? a=some o)(hd:o.data=.set es ep t)(hf:t.fits es.size=true)
 (q:wpAny (model prog w) A.in1 (setNext a slot.toNat i ep >>= fun r=>match r with
  | some (x,next)=>(setField (.ref I) 0 (rawInt next) >>= fun _=>setField (.ref I) 1 (rawInt (i+1)) >>= fun _=>ret x)
  | none=>(setField (.ref I) 2 .none >>= fun _=>newExc (.type "StopIteration") [] >>= raiseNew))
  (fun fin s'=>∃r,fin=.done (.ret r)/\Q (some r) s') (fun e s'=>wpAny (model prog w) A (isInstance e (.type "StopIteration")) (fun b s2=>if b then Q none s2 else E e s2) E s') s):wpAny (model prog w) A (pyNext (.ref I)) Q E s:=by
 unfold pyNext;refine wpAny_bind (wpAny_attempt (wpAny_callSpecial?_slot (name:=Str.ofString "__next__") (du h) slot_sin (wpAny_call_entry slot_sin (du h) lO ?_ (qG _))));unfold Builtin.«set_iterator.__next__»;refine wpAny_bind (wpAny_pure (wpAny_bind (wpAny_fieldsOf h rfl ?_)));show wpAny _ _ (setEntries a >>= _) _ _ s;refine wpAny_bind ?_;unfold setEntries;refine wpAny_bind (wpAny_setState_of ho hd hf (wpAny_pure ?_));dsimp only;rw[if_neg (by simp)];simp only[Int.toNat_natCast]
 exact wpAny_mono (Q':=fun fin s'=>∃r,fin=.done (.ret r)/\wpAny (model prog w) A (pure (some r)) Q E s') (E':=fun e s'=>wpAny (model prog w) A (isInstance e (.type "StopIteration") >>= fun b=>if b then pure none else throw e) Q E s') q (fun fin s' ⟨r,e,hr⟩=>⟨r,e,wpAny_pure hr⟩) fun e s' he=>wpAny_bind (wpAny_mono he (fun b s2 hb=>by
  cases b
  ·exact wpAny_throw hb
  ·exact wpAny_pure hb) fun _ _ z=>z)
theorem qx{T:Addr}{oT:Obj}{pl:Array Value}{c i:Nat}{Q:Option Value->Shared->Prop}(h:s.heap.get? I=some (sit (.ref T) i a es.size ep))(ho:s.heap.get? a=some o)(hd:o.data=.set es ep t)(hf:t.fits es.size=true)(hT:s.heap.get? T=some oT)(hTd:oT.data=.seq pl c)
 (q:wpAny (model prog w) A.in1 (match pl[i]? with
  | some (.int place _)=>(setNextDrawn a place.toNat ep >>= fun x=>setField (.ref I) 1 (rawInt (i+1)) >>= fun _=>ret x)
  | some _=>unsupported "internal:set_iterator"
  | none=>(setField (.ref I) 0 (rawInt 0) >>= fun _=>setField (.ref I) 2 .none >>= fun _=>newExc (.type "StopIteration") [] >>= raiseNew))
  (fun fin s'=>∃r,fin=.done (.ret r)/\Q (some r) s') (fun e s'=>wpAny (model prog w) A (isInstance e (.type "StopIteration")) (fun b s2=>if b then Q none s2 else E e s2) E s') s):wpAny (model prog w) A (pyNext (.ref I)) Q E s:=by
 unfold pyNext;refine wpAny_bind (wpAny_attempt (wpAny_callSpecial?_slot (name:=Str.ofString "__next__") (du h) slot_sin (wpAny_call_entry slot_sin (du h) lO ?_ (qG _))));unfold Builtin.«set_iterator.__next__»;refine wpAny_bind (wpAny_pure (wpAny_bind (wpAny_fieldsOf h rfl ?_)));show wpAny _ _ (setEntries a >>= _) _ _ s;refine wpAny_bind ?_;unfold setEntries;refine wpAny_bind (wpAny_setState_of ho hd hf (wpAny_pure ?_));dsimp only;rw[if_neg (by simp)];simp only[Int.toNat_natCast];refine wpAny_bind (wpAny_seqItems hT hTd ?_)
 exact wpAny_mono (Q':=fun fin s'=>∃r,fin=.done (.ret r)/\wpAny (model prog w) A (pure (some r)) Q E s') (E':=fun e s'=>wpAny (model prog w) A (isInstance e (.type "StopIteration") >>= fun b=>if b then pure none else throw e) Q E s') q (fun fin s' ⟨r,e,hr⟩=>⟨r,e,wpAny_pure hr⟩) fun e s' he=>wpAny_bind (wpAny_mono he (fun b s2 hb=>by
  cases b
  ·exact wpAny_throw hb
  ·exact wpAny_pure hb) fun _ _ z=>z)
theorem vg{Q:Option Value->Shared->Prop}{R:Fin->Shared->Prop}(hh:A.handled=none)(q:∀h',(∀b o,s.heap.get? b=some o->h'.get? b=some o)->Q none { s with heap:=h' }) :
 wpAny (model prog w) A.in1 (newExc (.type "StopIteration") [] >>= raiseNew) R (fun e s'=>wpAny (model prog w) A (isInstance e (.type "StopIteration")) (fun b s2=>if b then Q none s2 else E e s2) E s') s:=by
 refine wpAny_bind ?_;simp only[newExc,newTuple];refine wpAny_bind (wpAny_newObj_type ?_ (by size_fits));refine wpAny_bind (m:=firstArgMember _ _) (wpAny_of_eq (a:=Value.none) (by first | rfl | (simp only[firstArgMember];rfl)) ?_);refine wpAny_newObj_type ?_ (by size_fits);simp only[raiseNew];refine wpAny_bind (wpAny_handled ?_);rw[show A.in1.handled=none from hh];refine wpAny_bind (wpAny_pure (wpAny_throw ?_));refine wpAny_isInstance (T:="StopIteration") (b:=true) ⟨_,Heap.get?_push_size _ rfl,rfl⟩ isSubtype_stop ?_
 exact q _ fun b o e=>Heap.get?_push_of_some _ (Heap.get?_push_of_some _ e)
end
end Z
namespace Z
open PySem PySem.Spec PyProof.Rows
theorem gk{α:Type}:∀(l:List α) (i:Nat) (h:i<l.length),(l[i]::l.eraseIdx i).Perm l
 | x::l,0,h=>List.Perm.refl _
 | x::l,i+1,h=>by
   have:=gk l i (by simpa using h);exact(List.Perm.swap _ _ _).trans (List.Perm.cons _ this)
theorem uf{α:Type}(nx:Nat->Nat):∀(n k:Nat) (l:List α) (out:Array α),l.length<=n->(pickOrder.go nx n k l out).toList.Perm (out.toList++l)
 | 0,k,l,out,h=>by
   have:l=[]:=List.eq_nil_of_length_eq_zero (by omega);subst this;rw[pickOrder.go,List.append_nil]
 | n+1,k,l,out,h=>by
   rw[pickOrder.go]
   cases l with
   | nil=>simp
   | cons x l=>
     have hlt:nx k % (x::l).length<(x::l).length:=Nat.mod_lt _ (by simp);generalize nx k % (x::l).length=j at hlt;rw[List.getElem?_eq_getElem hlt];dsimp only;refine(uf nx n (k+1) _ _ (by rw[List.length_eraseIdx_of_lt hlt];simp at h ⊢;omega)).trans ?_;rw[Array.toList_push,List.append_assoc];exact List.Perm.append_left _ (gk _ _ hlt)
theorem uG{α:Type}(nx:Nat->Nat)(xs:Array α):(pickOrder nx xs).toList.Perm xs.toList:=by
 have:=uf nx xs.size 0 xs.toList #[] (by simp);unfold pickOrder;simpa using this
section
variable{prog:Program}{w:World}{A:Around}{E:Value->Shared->Prop}{s:Shared}
theorem vd{src:Source}{n:Nat}{Q:Nat->Shared->Prop}(hn:n≠0)(q:∀i,i<n->Q i { s with drawn:=s.drawn.bump src }):wpAny (model prog w) A (choose src n) Q E s:=fun Γ p hΓ=>by
 unfold choose;rw[Sem.wp_choose];exact⟨hn,by rw[Sem.wp_pure];exact q _ (Nat.mod_lt _ (by omega))⟩
theorem vC{α:Type}:∀(n:Nat) (xs:List α) (s:Shared) (Q:List α->Shared->Prop),xs.length<=n->(∀l d,l.Perm xs->Q l { s with drawn:=d })->wpAny (model prog w) A (drawOrder n xs) Q E s
 | 0,xs,s,Q,h,q=>by
   have:xs=[]:=List.eq_nil_of_length_eq_zero (by omega);subst this;exact wpAny_pure (q [] s.drawn (List.Perm.refl _))
 | n+1,[],s,Q,h,q=>wpAny_pure (q [] s.drawn (List.Perm.refl _))
 | n+1,x::xs,s,Q,h,q=>by
   unfold drawOrder;refine wpAny_bind (vd (by simp) fun i hi=>?_);rw[List.getElem?_eq_getElem hi];dsimp only;refine wpAny_bind (vC n _ _ _ (by rw[List.length_eraseIdx_of_lt hi];simp at h ⊢;omega) fun l d hl=>?_);exact wpAny_pure (q _ d ((List.Perm.cons _ hl).trans (gk _ _ hi)))
theorem ir{Q:Bool->Shared->Prop}(q:Q (byT w) s):wpAny (model prog w) A setsByText Q E s:=by
 unfold setsByText;exact wpAny_bind (wpAny_askSetting (wpAny_pure q))
end
end Z
namespace Z
open PySem PySem.Spec PyProof.Rows
section
variable{prog:Program}{w:World}{A:Around}{E:Value->Shared->Prop}{s:Shared}{I a:Addr}{o:Obj}{es:Array (Int×Value)}{ep:Nat}{t:SetTable}
noncomputable def ordI(w:World)(a:Addr)(ep:Nat)(es:Array (Int×Value)):Array (Int×Value):=if byT w then pickOrder (w.params.setOrder a ep) es else es
noncomputable def slI(w:World)(t:SetTable)(i:Nat):Nat:=if byT w then 0 else if i=0 then 0 else t.place.getD (i-1) 0+1
theorem kW:(ordI w a ep es).toList.Perm es.toList:=by
 unfold ordI;split
 ·exact uG _ _
 ·exact List.Perm.refl _
theorem ie:(ordI w a ep es).size=es.size:=by
 have:=(kW (w:=w) (a:=a) (ep:=ep) (es:=es)).length_eq;simpa using this
theorem yC{led:Bool}(hj:Tj led t)(hb:byT w=false){i:Nat}(hi:i<=t.place.size):SetTable.below t.place (slI w t i)=i:=by
 unfold slI;rw[hb];have hb:=below_at hj.up
 have mono:∀x y,x<y->y<t.place.size->t.place.getD x 0<t.place.getD y 0:=fun x y hxy hy=>by
  have:=List.pairwise_iff_getElem.mp hj.up x y (by simpa using(by omega:x<t.place.size)) (by simpa using hy) hxy;simp only[Array.getElem_toList]at this;rw[Array.getD_eq_getD_getElem?,Array.getD_eq_getD_getElem?,Array.getElem?_eq_getElem (by omega),Array.getElem?_eq_getElem hy];exact this
 by_cases h0:i=0
 ·subst h0
  simp only[Bool.false_eq_true,if_false,if_true];obtain⟨h1,h2,h3⟩:=hb 0;rcases Nat.eq_zero_or_pos (SetTable.below t.place 0)with h | h
  ·exact h
  ·exact absurd (h2 0 h) (Nat.not_lt_zero _)
 ·simp only[Bool.false_eq_true,if_false,h0]
  obtain⟨h1,h2,h3⟩:=hb (t.place.getD (i-1) 0+1);generalize SetTable.below t.place (t.place.getD (i-1) 0+1)=b at *
  have g1:i<=b:=by
   apply Classical.byContradiction
   intro z;have:=h3 (i-1) (by omega) (by omega);omega
  rcases Nat.lt_or_eq_of_le g1 with g | g
  ·exfalso
   have:=h2 i g;have:=mono (i-1) i (by omega) (by omega);omega
  ·exact g.symm
theorem zf{i:Nat}{Q:Option (Value×Nat)->Shared->Prop}(ho:s.heap.get? a=some o)(hd:o.data=.set es ep t)(hf:t.fits es.size=true)(hj:Tj (!byT w) t)(hdr:byT w=false->(!t.plain&&decide (es.size>1))=false)(hi:i<=es.size)
 (q:Q ((ordI w a ep es)[i]?.map fun e=>(e.2,slI w t (i+1))) s):wpAny (model prog w) A (setNext a (slI w t i) i ep) Q E s:=by
 have hps:t.place.size=es.size:=by
  simp only[SetTable.fits,Bool.and_eq_true,beq_iff_eq]at hf;exact hf.1
 unfold setNext;refine wpAny_bind (wpAny_setState_of ho hd hf (wpAny_bind (ir ?_)))
 cases hb:byT w with
 | true=>
   unfold ordI slI at *;rw[hb]at q;simp only[if_true]at q ⊢;rw[if_neg (by simp)];refine wpAny_bind ?_;unfold setWalk;refine wpAny_bind (wpAny_setState_of ho hd hf (wpAny_bind (ir ?_)));rw[hb];exact wpAny_bind (wpAny_askSetting (wpAny_pure (wpAny_pure q)))
 | false=>
   have hb2:=yC hj hb (i:=i) (by omega);rw[hb]at hj;have hdr:=hdr hb;unfold ordI at q;rw[hb]at q;simp only[Bool.false_eq_true,if_false]at q ⊢;show wpAny _ _ (if(!t.plain&&decide (es.size>1))=true then _ else _) _ _ _;rw[hdr];simp only[Bool.false_eq_true,if_false];refine wpAny_bind ?_;show wpAny _ _ (if(!t.led&&!es.isEmpty)=true then _ else pure ()) _ _ _;rw[hj.led];simp only[Bool.not_false,Bool.not_true,Bool.false_and,Bool.false_eq_true,if_false];refine wpAny_pure ?_;rw[hb2]
   by_cases hlt:i<es.size
   ·rw[Array.getElem?_eq_getElem hlt,Array.getElem?_eq_getElem (by omega:i<t.place.size)]
    rw[Array.getElem?_eq_getElem hlt]at q;refine wpAny_pure ?_
    have:slI w t (i+1)=t.place[i]'(by omega)+1:=by
     unfold slI;rw[hb];simp only[Bool.false_eq_true,if_false,Nat.add_sub_cancel,Nat.succ_ne_zero,Nat.add_one_ne_zero];rw[Array.getD_eq_getD_getElem?,Array.getElem?_eq_getElem (by omega:i<t.place.size)];rfl
    rw[this]at q;exact q
   ·rw[Array.getElem?_eq_none (by omega)]at q ⊢
    exact wpAny_pure q
theorem Mr(hh:A.handled=none)(hne:a≠I)(hx:o.data=.set es ep t)(hf:t.fits es.size=true)(hj:Tj (!byT w) t)(hdr:byT w=false->(!t.plain&&decide (es.size>1))=false) :
 WalksS prog w A I [I,a] [I] (fun x y=>y=x) es.size (fun i v=>∃e,(ordI w a ep es)[i]?=some e/\v=e.2) (fun i s=>(∃tk,s.heap.get? I=some (sit (.int (slI w t i) tk) i a es.size ep))/\s.heap.get? a=some o)where
 sub:=fun b hb=>by simp at hb;simp[hb]
 grefl:=fun _=>rfl
 gtrans:=fun a b c h1 h2=>h2.trans h1
 frame:=fun i s h' tk st _ hk=>⟨st.1.imp fun _ z=>hk I (by simp) _ z,hk a (by simp) _ st.2⟩
 item:=fun i s Q E hi st q=>by
  obtain⟨⟨tk,h1⟩,h2⟩:=st;have hsz:=ie (w:=w) (a:=a) (ep:=ep) (es:=es);refine qz h1 h2 hx hf (wpAny_bind ?_);rw[Int.toNat_natCast];refine zf h2 hx hf hj hdr (by omega) ?_;rw[Array.getElem?_eq_getElem (by omega)];refine wpAny_bind (wpAny_setField h1 rfl (by simp) ?_)
  have g1:(s.heap.update I (Obj.mapFields (·.setIfInBounds 0 (rawInt (slI w t (i+1):Nat))))).get? I=some (sit (.int (slI w t (i+1):Nat) 0) i a es.size ep):=by
   refine(Heap.get?_update_self _ h1 (Obj.isFreed_of_fields (Obj.data_mapFields rfl _))).trans ?_
   rfl
  refine wpAny_bind (wpAny_setField g1 rfl (by simp) (wpAny_pure ⟨_,rfl,?_⟩))
  have g2:((s.heap.update I (Obj.mapFields (·.setIfInBounds 0 (rawInt (slI w t (i+1):Nat))))).update I (Obj.mapFields (·.setIfInBounds 1 (rawInt ((i:Int)+1))))).get? I=some (sit (.int (slI w t (i+1):Nat) 0) (i+1) a es.size ep):=by
   refine(Heap.get?_update_self _ g1 (Obj.isFreed_of_fields (Obj.data_mapFields rfl _))).trans ?_
   rfl
  have kp:∀b o,b≠I->s.heap.get? b=some o->((s.heap.update I (Obj.mapFields (·.setIfInBounds 0 (rawInt (slI w t (i+1):Nat))))).update I (Obj.mapFields (·.setIfInBounds 1 (rawInt ((i:Int)+1))))).get? b=some o:=fun b o hb e=>by
   rw[Heap.get?_update_ne _ _ _ _ hb,Heap.get?_update_ne _ _ _ _ hb];exact e
  exact q _ _ ⟨_,Array.getElem?_eq_getElem (by omega),rfl⟩ ⟨⟨0,g2⟩,kp a o hne h2⟩ ⟨fun b o hb e=>kp b o (fun z=>hb (by simp[z])) e,rfl,rfl,rfl,Nat.le_refl _⟩
 done:=fun s Q E st q=>by
  obtain⟨⟨tk,h1⟩,h2⟩:=st;have hsz:=ie (w:=w) (a:=a) (ep:=ep) (es:=es);refine qz h1 h2 hx hf (wpAny_bind ?_);rw[Int.toNat_natCast];refine zf h2 hx hf hj hdr (Nat.le_refl _) ?_;rw[Array.getElem?_eq_none (by omega)];refine wpAny_bind (wpAny_setField h1 rfl (by simp) ?_)
  refine vg hh fun h' hk=>q _ ⟨fun b o hb e=>hk b o ?_,rfl,rfl,rfl,Nat.le_refl _⟩
  rw[Heap.get?_update_ne _ _ _ _ (fun z=>hb (by simp[z]))];exact e
 self:=fun i s Q E st q=>by
  obtain⟨⟨tk,h1⟩,h2⟩:=st;exact vO h1 q
end
end Z
namespace Z
open PySem PySem.Spec PyProof.Rows
section
variable{prog:Program}{w:World}{A:Around}{E:Value->Shared->Prop}{s:Shared}{I a T:Addr}{o oT:Obj}{es:Array (Int×Value)}{ep:Nat}{t:SetTable}
theorem Ma(hh:A.handled=none)(hne:a≠I)(hTI:T≠I)(hx:o.data=.set es ep t)(hf:t.fits es.size=true){p:List Nat}{c:Nat}(hp:p.Perm (List.range es.size))(hT:oT.data=.seq (p.map fun(i:Nat)=>rawInt i).toArray c) :
 WalksS prog w A I [I,a,T] [I] (fun x y=>y=x) es.size (fun i v=>∃j e,p[i]?=some j/\es[j]?=some e/\v=e.2) (fun i s=>s.heap.get? I=some (sit (.ref T) i a es.size ep)/\s.heap.get? a=some o/\s.heap.get? T=some oT)where
 sub:=fun b hb=>by simp at hb;simp[hb]
 grefl:=fun _=>rfl
 gtrans:=fun a b c h1 h2=>h2.trans h1
 frame:=fun i s h' tk st _ hk=>⟨hk I (by simp) _ st.1,hk a (by simp) _ st.2.1,hk T (by simp) _ st.2.2⟩
 item:=fun i s Q E hi st q=>by
  obtain⟨h1,h2,h3⟩:=st
  have hl:p.length=es.size:=by have:=hp.length_eq;simpa using this
  have hi':i<p.length:=by omega
  have hj:p[i]<es.size:=List.mem_range.mp (hp.mem_iff.mp (List.getElem_mem hi'));refine qx h1 h2 hx hf h3 hT ?_;rw[List.getElem?_toArray,List.getElem?_map,List.getElem?_eq_getElem hi'];simp only[Option.map_some,rawInt];refine wpAny_bind ?_;unfold setNextDrawn;refine wpAny_bind (wpAny_setState_of h2 hx hf ?_);dsimp only;rw[if_neg (by simp),Int.toNat_natCast,Array.getElem?_eq_getElem hj];refine wpAny_pure (wpAny_bind (wpAny_setField h1 rfl (by simp) (wpAny_pure ⟨_,rfl,?_⟩)))
  have g2:(s.heap.update I (Obj.mapFields (·.setIfInBounds 1 (.int ((i:Int)+1) 0)))).get? I=some (sit (.ref T) (i+1) a es.size ep):=by
   refine(Heap.get?_update_self _ h1 (Obj.isFreed_of_fields (Obj.data_mapFields rfl _))).trans ?_
   rfl
  have kp:∀b o,b≠I->s.heap.get? b=some o->(s.heap.update I (Obj.mapFields (·.setIfInBounds 1 (.int ((i:Int)+1) 0)))).get? b=some o:=fun b o hb e=>by
   rw[Heap.get?_update_ne _ _ _ _ hb];exact e
  exact q _ _ ⟨_,_,List.getElem?_eq_getElem hi',Array.getElem?_eq_getElem hj,rfl⟩ ⟨g2,kp a o hne h2,kp T oT hTI h3⟩ ⟨fun b o hb e=>kp b o (fun z=>hb (by simp[z])) e,rfl,rfl,rfl,Nat.le_refl _⟩
 done:=fun s Q E st q=>by
  obtain⟨h1,h2,h3⟩:=st
  have hl:p.length=es.size:=by have:=hp.length_eq;simpa using this
  refine qx h1 h2 hx hf h3 hT ?_;rw[List.getElem?_toArray,List.getElem?_map,List.getElem?_eq_none (by omega)];simp only[Option.map_none];refine wpAny_bind (wpAny_setField h1 rfl (by simp) ?_)
  have g1:(s.heap.update I (Obj.mapFields (·.setIfInBounds 0 (rawInt 0)))).get? I=some (sit (rawInt 0) es.size a es.size ep):=by
   refine(Heap.get?_update_self _ h1 (Obj.isFreed_of_fields (Obj.data_mapFields rfl _))).trans ?_
   rfl
  refine wpAny_bind (wpAny_setField g1 rfl (by simp) ?_)
  refine vg hh fun h' hk=>q _ ⟨fun b o hb e=>hk b o ?_,rfl,rfl,rfl,Nat.le_refl _⟩
  rw[Heap.get?_update_ne _ _ _ _ (fun z=>hb (by simp[z])),Heap.get?_update_ne _ _ _ _ (fun z=>hb (by simp[z]))];exact e
 self:=fun i s Q E st q=>vO st.1 q
theorem yN{Q:Value->Shared->Prop}(ho:s.heap.get? a=some o)(hx:o.ExactSet)(hd:o.data=.set es ep t)(hf:t.fits es.size=true)(hb:es.size<scanBound)
 (q1:(byT w=false->(!t.plain&&decide (es.size>1))=false)->Q (.ref s.heap.objs.size) { s with heap:=s.heap.push (sit (rawInt 0) 0 a es.size ep) })
 (q2:∀(p:List Nat) d,p.Perm (List.range es.size)->Q (.ref (s.heap.push { cls:=.type "tuple",data:=.seq (p.map fun(i:Nat)=>rawInt i).toArray }).objs.size) { s with heap:=(s.heap.push { cls:=.type "tuple",data:=.seq (p.map fun(i:Nat)=>rawInt i).toArray }).push (sit (.ref s.heap.objs.size) 0 a es.size ep),drawn:=d }) :
 wpAny (model prog w) A (pyIter (.ref a)) Q E s:=by
 have hT:s.TypeIs (.ref a) "set":=⟨o,ho,hx.1⟩
 refine wpAny_pyIter_slot hT PySem.F.slot_set_iter (wpAny_call_entry PySem.F.slot_set_iter hT yP ?_ (PySem.F.args_set_iter_1 _));unfold Builtin.«frozenset.__iter__»;refine wpAny_bind (m:=Builtin.Frozenset.slot0 _ _) (wpAny_bind (wpAny_pure (wpAny_pure ?_)));refine wpAny_bind (m:=Builtin.Frozenset.sizeOf a) ?_;unfold Builtin.Frozenset.sizeOf setEntries;refine wpAny_bind (wpAny_bind (wpAny_setState_of ho hd hf (wpAny_pure (wpAny_pure ?_))));refine wpAny_bind ?_;unfold setDrawn;refine wpAny_bind (wpAny_setState_of ho hd hf (wpAny_bind (ir (wpAny_pure ?_))))
 have fin:∀(f:Value) (s1:Shared),s1.heap.get? a=some o->Q (.ref s1.heap.objs.size) { s1 with heap:=s1.heap.push (sit f 0 a es.size ep) }->wpAny (model prog w) A.in1 (setEpoch a >>= fun e=>newFields "set_iterator" [f,rawInt 0,.ref a,rawInt es.size,rawInt e] >>= fun v=>ret v) (fun fin s'=>∃r,fin=.done (.ret r)/\∃T id,s'.TypeIs r T/\typeLookup (.type T) "__next__"=pure (some id)/\Q r s') E s1:=fun f s1 h1 q=>by
  refine wpAny_bind ?_;unfold setEpoch;refine wpAny_bind (wpAny_setState_of h1 hd hf (wpAny_pure (wpAny_bind ?_)));unfold newFields;refine wpAny_newObj_type ?_;exact wpAny_pure ⟨_,rfl,"set_iterator",_,⟨_,Heap.get?_push_size _ rfl,rfl⟩,slot_sin.lookup,q⟩
 dsimp only;show wpAny _ _ (if(!byT w&&(!t.plain&&decide (es.size>1)))=true then _ else _) _ _ _
 by_cases c:(!byT w&&(!t.plain&&decide (es.size>1)))=true
 ·rw[if_pos c]
  refine wpAny_bind (vC es.size _ _ _ (by simp) fun l d hl=>?_)
  have hz:l.length<=sizeLine:=by
   have:=hl.length_eq;rw[List.length_range]at this;rw[this];exact fits_of_scanBound hb
  refine wpAny_bind (wpAny_newTuple ?_ (by simpa using hz));exact fin (.ref s.heap.objs.size) _ (Heap.get?_push_of_some _ ho) (q2 l d hl)
 ·rw[if_neg c]
  refine wpAny_bind (wpAny_pure ?_);refine fin (rawInt 0) s ho (q1 fun z=>?_);rw[z]at c;simpa using c
theorem p6(hT:s.TypeIs (.ref a) "set"){Q:Bool->Shared->Prop}(q:Q false s):wpAny (model prog w) A (Builtin.List.listLengthHint (.ref a)) Q E s:=by
 unfold Builtin.List.listLengthHint;refine wpAny_bind (wpAny_specialOf hT (PySem.F.slot_set_len.lookup) ?_)
 have e:splitId "set.__len__"=some ("set","__len__"):=by decide +kernel
 dsimp only;rw[e];dsimp only;refine wpAny_bind (wpAny_isInstance hT sub_set_self ?_);rw[if_neg (by decide)]
 refine wpAny_ite_split (fun _=>wpAny_bind (wpAny_typeOf hT (wpAny_pure q))) fun z=>absurd (by decide +kernel) z
section
variable{K:Type} [DecidableEq K]{knd:KeyKind prog w K}{pj:Value->K}
theorem v7{L:Addr}{fp wr:List Addr}{n:Nat}{P:Nat->Value->Prop}{St:Nat->Shared->Prop}{Q:List Value->Shared->Prop}(W:WalksS prog w A.in1 I fp wr (fun x y=>y=x) n P St)(hn:n<=sizeLine)(hL:L∉fp)(st:St 0 s)(hl:s.heap.get? L=some { cls:=.type "list",data:=.seq #[] 0 }){hT:s.TypeIs (.ref a) "set"}
 (q:∀h' tk vs,s.toks<=tk->(∀b o,b∉L::wr->s.heap.get? b=some o->h'.get? b=some o)->vs.length=n->(∀j v,vs[j]?=some v->P j v)->Q vs { s with heap:=h',toks:=tk }) (b:Bool) :
 wpAny (model prog w) A.in1 (if(false||b)=true then(rule "list.extend.makes-room" >>= fun _=>Builtin.List.listTouch (.ref L) >>= fun _=>again (.builtin "list.extend.loop" ⟨[.ref L,.ref I,.ref L],[]⟩))else again (.builtin "list.extend.loop" ⟨[.ref L,.ref I,.ref L],[]⟩))
  (fun fin s'=>match fin with
   | .done f=>(match(Except.ok f:Result)with
     | .ok (.ret v)=>wpAny (model prog w) A (match v with | .ref a=>(load a >>= fun ob=>match ob.data with | .seq xs _=>pure xs.toList | _=>unsupported "internal:collect") | _=>unsupported "internal:collect") Q E s'
     | .ok _=>False
     | .error e=>E e s')
   | .again c'=>c'.quiet=true/\codeAny (model prog w) A c' (fun r s'=>match r with
     | .ok (.ret v)=>wpAny (model prog w) A (match v with | .ref a=>(load a >>= fun ob=>match ob.data with | .seq xs _=>pure xs.toList | _=>unsupported "internal:collect") | _=>unsupported "internal:collect") Q E s'
     | .ok _=>False
     | .error e=>E e s') s') (fun e s'=>match(Except.error e:Result)with
     | .ok (.ret v)=>wpAny (model prog w) A (match v with | .ref a=>(load a >>= fun ob=>match ob.data with | .seq xs _=>pure xs.toList | _=>unsupported "internal:collect") | _=>unsupported "internal:collect") Q E s'
     | .ok _=>False
     | .error e=>E e s') s:=by
 have key:∀(h1:Heap) (c:Nat),(∀b o,b≠L->s.heap.get? b=some o->h1.get? b=some o)->h1.get? L=some { cls:=.type "list",data:=.seq #[] c }->codeAny (model prog w) A (.builtin "list.extend.loop" ⟨[.ref L,.ref I,.ref L],[]⟩) (fun r s'=>match r with
  | .ok (.ret v)=>wpAny (model prog w) A (match v with | .ref a=>(load a >>= fun ob=>match ob.data with | .seq xs _=>pure xs.toList | _=>unsupported "internal:collect") | _=>unsupported "internal:collect") Q E s'
  | .ok _=>False
  | .error e=>E e s') { s with heap:=h1 }:=fun h1 c hk hl1=>by
  refine codeAny_extend_loopS W hn L hL (.ref L) n 0 _ #[] c rfl (Nat.zero_le _) (W.frame 0 s h1 s.toks st (Nat.le_refl _) fun b hb o e=>hk b o (fun z=>hL (z▸hb)) e) hl1 (ItemsOf.nil _) fun s' acc c' m hl' hi=>?_
  refine wpAny_bind (wpAny_load hl' (wpAny_pure ?_));obtain⟨h',g',d',t',o'⟩:=s';obtain⟨m1,m2,m3,m4,m5⟩:=m;have m2:g'=s.gens:=m2;have m3:d'=s.drawn:=m3;have m4:o'=s.os:=m4;subst m2;subst m3;subst m4
  refine q h' t' acc.toList m5 (fun b o hb e=>m1 b o hb (hk b o (fun z=>hb (by simp[z])) e)) (by simpa using hi.1) fun j v hv=>hi.2 j v (by simpa using hv)
 cases b with
 | false=>exact wpAny_pure ⟨plainId_quiet PySem.F.plain_extend_loop _,key s.heap 0 (fun _ _ _ e=>e) hl⟩
 | true=>
   simp only[Bool.false_or,if_true];refine wpAny_bind (wpAny_rule (wpAny_bind ?_));show wpAny _ _ (updateSeq L (·.push .none) >>= fun _=>updateSeq L (·.pop)) _ _ _;have g1:=Heap.get?_update_self (Obj.mapSeq (·.push Value.none)) hl rfl;have g2:=Heap.get?_update_self (Obj.mapSeq (·.pop)) g1 rfl;refine wpAny_bind (wpAny_updateSeq hl rfl (wpAny_updateSeq (hz:=by seq_fits) g1 rfl (wpAny_pure ⟨plainId_quiet PySem.F.plain_extend_loop _,key _ _ (fun b o hb e=>?_) g2⟩)));rw[Heap.get?_update_ne _ _ _ _ hb,Heap.get?_update_ne _ _ _ _ hb];exact e
end
end
end Z
namespace Z
open PySem PySem.Spec PyProof.Rows
theorem uB{α β:Type}{vs:List β}{l:List α}{f:α->β}(hl:vs.length=l.length)(h:∀(j:Nat) v,vs[j]?=some v->∃e,l[j]?=some e/\v=f e):vs=l.map f:=by
 apply List.ext_getElem?
 intro j
 by_cases hj:j<vs.length
 ·obtain⟨e,h1,h2⟩:=h j vs[j] (List.getElem?_eq_getElem hj)
  rw[List.getElem?_eq_getElem hj,List.getElem?_map,h1,h2];rfl
 ·rw[List.getElem?_eq_none (by omega),List.getElem?_eq_none (by rw[List.length_map];omega)]
section
variable{prog:Program}{w:World}{A:Around}{E:Value->Shared->Prop}{s:Shared}{a:Addr}{K:Type} [DecidableEq K]{knd:KeyKind prog w K}{pj:Value->K}
theorem iT{ks:List K}(hpj:∀v k,knd.is k v=true->pj v=k)(hh:A.handled=none)(S:SetL knd pj s.heap a (!byT w) ks){Q:List Value->Shared->Prop}
 (q:∀h' d' tk vs,s.toks<=tk->(∀b o,s.heap.get? b=some o->h'.get? b=some o)->(vs.map pj).Perm ks->(∀v∈vs,knd.is (pj v) v=true)->Q vs { s with heap:=h',drawn:=d',toks:=tk }):wpAny (model prog w) A (collect (.ref a)) Q E s:=by
 obtain⟨o,es,ep,t,ho,hx,hd,he,hp,hb,hf,hj⟩:=S;have hn:=fits_of_scanBound hb;have hlt:a<s.heap.objs.size:=Heap.lt_size ho
 have hend:∀(l:List (Int×Value)),l.Perm es.toList->((l.map fun e=>e.2).map pj).Perm ks/\∀v∈l.map (fun e=>e.2),knd.is (pj v) v=true:=fun l hl=>by
  refine⟨?_,fun v hv=>?_⟩
  ·rw[List.map_map];exact(hl.map _).trans hp
  ·obtain⟨e,h1,rfl⟩:=List.mem_map.mp hv
   obtain⟨⟨k,h2,_⟩,_⟩:=he e (hl.mem_iff.mp h1);exact(hpj _ _ h2)▸h2
 unfold collect;refine wpAny_bind (wpAny_runValue (codeAny_builtin PySem.F.entry_proto_collect ?_));rw[Around.under_plainId PySem.F.plain_proto_collect _];show wpAny _ A.in1 (newList [] >>= fun acc=>again (.builtin "list.__iadd__" ⟨[acc,.ref a],[]⟩)) _ _ s;refine wpAny_bind (wpAny_newObj_type ?_);refine wpAny_pure ⟨plainId_quiet PySem.F.plain_list_iadd _,codeAny_builtin PySem.F.entry_list_iadd ?_⟩;rw[Around.under_plainId PySem.F.plain_list_iadd _];show wpAny _ A.in1 (Builtin.List.listExtendWith (.ref s.heap.objs.size) (.ref a) (.ref s.heap.objs.size)) _ _ _;have hl0:(s.heap.push { cls:=.type "list",data:=.seq ([]:List Value).toArray }).get? s.heap.objs.size=some { cls:=.type "list",data:=.seq #[] 0 }:=Heap.get?_push_size _ rfl;have ha0:=Heap.get?_push_of_some { cls:=.type "list",data:=.seq ([]:List Value).toArray } ho
 have hkp:∀b o',s.heap.get? b=some o'->(s.heap.push { cls:=.type "list",data:=.seq ([]:List Value).toArray }).get? b=some o':=fun b o' e=>Heap.get?_push_of_some _ e
 have hsz:(s.heap.push { cls:=.type "list",data:=.seq ([]:List Value).toArray }).objs.size=s.heap.objs.size+1:=Heap.size_push _ _;generalize s.heap.push { cls:=.type "list",data:=.seq ([]:List Value).toArray }=h1 at *
 have hT:∀h2:Heap,h2.get? a=some o->∀d tk,Shared.TypeIs ⟨h2,s.gens,d,tk,s.os⟩ (.ref a) "set":=fun h2 e d tk=>⟨o,e,hx.1⟩
 unfold Builtin.List.listExtendWith;refine wpAny_bind (wpAny_typeOf (T:="set") (hT h1 ha0 _ _) ?_)
 have c1:Builtin.List.listSameRef (.ref s.heap.objs.size) (.ref a)=false:=by simp[Builtin.List.listSameRef,Nat.ne_of_gt hlt]
 rw[c1];rw[if_neg (by decide)];refine wpAny_bind (yN (s:=⟨h1,s.gens,s.drawn,s.toks,s.os⟩) ha0 hx hd hf hb (fun hdr=>?_) fun p d hp'=>?_)
 ·refine wpAny_bind (wpAny_holding (p6 (hT _ (Heap.get?_push_of_some _ ha0) _ _) ?_))
  have hne:a≠h1.objs.size:=by rw[hsz];exact Nat.ne_of_lt (Nat.lt_succ_of_lt hlt)
  refine v7 (s:=⟨h1.push (sit (rawInt 0) 0 a es.size ep),s.gens,s.drawn,s.toks,s.os⟩) (hT:=hT _ (Heap.get?_push_of_some _ ha0) _ _) (Mr (I:=h1.objs.size) (o:=o) hh hne hd hf hj hdr) hn (L:=s.heap.objs.size) ?_ ⟨⟨0,?_⟩,Heap.get?_push_of_some _ ha0⟩ (Heap.get?_push_of_some _ hl0) (fun h' tk vs htk hk hl hv=>?_) _
  ·rw[hsz]
   simp only[List.mem_cons,List.not_mem_nil,or_false,not_or];exact⟨Nat.ne_of_lt (Nat.lt_succ_self _),Nat.ne_of_gt hlt⟩
  ·refine(Heap.get?_push_size _ rfl).trans ?_
   have:slI w t 0=0:=by unfold slI;split<;>rfl
   rw[this];rfl
  ·have ev:vs=(ordI w a ep es).toList.map fun e=>e.2:=uB (by rw[hl];have:=ie (w:=w) (a:=a) (ep:=ep) (es:=es);simpa using this.symm) fun j v hjv=>by
    obtain⟨e,h2,h3⟩:=hv j v hjv;exact⟨e,by simpa using h2,h3⟩
   subst ev;obtain⟨e1,e2⟩:=hend _ (kW (w:=w) (a:=a) (ep:=ep) (es:=es));refine q h' s.drawn tk _ htk (fun b o' e=>hk b o' ?_ (Heap.get?_push_of_some _ (hkp b o' e))) e1 e2;have:=Heap.lt_size e;rw[hsz];simp only[List.mem_cons,List.not_mem_nil,or_false,not_or];exact⟨Nat.ne_of_lt this,Nat.ne_of_lt (Nat.lt_succ_of_lt this)⟩
 ·refine wpAny_bind (wpAny_holding (p6 (hT _ (Heap.get?_push_of_some _ (Heap.get?_push_of_some _ ha0)) _ _) ?_))
  have hs2:=Heap.size_push h1 ({ cls:=.type "tuple",data:=.seq (p.map fun(i:Nat)=>rawInt i).toArray }:Obj)
  have hne:a≠(h1.push ({ cls:=.type "tuple",data:=.seq (p.map fun(i:Nat)=>rawInt i).toArray }:Obj)).objs.size:=by rw[hs2,hsz];exact Nat.ne_of_lt (Nat.lt_succ_of_lt (Nat.lt_succ_of_lt hlt))
  have hT0:(h1.push ({ cls:=.type "tuple",data:=.seq (p.map fun(i:Nat)=>rawInt i).toArray }:Obj)).get? h1.objs.size=some _:=Heap.get?_push_size _ rfl
  have hk2:∀b o',h1.get? b=some o'->(h1.push ({ cls:=.type "tuple",data:=.seq (p.map fun(i:Nat)=>rawInt i).toArray }:Obj)).get? b=some o':=fun b o' e=>Heap.get?_push_of_some _ e
  have hne2:h1.objs.size≠(h1.push ({ cls:=.type "tuple",data:=.seq (p.map fun(i:Nat)=>rawInt i).toArray }:Obj)).objs.size:=by rw[hs2];exact Nat.ne_of_lt (Nat.lt_succ_self _)
  generalize h1.push ({ cls:=.type "tuple",data:=.seq (p.map fun(i:Nat)=>rawInt i).toArray }:Obj)=h2 at *;refine v7 (s:=⟨h2.push (sit (.ref h1.objs.size) 0 a es.size ep),s.gens,d,s.toks,s.os⟩) (hT:=hT _ (Heap.get?_push_of_some _ (hk2 _ _ ha0)) _ _) (Ma (prog:=prog) (w:=w) (A:=A.in1) (I:=h2.objs.size) (T:=h1.objs.size) (o:=o) (oT:={ cls:=.type "tuple",data:=.seq (p.map fun(i:Nat)=>rawInt i).toArray }) hh hne hne2 hd hf hp' rfl) hn (L:=s.heap.objs.size) ?_ ⟨Heap.get?_push_size _ rfl,Heap.get?_push_of_some _ (hk2 _ _ ha0),Heap.get?_push_of_some _ hT0⟩ (Heap.get?_push_of_some _ (hk2 _ _ hl0)) (fun h' tk vs htk hk hl hv=>?_) _
  ·rw[hs2,hsz]
   simp only[List.mem_cons,List.not_mem_nil,or_false,not_or];exact⟨Nat.ne_of_lt (Nat.lt_succ_of_lt (Nat.lt_succ_self _)),Nat.ne_of_gt hlt,Nat.ne_of_lt (Nat.lt_succ_self _)⟩
  ·have hpl:p.length=es.size:=by have:=hp'.length_eq;simpa using this
   have hin:∀j∈p,j<es.toList.length:=fun j hj'=>by have:=List.mem_range.mp (hp'.mem_iff.mp hj');simpa using this
   have ev:vs=(p.map fun j=>es.toList[j]?.getD (0,.none)).map fun e=>e.2:=by
    rw[List.map_map]
    refine uB (by omega) fun j v hjv=>?_
    obtain⟨i,e,h3,h4,h5⟩:=hv j v hjv;refine⟨i,h3,?_⟩;simp only[Function.comp_apply,Array.getElem?_toList,h4,Option.getD_some,h5]
   have hperm:(p.map fun j=>es.toList[j]?.getD (0,.none)).Perm es.toList:=by
    refine(hp'.map _).trans ?_
    have:(List.range es.size).map (fun j=>es.toList[j]?.getD (0,.none))=es.toList:=by
     apply List.ext_getElem
     ·simp
     ·intro i h3 h4
      rw[List.getElem_map,List.getElem_range,List.getElem?_eq_getElem h4];rfl
    rw[this]
   subst ev;obtain⟨e1,e2⟩:=hend _ hperm;refine q h' d tk _ htk (fun b o' e=>hk b o' ?_ (Heap.get?_push_of_some _ (hk2 _ _ (hkp b o' e)))) e1 e2;have:=Heap.lt_size e;rw[hs2,hsz];simp only[List.mem_cons,List.not_mem_nil,or_false,not_or];exact⟨Nat.ne_of_lt this,Nat.ne_of_lt (Nat.lt_succ_of_lt (Nat.lt_succ_of_lt this))⟩
end
end Z
namespace Z
open PySem PySem.Spec PyProof.Rows L2
noncomputable def pjS:Value->Str
 | .str x _=>x
 | _=>⟨#[]⟩
noncomputable def pjI:Value->Int
 | .int i _=>i
 | _=>0
section
variable{X:Cx}{pins:List (Addr×Obj)}{σ:L2.St}{H:Hp}{s:Shared}
theorem Ai(v:Value)(k:Str)(h:(strKind X.prog X.w).is k v=true):pjS v=k:=by
 obtain⟨t,rfl⟩:=Value.isStrOf_shape h;rfl
theorem Ah(v:Value)(k:Int)(h:(intKind X.prog X.w).is k v=true):pjI v=k:=by
 obtain⟨t,rfl⟩:=Value.isInt_shape h;rfl
theorem lH(I:Inv X pins σ H s)(d:Drawn):Inv X pins σ H { s with drawn:=d }:=⟨I.ok,I.os,I.bare,I.base,I.loc,I.cell,I.free,I.freeC,I.pin,I.hok,I.len⟩
noncomputable def setS(X:Cx)(l:Addr)(ks:List Str):HO:=.ext fun h=>SetL (strKind X.prog X.w) pjS h l (!byT X.w) ks
noncomputable def setI(X:Cx)(l:Addr)(ks:List Int):HO:=.ext fun h=>SetL (intKind X.prog X.w) pjI h l (!byT X.w) ks
theorem ph{K:Type} [DecidableEq K]{knd:PySem.KeyKind X.prog X.w K}{pj:Value->K}{h':Heap}{l:Addr}{ks:List K}(S:SetL knd pj h' l (!byT X.w) ks){H':Hp}:ObjOk X.prog X.w H' h' l (.ext fun h=>SetL knd pj h l (!byT X.w) ks):=by
 obtain⟨o,es,ep,t,ho,r⟩:=id S;exact⟨S,⟨o,ho⟩,fun h1 h2 a b=>a.kept b⟩
noncomputable def rSet(X:Cx):List V->Hp->VK->Prop:=fun xs H Q=>
 (∃(c:Addr) (ss:List Str),xs=[.ref c]/\SqL X.K H c (ss.map V.str)/\ss.length<4000/\∀(l:Addr) (ks:List Str),ks.Nodup->(∀k,k∈ks↔k∈ss)->H l=none->Q (.ref l) (upd H l (setS X l ks))) \/
 (∃(c:Addr) (ss:List Int),xs=[.ref c]/\SqL X.K H c (ss.map V.int)/\ss.length<4000/\∀(l:Addr) (ks:List Int),ks.Nodup->(∀k,k∈ks↔k∈ss)->H l=none->Q (.ref l) (upd H l (setI X l ks)))
theorem oH:∀{xs:List V} {us:List Value} {i:Nat} {u:Value},Vals xs us->us[i]?=some u->∃x,xs[i]?=some x/\RelV x u
 | _,_,i,u,.nil,h=>by simp at h
 | _,_,0,u,.cons r t,h=>by simp at h;subst h;exact⟨_,rfl,r⟩
 | _,_,i+1,u,.cons r t,h=>by simpa using oH t (by simpa using h)
theorem ql{K:Type} [DecidableEq K] [Inhabited K](ss:List K)(k:K):k∈ded (fun i=>ss.getD i default) ss.length↔k∈ss:=by
 rw[uH]
 constructor
 ·rintro⟨j,h1,h2⟩
  rw[List.getD_eq_getElem?_getD,List.getElem?_eq_getElem h1]at h2;exact h2▸List.getElem_mem h1
 ·intro h
  obtain⟨j,h1,h2⟩:=List.getElem_of_mem h;exact⟨j,h1,by rw[List.getD_eq_getElem?_getD,List.getElem?_eq_getElem h1];exact h2⟩
theorem yI(hc:X.calm=true):CallR X (.type "set") (rSet X):=by
 intro pins s σ H xs us Q I r h;have h4:scanBound=4096:=rfl;rcases h with⟨c,ss,rfl,hq,hn,q⟩ | ⟨c,ss,rfl,hq,hn,q⟩
 ·obtain⟨u,rfl,rx⟩:=vals1 r
  cases rx;obtain⟨its,rv,pl,hz⟩:=I.list hq
  have hlen:its.length=ss.length:=by have:=rv.length;rw[List.length_map]at this;omega
  refine set_list (knd:=strKind X.prog X.w) (pj:=pjS) Ai (fun i=>ss.getD i default) (I.ok.hd hc) pl.isList (fun i v hv=>?_) (by rw[List.size_toArray,hlen,h4];omega) fun h' tk htk S hk=>?_
  ·rw[List.getElem?_toArray]at hv
   obtain⟨x,h1,h2⟩:=oH rv hv;rw[List.getElem?_map]at h1;obtain⟨y,h3,rfl⟩:=Option.map_eq_some_iff.mp h1;obtain⟨t,rfl⟩:=h2;rw[List.getD_eq_getElem?_getD,h3];exact⟨strKind_is _ _ _ _,rfl⟩
  ·rw[show its.toArray.size=ss.length by rw[List.size_toArray];exact hlen]at S
   exact⟨.ref s.heap.objs.size,_,I.laid (a:=s.heap.objs.size) (o:=setS X s.heap.objs.size _) (t':=tk) hk (Nat.le_refl _) (ph S),rfl,q _ _ (u9 _ _) (ql ss) I.fresh⟩
 ·obtain⟨u,rfl,rx⟩:=vals1 r
  cases rx;obtain⟨its,rv,pl,hz⟩:=I.list hq
  have hlen:its.length=ss.length:=by have:=rv.length;rw[List.length_map]at this;omega
  refine set_list (knd:=intKind X.prog X.w) (pj:=pjI) Ah (fun i=>ss.getD i default) (I.ok.hd hc) pl.isList (fun i v hv=>?_) (by rw[List.size_toArray,hlen,h4];omega) fun h' tk htk S hk=>?_
  ·rw[List.getElem?_toArray]at hv
   obtain⟨x,h1,h2⟩:=oH rv hv;rw[List.getElem?_map]at h1;obtain⟨y,h3,rfl⟩:=Option.map_eq_some_iff.mp h1;obtain⟨t,rfl⟩:=h2;rw[List.getD_eq_getElem?_getD,h3];exact⟨intKind_is _ _ _ _,rfl⟩
  ·rw[show its.toArray.size=ss.length by rw[List.size_toArray];exact hlen]at S
   exact⟨.ref s.heap.objs.size,_,I.laid (a:=s.heap.objs.size) (o:=setI X s.heap.objs.size _) (t':=tk) hk (Nat.le_refl _) (ph S),rfl,q _ _ (u9 _ _) (ql ss) I.fresh⟩
theorem rQ:∀{vs:List Value},(∀v∈vs,(strKind X.prog X.w).is (pjS v) v=true)->StrsAre vs (vs.map pjS)
 | [],_=>.nil
 | v::vs,h=>by
   obtain⟨t,e⟩:=Value.isStrOf_shape (h v List.mem_cons_self)
   have ih:=rQ fun u hu=>h u (List.mem_cons_of_mem _ hu)
   rw[List.map_cons];generalize pjS v=k at e ⊢;subst e;exact .cons k t ih
theorem ints_of:∀{vs:List Value},(∀v∈vs,(intKind X.prog X.w).is (pjI v) v=true)->IntsAre vs (vs.map pjI)
 | [],_=>.nil
 | v::vs,h=>by
   obtain⟨t,e⟩:=Value.isInt_shape (h v List.mem_cons_self)
   have ih:=ints_of fun u hu=>h u (List.mem_cons_of_mem _ hu)
   rw[List.map_cons];generalize pjI v=k at e ⊢;subst e;exact .cons k t ih
theorem dF:∀{ss:List Int} {its:List Value},IntsAre its ss->Vals (ss.map V.int) its
 | _,_,.nil=>.nil
 | _,_,.cons x tk t=>by rw[List.map_cons];exact .cons ⟨tk,rfl⟩ (dF t)
noncomputable def uK(X:Cx):List V->Hp->VK->Prop:=fun xs H Q=>
 (∃(c:Addr) (ks:List Str),xs=[.ref c]/\H c=some (setS X c ks)/\ks.length<64/\∀(l:Addr) (ss:List Str),ss.Perm ks->PyProof.Rows.sortedS ss=true->H l=none->Q (.ref l) (upd H l (.lst (ss.map V.str)))) \/
 (∃(c:Addr) (ks:List Int),xs=[.ref c]/\H c=some (setI X c ks)/\ks.length<64/\∀(l:Addr) (ss:List Int),ss.Perm ks->ss.Pairwise (·<=·)->H l=none->Q (.ref l) (upd H l (.lst (ss.map V.int))))
theorem j6(hc:X.calm=true):CallR X (.builtin "sorted") (uK X):=by
 intro pins s σ H xs us Q I r h;rcases h with⟨c,ks,rfl,hH,h64,q⟩ | ⟨c,ks,rfl,hH,h64,q⟩
 ·obtain⟨u,rfl,rx⟩:=vals1 r
  cases rx;have S:=(I.hok c _ hH).1
  refine L2.sorted_by PyProof.Rows.strKind_oneLt fun E'=>?_
  refine iT (A:=X.A.in1) Ai (I.ok.hd hc) S fun h' d' tk vs htk hk hp hv=>?_
  have hS:=rQ hv
  have hl:vs.length=ks.length:=by have:=hp.length_eq;simpa using this
  have I1:Inv X pins σ H { s with heap:=h',drawn:=d',toks:=tk }:=lH (I.kept (t':=tk) hk) d';refine⟨hS.keysOf,fun v₁ v₂ rest e=>keyKind_strs (by rw[<-e];exact hS),by omega,fun h2 st hk2 hp2 hs2 ho2=>?_⟩;obtain⟨ss,a1,a2,a3⟩:=sorted_out_str hS hp2 hs2;obtain⟨e,ho2⟩:=ho2;have hl2:=a2.length_eq;rw[List.length_map]at hl2;refine⟨.ref h'.objs.size,_,I1.laid (a:=h'.objs.size) (o:=.lst (ss.map V.str)) (t':=tk) hk2 (Nat.le_refl _) ?_,rfl,q _ ss (a2.trans hp) a3 I1.fresh⟩;refine⟨by rw[List.length_map,sizeLine_eq];omega,((arrOf st).map (·.2)).toList,e,iB a1,?_⟩;rw[ho2]
 ·obtain⟨u,rfl,rx⟩:=vals1 r
  cases rx;have S:=(I.hok c _ hH).1;refine Calls.call_function_entry kind_sorted plain_sorted entry_sorted (args_sorted1 _) ?_;unfold Builtin.«sorted»;refine wpAny_bind (m:=checkCount "sorted" 1 1 _) (wpAny_pure (wpAny_bind ?_))
  refine iT (A:=X.A.in1) Ah (I.ok.hd hc) S fun h' d' tk vs htk hk hp hv=>?_
  have hS:=ints_of hv
  have hl:vs.length=ks.length:=by have:=hp.length_eq;simpa using this
  have I1:Inv X pins σ H { s with heap:=h',drawn:=d',toks:=tk }:=lH (I.kept (t':=tk) hk) d';refine wpAny_bind (wpAny_newList ?_ (by rw[sizeLine_eq];omega));have hoL:(h'.push (seqObj "list" vs.toArray 0)).get? h'.objs.size=some (seqObj "list" vs.toArray 0):=Heap.get?_push_size _ rfl;refine wpAny_bind (wpAny_holding (wpAny_call_entry slot_list_sort ⟨_,hoL,rfl⟩ entry_list_sort (list_sort_tree hoL hS (by omega) fun out ns a1 a2 a3=>⟨_,rfl,?_⟩) (args_list_sort _)));have hl2:=a2.length_eq;rw[List.length_map]at hl2;obtain⟨e,ho2⟩:=sortedHeap_at (vs:=vs) (out:=out) hoL;refine wpAny_pure ⟨_,rfl,.ref h'.objs.size,_,I1.laid (a:=h'.objs.size) (o:=.lst (ns.map V.int)) (t':=tk) (fun b o e'=>?_) (Nat.le_refl _) ⟨by rw[List.length_map,sizeLine_eq];omega,out.toList,e,dF a1,?_⟩,rfl,q _ ns (a2.trans hp) a3 I1.fresh⟩
  ·have hlt:=Heap.lt_size e'
   rw[sortedHeap_old (Nat.ne_of_lt hlt) (by rw[size_push'];exact Nat.lt_succ_of_lt hlt)];exact Heap.get?_push_of_some _ e'
  ·exact ho2
end
end Z
namespace Z
open PySem PySem.Spec PyProof.Rows L2
theorem cT{α:Type} [DecidableEq α](k:α):∀l:List α,k∈bD l↔k∈l
 | []=>by simp[bD]
 | x::l=>by
   have ih:=cT k l;rw[bD];split
   ·rename_i h
    rw[ih,List.mem_cons];exact⟨.inr,fun z=>z.elim (fun e=>e▸h) id⟩
   ·rw[List.mem_cons,List.mem_cons,ih]
theorem jA{α:Type} [DecidableEq α]:∀l:List α,(bD l).Nodup
 | []=>List.nodup_nil
 | x::l=>by
   have ih:=jA l;rw[bD];split
   ·exact ih
   ·rename_i h
    exact List.nodup_cons.mpr ⟨fun z=>h ((cT x l).mp z),ih⟩
theorem insI_perm(x:Int):∀l,(insI x l).Perm (x::l)
 | []=>.refl _
 | y::l=>by
   simp only[insI];split
   ·exact .refl _
   ·exact((insI_perm x l).cons y).trans (.swap x y l)
theorem sortI_perm:∀l,(sortI l).Perm l
 | []=>.refl _
 | x::l=>(insI_perm x (sortI l)).trans ((sortI_perm l).cons x)
theorem uU(x:Int):∀{l:List Int},l.Pairwise (·<=·)->(insI x l).Pairwise (·<=·)
 | [],_=>by simp[insI]
 | y::l,h=>by
   obtain⟨h1,h2⟩:=List.pairwise_cons.mp h;simp only[insI];split
   ·refine List.pairwise_cons.mpr ⟨fun z hz=>?_,h⟩
    rcases List.mem_cons.mp hz with e | hz
    ·omega
    ·have:=h1 z hz;omega
   ·refine List.pairwise_cons.mpr ⟨fun z hz=>?_,uU x h2⟩
    rcases List.mem_cons.mp ((insI_perm x l).mem_iff.mp hz)with e | hz
    ·omega
    ·exact h1 z hz
theorem qu:∀l,(sortI l).Pairwise (·<=·)
 | []=>.nil
 | x::l=>uU x (qu l)
theorem mj{x ns:List Int}(hp:ns.Perm x)(hs:ns.Pairwise (·<=·)):ns=sortI x :=
 List.Perm.eq_of_pairwise (fun a b _ _ h1 h2=>Int.le_antisymm h1 h2) hs (qu x) (hp.trans (sortI_perm x).symm)
section
variable{X:Cx}{W:Wd}
theorem vf{P:Addr->Prop}{lk:Bool}{H H1 H':Hp}{d:D}{v:V}(hs:Same H H1)(h:Res W P lk H1 H' true d v):Res W P lk H H' true d v:=by
 unfold Res at h ⊢;rw[if_pos rfl]at h ⊢;obtain⟨a,h1,h2,h3⟩:=h;refine⟨a,h1,?_,h3⟩
 cases e:H a with
 | none=>rfl
 | some o=>rw[hs a o e]at h2;cases h2
theorem Ak{G:Hp}:∀{l:List D} {x:List Int} {vs:List V},intsOf l=some x->Reps W G l vs->vs=x.map V.int
 | [],x,vs,h,r=>by
   simp only[intsOf,Option.some.injEq]at h;subst h
   cases vs with
   | nil=>rfl
   | cons _ _=>simp only[Reps]at r
 | d::l,x,[],h,r=>by simp only[Reps]at r
 | d::l,x,v::vs,h,r=>by
   cases d with
   | int y=>
     simp only[intsOf]at h
     cases e:intsOf l with
     | none=>rw[e]at h;cases h
     | some x'=>
       rw[e]at h;cases h;simp only[Reps,Rep]at r;rw[r.1,Ak e r.2]
       rfl
   | _=>simp[intsOf]at h
theorem HJ:∀{l:List D} {x:List Int},intsOf l=some x->l.length=x.length
 | [],x,h=>by cases h;rfl
 | d::l,x,h=>by
   cases d with
   | int y=>
     simp only[intsOf]at h;obtain⟨x',e,rfl⟩:=Option.map_eq_some_iff.mp h;rw[List.length_cons,List.length_cons,HJ e]
   | _=>simp[intsOf]at h
theorem zW{G:Hp}:∀x:List Int,Reps W G (x.map D.int) (x.map V.int)
 | []=>by simp only[List.map_nil,Reps]
 | y::x=>by
   simp only[List.map_cons,Reps,Rep];exact⟨trivial,zW x⟩
theorem Bm{x:List (List Nat)}(h:x.Nodup):(x.map strV).Nodup:=by
 rw[List.Nodup,List.pairwise_map]
 exact h.imp fun{a b} hab e=>hab (dI e)
theorem xO(hk:W.K=X.K):Sem1 W (fun xs H Q=>rSet X xs H fun v H1=>uK X [v] H1 Q) (b1D .sortedSet):=by
 intro lk P H x dx Q w d hS hK hx e k
 cases dx<;>first | exact nope e | exact cV e | simp only[b1D]at e
 rename_i l;obtain⟨c,vs,rfl,q1,q2⟩:=hx;unfold ssD at e
 have keep:∀{l1 l2:Addr} {u1 u2:HO},H l1=none->upd H l1 u1 l2=none->Same H (upd (upd H l1 u1) l2 u2)/\(∀a,P a->∃o,upd H l1 u1 a=some o)/\Same H (upd H l1 u1):=fun{l1 l2 u1 u2} h1 h2=>⟨(Same.upd h1).trans (Same.upd h2),fun a ha=>by
  obtain⟨o,e⟩:=hK a ha
  exact⟨o,Same.upd h1 a o e⟩,Same.upd h1⟩
 cases e1:strsOf l with
 | some xs=>
   rw[e1]at e;dsimp only at e;split at e
   ·rename_i hn
    cases e;have hall:=jw e1 q2;have ev:=iG e1 q2;have hl:l.length=xs.length:=pN e1;subst ev;refine .inl ⟨c,xs.map strV,rfl,by rw[List.map_map];exact hk▸q1,by rw[List.length_map];omega,fun l1 ks nd mem h1=>?_⟩
    have hp:ks.Perm ((bD xs).map strV):=(List.perm_ext_iff_of_nodup nd (Bm (jA xs))).mpr fun a=>by
     rw[mem a,List.mem_map,List.mem_map];exact⟨fun⟨b,h,e⟩=>⟨b,(cT b xs).mpr h,e⟩,fun⟨b,h,e⟩=>⟨b,(cT b xs).mp h,e⟩⟩
    refine .inl ⟨l1,ks,rfl,bG,by have:=hp.length_eq;rw[List.length_map]at this;omega,fun l2 ss hp2 hs2 h2=>?_⟩;rw[eV (hp2.trans hp) hs2];obtain⟨k1,k2,k3⟩:=keep (u2:=.lst (((gn (bD xs)).map strV).map V.str)) h1 h2;refine k _ _ k1 (vf k3 (dh h2 (iW fun y hy=>hall y ?_) k2));exact(cT y xs).mp ((sortS_perm _).mem_iff.mp hy)
   ·cases e
 | none=>
   rw[e1]at e;dsimp only at e
   cases e2:intsOf l with
   | none=>rw[e2]at e;cases e
   | some xs=>
     rw[e2]at e;simp only[Option.bind_some]at e;split at e
     ·rename_i hn
      cases e;have ev:=Ak e2 q2;have hl:l.length=xs.length:=HJ e2;subst ev;refine .inr ⟨c,xs,rfl,hk▸q1,by omega,fun l1 ks nd mem h1=>?_⟩
      have hp:ks.Perm (bD xs):=(List.perm_ext_iff_of_nodup nd (jA xs)).mpr fun a=>by rw[mem a,cT]
      refine .inr ⟨l1,ks,rfl,bG,by have:=hp.length_eq;omega,fun l2 ss hp2 hs2 h2=>?_⟩;rw[mj (hp2.trans hp) hs2];obtain⟨k1,k2,k3⟩:=keep (u2:=.lst ((sortI (bD xs)).map V.int)) h1 h2;exact k _ _ k1 (vf k3 (dh h2 (zW _) k2))
     ·cases e
theorem Gr{a:Expr}{p p2 pos pos2:Pos}{lk:Bool}{fa:Dst->R (Bool×D)}(hk:W.K=X.K)(hc:X.calm=true)(hg:Gl X "sorted")(hm:X.mg "sorted"=none)(hg2:Gl X "set")(hm2:X.mg "set"=none)(ha:PE X a (tD X W true fa))(hst:az a=false) :
 PE X (.Call (.Name "sorted" p) [.Call (.Name "set" p2) [a] [] pos2] [] pos) (tD X W lk fun δ=>(fa δ).bind fun x=>b1D .sortedSet x.2) :=
 PE.imp (fu (j6 hc) hg hm PyProof.Rows.boot_sorted (bF (mz (yI hc) hg2 hm2 (by kernel_rfl) (bF ha cR (bU hst)) (by decide +kernel) (by decide +kernel) (bU hst) rfl) cR rfl) (by decide +kernel) (by decide +kernel) rfl rfl) fun σ H Q h=>vU (xO hk) (gM _) h
end
end Z
namespace Z
open PySem PySem.Spec PyProof.Rows L2
section
variable{X:Cx}{W:Wd}{lk lk':Bool}{σ:L2.St}{H H1 H':Hp}{me:Option Addr}{B:Addr->Prop}{δ:Dst}{Q Q':VK}{a b c:Expr}{pos p pos' apos cpos px spos:Pos}{o:Orc}
noncomputable def Itd(a:Addr)(kvs:List (Key×V))(ep:Nat):It:=⟨fun i H=>H a=some (.dK kvs ep)/\i<kvs.length,fun i H x H'=>H'=H/\∃p,kvs[i]?=some p/\x=kV p.1,fun i H=>H a=some (.dK kvs ep)/\kvs.length<=i⟩
theorem Mf{P:Program}{w:World}{k:Key}{u:Value}(h:(bB P w).is k u=true):RelV (kV k) u:=by
 rcases aW (show j7 k u=true from h)with⟨i,t,rfl,rfl⟩ | ⟨x,t,rfl,rfl⟩
 all_goals(exact⟨t,rfl⟩)
theorem uM{P:Program}{w:World}{K:PySem.W.Frag}{tg:Expr}(a it:Addr)(kvs:List (Key×V))(ep:Nat):Turn P w K tg (Itd a kvs ep) [it] it (fun i h=>h.IsKeyIter it a i kvs.length ep)where
 mem:=by simp
 obj:=fun i h st b hb=>by
  have e:b=it:=by simpa using hb
  subst e;obtain⟨o,e,c,d⟩:=st;exact⟨o,e,fun v z=>by rw[d]at z;cases z⟩
 keep:=fun i h h' st k=>st.at fun o e=>k it (by simp) o e
 item:=by
  intro X hP hw hK hc i pins s σ H E I hf st hg;subst hP hw hK;obtain⟨hq,hi⟩:=hg
  obtain⟨_,lo,vs,rel,dd⟩:=(show ObjOk X.prog X.w H s.heap a (.dK kvs ep)from I.hok a _ hq)
  obtain⟨f0,f1,f2,f3,f4,f5⟩:=hf it (by simp);have hl:kvs.length=vs.length:=rel.length
  have hx:vs[i]?=some (vs[i]'(by omega)):=by simp
  have hkeys:=rel.keys;rw[hl]at st ⊢
  refine wpAny_pyNext_dict_item st dd (k:=(vs[i]'(by omega)).1) (v:=(vs[i]'(by omega)).2) hx fun key h' hkey st' sb=>?_
  have I1:Inv X pins σ H { s with heap:=h' }:=I.turned (t':=s.toks) (fun b o hb e=>(sb.2 b hb).trans e) f0 f1 f3 f4 f5;obtain⟨o,e,c,d⟩:=id st'
  have ek:(kvs[i]).1=(vs[i]'(by omega)).1:=by
   have:=congrArg (fun l=>l[i]?) hkeys;simpa[hi,show i<vs.length by omega]using this
  exact⟨key,rfl,uh (s:={ s with heap:=h' }) e c d (by decide) ⟨kV (kvs[i]).1,H,I1,by rw[ek];exact Mf hkey,⟨rfl,kvs[i],by simp,rfl⟩,st',fun b hb=>(hf b hb).1⟩⟩
 done:=by
  intro X hP hw hK hc i pins s σ H E I hf st hg;subst hP hw hK;obtain⟨hq,hi⟩:=hg
  obtain⟨_,lo,vs,rel,dd⟩:=(show ObjOk X.prog X.w H s.heap a (.dK kvs ep)from I.hok a _ hq)
  obtain⟨f0,f1,f2,f3,f4,f5⟩:=hf it (by simp);have hl:kvs.length=vs.length:=rel.length;rw[hl]at st
  exact wpAny_pyNext_dict_end (I.ok.hd hc) st dd (by simp;omega) fun h' eb=>⟨rfl,I.turned (t':=s.toks) (fun b o hb e=>eb b o hb e) f0 f1 f3 f4 f5⟩
 self:=fun _ _ _ _ _ st h=>wpAny_pyIter_keyiter st h
noncomputable def iDct(tl:TE):L2.TI:=fun σ H R=>tl σ H fun x H1=>∃a kvs ep,x=.ref a/\H1 a=some (.dK kvs ep)/\R (Itd a kvs ep) H1
theorem Bj{tg l:Expr}{tl:TE}(hl:PE X l tl):PI X tg l (iDct tl):=by
 intro pins s σ H R I h
 refine thn (hl pins s σ H _ I h) fun v s1 ⟨x,H1,I1,r1,q1⟩=>?_
 obtain⟨a,kvs,ep,e,hq,q⟩:=q1;subst e;cases r1
 obtain⟨_,lo,vs,rel,dd⟩:=(show ObjOk X.prog X.w H1 s1.heap a (.dK kvs ep)from I1.hok a _ hq)
 have hlen:kvs.length=vs.length:=rel.length;refine wpAny_pyIter_dict lo dd ?_;refine⟨s1.heap.objs.size,[s1.heap.objs.size],_,_,H1,rfl,I1.kept (t':=s1.toks) fun b o e=>Heap.get?_push_of_some _ e,uM a _ kvs ep,⟨_,Heap.get?_push_size _ rfl,rfl,by rw[hlen];rfl⟩,fun b hb=>?_,q⟩
 have e:b=s1.heap.objs.size:=by simpa using hb
 subst e;exact I1.fpOk (Nat.le_refl _) (I1.hok.fresh (Nat.le_refl _))
theorem ou{H2:Hp}{a:Addr}{kvs:List (Key×V)}{ep:Nat}(h:H2 a=some (.dK kvs ep)):Yields (Itd a kvs ep) H2 (kvs.map fun p=>kV p.1)where
 go:=fun i H' s hi=>⟨s _ _ h,by simpa using hi⟩
 yld:=fun i H' x H'' s _ ⟨e,p,e1,e2⟩=>⟨e,by rw[List.getElem?_map,e1,e2];rfl⟩
 stop:=fun H' s=>⟨s _ _ h,by simp⟩
theorem iZ{G:Hp}:∀{ks:List DK} {kvs:List (Key×V)},kvs.map (·.1)=ks.map keyV->(∀x,DK.s x∈ks->x.length<=16777216)->Reps W G (ks.map keyD) (kvs.map fun p=>kV p.1)
 | [],[],_,_=>by simp only[List.map_nil,Reps]
 | [],_::_,e,_=>by simp at e
 | _::_,[],e,_=>by simp at e
 | k::ks,p::kvs,e,h=>by
   simp only[List.map_cons,List.cons.injEq]at e;simp only[List.map_cons,Reps];refine⟨?_,iZ e.2 fun x hx=>h x (List.mem_cons_of_mem _ hx)⟩;rw[e.1]
   cases k with
   | i n=>simp only[keyD,keyV,kV,Rep]
   | s x=>simp only[keyD,keyV,kV,Rep];exact⟨trivial,h x List.mem_cons_self⟩
noncomputable def Itx(x:Str):It:=⟨fun i _=>i<x.cps.size,fun i H v H'=>H'=H/\∃c,x.cps[i]?=some c/\v=.str ⟨#[c]⟩,fun i _=>x.cps.size<=i⟩
theorem wY{P:Program}{w:World}{A:Around}{E:Value->Shared->Prop}{s:Shared}{it:Addr}{x:Str}{t:Tok}{i c:Nat}{Q:Option Value->Shared->Prop}(hit:s.heap.IsStrIter it (strIterType x) x t i)(hx:x.cps[i]?=some c)
 (hQ:∀h',h'.IsStrIter it (strIterType x) x t (i+1)->Heap.SameBut it s.heap h'->Q (some (.str ⟨#[c]⟩ s.toks)) { s with heap:=h',toks:=s.toks+1 }):wpAny (model P w) A (pyNext (.ref it)) Q E s:=by
 unfold strIterType at hit hQ;split at hit
 ·exact wpAny_pyNext_ascii_item hit hx (by simpa only[*,if_true]using hQ)
 ·exact wpAny_pyNext_wide_item hit hx (by simpa only[*,if_false,Bool.false_eq_true]using hQ)
theorem end_str{P:Program}{w:World}{A:Around}{E:Value->Shared->Prop}{s:Shared}{it:Addr}{x:Str}{t:Tok}{i:Nat}{Q:Option Value->Shared->Prop}(hh:A.handled=none)(hit:s.heap.IsStrIter it (strIterType x) x t i)(hx:x.cps[i]?=none)
 (hQ:∀h',Heap.ExtBut it s.heap h'->Q none { s with heap:=h' }):wpAny (model P w) A (pyNext (.ref it)) Q E s:=by
 unfold strIterType at hit;split at hit
 ·exact wpAny_pyNext_ascii_end hh hit hx hQ
 ·exact wpAny_pyNext_wide_end hh hit hx hQ
theorem wI{P:Program}{w:World}{K:PySem.W.Frag}{tg:Expr}(it:Addr)(x:Str)(t:Tok):Turn P w K tg (Itx x) [it] it (fun i h=>h.IsStrIter it (strIterType x) x t i)where
 mem:=by simp
 obj:=fun i h st b hb=>by
  have e:b=it:=by simpa using hb
  subst e;obtain⟨o,e,c,d⟩:=st;exact⟨o,e,fun v z=>by rw[d]at z;cases z⟩
 keep:=fun i h h' st k=>by
  obtain⟨o,e,r⟩:=st;exact⟨o,k it (by simp) o e,r⟩
 item:=by
  intro X hP hw hK hc i pins s σ H E I hf st hg;subst hP hw hK;have hg:i<x.cps.size:=hg;obtain⟨f0,f1,f2,f3,f4,f5⟩:=hf it (by simp)
  have hx:x.cps[i]?=some x.cps[i]:=by simp[hg]
  refine wY st hx fun h' st' sb=>?_
  have I1:Inv X pins σ H { s with heap:=h',toks:=s.toks+1 }:=I.turned (t':=s.toks+1) (fun b o hb e=>(sb.2 b hb).trans e) f0 f1 f3 f4 f5;obtain⟨o,e,c,d⟩:=id st'
  have hn:["enumerate","zip","dict_itemiterator","dict_reverseitemiterator","odict_iterator","itertools.zip_longest","itertools.pairwise"].contains (strIterType x)=false:=by unfold strIterType;split<;>decide
  exact⟨_,rfl,uh (s:={ s with heap:=h',toks:=s.toks+1 }) e c d hn ⟨.str ⟨#[x.cps[i]]⟩,H,I1,⟨_,rfl⟩,⟨rfl,_,hx,rfl⟩,st',fun b hb=>(hf b hb).1⟩⟩
 done:=by
  intro X hP hw hK hc i pins s σ H E I hf st hg;subst hP hw hK;have hg:x.cps.size<=i:=hg;obtain⟨f0,f1,f2,f3,f4,f5⟩:=hf it (by simp)
  exact end_str (I.ok.hd hc) st (by simp;omega) fun h' eb=>⟨rfl,I.turned (t':=s.toks) (fun b o hb e=>eb b o hb e) f0 f1 f3 f4 f5⟩
 self:=fun _ _ _ _ _ st h=>by
  unfold strIterType at st;split at st
  ·exact wpAny_pyIter_striter_ascii st h
  ·exact wpAny_pyIter_striter_wide st h
noncomputable def iStr(tl:TE):L2.TI:=fun σ H R=>tl σ H fun x H1=>∃y,x=.str y/\R (Itx y) H1
theorem G5{tg l:Expr}{tl:TE}(hl:PE X l tl):PI X tg l (iStr tl):=by
 intro pins s σ H R I h
 refine thn (hl pins s σ H _ I h) fun v s1 ⟨x,H1,I1,r1,q1⟩=>?_
 obtain⟨y,e,q⟩:=q1;subst e;obtain⟨t,rfl⟩:=r1;refine wpAny_pyIter_strU ?_;refine⟨s1.heap.objs.size,[s1.heap.objs.size],_,_,H1,rfl,I1.kept (t':=s1.toks) fun b o e=>Heap.get?_push_of_some _ e,wI _ y t,⟨_,Heap.get?_push_size _ rfl,rfl,rfl⟩,fun b hb=>?_,q⟩
 have e:b=s1.heap.objs.size:=by simpa using hb
 subst e;exact I1.fpOk (Nat.le_refl _) (I1.hok.fresh (Nat.le_refl _))
theorem qL{H2:Hp}(x:List Nat):Yields (Itx (strV x)) H2 (x.map fun c=>.str (strV [c]))where
 go:=fun i H' s hi=>by
  show i<(strV x).cps.size;simpa[strV]using hi
 yld:=fun i H' v H'' s _ ⟨e,c,e1,e2⟩=>⟨e,by
  have e3:x[i]?=some c:=by simpa[strV]using e1
  rw[List.getElem?_map,e3,e2];rfl⟩
 stop:=fun H' s=>by
  show(strV x).cps.size<=_;simp[strV]
theorem jf{G:Hp}:∀(x:List Nat),Reps W G (x.map fun c=>D.str [c]) (x.map fun c=>.str (strV [c]))
 | []=>by simp only[List.map_nil,Reps]
 | c::x=>by
   simp only[List.map_cons,Reps];refine⟨?_,jf x⟩;simp only[Rep];exact⟨trivial,by simp⟩
noncomputable def Du(X:Cx)(W:Wd)(o:Orc)(it:TI)(wi:L2.TI):Prop:=∀σ H (K:It->Hp->Prop),(∃me B δ l,SR X W me B H σ δ/\evI o δ true it=.ok l/\∀J H2,Same H H2->Ylds W J H2 (vis H2 (Hid B σ δ)) l->K J H2)->wi σ H K
section
variable{scope:Scope}{N:List Str}{elt tg iter:Expr}{ifs:List Expr}{m:Nat}{caps:List Nat}{tup:Bool}{g:TG}{it:TI}{tc te:T}
structure CompIn(X:Cx)(W:Wd)(o:Orc)(scope:Scope)(N:List Str)(elt tg iter:Expr)(ifs:List Expr)(m:Nat)(caps:List Nat)(tup:Bool)(g:TG)(it:TI)(tc te:T):Prop where
 hk:W.K=X.K
 hx:X.xe=fV
 hc:X.calm=true
 B:Blk scope
 C:Caps X scope N m caps
 hm:tup=false->m=1
 hi:∃wi,PI X tg iter wi/\Du X W o it wi
 hg:∀fp pins s H,PG (cxC X scope N fp pins s H) tg g
 hr:∀H0,TgR { X with H₀:=H0 } W (List.range m) tup g
 ht:∀fp pins s H,PIf (cxC X scope N fp pins s H) ifs (tT (cxC X scope N fp pins s H) W fun δ=>ev o δ true tc)
 he:∀fp pins s H,PE (cxC X scope N fp pins s H) elt (tD (cxC X scope N fp pins s H) W false fun δ=>ev o δ false te)
 hs:∀x,foldedSetIterable iter X.env x=pure x
theorem PIf.imp{t t':TT}{ifs:List Expr}(h:PIf X ifs t)(i:∀σ H Q,t' σ H Q->t σ H Q):PIf X ifs t':=fun pins s σ H Q I hw=>h pins s σ H Q I (i σ H Q hw)
theorem Af(A:CompIn X W o scope N elt tg iter ifs m caps tup g it tc te):PE X (.ListComp elt [⟨tg,iter,ifs,0⟩] scope pos) (tD X W lk fun δ=>ev o δ lk (.comp caps m tup it tc te)):=by
 obtain⟨wi,h1,h2⟩:=A.hi
 refine PE.imp (Cv (tc:=fun H0=>tT { X with H₀:=H0 } W fun δ=>ev o δ true tc) (te:=fun H0=>tD { X with H₀:=H0 } W false fun δ=>ev o δ false te) A.hx A.hc A.B A.C h1 A.hg (fun fp pins s H=>PIf.imp (A.ht fp pins s H) fun σ H' Q h=>tT.cx (X:={ X with H₀:=H }) rfl rfl h) (fun fp pins s H=>PE.imp (A.he fp pins s H) fun σ H' Q h=>tD.cx (X:={ X with H₀:=H }) rfl rfl h) A.hs) fun σ H Q h=>?_
 exact lL A.hk A.hm h2 A.hr h
theorem Hz{i:Nat}{x:Str}{bsw:Bool}(A:CompIn X W o scope N elt tg iter ifs m caps tup g it tc te)(hN:X.N.Nodup)(hi:X.N[i]?=some x)(hx:Loc X.env.scope x)(hf:X.fn x=true\/X.env.scope.names.lookup x=some .local)
 (hb:bsw=true->X.env.scope.names.lookup x=some .local) (hsw:swapsWith (.ListComp elt [⟨tg,iter,ifs,0⟩] scope pos) (some (.Name x px)) spos.line X.env=pure bsw) :
 PS X (.Assign [.Name x px] (.ListComp elt [⟨tg,iter,ifs,0⟩] scope pos) spos) (tS X W (evS o (.set i (.comp caps m tup it tc te)))):=by
 cases bsw with
 | false=>exact Gz hN hi hx (Af A) hsw hf
 | true=>
   obtain⟨wi,h1,h2⟩:=A.hi
   refine PS.imp (qP (tc:=fun H0=>tT { X with H₀:=H0 } W fun δ=>ev o δ true tc) (te:=fun H0=>tD { X with H₀:=H0 } W false fun δ=>ev o δ false te) A.hx A.hc A.B A.C h1 A.hg (fun fp pins s H=>PIf.imp (A.ht fp pins s H) fun σ H' Q h=>tT.cx (X:={ X with H₀:=H }) rfl rfl h) (fun fp pins s H=>PE.imp (A.he fp pins s H) fun σ H' Q h=>tD.cx (X:={ X with H₀:=H }) rfl rfl h) A.hs hN hi (hb rfl) hsw) fun D σ H ⟨me,B,δ,S,h⟩=>?_
   refine lL (lk:=false) A.hk A.hm h2 A.hr ?_;simp only[evS]at h;obtain⟨S1,e1⟩:=S.evF o (.comp caps m tup it tc te);obtain⟨r,e2,h⟩:=SO.of_ok h;obtain⟨q,e3,h⟩:=dM h
   cases e4:setSlot (evF o δ (.comp caps m tup it tc te)).1 i r.1 r.2 with
   | none=>rw[e4]at e3;cases e3
   | some δ'=>
     rw[e4]at e3;cases e3;obtain⟨h1,rfl⟩:=gh e4;refine tD_iff.mpr ⟨me,B,_,S1,?_⟩;rw[<-e1,e2];intro v H' s q;obtain⟨S2,s2⟩:=S1.store s q h1;exact h _ _ S2 ((aQ (gU o (.comp caps m tup it tc te))).trans s2)
end
end
end Z
namespace Z
open PySem PySem.Spec PyProof.Rows L2
section
variable{X:Cx}{pins:List (Addr×Obj)}{σ:L2.St}{H:Hp}{s:Shared}{h':Heap}{fp:List Addr}
theorem rK{t':Nat}(I:Inv X pins σ H s)(hf:∀b∈fp,FpOk X pins H b)(k:∀b o,b∉fp->s.heap.get? b=some o->h'.get? b=some o):Inv X pins σ H { s with heap:=h',toks:=t' }:=by
 have nit:∀b u,H b=some u->b∉fp:=fun b u e z=>by have:=(hf b z).1;rw[this]at e;cases e
 refine I.step (g':=s.gens) (d':=s.drawn) (ch:=fp) (fun b hb=>?_) (fun b o _ _ hc e _=>k b o hc e) (fun b o _ _ hc e _=>⟨o.slots,k b o hc e⟩) (fun _ _ _ _ n=>n) (fun b o hc e=>⟨o,k b o hc e⟩) (fun _ _ e=>e) (fun _ _ _ e=>e) (fun b ps e=>⟨#[],by rw[e];simp⟩) (fun m hm=>?_) (fun b u e=>?_) I.bare
 ·obtain⟨_,f1,_,f3,f4,f5⟩:=hf b hb
  exact⟨f3,f1,f4,f5⟩
 ·obtain⟨o,es,ep,ho,r⟩:=hm
  exact⟨o,es,ep,k _ o (fun z=>(hf _ z).2.1 rfl) ho,r⟩
 ·refine(I.hok b u e).stay (fun c v hc q=>k c v ?_ q) (fun _ q=>q) fun _ _ q=>q
  rcases hc with z | z
  ·rw[z];exact nit b u e
  ·exact nit c _ z
theorem mV{t':Nat}{a:Addr}{ob:HO}(I:Inv X pins σ H s)(hf:∀b∈fp,FpOk X pins H b)(k:∀b o,b∉fp->s.heap.get? b=some o->h'.get? b=some o)(hp:s.heap.objs.size<=a)(new:ObjOk X.prog X.w (upd H a ob) h' a ob):Inv X pins σ (upd H a ob) { s with heap:=h',toks:=t' }:=by
 have nit:∀b u,H b=some u->b∉fp:=fun b u e z=>by have:=(hf b z).1;rw[this]at e;cases e
 have hn:H a=none:=I.hok.fresh hp
 have up:∀{b:Addr} {u:HO},H b=some u->upd H a ob b=some u:=fun{b u} e=>by rw[aV (bH e hn)];exact e
 refine I.step (g':=s.gens) (d':=s.drawn) (ch:=fp) (fun b hb=>?_) (fun b o _ _ hc e _=>k b o hc e) (fun b o _ _ hc e _=>⟨o.slots,k b o hc e⟩) (fun b o _ e n=>?_) (fun b o hc e=>⟨o,k b o hc e⟩) (fun _ _ e=>up e) (fun _ _ _ e=>up e) (fun b ps e=>⟨#[],by rw[up e];simp⟩) (fun m hm=>?_) (fun b u e=>?_) I.bare
 ·obtain⟨_,f1,_,f3,f4,f5⟩:=hf b hb
  exact⟨f3,f1,f4,f5⟩
 ·have:b≠a:=Nat.ne_of_lt (Nat.lt_of_lt_of_le (Heap.lt_size e) hp)
  rw[aV this];exact n
 ·obtain⟨o,es,ep,ho,r⟩:=hm
  exact⟨o,es,ep,k _ o (fun z=>(hf _ z).2.1 rfl) ho,r⟩
 ·by_cases hb:b=a
  ·subst hb;rw[bG]at e;cases e;exact new
  ·rw[aV hb]at e
   refine(I.hok b u e).stay (fun c v hc q=>k c v ?_ q) (fun _ q=>up q) fun _ _ q=>up q
   rcases hc with z | z
   ·rw[z];exact nit b u e
   ·exact nit c _ z
end
noncomputable def Itp(ok:Hp->Prop)(ps:List (V×V)):It:=⟨fun i H=>ok H/\i<ps.length,fun i H x H'=>∃(p:Addr) (q:V×V),H p=none/\ps[i]?=some q/\x=.ref p/\H'=upd H p (.tup [q.1,q.2]),fun i H=>ok H/\ps.length<=i⟩
theorem Ca{P:Program}{w:World}{H:Hp}{h:Heap}{a:Addr}{x y:V}{u v:Value}(rx:RelV x u)(ry:RelV y v)(e:h.get? a=some { cls:=.type "tuple",data:=.seq #[u,v] }):ObjOk P w H h a (.tup [x,y]) :=
 ⟨by show 2<=sizeLine;rw[sizeLine_eq];omega,[u,v],.cons rx (.cons ry .nil),⟨_,e,rfl,_,rfl⟩⟩
end Z
namespace Z
open PySem PySem.Spec PyProof.Rows L2
noncomputable def Ln(z TI TO i1 i2 l1 l2:Addr)(k:Nat)(h:Heap):Prop:=IsZip h z TI TO .none/\IsPair h TI (.ref i1) (.ref i2)/\(∃a b,IsPair h TO a b)/\h.IsListIter i1 l1 k/\h.IsListIter i2 l2 k
theorem ux{P:Program}{w:World}{K:PySem.W.Frag}{elts:List Expr}{x1:Nat}{pos:Pos}{z TI TO i1 i2 t1 t2:Addr}(D:ZipApart z TI TO i1 i2 t1 t2)(xs ys:List V) :
 Turn P w K (.Tuple elts x1 pos) (Itp (fun H=>SqL K H t1 xs/\SqL K H t2 ys) (xs.zip ys)) [z,TI,TO,i1,i2] z (Ln z TI TO i1 i2 t1 t2)where
 mem:=by simp
 obj:=fun i h st b hb=>by
  obtain⟨hz,hTI,⟨a,c,hTO⟩,⟨o1,e1,_,d1⟩,⟨o2,e2,_,d2⟩⟩:=st;simp only[List.mem_cons,List.not_mem_nil,or_false]at hb;rcases hb with rfl | rfl | rfl | rfl | rfl
  ·exact⟨_,hz,fun v q=>by cases q⟩
  ·exact⟨_,hTI,fun v q=>by cases q⟩
  ·exact⟨_,hTO,fun v q=>by cases q⟩
  ·exact⟨o1,e1,fun v q=>by rw[d1]at q;cases q⟩
  ·exact⟨o2,e2,fun v q=>by rw[d2]at q;cases q⟩
 keep:=fun i h h' st k=>by
  obtain⟨hz,hTI,⟨a,c,hTO⟩,s1,s2⟩:=st;exact⟨k z (by simp) _ hz,k TI (by simp) _ hTI,⟨a,c,k TO (by simp) _ hTO⟩,s1.at fun o e=>k i1 (by simp) o e,s2.at fun o e=>k i2 (by simp) o e⟩
 item:=by
  intro X hP hw hK hc i pins s σ H E I hf st hg;subst hP hw hK;obtain⟨⟨hq1,hq2⟩,hi⟩:=hg;obtain⟨its1,rv1,p1,_⟩:=I.list hq1;obtain⟨its2,rv2,p2,_⟩:=I.list hq2
  have hl:i<xs.length/\i<ys.length:=by rw[List.length_zip]at hi;omega
  obtain⟨u,hu,ru⟩:=rv1.get (List.getElem?_eq_getElem hl.1);obtain⟨v,hv,rv⟩:=rv2.get (List.getElem?_eq_getElem hl.2);obtain⟨hz,hTI,⟨a,c,hTO⟩,l1,l2⟩:=id st
  have old:∀b∈[z,TI,TO,i1,i2],b<s.heap.objs.size:=fun b hb=>by
   obtain⟨o1,e1,_⟩:=id l1;obtain⟨o2,e2,_⟩:=id l2;simp only[List.mem_cons,List.not_mem_nil,or_false]at hb;rcases hb with rfl | rfl | rfl | rfl | rfl
   ·exact Heap.lt_size hz
   ·exact Heap.lt_size hTI
   ·exact Heap.lt_size hTO
   ·exact Heap.lt_size e1
   ·exact Heap.lt_size e2
  refine wpAny_pyNext_zip_item D hz hTI hTO l1 l2 p1.isList p2.isList (x:=u) (y:=v) (by simpa using hu) (by simpa using hv) fun ha a1 a3 a4 a5 a6 _ ak=>?_
  refine⟨_,rfl,wpAny_letOwnedTupleGo_zip a1 fun hb b1 bs=>?_⟩
  replace bs:Heap.SameBut z ha hb:=bs
  have nz:s.heap.objs.size≠z:=Nat.ne_of_gt (old z (by simp));have e2:hb.get? s.heap.objs.size=some { cls:=.type "tuple",data:=.seq #[u,v] }:=(bs.2 _ nz).trans a6;refine⟨.ref s.heap.objs.size,upd H s.heap.objs.size (.tup [xs[i]'hl.1,ys[i]'hl.2]),mV (s:=s) (h':=hb) (t':=s.toks) I hf (fun b o hb' e=>?_) (Nat.le_refl _) (Ca ru rv e2),rfl,⟨_,(xs[i]'hl.1,ys[i]'hl.2),I.hok.fresh (Nat.le_refl _),?_,rfl,rfl⟩,⟨b1,?_,?_,?_,?_⟩,fun b hb'=>?_⟩
  ·simp only[List.mem_cons,List.not_mem_nil,or_false,not_or]at hb'
   exact(bs.2 b hb'.1).trans (ak b o hb'.1 hb'.2.2.1 hb'.2.2.2.1 hb'.2.2.2.2 e)
  ·rw[List.getElem?_eq_getElem hi];simp
  ·exact(bs.2 _ D.TIz).trans (ak _ _ D.TIz D.TITO D.TIi1 D.TIi2 hTI)
  ·exact⟨u,v,(bs.2 _ D.TOz).trans a3⟩
  ·exact a4.at fun o e=>(bs.2 _ D.i1z).trans e
  ·exact a5.at fun o e=>(bs.2 _ D.i2z).trans e
  ·rw[aV (Nat.ne_of_lt (old b hb'))]
   exact(hf b hb').1
 done:=by
  intro X hP hw hK hc i pins s σ H E I hf st hg;subst hP hw hK;obtain⟨⟨hq1,hq2⟩,hi⟩:=hg;obtain⟨its1,rv1,p1,_⟩:=I.list hq1;obtain⟨its2,rv2,p2,_⟩:=I.list hq2;obtain⟨hz,hTI,⟨a,c,hTO⟩,q1,q2⟩:=st;have l1:=rv1.length;have l2:=rv2.length;rw[List.length_zip]at hi
  refine wpAny_pyNext_zip_end (I.ok.hd hc) D hz hTI hTO q1 q2 p1.isList p2.isList ?_ fun h' k=>⟨rfl,rK (t':=s.toks) I hf fun b o hb e=>?_⟩
  ·by_cases q:xs.length<=i
   ·exact .inl (Array.getElem?_eq_none (by simp;omega))
   ·exact .inr (Array.getElem?_eq_none (by simp;omega))
  ·simp only[List.mem_cons,List.not_mem_nil,or_false,not_or]at hb
   exact k b o hb.1 hb.2.2.1 hb.2.2.2.1 hb.2.2.2.2 e
 self:=fun _ _ _ _ _ st h=>wpAny_pyIter_zip st.1 h
section
variable{X:Cx}{elts:List Expr}{x1:Nat}{tpos p cpos:Pos}
noncomputable def Lg(K:PySem.W.Frag)(ta:TA):L2.TI:=fun σ H R=>ta σ H fun vs H1=>∃a b xs ys,vs=[.ref a,.ref b]/\SqL K H1 a xs/\SqL K H1 b ys/\R (Itp (fun H=>SqL K H a xs/\SqL K H b ys) (xs.zip ys)) H1
theorem Ax{a b:Expr}{ta:TA}(hg:Gl X "zip")(hm:X.mg "zip"=none)(ha:PA X [a,b] ta)(hs:starEach [a,b] X.env=[(false,eval a X.env),(false,eval b X.env)])(hs2:starEach [b] X.env=[(false,eval b X.env)]):PI X (.Tuple elts x1 tpos) (.Call (.Name "zip" p) [a,b] [] cpos) (Lg X.K ta):=by
 intro pins s σ H R I h;refine Call_ (jd I hg hm boot_zip (PyProof.Rows.callWith_type1 (thn (ha cpos pins s σ H _ I h) fun us s1 ⟨vs,H1,I1,r1,q1⟩=>?_) (by rw[hs,hs2]) (by rw[hs2];rfl)));obtain⟨a,b,xs,ys,rfl,hq1,hq2,q⟩:=q1
 cases r1 with
 | cons r rr=>
   cases rr with
   | cons r' rr=>
     cases rr;cases r;cases r';obtain⟨its1,rv1,p1,_⟩:=I1.list hq1;obtain⟨its2,rv2,p2,_⟩:=I1.list hq2
     refine call_zip_2 p1.isList p2.isList fun h' st1 st2 st3 st4 st5 _ hk=>?_
     refine wpAny_pyIter_zip st1 ⟨_,[s1.heap.objs.size+4,s1.heap.objs.size+2,s1.heap.objs.size+3,s1.heap.objs.size,s1.heap.objs.size+1],_,_,H1,rfl,I1.kept (t':=s1.toks) hk,ux (zipApart_new (by obtain⟨_,e,_⟩:=p1.isList;exact Heap.lt_size e) (by obtain⟨_,e,_⟩:=p2.isList;exact Heap.lt_size e)) xs ys,⟨st1,st2,⟨_,_,st3⟩,st4,st5⟩,fun c hc=>?_,q⟩
     have:s1.heap.objs.size<=c:=by
      simp only[List.mem_cons,List.not_mem_nil,or_false]at hc;rcases hc with rfl | rfl | rfl | rfl | rfl<;>omega
     exact I1.fpOk this (I1.hok.fresh this)
end
end Z
namespace Z
open PySem PySem.Spec PyProof.Rows L2
section
variable{X:Cx}{W:Wd}{lk:Bool}{σ:L2.St}{H H1 H':Hp}{me:Option Addr}{B:Addr->Prop}{δ:Dst}{o:Orc}{p cpos pos tpos:Pos}{tg:Expr}
noncomputable def top(lk:Bool)(H2:Hp)(P:Addr->Prop):Hp:=if lk=true then H2 else vis H2 P
noncomputable def WalkL(X:Cx)(W:Wd)(o:Orc)(lk:Bool)(it:TI)(wi:L2.TI):Prop:=∀σ H (K:It->Hp->Prop),(∃me B δ l,SR X W me B H σ δ/\evI o δ lk it=.ok l/\∀J H2,Same H H2->Ylds W J (top lk H2 (Hid B σ δ)) (vis H2 (Hid B σ δ)) l->K J H2)->wi σ H K
theorem WalkL.comp{it:TI}{wi:L2.TI}(h:WalkL X W o true it wi):Du X W o it wi:=fun σ H K ⟨me,B,δ,l,S,e,k⟩=>h σ H K ⟨me,B,δ,l,S,e,fun J H2 s y=>k J H2 s (by simpa[top]using y)⟩
theorem top_le{H2:Hp}{P:Addr->Prop}:Same (top lk H2 P) H2:=by
 unfold top;split
 ·exact Same.refl _
 ·exact aO
theorem nj{H':Hp}{P:Addr->Prop}{w:Bool}{l:List D}{v:V}(h:Res W P lk H H' w (.lst l) v)(hp:∀a,P a->∃u,H a=some u):∃a xs,v=.ref a/\SqL W.K (top lk H' P) a xs/\Reps W (vis H' P) l xs:=by
 cases lk with
 | true=>
   obtain⟨a,xs,rfl,q1,q2⟩:=h.look;exact⟨a,xs,rfl,by simpa[top]using q1,q2⟩
 | false=>
   have:=h.keep hp;simp only[Rep]at this;obtain⟨a,xs,rfl,q1,q2⟩:=this;exact⟨a,xs,rfl,by simpa[top]using q1,q2⟩
theorem Bw{H':Hp}{P:Addr->Prop}{w:Bool}{ks:List DK}{vs:List D}{v:V}(h:Res W P lk H H' w (.dct ks vs) v)(hp:∀a,P a->∃u,H a=some u):∃a kvs ep,v=.ref a/\top lk H' P a=some (.dK kvs ep)/\Reps W (vis H' P) (ks.map keyD) (kvs.map fun p=>kV p.1):=by
 cases lk with
 | true=>
   obtain⟨a,kvs,rfl,⟨ep,q1⟩,q2,q3,q4⟩:=h.look;exact⟨a,kvs,ep,rfl,by simpa[top]using q1,iZ q2 q3.2⟩
 | false=>
   have:=h.keep hp;simp only[Rep]at this;obtain⟨a,kvs,rfl,⟨ep,q1⟩,q2,q3,q4⟩:=this;exact⟨a,kvs,ep,rfl,by simpa[top]using q1,iZ q2 q3.2⟩
theorem EY{H':Hp}{P:Addr->Prop}{w:Bool}{l:List D}{v:V}(h:Res W P lk H H' w (.tup l) v):∃a xs,v=.ref a/\SqT W.K (vis H' P) a xs/\Reps W (vis H' P) l xs:=by
 have:=h.look;simp only[RepT,Rep]at this;exact this
theorem BK{K:PySem.W.Frag}{H2:Hp}{P:Addr->Prop}{a:Addr}{xs:List V}(h:SqT K (vis H2 P) a xs):SqT K (top lk H2 P) a xs:=by
 unfold top;split
 ·exact aK aO h
 ·exact h
theorem Kp{iter:Expr}{t:T}(hk:W.K=X.K)(he:PE X iter (tD X W lk fun δ=>ev o δ lk t)):∃wi,PI X tg iter wi/\WalkL X W o lk (.val t) wi:=by
 refine⟨_,PI.or (PI.or (PI.or (Eo he) (GZ he)) (Bj he)) (G5 he),fun σ H K ⟨me,B,δ,l,S,e,k⟩=>?_⟩;simp only[evI]at e
 cases e1:ev o δ lk t with
 | exc c=>rw[e1]at e;cases e
 | stuck=>rw[e1]at e;cases e
 | ok r=>
 rw[e1]at e;simp only[R.bind]at e
 cases e2:r.2 with
 | lst l'=>
   rw[e2]at e;cases e;refine .inl (.inl (.inl (tD_iff.mpr ⟨me,B,δ,S,?_⟩)));rw[e1];intro v H1 s q;rw[e2]at q;obtain⟨c,xs,rfl,q1,q2⟩:=nj q S.know;exact⟨c,rfl,⟨xs,hk▸top_le.seq q1⟩,k _ _ s (.of (nY (hk▸q1)) q2)⟩
 | tup l'=>
   rw[e2]at e;cases e;refine .inl (.inl (.inr (tD_iff.mpr ⟨me,B,δ,S,?_⟩)));rw[e1];intro v H1 s q;rw[e2]at q;obtain⟨c,xs,rfl,q1,q2⟩:=EY q;exact⟨c,rfl,⟨xs,hk▸aK aO q1⟩,k _ _ s (.of (rD (hk▸BK q1)) q2)⟩
 | dct ks vs=>
   rw[e2]at e;cases e;refine .inl (.inr (tD_iff.mpr ⟨me,B,δ,S,?_⟩));rw[e1];intro v H1 s q;rw[e2]at q;obtain⟨c,kvs,ep,rfl,q1,q2⟩:=Bw q S.know;exact⟨c,kvs,ep,rfl,top_le _ _ q1,k _ _ s (.of (ou q1) q2)⟩
 | str x=>
   rw[e2]at e;cases e;refine .inr (tD_iff.mpr ⟨me,B,δ,S,?_⟩);rw[e1];intro v H1 s q;have q:=q.look;rw[e2]at q;simp only[RepT,Rep]at q;obtain⟨rfl,q1⟩:=q;exact⟨_,rfl,k _ _ s (.of (qL x) (jf x))⟩
 | _=>rw[e2]at e;cases e
theorem FP{e1:Expr}{t:T}(hgl:Gl X "range")(hm:X.mg "range"=none)(h1:PE X e1 (tD X W true fun δ=>ev o δ true t))(hst:az e1=false):∃wi,PI X tg (.Call (.Name "range" p) [e1] [] cpos) wi/\WalkL X W o lk (.rng1 t) wi:=by
 refine⟨_,uT hgl hm (bF h1 cR (bU hst)) (bU hst),fun σ H K ⟨me,B,δ,l,S,e,k⟩=>?_⟩;simp only[evI]at e;refine tD_iff.mpr ⟨me,B,δ,S,?_⟩
 cases e3:ev o δ true t with
 | ok r=>
   rw[e3]at e;simp only[R.bind]at e
   cases e4:r.2 with
   | int n=>
     rw[e4]at e;obtain⟨hc1,e⟩:=gA e;cases e;intro v H1 s1 q1;have q1:=q1.look;rw[e4]at q1;have hn:=HQ hc1;have:=aJ q1;subst this;refine⟨n,rfl,by omega,by omega,k _ _ s1 (.of (kE 0 n.toNat) ?_)⟩
     have e5:rngD 0 n=(List.range n.toNat).map fun(k:Nat)=>D.int (0+(k:Int)):=by unfold rngD;rw[Int.sub_zero]
     rw[e5];exact yq 0 n.toNat
   | _=>rw[e4]at e;cases e
 | exc c=>rw[e3]at e;cases e
 | stuck=>rw[e3]at e;cases e
theorem jV:∀(l r:List D) (xs ys:List V),l.length=xs.length->r.length=ys.length->(zipD l r).length=(xs.zip ys).length
 | [],_,[],_,_,_=>rfl
 | _::_,[],_::_,[],_,_=>rfl
 | _::l,_::r,_::xs,_::ys,h1,h2=>by simp[zipD,jV l r xs ys (by simpa using h1) (by simpa using h2)]
 | [],_,_::_,_,h,_=>by simp at h
 | _::_,_,[],_,h,_=>by simp at h
 | _::_,[],_::_,_::_,_,h=>by simp at h
 | _::_,_::_,_::_,[],_,h=>by simp at h
theorem pD:∀(l r:List D) (i:Nat) (d:D),(zipD l r)[i]?=some d->∃x y,l[i]?=some x/\r[i]?=some y/\d=.tup [x,y]
 | [],_,_,_,h=>by simp[zipD]at h
 | _::_,[],_,_,h=>by simp[zipD]at h
 | x::l,y::r,0,d,h=>by simp[zipD]at h;exact⟨x,y,rfl,rfl,h.symm⟩
 | x::l,y::r,i+1,d,h=>by
   simp only[zipD,List.getElem?_cons_succ]at h ⊢;exact pD l r i d h
theorem Mj{es:List Expr}{x1:Nat}{e1 e2:Expr}{t1 t2:T}(hk:W.K=X.K)(hgl:Gl X "zip")(hm:X.mg "zip"=none)(h1:PE X e1 (tD X W lk fun δ=>ev o δ lk t1))(h2:PE X e2 (tD X W lk fun δ=>ev o δ lk t2))(hst1:az e1=false)(hst2:az e2=false) :
 ∃wi,PI X (.Tuple es x1 tpos) (.Call (.Name "zip" p) [e1,e2] [] cpos) wi/\WalkL X W o lk (.zip t1 t2) wi:=by
 have hs2:starEach [e2] X.env=[(false,eval e2 X.env)]:=bU hst2;have hpa:=bF h1 (bF h2 cR hs2) (bU hst1)
 have hs1:starEach [e1,e2] X.env=[(false,eval e1 X.env),(false,eval e2 X.env)]:=by rw[bU hst1,hs2]
 refine⟨_,Ax hgl hm hpa hs1 hs2,fun σ H K ⟨me,B,δ,l,S,e,k⟩=>?_⟩;simp only[evI]at e
 cases e3:ev o δ lk t1 with
 | exc c=>rw[e3]at e;cases e
 | stuck=>rw[e3]at e;cases e
 | ok r=>
 rw[e3]at e;simp only[R.bind]at e
 cases e5:ev o δ lk t2 with
 | exc c=>rw[e5]at e;cases e
 | stuck=>rw[e5]at e;cases e
 | ok r2=>
 rw[e5]at e
 have go:∀{J:It} {xs ys:List V} {la lb:List D} {H2:Hp} {ok:Hp->Prop},Reps W (vis H2 (Hid B σ δ)) la xs->Reps W (vis H2 (Hid B σ δ)) lb ys->(∀G,Same (top lk H2 (Hid B σ δ)) G->ok G)->Ylds W (Itp ok (xs.zip ys)) (top lk H2 (Hid B σ δ)) (vis H2 (Hid B σ δ)) (zipD la lb):=fun{J xs ys la lb H2 ok} a2 b2 hok=>by
  refine⟨fun i G s hi=>⟨hok G s,?_⟩,fun i G x G' d s ed ⟨q,pr,z1,z2,z3,z4⟩=>?_,fun G s=>⟨hok G s,?_⟩⟩
  ·rw[<-jV la lb xs ys a2.length b2.length];exact hi
  ·obtain⟨x',y',f1,f2,f3⟩:=pD la lb i d ed
   obtain⟨v1,g1,g2⟩:=a2.get f1;obtain⟨v2,g3,g4⟩:=b2.get f2
   have:pr=(v1,v2):=by
    have hz:(xs.zip ys)[i]?=some (v1,v2):=by
     rw[List.getElem?_zip_eq_some];exact⟨g1,g3⟩
    rw[z2]at hz;exact Option.some.inj hz
   subst this;exact .inr ⟨q,x',y',v1,v2,f3,z3,z1,z4,g2,g4⟩
  ·rw[<-jV la lb xs ys a2.length b2.length];exact Nat.le_refl _
 obtain⟨la,lb,e4,e6,rfl⟩:=Eg e;refine tD_iff.mpr ⟨me,B,δ,S,?_⟩;rw[e3];intro v H1 s1 q1;refine tD_iff.mpr ⟨me,B,δ,S.mono s1,?_⟩;rw[e5];intro v2 H2 s2 q2;rw[e4]at q1;rw[e6]at q2;obtain⟨a,xs,rfl,a1,a2⟩:=nj q1 S.know;obtain⟨b,ys,rfl,b1,b2⟩:=nj q2 (S.mono s1).know;have up:Same (vis H1 (Hid B σ δ)) (vis H2 (Hid B σ δ)):=aD s2
 have a1':SqL W.K (top lk H2 (Hid B σ δ)) a xs:=by
  unfold top at a1 ⊢;split at a1
  ·rename_i z;rw[if_pos z];exact s2.seq a1
  ·rename_i z;rw[if_neg z];exact up.seq a1
 exact⟨a,b,xs,ys,rfl,hk▸top_le.seq a1',hk▸top_le.seq b1,k _ _ (s1.trans s2) (go (J:=Itp (fun _=>True) []) (a2.mono up) b2 fun G s=>⟨hk▸s.seq a1',hk▸s.seq b1⟩)⟩
theorem xY{is:List Nat}{tup:Bool}{g:TG}(hg:TgOk X W tg is tup g){sb:SL}{En:Ends}{l:List D}{J:It}(S:SR X W me B H σ δ)(Y:Ylds W J (vis H (Hid B σ δ)) (vis H (Hid B σ δ)) l)
 (h:AfterS X W me B (vis H (Hid B σ δ)) (cF (evSs o sb) is tup l δ) En) :
 ∃Wv:Nat->Nat->L2.St->Hp->Prop,(∃m,Wv 0 m σ H)/\∀i m σ H,Wv i m σ H ->
  (J.stop i H/\En.nx σ H)\/(J.go i H/\∃N:L2.St->Hp->Prop,(∀σ' H',N σ' H'->∃m',m'<m/\Wv (i+1) m' σ' H')/\∀x H',J.yld i H x H'->g x σ H' fun σ2 H2=>tS X W (evSs o sb) { En with nx:=N,ct:=N,bk:=En.nx } σ2 H2):=by
 let Pv:Nat->L2.St->Hp->Prop:=fun i σ' H'=>∃δ',SR X W me B H' σ' δ'/\Same (vis H (Hid B σ δ)) (vis H' (Hid B σ' δ'))/\AfterS X W me B (vis H' (Hid B σ' δ')) (cF (evSs o sb) is tup (l.drop i) δ') En
 refine⟨fun i m σ' H'=>m=l.length-i/\i<=l.length/\Pv i σ' H',⟨l.length,rfl,Nat.zero_le _,δ,S,Same.refl _,h⟩,?_⟩
 rintro i m σ' H' ⟨rfl,hi,δ',S',s',h'⟩
 by_cases hlt:i<l.length
 ·refine .inr ⟨Y.go i H' (s'.trans aO) hlt,Pv (i+1),fun σ2 H2 q=>⟨l.length-(i+1),by omega,rfl,hlt,q⟩,fun x H'' y=>?_⟩
  obtain⟨d,ed⟩:∃d,l[i]?=some d:=⟨_,List.getElem?_eq_getElem hlt⟩
  obtain⟨sy,rd⟩:=(Y.yld i H' x H'' d (s'.trans aO) ed y).rep s' S'.know
  have hd:l.drop i=d::l.drop (i+1):=by
   obtain⟨hi,e⟩:=List.getElem?_eq_some_iff.mp ed;rw[List.drop_eq_getElem_cons hi,e]
  rw[hd]at h';simp only[cF]at h';have S'':=S'.mono sy;have sv:Same (vis H' (Hid B σ' δ')) (vis H'' (Hid B σ' δ')):=aD sy
  replace h':=AfterS.mono h' sv
  cases e2:takes is.length tup d with
  | none=>simp only[e2]at h';exact h'.elim
  | some ds=>
    simp only[e2]at h'
    cases e3:aR δ' is ds with
    | none=>simp only[e3]at h';exact h'.elim
    | some δ1=>
      simp only[e3]at h'
      refine hg.2 S'' rd e2 e3 fun σ1 S1 s1=>⟨me,B,δ1,S1,?_⟩
      have h':=AfterS.mono h' s1
      cases e4:evSs o sb δ1 with
      | nx δ2=>rw[e4]at h';exact fun σ2 H2 S2 s2=>⟨δ2,S2,((s'.trans sv).trans s1).trans s2,AfterS.mono h' s2⟩
      | ct δ2=>rw[e4]at h';exact fun σ2 H2 S2 s2=>⟨δ2,S2,((s'.trans sv).trans s1).trans s2,AfterS.mono h' s2⟩
      | bk δ2=>rw[e4]at h';exact h'
      | rt w d δ2=>rw[e4]at h';exact h'
      | ex c δ2=>rw[e4]at h';exact h'
      | stuck=>rw[e4]at h';exact h'.elim
 ·have e:i=l.length:=by omega
  subst e;refine .inl ⟨Y.stop H' (s'.trans aO),?_⟩;rw[List.drop_length]at h';simp only[cF,AfterS]at h';exact h' σ' H' S' (Same.refl _)
theorem yV(S:SR X W me B H σ δ)(it:TI):SR X W me B H σ (cM δ it)/\Same (vis H (Hid B σ δ)) (vis H (Hid B σ (cM δ it))):=by
 have one:∀i,SR X W me B H σ (Z.share1 δ i)/\Same (vis H (Hid B σ δ)) (vis H (Hid B σ (Z.share1 δ i))):=fun i=>⟨S.share1 i,aQ (gm i)⟩
 have two:∀e,SR X W me B H σ (cU δ e)/\Same (vis H (Hid B σ δ)) (vis H (Hid B σ (cU δ e))):=fun e=>by
  unfold cU;split
  ·exact one _
  ·exact⟨S,Same.refl _⟩
 unfold cM;split
 ·exact one _
 ·exact one _
 ·rename_i a b
  obtain⟨S1,s1⟩:=two a
  have one':∀i,SR X W me B H σ (Z.share1 (cU δ a) i)/\Same (vis H (Hid B σ (cU δ a))) (vis H (Hid B σ (Z.share1 (cU δ a) i))):=fun i=>⟨S1.share1 i,aQ (gm i)⟩
  have:SR X W me B H σ (cU (cU δ a) b)/\Same (vis H (Hid B σ (cU δ a))) (vis H (Hid B σ (cU (cU δ a) b))):=by
   cases b with
   | var i=>exact one' i
   | _=>exact⟨S1,Same.refl _⟩
  exact⟨this.1,s1.trans this.2⟩
 ·exact⟨S,Same.refl _⟩
theorem By{iter:Expr}{body:List Stmt}{is:List Nat}{tup:Bool}{g:TG}{it:TI}{sb:SL}(hp:PassesOwn (model X.prog X.w) X.A X.env X.xe)(hc:X.calm=true)(hg:TgOk X W tg is tup g)(hi:∃wi,PI X tg iter wi/\WalkL X W o false it wi)
 (hb:PSs X body (tS X W (evSs o sb))) (hs:∀x,foldedSetIterable iter X.env x=pure x):PS X (.For tg iter body [] pos) (tS X W (evS o (.for_ is tup it sb))):=by
 obtain⟨wi,h1,h2⟩:=hi
 refine PS.imp (Gj hp hc h1 hg.1 hb hs) fun En σ H ⟨me,B,δ,S,h⟩=>?_
 simp only[evS]at h;obtain⟨S1,s1⟩:=yV S it;obtain⟨l,e,h⟩:=SO.of_ok h;refine h2 σ H _ ⟨me,B,_,l,S1,e,fun J H2 s y=>?_⟩
 have y':Ylds W J (vis H2 (Hid B σ (cM δ it))) (vis H2 (Hid B σ (cM δ it))) l:=by simpa[top]using y
 exact xY hg (S1.mono s) y' (AfterS.mono h (s1.trans (aD s)))
end
end Z
namespace Z
open PySem PySem.Spec PyProof.Rows L2
noncomputable def xQ(m z:Int):Int:=if z>m then z else m
section
variable{prog:Program}{w:World}{A:Around}{E:Value->Shared->Prop}{s:Shared}{R:Result->Shared->Prop}
theorem cmp_gt{A:Around}{s:Shared}{a b:Int}{t u:Tok}{Q:Value->Shared->Prop}(h:Q (.bool (decide (a>b))) s):wpAny (model prog w) A (richCompare .Gt (.int a t) (.int b u)) Q E s :=
 richCompare_gives (op:=.Gt) (typeIs_int s _ t) (typeIs_int s _ u) PySem.F.slot_int_gt PySem.F.entry_int_gt (PySem.F.args_int_gt_2 _ _) (gives_int_gt _ _ t u) (fun x=>nomatch x) h
theorem um{I l S:Addr}{vs:List Value}{ns:List Int}{kw:List (Str×Value)}(hh:A.handled=none)(hi:IntsAre vs ns)(hlI:l≠I)(hSI:S≠I)(hSl:S≠l):∀(k j:Nat) (s:Shared) (m:Int) (t:Tok) (c:Nat),ns.length-j=k->j<=ns.length->s.heap.IsListIter I l j->s.heap.IsList l vs.toArray ->
 s.heap.get? S=some { cls:=.type "list",dict:=none,data:=.seq #[.int m t,.int m t] c,slots:=#[] } ->
 (∀t' h' tk,(∀b o,b≠I->b≠S->s.heap.get? b=some o->h'.get? b=some o)->R (.ok (.ret (.int ((ns.drop j).foldl xQ m) t'))) { s with heap:=h',toks:=tk }) ->
 codeAny (model prog w) A (.builtin "max.loop" ⟨[.ref I,.none,.ref S],kw⟩) R s:=by
 have hname:(toString "max"++toString ".loop":String)="max.loop":=by decide
 have hlen:=hi.length;intro k
 induction k with
 | zero=>
   intro j s m t c hk hj hit hl hS hR
   have e:j=ns.length:=by omega
   refine codeAny_builtin PySem.F.entry_max_loop ?_;rw[Around.under_plainId PySem.F.plain_max_loop _];show wpAny _ A.in1 (seqItems? (.ref S) >>= _) _ _ s;refine wpAny_bind (wpAny_seqItems hS rfl ?_);show wpAny _ A.in1 (tryCatch (pyNext (.ref I)) _ >>= _) _ _ s;refine wpAny_bind (wpAny_tryCatch (wpAny_pyNext_list_end hh hit hl (Array.getElem?_eq_none (by simp;omega)) fun h' hx=>?_));have hS':=hx S _ hSI hS;show wpAny _ A.in1 (updateSeq S (fun _=>#[]) >>= _) _ _ _;refine wpAny_bind (wpAny_updateSeq hS' rfl (wpAny_bind (wpAny_letGo (wpAny_pure ?_))))
   have:=hR t (h'.update S (Obj.mapSeq fun _=>#[])) s.toks fun b o b1 b2 q=>(Heap.get?_update_other _ _ (Ne.symm b2)).trans (hx b o b1 q)
   rw[e,List.drop_length]at this;exact this
 | succ k ih=>
   intro j s m t c hk hj hit hl hS hR
   have hlt:j<ns.length:=by omega
   obtain⟨u,hu⟩:=hi.get j (ns[j]'hlt) (List.getElem?_eq_getElem hlt);have hd:ns.drop j=ns[j]'hlt::ns.drop (j+1):=List.drop_eq_getElem_cons hlt;rw[hd]at hR;generalize ns[j]'hlt=z at hu hR;refine codeAny_builtin PySem.F.entry_max_loop ?_;rw[Around.under_plainId PySem.F.plain_max_loop _];show wpAny _ A.in1 (seqItems? (.ref S) >>= _) _ _ s;refine wpAny_bind (wpAny_seqItems hS rfl ?_);show wpAny _ A.in1 (tryCatch (pyNext (.ref I)) _ >>= _) _ _ s;refine wpAny_bind (wpAny_tryCatch (wpAny_pyNext_list_item hit hl (x:=.int z u) (by simpa using hu) fun h' hit' hs'=>?_));have hS':=(hs'.2 S hSI).trans hS;have hl':=hl.extBut hs'.extBut hlI;show wpAny _ A.in1 (tryCatch (holding [.int z u,.int z u] (richCompare .Gt (.int z u) (.int m t) >>= _)) _ >>= _) _ _ _;refine wpAny_bind (wpAny_tryCatch (wpAny_holding (wpAny_bind (cmp_gt ?_))));refine wpAny_bind (wpAny_holding (wpAny_truthy_bool ?_));refine wpAny_bind (wpAny_letGo (wpAny_pure ?_))
   by_cases hb:z>m
   ·simp only[decide_eq_true hb,if_true];refine wpAny_bind (wpAny_updateSeq hS' rfl (wpAny_bind (wpAny_letGo ?_)));rw[hname]
    refine wpAny_pure ⟨plainId_quiet PySem.F.plain_max_loop _,ih (j+1) _ z u _ (by omega) hlt (hit'.at fun o e=>(Heap.get?_update_other _ _ hSI).trans e) (hl'.at fun o e=>(Heap.get?_update_other _ _ hSl).trans e) (Heap.get?_update_self _ hS' rfl) fun t' h'' tk hk''=>?_⟩
    have:=hR t' h'' tk fun b o b1 b2 q=>hk'' b o b1 b2 ((Heap.get?_update_other _ _ (Ne.symm b2)).trans ((hs'.2 b b1).trans q))
    rw[List.foldl_cons,show xQ m z=z from if_pos hb]at this;exact this
   ·simp only[decide_eq_false hb,Bool.false_eq_true,if_false];refine wpAny_bind (wpAny_letGo ?_);rw[hname]
    refine wpAny_pure ⟨plainId_quiet PySem.F.plain_max_loop _,ih (j+1) _ m t c (by omega) hlt hit' hl' hS' fun t' h'' tk hk''=>?_⟩
    have:=hR t' h'' tk fun b o b1 b2 q=>hk'' b o b1 b2 ((hs'.2 b b1).trans q)
    rw[List.foldl_cons,show xQ m z=m from if_neg hb]at this;exact this
theorem rH(a v:Value):argsOk "max" ⟨[a],[(Str.ofString "default",v)]⟩:=by unfold argsOk;kernel_rfl
noncomputable def maxOf(d:Int):List Int->Int
 | []=>d
 | y::r=>r.foldl xQ y
theorem ul{l:Addr}{vs:List Value}{ns:List Int}{d:Int}{td:Tok}{Q:Value->Shared->Prop}(hh:A.handled=none)(hl:s.heap.IsList l vs.toArray)(hi:IntsAre vs ns)
 (hQ:∀t h' tk,(∀b o,s.heap.get? b=some o->h'.get? b=some o)->Q (.int (maxOf d ns) t) { s with heap:=h',toks:=tk }):wpAny (model prog w) A (call (.builtin "max") [.ref l] [(Str.ofString "default",.int d td)]) Q E s:=by
 have hname:(toString "max"++toString ".loop":String)="max.loop":=by decide
 have hlen:=hi.length
 have ll:l<s.heap.objs.size:=by obtain⟨o,e,_⟩:=hl;exact Heap.lt_size e
 refine kmk_tree PySem.F.kind_max PySem.F.plain_max PySem.F.entry_max (rH _ _) ?_;show wpAny _ A.in1 (Builtin.Builtins.bindParams "max" ["key","default"] 0 ⟨[],[(Str.ofString "default",.int d td)]⟩ >>= _) _ _ s;refine wpAny_bind (wpAny_of_eq (show Builtin.Builtins.bindParams "max" ["key","default"] 0 ⟨[],[(Str.ofString "default",.int d td)]⟩=pure [none,some (.int d td)]from rfl) ?_);refine wpAny_bind (wpAny_pure ?_);refine wpAny_bind (wpAny_pyIter_list hl ?_);refine wpAny_bind (wpAny_newList ?_ (Nat.zero_le _));rw[hname];generalize hh1:s.heap.push { cls:=.type "list_iterator",data:=.fields #[.ref l,.int 0 0] }=h1
 have n1:h1.objs.size=s.heap.objs.size+1:=by rw[<-hh1];exact Heap.size_push ..
 have old:∀b o,s.heap.get? b=some o->(h1.push (seqObj "list" #[] 0)).get? b=some o:=fun b o e=>Heap.get?_push_of_some _ (by rw[<-hh1];exact Heap.get?_push_of_some _ e)
 have gI:(h1.push (seqObj "list" #[] 0)).IsListIter s.heap.objs.size l 0:=⟨_,Heap.get?_push_of_some _ (by rw[<-hh1];exact Heap.get?_push_size _ rfl),rfl,rfl⟩
 have gS:(h1.push (seqObj "list" #[] 0)).get? h1.objs.size=some (seqObj "list" #[] 0):=Heap.get?_push_size _ rfl
 have gl:(h1.push (seqObj "list" #[] 0)).IsList l vs.toArray:=hl.at fun o e=>old _ o e
 have lI:l≠s.heap.objs.size:=Nat.ne_of_lt ll
 have SI:h1.objs.size≠s.heap.objs.size:=by rw[n1];exact Nat.succ_ne_self _
 have Sl:h1.objs.size≠l:=by rw[n1];exact Nat.ne_of_gt (Nat.lt_succ_of_lt ll)
 refine wpAny_pure ⟨plainId_quiet PySem.F.plain_max_loop _,?_⟩;refine codeAny_builtin PySem.F.entry_max_loop ?_;rw[Around.under_plainId PySem.F.plain_max_loop _];show wpAny _ A.in1 (seqItems? (.ref h1.objs.size) >>= _) _ _ _;refine wpAny_bind (wpAny_seqItems gS rfl ?_);show wpAny _ A.in1 (tryCatch (pyNext (.ref s.heap.objs.size)) _ >>= _) _ _ _
 cases ns with
 | nil=>
   cases hi;refine wpAny_bind (wpAny_tryCatch (wpAny_pyNext_list_end hh gI gl (by simp) fun h' hx=>?_));refine wpAny_bind (wpAny_rule (wpAny_pure ?_))
   exact hQ td h' _ fun b o e=>hx b o (Nat.ne_of_lt (Heap.lt_size e)) (old b o e)
 | cons z ns=>
   obtain⟨u,hu⟩:=hi.get 0 z rfl;refine wpAny_bind (wpAny_tryCatch (wpAny_pyNext_list_item gI gl (x:=.int z u) (by simpa using hu) fun h' hit' hs'=>?_));have hS':=(hs'.2 _ SI).trans gS;have hl':=gl.extBut hs'.extBut lI;show wpAny _ A.in1 (updateSeq h1.objs.size (fun _=>#[.int z u,.int z u]) >>= _) _ _ _;refine wpAny_bind (wpAny_updateSeq hS' rfl ?_);rw[hname];refine wpAny_pure ⟨plainId_quiet PySem.F.plain_max_loop _,um hh hi lI SI Sl _ 1 _ z u _ rfl (by simp) (hit'.at fun o e=>(Heap.get?_update_other _ _ SI).trans e) (hl'.at fun o e=>(Heap.get?_update_other _ _ Sl).trans e) (Heap.get?_update_self _ hS' rfl) fun t' h'' tk hk''=>?_⟩
   exact hQ t' h'' tk fun b o e=>hk'' b o (Nat.ne_of_lt (Heap.lt_size e)) (fun q=>by have:=Heap.lt_size e;rw[q,n1]at this;exact Nat.not_lt_of_le (Nat.le_succ _) this) ((Heap.get?_update_other _ _ (fun q=>by have:=Heap.lt_size e;rw[<-q,n1]at this;exact Nat.not_lt_of_le (Nat.le_succ _) this)).trans ((hs'.2 b (Nat.ne_of_lt (Heap.lt_size e))).trans (old b o e)))
end
section
variable{X:Cx}{W:Wd}{lk:Bool}{σ:L2.St}{H H1 H':Hp}{me:Option Addr}{B:Addr->Prop}{δ:Dst}{o:Orc}{p cpos pos kp:Pos}{a b:Expr}
noncomputable def Kd(K:PySem.W.Frag)(ta:TA)(td:TE):TE:=fun σ H Q=>ta σ H fun vs H1=>∃x,vs=[x]/\td σ H1 fun y H2=>∃l ns d,x=.ref l/\y=.int d/\SqL K H2 l (ns.map V.int)/\Q (.int (maxOf d ns)) H2
theorem Er{ta:TA}{td:TE}(hc:X.calm=true)(hg:Gl X "max")(hm:X.mg "max"=none)(ha:PA X [a] ta)(hb:PE X b td)(hst:az a=false):PE X (.Call (.Name "max" p) [a] [⟨some "default",b,kp⟩] cpos) (Kd X.K ta td):=by
 intro pins s σ H Q I h;refine wpAny_Call_Name_kw (jd I hg hm boot_max ?_);have hs:starEach [a] X.env=[(false,eval a X.env)]:=bU hst;refine callWith_kw (thn (ha cpos pins s σ H _ I h) fun us s1 ⟨vs,H1,I1,r1,x,ex,q1⟩=>?_) (by rw[hs];rfl) (by rw[hs];rfl) rfl rfl;subst ex
 cases r1 with
 | cons r rr=>
   cases rr;refine kws_cons (thn (hb pins s1 σ H1 _ I1 q1) fun v s2 ⟨y,H2,I2,r2,l,ns,d,e1,e2,hq,q⟩=>kws_nil ?_);subst e1 e2;cases r;obtain⟨t,rfl⟩:=r2;obtain⟨its,rv,pl,_⟩:=I2.list hq
   exact ul (I2.ok.hd hc) pl.isList (intsAre_of rv) fun t' h' tk hk=>⟨.int (maxOf d ns),H2,I2.kept hk,⟨_,rfl⟩,q⟩
theorem ig{G:Hp}:∀{l:List D} {ns:List Int} {xs:List V},intsOf l=some ns->Reps W G l xs->xs=ns.map V.int
 | [],ns,xs,h,r=>by
   simp only[intsOf,Option.some.injEq]at h;subst h
   cases xs with
   | nil=>rfl
   | cons _ _=>simp only[Reps]at r
 | d::l,ns,xs,h,r=>by
   cases d<;>first | exact nope h | simp only[intsOf]at h
   rename_i z
   cases e:intsOf l with
   | none=>rw[e]at h;cases h
   | some ms=>
     rw[e]at h;cases h
     cases xs with
     | nil=>simp only[Reps]at r
     | cons x xs=>
       simp only[Reps,Rep]at r;rw[List.map_cons,r.1,ig e r.2]
theorem HN{ta tb:T}(hk:W.K=X.K)(hc:X.calm=true)(hg:Gl X "max")(hm:X.mg "max"=none)(ha:PE X a (tD X W true fun δ=>ev o δ true ta))(hb:PE X b (tD X W true fun δ=>ev o δ true tb))(hst:az a=false) :
 PE X (.Call (.Name "max" p) [a] [⟨some "default",b,kp⟩] cpos) (tD X W lk fun δ=>ev o δ lk (.b2 .maxd ta tb)):=by
 refine PE.imp (Er hc hg hm (bF ha cR (bU hst)) hb hst) fun σ H Q h=>?_
 obtain⟨me,B,δ,S,h⟩:=tD_iff.mp h;simp only[ev]at h
 refine tD.mono (part S h) fun v H1 ⟨r1,e1,S1,s1,t1,_,h1⟩=>⟨v,rfl,?_⟩
 refine tD.mono (part S1 h1) fun v2 H2 ⟨r2,e2,S2,s2,t2,_,h2⟩=>?_
 cases e3:r1.2 with
 | lst l=>
   cases e4:r2.2 with
   | int d=>
     rw[e3,e4]at h2;simp only[b2D]at h2
     cases e5:intsOf l with
     | none=>rw[e5]at h2;exact h2.elim
     | some ns=>
       rw[e5]at h2;simp only[Option.map_some,R.of]at h2;have t1:=t1.mono s2 (aD s2);rw[e3]at t1;rw[e4]at t2;obtain⟨c,xs,rfl,q1,q2⟩:=t1;have:=ig e5 q2;subst this;exact⟨c,ns,d,rfl,aJ t2,hk▸q1,h2 _ _ (Same.refl _) (.shared (by simp only[Rep];cases ns<;>rfl))⟩
   | _=>rw[e3,e4]at h2;exact h2.elim
 | _=>rw[e3]at h2;revert h2;cases r2.2<;>intro h2<;>exact h2.elim
end
end Z
namespace Z
open PySem PySem.Spec PyProof.Rows L2
end Z
namespace Z
open PySem PySem.Spec PyProof.Rows L2
section
variable{X:Cx}{W:Wd}
theorem vX(hc:X.calm=true):CallR X (.builtin "sum") (fun xs H Q=>∃(c:Addr) (ns:List Int),xs=[.ref c]/\SqL X.K H c (ns.map V.int)/\Q (.int ns.sum) H):=by
 intro pins s σ H xs us Q I r h;obtain⟨c,ns,rfl,hq,q⟩:=h;obtain⟨u,rfl,rx⟩:=vals1 r;cases rx;obtain⟨its,rv,pl,hz⟩:=I.list hq;have hi:IntsAre its ns:=L2.intsAre_of rv;obtain⟨zs,hzs⟩:=hi.allInts.items
 have hn:zs.toList.map (·.1)=ns:=by rw[<-nums_intItems,<-hzs];exact hi.numsOf
 have hl:s.heap.IsList c (intItems zs):=hzs▸pl.isList
 refine sum_intListG (I.ok.hd hc) hl fun h' tk t' hk=>?_
 have e:preSum (numAt zs) zs.size=ns.sum:=by rw[preSum_eq,hn,List.take_of_length_le (by rw[<-hn];simp)]
 rw[e];exact⟨.int ns.sum,H,I.kept hk,⟨_,rfl⟩,q⟩
theorem Bo(hk:W.K=X.K):Sem1 W (fun xs H Q=>∃(c:Addr) (ns:List Int),xs=[.ref c]/\SqL X.K H c (ns.map V.int)/\Q (.int ns.sum) H) (b1D .sum):=by
 intro lk P H x dx Q w d hS hK hx e k
 cases dx<;>first | exact nope e | exact cV e | simp only[b1D]at e
 rename_i l
 cases e1:intsOf l with
 | none=>rw[e1]at e;cases e
 | some ns=>
   rw[e1]at e;cases e;obtain⟨c,vs,rfl,q1,q2⟩:=hx;have:=ig e1 q2;subst this;exact⟨c,ns,rfl,hk▸q1,k _ H (Same.refl H) cL⟩
end
end Z
namespace Z
open PySem PySem.Spec PyProof.Rows L2
section
variable{X:Cx}{W:Wd}{lk:Bool}{σ:L2.St}{H H1 H':Hp}{me:Option Addr}{B:Addr->Prop}{δ:Dst}{o:Orc}{p px cpos pos:Pos}{a b:Expr}
theorem JN{ta tb:T}(hc:X.calm=true)(hg:Gl X "max")(hm:X.mg "max"=none)(ha:PE X a (tD X W true fun δ=>ev o δ true ta))(hb:PE X b (tD X W true fun δ=>ev o δ true tb))(hst1:az a=false)(hst2:az b=false) :
 PE X (.Call (.Name "max" p) [a,b] [] cpos) (tD X W lk fun δ=>ev o δ lk (.b2 .max ta tb)):=by
 have hs2:starEach [b] X.env=[(false,eval b X.env)]:=bU hst2
 refine PE.imp (fu (vG hc) hg hm boot_max (bF ha (bF hb cR hs2) (bU hst1)) (by decide) (by decide) (by rw[bU hst1,hs2]) (by rw[hs2];rfl)) fun σ H Q h=>?_
 obtain⟨me,B,δ,S,h⟩:=tD_iff.mp h;simp only[ev]at h
 refine tD.mono (part S h) fun v H1 ⟨r1,e1,S1,s1,t1,_,h1⟩=>?_
 refine tD.mono (part S1 h1) fun v2 H2 ⟨r2,e2,S2,s2,t2,_,h2⟩=>?_
 cases e3:r1.2 with
 | int i=>
   cases e4:r2.2 with
   | int j=>
     rw[e3,e4]at h2;simp only[b2D]at h2;have t1:=t1.mono s2 (aD s2);rw[e3]at t1;rw[e4]at t2;exact⟨i,j,by rw[aJ t1,aJ t2],h2 _ _ (Same.refl _) cL⟩
   | _=>rw[e3,e4]at h2;exact h2.elim
 | lst l=>
   rw[e3]at h2
   revert h2
   cases r2.2<;>intro h2<;>exact h2.elim
 | _=>rw[e3]at h2;revert h2;cases r2.2<;>intro h2<;>exact h2.elim
noncomputable def KDct(P:Program)(w:World)(W:Wd)(ad:Addr)(ks:List DK)(vs:List D):Prop:=∃kvs:List (Key×Value),(∀h:Heap,W.K.In h->h.DictOf (bB P w) ad kvs)/\(∀x d,look ks vs x=some d->∃(u:Value) (v:V),valueAt kvs (keyV x)=some u/\RelV v u/\∀G,Rep W G d v)/\(ad==sysModules)=false/\∀x,(valueAt kvs (keyV x)).isSome=decide (x∈ks)
theorem Jx{x:Str}{ad:Addr}{ks:List DK}{vs:List D}{ti:T}(hk:W.K=X.K)(hd:KDct X.prog X.w W ad ks vs)(hg:Gl X x)(hm:X.mg x=some (.ref ad))(hdb:(x==("__debug__":Str))=false)(hi:PE X b (tD X W true fun δ=>ev o δ true ti))(hs:NoSl b) :
 PE X (.Subscript (.Name x px) b pos) (tD X W lk fun δ=>ev o δ lk (.kidx ks vs ti)):=by
 obtain⟨kvs,h1,h2,_,_⟩:=hd;intro pins s σ H Q I h;obtain⟨me,B,δ,S,h⟩:=tD_iff.mp h;simp only[ev]at h;refine u0 PySem.F.slot_dict_getitem.lookup hs (jR I hg hm ?_ hdb)
 refine thn (hi pins s σ H _ I (part S h)) fun iv s2 ⟨y,H2,I2,ry,r1,e1,S1,s1,t1,_,q⟩=>?_
 have dd:=h1 s2.heap (hk▸I2.kIn)
 cases e5:keyOf r1.2 with
 | none=>rw[e5]at q;exact q.elim
 | some k=>
   rw[e5]at q;simp only[Option.bind_some]at q
   cases e6:look ks vs k with
   | none=>rw[e6]at q;exact q.elim
   | some d=>
     rw[e6]at q;obtain⟨u,v,g1,g2,g3⟩:=h2 k d e6;have ey:=jE e5 t1;subst ey;exact⟨dd.typeIs,wpAny_getItem_of (o8 ry) dd.mapOf g1 ⟨v,H2,I2.tok _,g2,q v H2 (Same.refl _) (.shared (g3 _))⟩⟩
end
end Z
namespace Z
open PySem PySem.Spec PyProof.Rows L2
section
variable{X:Cx}{W:Wd}{lk:Bool}{o:Orc}{p px cpos pos:Pos}{a b:Expr}
noncomputable def opK(neg:Bool):CmpOp:=if neg then .NotIn else .In
theorem Al(neg:Bool){x:Str}{ad:Addr}{ks:List DK}{vs:List D}{ti:T}(hk:W.K=X.K)(hd:KDct X.prog X.w W ad ks vs)(hg:Gl X x)(hm:X.mg x=some (.ref ad))(hdb:(x==("__debug__":Str))=false)(hi:PE X a (tD X W true fun δ=>ev o δ true ti)) :
 PC X (opK neg) a (.Name x px) (tD X W lk fun δ=>ev o δ lk (.kin ks neg ti)):=by
 obtain⟨kvs,h1,_,h0,h2⟩:=hd;intro pins s σ H Q I h;obtain⟨me,B,δ,S,h⟩:=tD_iff.mp h;simp only[ev]at h
 refine thn (hi pins s σ H _ I (part S h)) fun iv s2 ⟨y,H2,I2,ry,r1,e1,S1,s1,t1,_,q⟩=>jR I2 hg hm ?_ hdb
 have dd:=h1 s2.heap (hk▸I2.kIn)
 cases e5:keyOf r1.2 with
 | none=>rw[e5]at q;exact q.elim
 | some k=>
   rw[e5]at q;have ey:=jE e5 t1;subst ey;have h3:=h2 k
   cases neg with
   | false=>
     refine wpAny_in_of (o8 ry) h0 dd.mapOf ?_;rw[h3];exact⟨.bl (decide (k∈ks)),H2,I2.tok _,rfl,by simpa using q _ H2 (Same.refl _) bA⟩
   | true=>
     refine wpAny_notIn_of (o8 ry) h0 dd.mapOf ?_;rw[h3];exact⟨.bl (!decide (k∈ks)),H2,I2.tok _,rfl,by simpa using q _ H2 (Same.refl _) bA⟩
theorem Ke(neg:Bool){x:Str}{ad:Addr}{ks:List DK}{vs:List D}{ti:T}(hk:W.K=X.K)(hd:KDct X.prog X.w W ad ks vs)(hg:Gl X x)(hm:X.mg x=some (.ref ad))(hdb:(x==("__debug__":Str))=false)(hi:PE X a (tD X W true fun δ=>ev o δ true ti))(hb:behindInMarks (opK neg) (.Name x px)=false) :
 (∀lk,PE X (.Compare a [opK neg] [.Name x px] pos) (tD X W lk fun δ=>ev o δ lk (.kin ks neg ti)))/\PT X (.Compare a [opK neg] [.Name x px] pos) (tT X W fun δ=>ev o δ true (.kin ks neg ti)) :=
 ⟨fun lk=>sG (Al neg hk hd hg hm hdb hi) hb,PT.imp (uL (Al (lk:=true) neg hk hd hg hm hdb hi) hb) fun σ H Q h=>xH (fun δ r e=>by
  simp only[ev]at e;obtain⟨y,_,e⟩:=eQ e
  cases e2:keyOf y.2 with
  | none=>rw[e2]at e;cases e
  | some k=>rw[e2]at e;cases e;exact⟨_,rfl⟩) h⟩
noncomputable def qR:TL->T->TL
 | .nil,t=>.cons t .nil
 | .cons u l,t=>.cons u (qR l t)
theorem pZ{δ:Dst}{d:D}:∀{l:TL},evL o δ (qR l (.cst d))=(evL o δ l).bind fun r=>.ok (r.1,r.2++[d])
 | .nil=>by simp only[qR,evL,ev,fX,R.bind];rfl
 | .cons u l=>by
   simp only[qR,evL];rw[pZ]
   cases ev o δ (fX δ u) u with
   | ok x=>
     simp only[R.bind]
     cases evL o δ l with
     | ok y=>simp
     | exc c=>rfl
     | stuck=>rfl
   | exc c=>rfl
   | stuck=>rfl
theorem jq{H G:Hp}{v:Int}:∀{l:List D} {vs:List V},RepTs W H G l vs->RepTs W H G (l++[.int v]) (vs++[.int v])
 | [],[],_=>by simp only[List.nil_append,RepTs,RepT,Rep,and_true]
 | [],_::_,h=>by simp only[RepTs]at h
 | _::_,[],h=>by simp only[RepTs]at h
 | d::l,u::vs,h=>by
   simp only[RepTs,List.cons_append]at h ⊢;exact⟨h.1,jq h.2⟩
theorem lV{G:Hp}{v:Int}:∀{l:List D} {vs:List V},Reps W G l vs->Reps W G (l++[.int v]) (vs++[.int v])
 | [],[],_=>by simp only[List.nil_append,Reps,Rep,and_true]
 | [],_::_,h=>by simp only[Reps]at h
 | _::_,[],h=>by simp only[Reps]at h
 | d::l,u::vs,h=>by
   simp only[Reps,List.cons_append]at h ⊢;exact⟨h.1,lV h.2⟩
theorem Bx{f np k:Nat}{v:Int}{x:Str}{fa:Addr}{fd:FuncData}{ps:List Str}{vs:List Value}{e:Expr}{es:List Expr}{l:TL}(hn:∀δ r,evL o δ l=.ok r->r.2.length+1=np)
 (F:FnOk X.prog X.w X.K X.mg X.base CX0 k fa fd ps (spFn W (o.fn f) np)) (hr:Room k X.A) (hg:Gl X x) (hm:X.mg x=some (.ref fa)) (hk:PySem.W.keepIn X.K (.ref fa)=true) (hb:Binds X.K fd ps vs) (hv:Vals [.int v] vs)
 (ha:PA X (e::es) (tL X W fun δ=>evL o δ l)) (hdb:(x==("__debug__":Str))=false) (he:starEach (e::es) X.env=(false,eval e X.env)::starEach es X.env) (hpl:(backTo pos (starEach es X.env)).any (·.1)=false) :
 PE X (.Call (.Name x p) (e::es) [] pos) (tD X W lk fun δ=>ev o δ lk (.call f (qR l (.cst (.int v))))):=by
 refine PE.imp (vV F hr hg hm hk hb hv JR ha hdb he hpl) fun σ H Q h=>?_
 obtain⟨me,B,δ,S,h⟩:=tD_iff.mp h;simp only[ev]at h;rw[pZ]at h
 have e0:(((evL o δ l).bind fun r=>R.ok (r.1,r.2++[D.int v])).bind fun x=>(o.fn f x.2).bind (lent x.1))=(evL o δ l).bind fun r=>(o.fn f (r.2++[.int v])).bind (lent r.1):=by cases evL o δ l<;>rfl
 rw[e0]at h
 refine tL.mono (sE (fa:=fun δ=>evL o δ l) (C:=fun r H=>After X W lk σ H (Hid B σ δ) r Q) S h (fun r H1 s q=>q.mono s) (fun c q=>q) (fun q=>q)) fun vs H1 ⟨r,e1,S1,s1,t1,q1,h1⟩=>?_
 exact JD S1 (by rw[List.length_append];exact hn δ r e1) (jq t1) (fun z=>lV (q1 z)) h1
end
end Z
namespace Z
open PySem PySem.Spec PyProof.Rows L2
section
variable{X:Cx}{W:Wd}{lk:Bool}{o:Orc}{p cpos pos apos:Pos}{a b:Expr}
theorem J2{ta tb:T}(hc:X.calm=true)(hg:Gl X "min")(hm:X.mg "min"=none)(ha:PE X a (tD X W true fun δ=>ev o δ true ta))(hb:PE X b (tD X W true fun δ=>ev o δ true tb))(hst1:az a=false)(hst2:az b=false) :
 PE X (.Call (.Name "min" p) [a,b] [] cpos) (tD X W lk fun δ=>ev o δ lk (.b2 .min ta tb)):=by
 have hs2:starEach [b] X.env=[(false,eval b X.env)]:=bU hst2
 refine PE.imp (fu (vz hc) hg hm boot_min (bF ha (bF hb cR hs2) (bU hst1)) (by decide) (by decide) (by rw[bU hst1,hs2]) (by rw[hs2];rfl)) fun σ H Q h=>?_
 obtain⟨me,B,δ,S,h⟩:=tD_iff.mp h;simp only[ev]at h
 refine tD.mono (part S h) fun v H1 ⟨r1,e1,S1,s1,t1,_,h1⟩=>?_
 refine tD.mono (part S1 h1) fun v2 H2 ⟨r2,e2,S2,s2,t2,_,h2⟩=>?_
 cases e3:r1.2 with
 | int i=>
   cases e4:r2.2 with
   | int j=>
     rw[e3,e4]at h2;simp only[b2D]at h2;have t1:=t1.mono s2 (aD s2);rw[e3]at t1;rw[e4]at t2;exact⟨i,j,by rw[aJ t1,aJ t2],h2 _ _ (Same.refl _) cL⟩
   | _=>rw[e3,e4]at h2;exact h2.elim
 | lst l=>
   rw[e3]at h2
   revert h2
   cases r2.2<;>intro h2<;>exact h2.elim
 | _=>rw[e3]at h2;revert h2;cases r2.2<;>intro h2<;>exact h2.elim
end
end Z
namespace Z
open PySem PySem.Spec PyProof.Rows L2
noncomputable def vN:Bool:=true
noncomputable def ut:Bool:=false
noncomputable def vP:Bool:=true
noncomputable def sU:Bool:=true
noncomputable def sV:Bool:=false
noncomputable def v6:Bool:=false
noncomputable def z9:Bool:=true
noncomputable def vo:Bool:=false
noncomputable def mZ:Bool:=true
noncomputable def Ag:Bool:=false
noncomputable def z7:Bool:=true
noncomputable def rR:Bool:=false
noncomputable def v4:Bool:=false
noncomputable def lA:Bool:=true
noncomputable def z6:Bool:=true
noncomputable def Ab:Bool:=false
noncomputable def zb:Bool:=false
noncomputable def vm:Bool:=false
noncomputable def u6:Bool:=true
noncomputable def jZ:Bool:=true
section
variable{X:Cx}{W:Wd}{lk:Bool}{o:Orc}{p px cpos pos kp apos tpos:Pos}{a b c tg:Expr}
theorem IW(hft:vN=true){ta tb:T}(hk:W.K=X.K)(hc:X.calm=true)(hg:Gl X "max")(hm:X.mg "max"=none)(ha:PE X a (tD X W true fun δ=>ev o δ true ta))(hb:PE X b (tD X W true fun δ=>ev o δ true tb))(hst:az a=false) :
 PE X (.Call (.Name "max" p) [a] [⟨some "default",b,kp⟩] cpos) (tD X W lk fun δ=>ev o δ lk (.b2 .maxd ta tb)):=HN hk hc hg hm ha hb hst
theorem Hs(hft:ut=true){ta tb:T}(hk:W.K=X.K)(hc:X.calm=true)(hg:Gl X "min")(hm:X.mg "min"=none)(ha:PE X a (tD X W true fun δ=>ev o δ true ta))(hb:PE X b (tD X W true fun δ=>ev o δ true tb))(hst:az a=false) :
 PE X (.Call (.Name "min" p) [a] [⟨some "default",b,kp⟩] cpos) (tD X W lk fun δ=>ev o δ lk (.b2 .mind ta tb)):=absurd hft (by decide)
theorem Hg(hft:vP=true){ta tb:T}(hc:X.calm=true)(hg:Gl X "max")(hm:X.mg "max"=none)(ha:PE X a (tD X W true fun δ=>ev o δ true ta))(hb:PE X b (tD X W true fun δ=>ev o δ true tb))(hst1:az a=false)(hst2:az b=false) :
 PE X (.Call (.Name "max" p) [a,b] [] cpos) (tD X W lk fun δ=>ev o δ lk (.b2 .max ta tb)):=JN hc hg hm ha hb hst1 hst2
theorem Gh(hft:sU=true){ta tb:T}(hc:X.calm=true)(hg:Gl X "min")(hm:X.mg "min"=none)(ha:PE X a (tD X W true fun δ=>ev o δ true ta))(hb:PE X b (tD X W true fun δ=>ev o δ true tb))(hst1:az a=false)(hst2:az b=false) :
 PE X (.Call (.Name "min" p) [a,b] [] cpos) (tD X W lk fun δ=>ev o δ lk (.b2 .min ta tb)):=J2 hc hg hm ha hb hst1 hst2
theorem JL(hft:sV=true){e1 e2:Expr}{t1 t2:T}(hgl:Gl X "range")(hm:X.mg "range"=none)(h1:PE X e1 (tD X W true fun δ=>ev o δ true t1))(h2:PE X e2 (tD X W true fun δ=>ev o δ true t2))(hst1:az e1=false)(hst2:az e2=false) :
 ∃wi,PI X tg (.Call (.Name "range" p) [e1,e2] [] cpos) wi/\WalkL X W o lk (.rng2 t1 t2) wi:=absurd hft (by decide)
theorem Hr(hft:v6=true){e1 e2 e3:Expr}{t1 t2 t3:T}(hgl:Gl X "range")(hm:X.mg "range"=none)(h1:PE X e1 (tD X W true fun δ=>ev o δ true t1))(h2:PE X e2 (tD X W true fun δ=>ev o δ true t2))(h3:PE X e3 (tD X W true fun δ=>ev o δ true t3))(hst1:az e1=false)(hst2:az e2=false)(hst3:az e3=false) :
 ∃wi,PI X tg (.Call (.Name "range" p) [e1,e2,e3] [] cpos) wi/\WalkL X W o lk (.rng3 t1 t2 t3) wi:=absurd hft (by decide)
theorem M5(hft:z9=true){es:List Expr}{x1:Nat}{e1 e2:Expr}{t1 t2:T}(hk:W.K=X.K)(hgl:Gl X "zip")(hm:X.mg "zip"=none)(h1:PE X e1 (tD X W lk fun δ=>ev o δ lk t1))(h2:PE X e2 (tD X W lk fun δ=>ev o δ lk t2))(hst1:az e1=false)(hst2:az e2=false) :
 ∃wi,PI X (.Tuple es x1 tpos) (.Call (.Name "zip" p) [e1,e2] [] cpos) wi/\WalkL X W o lk (.zip t1 t2) wi:=Mj hk hgl hm h1 h2 hst1 hst2
theorem FZ(hft:vo=true){es:List Expr}{x1:Nat}{e1:Expr}{t:T}(hk:W.K=X.K)(hgl:Gl X "enumerate")(hm:X.mg "enumerate"=none)(h1:PE X e1 (tD X W lk fun δ=>ev o δ lk t))(hst:az e1=false):∃wi,PI X (.Tuple es x1 tpos) (.Call (.Name "enumerate" p) [e1] [] cpos) wi/\WalkL X W o lk (.enum t) wi:=absurd hft (by decide)
theorem Iw(hft:mZ=true){x:Str}{ad:Addr}{ks:List DK}{vs:List D}{ti:T}(hk:W.K=X.K)(hd:KDct X.prog X.w W ad ks vs)(hg:Gl X x)(hm:X.mg x=some (.ref ad))(hdb:(x==("__debug__":Str))=false)(hi:PE X b (tD X W true fun δ=>ev o δ true ti))(hs:NoSl b) :
 PE X (.Subscript (.Name x px) b pos) (tD X W lk fun δ=>ev o δ lk (.kidx ks vs ti)):=Jx hk hd hg hm hdb hi hs
theorem f_list(hft:rR=true)(hk:W.K=X.K)(hc:X.calm=true):∃r,CallR X (.type "list") r/\Sem1 W r (b1D .list):=absurd hft (by decide)
theorem Hd(hft:v4=true)(hk:W.K=X.K)(hc:X.calm=true):∃r,CallR X (.type "dict") r/\Sem1 W r (b1D .dict):=absurd hft (by decide)
theorem My(hft:z6=true)(hk:W.K=X.K)(hc:X.calm=true):∃r,CallR X (.builtin "all") r/\Sem1 W r (b1D .all):=⟨_,uz hc,Dq hk⟩
theorem Mi(hft:Ag=true)(hk:W.K=X.K)(hc:X.calm=true):∃r,CallR X (.builtin "any") r/\Sem1 W r (b1D .any):=absurd hft (by decide)
theorem Ku(hft:z7=true)(hk:W.K=X.K)(hc:X.calm=true):∃r,CallR X (.builtin "sum") r/\Sem1 W r (b1D .sum):=⟨_,vX hc,Bo hk⟩
theorem Mu(hft:Ab=true)(hk:W.K=X.K)(hc:X.calm=true):∃r,CallR X (.type "str") r/\Sem1 W r (b1D .str):=absurd hft (by decide)
theorem f_int(hft:zb=true)(hk:W.K=X.K)(hc:X.calm=true):∃r,CallR X (.type "int") r/\Sem1 W r (b1D .int):=absurd hft (by decide)
theorem Hc(hft:vm=true)(hk:W.K=X.K)(hc:X.calm=true):∃r,CallR X (.builtin "max") r/\Sem1 W r (b1D .max):=absurd hft (by decide)
theorem wW(hft:lA=true)(hk:W.K=X.K)(hc:X.calm=true):∃r,CallR X (.builtin "sorted") r/\Sem1 W r (b1D .sorted):=⟨_,CallR.or (jY hc) (kJ hc),nO hk⟩
theorem J5(hft:u6=true){ta:T}(hk:W.K=X.K)(hc:X.calm=true)(hg:Gl X "sorted")(hm:X.mg "sorted"=none)(hg2:Gl X "set")(hm2:X.mg "set"=none)(ha:PE X a (tD X W true fun δ=>ev o δ true ta))(hst:az a=false):PE X (.Call (.Name "sorted" p) [.Call (.Name "set" px) [a] [] pos] [] cpos) (tD X W lk fun δ=>(ev o δ true ta).bind fun x=>b1D .sortedSet x.2):=Gr hk hc hg hm hg2 hm2 ha hst
theorem Jp(hft:mZ=true)(neg:Bool){x:Str}{ad:Addr}{ks:List DK}{vs:List D}{ti:T}(hk:W.K=X.K)(hd:KDct X.prog X.w W ad ks vs)(hg:Gl X x)(hm:X.mg x=some (.ref ad))(hdb:(x==("__debug__":Str))=false)(hi:PE X a (tD X W true fun δ=>ev o δ true ti))(hb:behindInMarks (if neg then .NotIn else .In) (.Name x px)=false):(∀lk,PE X (.Compare a [if neg then .NotIn else .In] [.Name x px] pos) (tD X W lk fun δ=>ev o δ lk (.kin ks neg ti)))/\PT X (.Compare a [if neg then .NotIn else .In] [.Name x px] pos) (tT X W fun δ=>ev o δ true (.kin ks neg ti)):=Ke neg hk hd hg hm hdb hi hb
theorem xF(hft:jZ=true){i:Nat}{x:Str}{e:Expr}{te:T}(hv:PE X (.Name x p) (tVar i))(he:PE X e (tD X W false fun δ=>ev o δ false te))(hst:az e=false)(hline:(apos.endLine==cpos.line)=true):PS X (.Expr (.Call (.Attribute (.Name x p) "extend" apos) [e] [] cpos) pos) (tS X W (evS o (.extend i te))):=v5 hv he hst hline
end
end Z
namespace Z
open PySem PySem.Spec PyProof.Rows L2
inductive Gk where
 | fn (i np:Nat)
 | cls (c:Nat)
 | ocl (c:Nat)
 | val (d:D)
 | dct (ks:List DK) (vs:List D)
 | mark (l:List Nat)
 | dfl (x:Str) (v:Int)          -- "!d": the last parameter of x is v where it is left out
 | names (l:List (List Nat))      -- "!f": attributes,"!m": methods
structure Tc where
 N:List Str
 sc:Scope
 gl:List (Str×Gk)
noncomputable def bJ:List Str->Str->Option Nat
 | [],_=>none
 | y::l,x=>if y=x then some 0 else(bJ l x).map (·+1)
theorem bI:∀{N:List Str} {x:Str} {i:Nat},bJ N x=some i->N[i]?=some x
 | [],_,_,h=>by simp[bJ]at h
 | y::l,x,i,h=>by
   simp only[bJ]at h;split at h
   ·rename_i e
    cases h;simp[e]
   ·cases e:bJ l x with
    | none=>rw[e]at h;cases h
    | some j=>
      rw[e]at h;cases h;simpa using bI e
noncomputable def ixs(N:List Str):List Str->Option (List Nat)
 | []=>some []
 | x::l=>(bJ N x).bind fun i=>(ixs N l).map fun r=>i::r
theorem vA{N:List Str}:∀{l:List Str} {r:List Nat} {j k:Nat},ixs N l=some r->r[j]?=some k->∃x,l[j]?=some x/\N[k]?=some x
 | [],r,j,k,h,e=>by
   simp only[ixs,Option.some.injEq]at h;subst h;simp at e
 | x::l,r,j,k,h,e=>by
   simp only[ixs]at h
   cases e1:bJ N x with
   | none=>rw[e1]at h;cases h
   | some i=>
     cases e2:ixs N l with
     | none=>simp[e1,e2]at h
     | some r'=>
       simp[e1,e2]at h;subst h
       cases j with
       | zero=>simp at e;subst e;exact⟨x,rfl,bI e1⟩
       | succ j=>
         obtain⟨y,h1,h2⟩:=vA e2 (by simpa using e);exact⟨y,by simpa using h1,h2⟩
theorem tQ{N:List Str}:∀{l:List Str} {r:List Nat},ixs N l=some r->r.length=l.length
 | [],r,h=>by simp only[ixs,Option.some.injEq]at h;subst h;rfl
 | x::l,r,h=>by
   simp only[ixs]at h
   cases e1:bJ N x with
   | none=>rw[e1]at h;cases h
   | some i=>
     cases e2:ixs N l with
     | none=>simp[e1,e2]at h
     | some r'=>simp[e1,e2]at h;subst h;simp[tQ e2]
noncomputable def visB(sc:Scope)(x:Str):Bool:=(match sc.names.lookup x with | some .local=>true | some .cell=>true | some .free=>true | _=>false)&&!(x==("__debug__":Str))&&!(x==("__classdict__":Str))
noncomputable def locB(sc:Scope)(x:Str):Bool:=match sc.names.lookup x with | some .local=>true | some .cell=>true | _=>false
noncomputable def glB(sc:Scope)(x:Str):Bool:=decide (sc.names.lookup x=some .globalImplicit)
noncomputable def trOp:Operator->Option O2
 | .Add=>some .add
 | .Sub=>some .sub
 | .Mult=>some .mul
 | .FloorDiv=>some .fdiv
 | .Mod=>some .mod
 | .Pow=>some .pow
 | _=>none
noncomputable def ww:CmpOp->Option O2
 | .Eq=>some .eq
 | .NotEq=>some .ne
 | .Lt=>some .lt
 | .LtE=>some .le
 | .Gt=>some .gt
 | .GtE=>some .ge
 | .Is=>some .is
 | .IsNot=>some .isnot
 | .In=>some .in
 | .NotIn=>some .notin
noncomputable def jB:Const->Option D
 | .none=>some .non
 | .bool b=>some (.bl b)
 | .int i=>some (.int i)
 | .str s=>if s.length<=1000000 then some (.str s.cps.toList)else none
 | _=>none
noncomputable def trTy(x:Str):Option Ty :=
 if x="int" then some .int else if x="bool" then some .bool else if x="str" then some .str else if x="tuple" then some .tup else if x="list" then some .lst else if x="dict" then some .dct else none
noncomputable def trL(f:Expr->Option T):List Expr->Option TL
 | []=>some .nil
 | e::es=>(f e).bind fun t=>(trL f es).map fun l=>.cons t l
noncomputable def trB(f:Expr->Option T)(k:T->T->T):List Expr->Option T
 | []=>none
 | [e]=>f e
 | e::es=>(f e).bind fun t=>(trB f k es).map fun u=>k t u
noncomputable def oh(f:Expr->Option T):Option Expr->Option T
 | none=>some (.cst .non)
 | some e=>(f e).bind fun t=>match t with
   | .cst .non=>none
   | t=>some t
noncomputable def isSlice:Expr->Bool
 | .Slice _ _ _ _=>true
 | _=>false
noncomputable def isSet:Expr->Bool
 | .Set ..=>true
 | _=>false
noncomputable def fn1(x:Str):Option B1 :=
 if x="abs" then some .abs else if x="len" then some .len else if x="tuple" then some .tuple else if x="list"/\rR=true then some .list else if x="dict"/\v4=true then some .dict else
 if x="all"/\z6=true then some .all else if x="any"/\Ag=true then some .any else if x="sum"/\z7=true then some .sum else if x="sorted"/\lA=true then some .sorted else if x="str"/\Ab=true then some .str else if x="int"/\zb=true then some .int  else none
noncomputable def fn1x(x:Str):Option B1:=match fn1 x with
 | some b=>some b
 | none=>if x="max"/\vm=true then some .max else none
noncomputable def trSS(tc:Tc)(f:Expr->Option T)(x:Str)(a:Expr):Option T:=match a with
 | .Call (.Name y _) [b] [] _=>if x="sorted"/\u6=true/\y="set"/\glB tc.sc "set"=true/\(tc.gl.lookup ("set":Str)).isNone=true/\az b=false then(f b).map fun t=>.b1 .sortedSet t else none
 | _=>none
noncomputable def uY(tc:Tc)(f:Expr->Option T)(x:Str)(args:List Expr):Option T :=
 if glB tc.sc x&&!(x==("__debug__":Str))&&!(args.any az)then(match tc.gl.lookup x with
  | some (.fn i np)=>if args.length=np/\args≠[]then(trL f args).map fun l=>.call i l else if args.length+1=np/\args≠[]then(match tc.gl.lookup ("!d":Str)with
    | some (.dfl y v)=>if y=x then(trL f args).map fun l=>.call i (qR l (.cst (.int v)))else none
    | _=>none)else none
  | some _=>none
  | none=>match args with
    | [a]=>(match trSS tc f x a with
      | some t=>some t
      | none=>(fn1x x).bind fun b=>(f a).map fun t=>.b1 b t)
    | [a,b]=>if x="max"/\vP=true then(f a).bind fun t=>(f b).map fun u=>.b2 .max t u else if x="min"/\sU=true then(f a).bind fun t=>(f b).map fun u=>.b2 .min t u else(match b with
      | .Name y _=>if x="isinstance"/\glB tc.sc y=true/\(tc.gl.lookup y).isNone=true then(if y="ValueError" then none else(f a).bind fun t=>(trTy y).map fun ty=>.isin t ty)else
        none
      | _=>none)
    | _=>none)else none
noncomputable def uy(tc:Tc)(f:Expr->Option T)(x:Str)(a b:Expr):Option T:=if x="max"/\vN=true/\glB tc.sc "max"=true/\(tc.gl.lookup ("max":Str)).isNone=true/\az a=false then(f a).bind fun t=>(f b).map fun u=>.b2 .maxd t u else
 if x="min"/\ut=true/\glB tc.sc "min"=true/\(tc.gl.lookup ("min":Str)).isNone=true/\az a=false then(f a).bind fun t=>(f b).map fun u=>.b2 .mind t u else none
noncomputable def o9(tc:Tc)(e:Expr):Option (List DK×List D):=match e with
 | .Name x _=>if mZ&&glB tc.sc x&&!(x==("__debug__":Str))then(match tc.gl.lookup x with | some (.dct ks vs)=>some (ks,vs) | _=>none)else none
 | _=>none
noncomputable def xq(tc:Tc)(f:Expr->Option T)(op:CmpOp)(a b:Expr):Option T:=match o9 tc b with
 | some q=>(match op with
   | .In=>(f a).map fun t=>.kin q.1 false t
   | .NotIn=>(f a).map fun t=>.kin q.1 true t
   | _=>none)
 | none=>none
noncomputable def iV:Expr->Bool
 | .Tuple ..=>true
 | _=>false
noncomputable def uw(f:Expr->Option T)(a:Expr)(name:Str)(args:List Expr)(ok:Bool):Option T:=none
noncomputable def namesOf(tc:Tc)(k:Str):List (List Nat):=match tc.gl.lookup k with
 | some (.names l)=>l
 | _=>[]
noncomputable def Bp(f:Expr->Option T)(a:Expr)(name:Str)(args:List Expr)(ok:Bool):Option T:=none
noncomputable def trI(tc:Tc)(f:Expr->Option T)(tp:Bool)(e:Expr):Option TI:=match e with
 | .Call (.Name x _) [a] [] _=>if x="range" then(if glB tc.sc "range"&&(tc.gl.lookup ("range":Str)).isNone&&!az a then(f a).map .rng1 else none)else
   if x="enumerate" then(if vo&&tp&&glB tc.sc "enumerate"&&(tc.gl.lookup ("enumerate":Str)).isNone&&!az a then(f a).map .enum else none)else(f e).map .val
 | .Call (.Name x _) [a,b] [] _=>if x="range" then(if sV&&glB tc.sc "range"&&(tc.gl.lookup ("range":Str)).isNone&&!az a&&!az b then(f a).bind fun ta=>(f b).map fun tb=>.rng2 ta tb else none)else
   if x="zip" then(if z9&&tp&&glB tc.sc "zip"&&(tc.gl.lookup ("zip":Str)).isNone&&!az a&&!az b then(f a).bind fun ta=>(f b).map fun tb=>.zip ta tb else none)else(f e).map .val
 | .Call (.Name x _) [a,b,c] [] _=>if x="range" then(if v6&&glB tc.sc "range"&&(tc.gl.lookup ("range":Str)).isNone&&!az a&&!az b&&!az c then(f a).bind fun ta=>(f b).bind fun tb=>(f c).map fun td=>.rng3 ta tb td else none)else(f e).map .val
 | e=>if isSet e then none else(f e).map .val
noncomputable def j4:List Expr->Option (List Str)
 | []=>some []
 | .Name x _::es=>(j4 es).map fun l=>x::l
 | _=>none
noncomputable def o7:Expr->Option (List Str×Bool)
 | .Name x _=>some ([x],false)
 | .Tuple es _ _=>(j4 es).map fun l=>(l,true)
 | _=>none
noncomputable def frees(scope:Scope):List Str:=(scope.names.filter fun y=>y.2==.free).map (·.1)
noncomputable def fj(scope sc:Scope):Scope:={ scope with names:=scope.names.map fun(n,k)=>if(k==.free&&sc.kind==.function&&sc.names.lookup n==some .cell)then(n,.cell)else(n,k) }
noncomputable def blkB(scope:Scope):Bool:=decide (scope.kind=.function)&&scope.names.all fun y=>!(y.2==.cell)&&(!(y.2==.local)||decide (scope.names.lookup y.1=some .local))&&(!(y.2==.free)||decide (scope.names.lookup y.1=some .free))
noncomputable def Fz(tc:Tc)(scope:Scope)(tn cn:List Str):Bool:=blkB scope&&decide (tn++cn).Nodup&&(tn.all fun x=>decide (scope.names.lookup x=some .local)) &&
 cn.all fun x=>decide (tc.sc.names.lookup x=some .cell)||decide (tc.sc.names.lookup x=some .free)
noncomputable def tH(f:Expr->Option T):List Expr->Option T
 | []=>some (.cst (.bl true))
 | [c]=>f c
 | _=>none
noncomputable def pB(tc:Tc)(f:Tc->Expr->Option T)(elt tg iter:Expr)(ifs:List Expr)(scope:Scope):Option T :=
 (o7 tg).bind fun q=>if Fz tc scope q.1 (frees scope)then
  (ixs tc.N (frees scope)).bind fun caps=>(trI tc (f tc) (iV tg) iter).bind fun it=>(tH (f ⟨q.1++frees scope,fj scope tc.sc,tc.gl⟩) ifs).bind fun c=>
   (f ⟨q.1++frees scope,fj scope tc.sc,tc.gl⟩ elt).map fun e=>.comp caps q.1.length q.2 it c e else none
noncomputable def trJ(f:Expr->Option T)(vs:List Expr):Option T:=none
noncomputable def trEb(f:Tc->Expr->Option T)(tc:Tc)(e:Expr):Option T:=match e with
 | .Name x _=>if visB tc.sc x then(bJ tc.N x).map .var else if glB tc.sc x&&!(x==("__debug__":Str))then(match tc.gl.lookup x with | some (.val d)=>some (.cst d) | _=>none)else none
 | .IfExp c a b _=>(f tc c).bind fun tc'=>(f tc a).bind fun ta=>(f tc b).map fun tb=>.ite tc' ta tb
 | .Constant c _ _=>(jB c).map .cst
 | .BinOp a op b _=>(trOp op).bind fun p=>(f tc a).bind fun ta=>(f tc b).map fun tb=>.op2 p ta tb
 | .UnaryOp .Not a _=>(f tc a).map .not
 | .UnaryOp .USub a _=>(f tc a).map .neg
 | .Compare a [op] [b] _=>if behindInMarks op b then none else(match xq tc (f tc) op a b with
   | some t=>some t
   | none=>(ww op).bind fun p=>(f tc a).bind fun ta=>(f tc b).map fun tb=>.op2 p ta tb)
 | .BoolOp .And vs _=>trB (f tc) .and vs
 | .BoolOp .Or vs _=>trB (f tc) .or vs
 | .Tuple es _ _=>if es.any az then none else(trL (f tc) es).map .tup
 | .List es _=>if es.any az then none else(trL (f tc) es).map .lst
 | .Subscript a (.Slice lo hi none _) _=>(f tc a).bind fun t=>(oh (f tc) lo).bind fun l=>(oh (f tc) hi).map fun h=>.slc t l h
 | .Subscript a b _=>if isSlice b then none else(match o9 tc a with
   | some q=>(f tc b).map fun i=>.kidx q.1 q.2 i
   | none=>(f tc a).bind fun t=>(f tc b).map fun i=>.idx t i)
 | .Call (.Name x _) args [] _=>uY tc (f tc) x args
 | .Call (.Name x _) [a] [⟨some kw,b,_⟩] _=>if kw="default" then uy tc (f tc) x a b else none
 | .Call (.Attribute a name apos) args [] cpos=>if(namesOf tc "!m").contains name.cps.toList then Bp (f tc) a name args (apos.endLine==cpos.line)else uw (f tc) a name args (apos.endLine==cpos.line)
 | .Attribute a name _=>none
 | .JoinedStr vs _=>trJ (f tc) vs
 | .ListComp elt [g] scope _=>if g.is_async=0 then pB tc f elt g.target g.iter g.ifs scope else none
 | _=>none
noncomputable def trE:Nat->Tc->Expr->Option T
 | 0,_,_=>none
 | k+1,tc,e=>trEb (fun tc' e'=>trE k tc' e') tc e
theorem bc{k:Nat}{tc:Tc}{e:Expr}:trE (k+1) tc e=trEb (trE k) tc e:=rfl
theorem yr{k:Nat}{tc:Tc}{elt:Expr}{g:Comprehension}{scope:Scope}{pos:Pos}:trE (k+1) tc (.ListComp elt [g] scope pos)=if g.is_async=0 then pB tc (fun tc' e=>trE k tc' e) elt g.target g.iter g.ifs scope else none:=rfl
theorem ye{k:Nat}{tc:Tc}{x:Str}{pos:Pos}:trE (k+1) tc (.Name x pos)=if visB tc.sc x then(bJ tc.N x).map .var else if glB tc.sc x&&!(x==("__debug__":Str))then(match tc.gl.lookup x with | some (.val d)=>some (.cst d) | _=>none)else none:=rfl
noncomputable def cj:List Str:=["abs","len","isinstance","int","bool","str","tuple","list","dict","all","any","sorted","range","max","zip","enumerate","sum","min","ValueError","set"]
noncomputable def yz(P:Program)(w:World)(K:PySem.W.Frag)(mg:Str->Option Value)(base:Heap)(W:Wd)(gl:List (Str×Gk))(o:Orc)(k:Nat):Prop:=True
structure Fits(X:Cx)(W:Wd)(tc:Tc)(o:Orc)(k:Nat):Prop where
 N:X.N=tc.N
 nd:tc.N.Nodup
 sc:X.env.scope=tc.sc
 K:W.K=X.K
 room:Room k X.A
 calm:X.calm=true
 gf:∀x i np,tc.gl.lookup x=some (.fn i np)->∃f fd ps,X.mg x=some (.ref f)/\PySem.W.keepIn X.K (.ref f)=true/\Binds X.K fd ps []/\FnOk X.prog X.w X.K X.mg X.base CX0 k f fd ps (spFn W (o.fn i) np)
 gb:∀x,x∈cj->tc.gl.lookup x=none->X.mg x=none
 gv:∀x d,tc.gl.lookup x=some (.val d)->∃u v,X.mg x=some u/\RelV v u/\∀G,Rep W G d v
 gd:∀x ks vs,tc.gl.lookup x=some (.dct ks vs)->∃ad,X.mg x=some (.ref ad)/\KDct X.prog X.w W ad ks vs
 xf:True
 gdf:∀x v i np,tc.gl.lookup ("!d":Str)=some (.dfl x v)->tc.gl.lookup x=some (.fn i np)->∃f fd ps vs,X.mg x=some (.ref f)/\PySem.W.keepIn X.K (.ref f)=true/\Binds X.K fd ps vs/\Vals [.int v] vs/\FnOk X.prog X.w X.K X.mg X.base CX0 k f fd ps (spFn W (o.fn i) np)
 ob:yz X.prog X.w X.K X.mg X.base W tc.gl o k
theorem Fits.comp{X:Cx}{W:Wd}{tc:Tc}{o:Orc}{k:Nat}(F:Fits X W tc o k){scope:Scope}{N:List Str}(hN:N.Nodup)(fp:List Addr)(pins:List (Addr×Obj))(s:Shared)(H:Hp):Fits (cxC X scope N fp pins s H) W ⟨N,fj scope tc.sc,tc.gl⟩ o k where
 N:=rfl
 nd:=hN
 sc:=by
  show relabel scope X.env=_;rw[<-F.sc]
  rfl
 K:=F.K
 room:=F.room
 calm:=F.calm
 gf:=F.gf
 gb:=F.gb
 gv:=F.gv
 gd:=F.gd
 xf:=F.xf
 gdf:=F.gdf
 ob:=F.ob
theorem nU{f:Expr->Option T}{o:Orc}:∀{es:List Expr} {l:TL},trL f es=some l->∀δ r,evL o δ l=.ok r->r.2.length=es.length
 | [],l,h,δ,r,e=>by
   simp only[trL,Option.some.injEq]at h;subst h;simp only[evL]at e;cases e;rfl
 | x::es,l,h,δ,r,e=>by
   simp only[trL]at h
   cases e1:f x with
   | none=>rw[e1]at h;cases h
   | some t=>
     rw[e1]at h
     cases e2:trL f es with
     | none=>simp[e2]at h
     | some l'=>
       simp[e2]at h;subst h;simp only[evL]at e
       cases e3:ev o δ (fX δ t) t with
       | ok y=>
         rw[e3]at e
         cases e4:evL o δ l' with
         | ok z=>
           simp only[e4,R.bind]at e;cases e;simp[nU e2 δ z e4]
         | exc c=>simp only[e4,R.bind]at e;cases e
         | stuck=>simp only[e4,R.bind]at e;cases e
       | exc c=>rw[e3]at e;cases e
       | stuck=>rw[e3]at e;cases e
theorem qy{es:List Expr}{env:Env}{pos:Pos}(h:es.any az=false):(backTo pos (starEach es env)).any (·.1)=false:=by
 induction es with
 | nil=>rfl
 | cons e es ih=>
   simp only[List.any_cons,Bool.or_eq_false_iff]at h;rw[bU h.1];show(false||(backTo pos (starEach es env)).any (·.1))=false;rw[ih h.2];rfl
section
variable{X:Cx}{W:Wd}{tc:Tc}{o:Orc}{k:Nat}
theorem g8{e:Expr}{t:T}{lk:Bool}{f:Dst->R (Bool×D)}(h:PE X e (tD X W lk f))(hf:∀δ,f δ=ev o δ lk t):PE X e (tD X W lk fun δ=>ev o δ lk t):=by
 have:f=fun δ=>ev o δ lk t:=funext hf
 rw[<-this];exact h
theorem yG{e:Expr}{t:T}{f:Dst->R (Bool×D)}(h:PT X e (tT X W f))(hf:∀δ,f δ=ev o δ true t):PT X e (tT X W fun δ=>ev o δ true t):=by
 have:f=fun δ=>ev o δ true t:=funext hf
 rw[<-this];exact h
theorem jP{x:Str}(F:Fits X W tc o k)(h:visB tc.sc x=true):Vis X.env.scope x/\(x==("__debug__":Str))=false/\(x==("__classdict__":Str))=false:=by
 unfold visB at h;simp only[Bool.and_eq_true,Bool.not_eq_true']at h;refine⟨?_,h.1.2,h.2⟩;rw[F.sc];unfold Vis;have h1:=h.1.1;split at h1
 ·rename_i e;exact .inl e
 ·rename_i e;exact .inr (.inl e)
 ·rename_i e;exact .inr (.inr e)
 ·cases h1
theorem gR{f:Expr->Option T}(hf:∀e t,f e=some t->∀lk,PE X e (tD X W lk fun δ=>ev o δ lk t)):∀{es:List Expr} {l:TL},trL f es=some l->es.any az=false->PA X es (tL X W fun δ=>evL o δ l)
 | [],l,h,_=>by
   simp only[trL,Option.some.injEq]at h;subst h;exact Hj o
 | x::es,l,h,hs=>by
   simp only[trL]at h;simp only[List.any_cons,Bool.or_eq_false_iff]at hs
   cases e1:f x with
   | none=>rw[e1]at h;cases h
   | some t=>
     rw[e1]at h
     cases e2:trL f es with
     | none=>simp[e2]at h
     | some l'=>
       simp[e2]at h;subst h;exact Dh (hf x t e1) (gR hf e2 hs.2) (bU hs.1)
noncomputable def Bl(x:R (Bool×D)):Prop:=∀r,x=.ok r->∃b,r=(false,.bl b)
theorem Fb{b:Bool}:Bl (.ok (false,.bl b)):=fun _ h=>by cases h;exact⟨_,rfl⟩
theorem tV:Bl .stuck:=fun _ h=>nomatch h
theorem GK{x:Option Bool}{f:Bool->Bool}:Bl (.of (x.map fun t=>(false,.bl (f t)))):=by cases x<;>first | exact tV | exact Fb
theorem m6{p:O2}(hp:p=.eq\/p=.ne\/p=.lt\/p=.le\/p=.gt\/p=.ge\/p=.is\/p=.isnot):∀x y r,o2 p x y=.ok r->∃b,r=(false,.bl b):=by
 intro x y;show Bl (o2 p x y);rcases hp with rfl | rfl | rfl | rfl | rfl | rfl | rfl | rfl
 ·exact GK (f:=id)
 ·exact GK (f:=not)
 iterate 4
  ·cases x<;>first | exact tV | (cases y<;>first | exact tV | exact Fb)
 iterate 2
  ·cases y<;>first | exact tV | (cases x<;>first | exact Fb | exact tV)
theorem Gu(F:Fits X W tc o k){a b:Expr}{op:Operator}{p:O2}{ta tb:T}{pos:Pos}(h:trOp op=some p)(ha:PE X a (tD X W true fun δ=>ev o δ true ta))(hb:PE X b (tD X W true fun δ=>ev o δ true tb))(lk:Bool) :
 PE X (.BinOp a op b pos) (tD X W lk fun δ=>ev o δ lk (.op2 p ta tb)):=by
 have fin:∀{r:R2},OpR X (binaryOp op) r->Sem2 W r (o2 p)->PE X (.BinOp a op b pos) (tD X W lk fun δ=>ev o δ lk (.op2 p ta tb)):=fun h1 h2=>g8 (K6 h1 h2 (jH p) ha hb) fun δ=>by simp only[ev]
 cases op<;>simp[trOp]at h<;>subst h
 ·exact fin vI (CJ F.K)
 ·exact fin Ih Fl
 ·exact fin Dd Dj
 ·exact fin Cr Cj
 ·exact fin HW BJ
 ·exact fin wJ wN
theorem Ip(F:Fits X W tc o k){a b:Expr}{op:CmpOp}{p:O2}{ta tb:T}{pos:Pos}(h:ww op=some p)(hm:behindInMarks op b=false)(ha:PE X a (tD X W true fun δ=>ev o δ true ta))(hb:PE X b (tD X W true fun δ=>ev o δ true tb)) :
 (∀lk,PE X (.Compare a [op] [b] pos) (tD X W lk fun δ=>ev o δ lk (.op2 p ta tb)))/\PT X (.Compare a [op] [b] pos) (tT X W fun δ=>ev o δ true (.op2 p ta tb)):=by
 have fin:∀{r:R2},OpR X (compareOp op) r->Sem2 W r (o2 p)->(∀x y r,o2 p x y=.ok r->∃b,r=(false,.bl b)) ->
  (∀lk,PE X (.Compare a [op] [b] pos) (tD X W lk fun δ=>ev o δ lk (.op2 p ta tb)))/\PT X (.Compare a [op] [b] pos) (tT X W fun δ=>ev o δ true (.op2 p ta tb)):=fun h1 h2 h4=>
  ⟨fun lk=>g8 (KZ h1 h2 (jH p) ha hb hm) fun δ=>by simp only[ev],yG (Gs h1 h2 (jH p) h4 ha hb hm) fun δ=>by simp only[ev]⟩
 cases op<;>simp[ww]at h<;>subst h
 ·exact fin (OpR.or Lz (u5 F.K F.room.units)) Gw (m6 (by simp))
 ·exact fin (OpR.or Mq (tU F.K F.room.units)) GJ (m6 (by simp))
 ·exact fin yF GF (m6 (by simp))
 ·exact fin yu Gg (m6 (by simp))
 ·exact fin KH G9 (m6 (by simp))
 ·exact fin Kr Hy (m6 (by simp))
 ·exact fin (OpR.or JW Gi) Gv (m6 (by simp))
 ·exact fin (OpR.or DR Dl) vY (m6 (by simp))
 ·obtain⟨h1,h2⟩:=d_in (pos:=pos) F.K (Cd F.room) ha hb hm
  exact⟨fun lk=>g8 (h1 lk) fun δ=>by simp only[ev],yG h2 fun δ=>by simp only[ev]⟩
 ·obtain⟨h1,h2⟩:=Dv (pos:=pos) F.K (Cd F.room) ha hb hm
  exact⟨fun lk=>g8 (h1 lk) fun δ=>by simp only[ev],yG h2 fun δ=>by simp only[ev]⟩
end
end Z
namespace Z
open PySem PySem.Spec PyProof.Rows L2
end Z
namespace Z
open PySem PySem.Spec PyProof.Rows L2
section
variable{X:Cx}{W:Wd}{tc:Tc}{o:Orc}{k:Nat}
noncomputable def Right(X:Cx)(W:Wd)(o:Orc)(e:Expr)(t:T):Prop:=(∀lk,PE X e (tD X W lk fun δ=>ev o δ lk t))/\PT X e (tT X W fun δ=>ev o δ true t)
theorem z8(δ:Dst)(lk:Bool)(a b:T):((ev o δ true a).bind fun x=>andD x.2 (ev o δ true b))=ev o δ lk (.and a b):=by
 simp only[ev]
 rfl
theorem rF(δ:Dst)(lk:Bool)(a b:T):((ev o δ true a).bind fun x=>orD x.2 (ev o δ true b))=ev o δ lk (.or a b):=by
 simp only[ev]
 rfl
theorem pC{f:Expr->Option T}{pos:Pos}(hf:∀e t,f e=some t->Right X W o e t):∀{vs:List Expr} {t:T},trB f .and vs=some t ->
 (∀lk,PE X (.BoolOp .And vs pos) (tD X W lk fun δ=>ev o δ lk t))/\PW X (.BoolOp .And vs pos) (tT X W fun δ=>ev o δ true t)
 | [],t,h=>by simp[trB]at h
 | [e],t,h=>by
   simp only[trB]at h;exact⟨fun lk=>Hx ((hf e t h).1 lk),zM (hf e t h).2⟩
 | e::e'::es,t,h=>by
   simp only[trB]at h
   cases e1:f e with
   | none=>rw[e1]at h;cases h
   | some u=>
     rw[e1]at h
     cases e2:trB f .and (e'::es)with
     | none=>simp[e2]at h
     | some v=>
       simp[e2]at h;subst h;obtain⟨h1,h2⟩:=pC hf e2
       exact⟨fun lk=>g8 (Lx ((hf e u e1).1 true) (h1 true)) fun δ=>z8 δ lk u v,by
        have:=Gf (hf e u e1).2 h2;rw[show(fun δ=>(ev o δ true u).bind fun x=>andD x.2 (ev o δ true v))=fun δ=>ev o δ true (.and u v)from funext fun δ=>z8 δ true u v]at this
        exact this⟩
theorem v8{f:Expr->Option T}{pos:Pos}(hf:∀e t,f e=some t->Right X W o e t):∀{vs:List Expr} {t:T},trB f .or vs=some t ->
 (∀lk,PE X (.BoolOp .Or vs pos) (tD X W lk fun δ=>ev o δ lk t))/\PW X (.BoolOp .Or vs pos) (tT X W fun δ=>ev o δ true t)
 | [],t,h=>by simp[trB]at h
 | [e],t,h=>by
   simp only[trB]at h;exact⟨fun lk=>Hx ((hf e t h).1 lk),zM (hf e t h).2⟩
 | e::e'::es,t,h=>by
   simp only[trB]at h
   cases e1:f e with
   | none=>rw[e1]at h;cases h
   | some u=>
     rw[e1]at h
     cases e2:trB f .or (e'::es)with
     | none=>simp[e2]at h
     | some v=>
       simp[e2]at h;subst h;obtain⟨h1,h2⟩:=v8 hf e2
       exact⟨fun lk=>g8 (d_or ((hf e u e1).1 true) (h1 true)) fun δ=>rF δ lk u v,by
        have:=Kg (hf e u e1).2 h2;rw[show(fun δ=>(ev o δ true u).bind fun x=>orD x.2 (ev o δ true v))=fun δ=>ev o δ true (.or u v)from funext fun δ=>rF δ true u v]at this
        exact this⟩
theorem aU{e:Expr}{t:T}(h:∀lk,PE X e (tD X W lk fun δ=>ev o δ lk t))(he:∀whole,isTrue e X.env whole=(do let v <-whole;standAt e.pos;holding [v] (truthy v))):Right X W o e t:=⟨h,Gb (h true) he⟩
theorem zZ{f:Expr->Option T}(hf:∀e t,f e=some t->Right X W o e t){e:Option Expr}{t:T}(h:oh f e=some t):IsO t e X W o:=by
 cases e with
 | none=>
   simp only[oh,Option.some.injEq]at h;exact .inl ⟨rfl,h.symm⟩
 | some e=>
   simp only[oh]at h
   cases e1:f e with
   | none=>rw[e1]at h;cases h
   | some u=>
     rw[e1]at h;simp only[Option.bind_some]at h;split at h
     ·cases h
     ·rename_i hne
      cases h;exact .inr ⟨e,rfl,fun z=>hne z,(hf e t e1).1⟩
theorem cI(F:Fits X W tc o k){x:Str}(h:glB tc.sc x=true):Gl X x:=by
 unfold glB at h;have:=of_decide_eq_true h;show X.env.scope.names.lookup x=_;rw[F.sc];exact this
theorem Ez{y:Str}{ty:Ty}(h:trTy y=some ty):∃T,cJ ty=some T/\bootBuiltins y=some (.type T)/\y≠"__name__"/\(y==("__debug__":Str))=false/\y∈cj:=by
 unfold trTy at h;split at h
 ·rename_i e;cases h;subst e;exact⟨"int",rfl,by kernel_rfl,by decide +kernel,by decide +kernel,by decide +kernel⟩
 ·split at h
  ·rename_i e;cases h;subst e;exact⟨"bool",rfl,by kernel_rfl,by decide +kernel,by decide +kernel,by decide +kernel⟩
  ·split at h
   ·rename_i e;cases h;subst e;exact⟨"str",rfl,by kernel_rfl,by decide +kernel,by decide +kernel,by decide +kernel⟩
   ·split at h
    ·rename_i e;cases h;subst e;exact⟨"tuple",rfl,by kernel_rfl,by decide +kernel,by decide +kernel,by decide +kernel⟩
    ·split at h
     ·rename_i e;cases h;subst e;exact⟨"list",rfl,by kernel_rfl,by decide +kernel,by decide +kernel,by decide +kernel⟩
     ·split at h
      ·rename_i e;cases h;subst e;exact⟨"dict",rfl,by kernel_rfl,by decide +kernel,by decide +kernel,by decide +kernel⟩
      ·cases h
set_option maxHeartbeats 1000000 in
theorem JF(F:Fits X W tc o k){x:Str}{b:B1}{a:Expr}{u:T}{p pos:Pos}{lk:Bool}(h:fn1 x=some b)(hg:Gl X x)(e:tc.gl.lookup x=none)(ha:PE X a (tD X W true fun δ=>ev o δ true u))(hst:az a=false) :
 PE X (.Call (.Name x p) [a] [] pos) (tD X W lk fun δ=>ev o δ lk (.b1 b u)):=by
 have fb:∀{id:String} {r:List V->Hp->VK->Prop},CallR X (.builtin id) r->Sem1 W r (b1D b)->bootBuiltins x=some (.builtin id)->x≠"__name__"->(x==("__debug__":Str))=false->x∈cj->PE X (.Call (.Name x p) [a] [] pos) (tD X W lk fun δ=>ev o δ lk (.b1 b u)) :=
  fun h1 h2 h3 h4 h5 h6=>g8 (d_b1 h1 h2 (gM b) hg (F.gb _ h6 e) h3 ha h4 h5 (bU hst)) fun δ=>by simp only[ev]
 have ft:∀{id:String} {r:List V->Hp->VK->Prop},CallR X (.type id) r->Sem1 W r (b1D b)->bootBuiltins x=some (.type id)->x≠"__name__"->(x==("__debug__":Str))=false->x∈cj->PE X (.Call (.Name x p) [a] [] pos) (tD X W lk fun δ=>ev o δ lk (.b1 b u)) :=
  fun h1 h2 h3 h4 h5 h6=>g8 (Lf h1 h2 (gM b) hg (F.gb _ h6 e) h3 ha h4 h5 (bU hst)) fun δ=>by simp only[ev]
 unfold fn1 at h;split at h
 ·rename_i ex;subst ex;cases h
  exact fb wy El PyProof.Rows.boot_abs (by decide +kernel) (by decide +kernel) (by decide +kernel)
 split at h
 ·rename_i ex;subst ex;cases h
  exact fb (CallR.or (CallR.or m8 mq) w6) (Ec F.K) PySem.boot_len (by decide +kernel) (by decide +kernel) (by decide +kernel)
 split at h
 ·rename_i ex;subst ex;cases h
  exact ft jL (sI F.K) (by kernel_rfl) (by decide +kernel) (by decide +kernel) (by decide +kernel)
 split at h
 ·rename_i ex;obtain⟨rfl,hq⟩:=ex;cases h
  obtain⟨r,c1,c2⟩:=f_list (X:=X) (W:=W) hq F.K F.calm;exact ft c1 c2 (by kernel_rfl) (by decide +kernel) (by decide +kernel) (by decide +kernel)
 split at h
 ·rename_i ex;obtain⟨rfl,hq⟩:=ex;cases h
  obtain⟨r,c1,c2⟩:=Hd (X:=X) (W:=W) hq F.K F.calm;exact ft c1 c2 (by kernel_rfl) (by decide +kernel) (by decide +kernel) (by decide +kernel)
 split at h
 ·rename_i ex;obtain⟨rfl,hq⟩:=ex;cases h
  obtain⟨r,c1,c2⟩:=My (X:=X) (W:=W) hq F.K F.calm;exact fb c1 c2 (by kernel_rfl) (by decide +kernel) (by decide +kernel) (by decide +kernel)
 split at h
 ·rename_i ex;obtain⟨rfl,hq⟩:=ex;cases h
  obtain⟨r,c1,c2⟩:=Mi (X:=X) (W:=W) hq F.K F.calm;exact fb c1 c2 (by kernel_rfl) (by decide +kernel) (by decide +kernel) (by decide +kernel)
 split at h
 ·rename_i ex;obtain⟨rfl,hq⟩:=ex;cases h
  obtain⟨r,c1,c2⟩:=Ku (X:=X) (W:=W) hq F.K F.calm;exact fb c1 c2 (by kernel_rfl) (by decide +kernel) (by decide +kernel) (by decide +kernel)
 split at h
 ·rename_i ex;obtain⟨rfl,hq⟩:=ex;cases h
  obtain⟨r,c1,c2⟩:=wW (X:=X) (W:=W) hq F.K F.calm;exact fb c1 c2 PyProof.Rows.boot_sorted (by decide +kernel) (by decide +kernel) (by decide +kernel)
 split at h
 ·rename_i ex;obtain⟨rfl,hq⟩:=ex;cases h
  obtain⟨r,c1,c2⟩:=Mu (X:=X) (W:=W) hq F.K F.calm;exact ft c1 c2 (by kernel_rfl) (by decide +kernel) (by decide +kernel) (by decide +kernel)
 split at h
 ·rename_i ex;obtain⟨rfl,hq⟩:=ex;cases h
  obtain⟨r,c1,c2⟩:=f_int (X:=X) (W:=W) hq F.K F.calm;exact ft c1 c2 (by kernel_rfl) (by decide +kernel) (by decide +kernel) (by decide +kernel)
 ·cases h
theorem Ci(F:Fits X W tc o k){x:Str}{b:B1}{a:Expr}{u:T}{p pos:Pos}{lk:Bool}(h:fn1x x=some b)(hg:Gl X x)(e:tc.gl.lookup x=none)(ha:PE X a (tD X W true fun δ=>ev o δ true u))(hst:az a=false) :
 PE X (.Call (.Name x p) [a] [] pos) (tD X W lk fun δ=>ev o δ lk (.b1 b u)):=by
 unfold fn1x at h;split at h
 ·rename_i b' e0
  cases h;exact JF F e0 hg e ha hst
 ·split at h
  ·rename_i ex
   obtain⟨rfl,hq⟩:=ex;cases h;obtain⟨r,c1,c2⟩:=Hc (X:=X) (W:=W) hq F.K F.calm
   exact g8 (d_b1 c1 c2 (gM _) hg (F.gb _ (by decide +kernel) e) (by kernel_rfl) ha (by decide +kernel) (by decide +kernel) (bU hst)) fun δ=>by simp only[ev]
  ·cases h
theorem Hq(F:Fits X W tc o k){f:Expr->Option T}(hf:∀e t,f e=some t->Right X W o e t){a:Expr}{name:Str}{args:List Expr}{ok:Bool}{t:T}{apos cpos:Pos}(h:Bp f a name args ok=some t)(hok:ok=(apos.endLine==cpos.line))(lk:Bool) :
 PE X (.Call (.Attribute a name apos) args [] cpos) (tD X W lk fun δ=>ev o δ lk t):=by unfold Bp at h;cases h
theorem Bv(F:Fits X W tc o k){f:Expr->Option T}(hf:∀e t,f e=some t->∀lk,PE X e (tD X W lk fun δ=>ev o δ lk t)){x:Str}{a:Expr}{t:T}{p pos:Pos}(h:trSS tc f x a=some t)(hg:Gl X x)(e:tc.gl.lookup x=none)(lk:Bool):PE X (.Call (.Name x p) [a] [] pos) (tD X W lk fun δ=>ev o δ lk t):=by
 unfold trSS at h;split at h
 ·split at h
  ·rename_i hc
   obtain⟨rfl,hq,rfl,h1,h2,h3⟩:=hc;obtain⟨u,e1,rfl⟩:=Option.map_eq_some_iff.mp h
   exact g8 (J5 hq F.K F.calm hg (F.gb _ (by decide +kernel) e) (cI F h1) (F.gb _ (by decide +kernel) (by simpa using h2)) (hf _ u e1 true) h3) fun δ=>by simp only[ev]
  ·cases h
 ·cases h
theorem HR(F:Fits X W tc o k){f:Expr->Option T}(hf:∀e t,f e=some t->Right X W o e t){op:CmpOp}{a b:Expr}{t:T}{pos:Pos}(h:xq tc f op a b=some t)(hm:behindInMarks op b=false):Right X W o (.Compare a [op] [b] pos) t:=by
 unfold xq at h
 cases e0:o9 tc b with
 | none=>rw[e0]at h;cases h
 | some q=>
 rw[e0]at h
 cases b<;>first | exact nope e0 | simp only[o9]at e0
 split at e0
 ·rename_i hc
  simp only[Bool.and_eq_true,Bool.not_eq_true']at hc;split at e0
  ·rename_i ks vs el
   cases e0;obtain⟨ad,m1,m2⟩:=F.gd _ ks vs el
   cases op<;>first | exact nope h | skip
   ·obtain⟨u,e1,rfl⟩:=Option.map_eq_some_iff.mp h
    exact Jp hc.1.1 false F.K m2 (cI F hc.1.2) m1 hc.2 ((hf a u e1).1 true) hm
   ·obtain⟨u,e1,rfl⟩:=Option.map_eq_some_iff.mp h
    exact Jp hc.1.1 true F.K m2 (cI F hc.1.2) m1 hc.2 ((hf a u e1).1 true) hm
  ·cases e0
 ·cases e0
theorem DG(F:Fits X W tc o k){f:Expr->Option T}(hf:∀e t,f e=some t->Right X W o e t){x:Str}{args:List Expr}{t:T}{p pos:Pos}(h:uY tc f x args=some t)(lk:Bool) :
 PE X (.Call (.Name x p) args [] pos) (tD X W lk fun δ=>ev o δ lk t):=by
 unfold uY at h;split at h
 ·rename_i hc
  simp only[Bool.and_eq_true,Bool.not_eq_true']at hc;obtain⟨⟨hg,hdb⟩,hst⟩:=hc;have hg:=cI F hg;split at h
  ·rename_i i np e
   split at h
   ·rename_i hn
    cases e1:trL f args with
    | none=>rw[e1]at h;cases h
    | some l=>
      rw[e1]at h;cases h;obtain⟨fa,fd,ps,h1,h2,h3,h4⟩:=F.gf x i np e
      cases args with
      | nil=>exact absurd rfl hn.2
      | cons a as=>
        have hst':=hst;simp only[List.any_cons,Bool.or_eq_false_iff]at hst';exact Im (fun δ r e=>by rw[nU e1 δ r e];exact hn.1) h4 F.room hg h1 h2 h3 (gR (fun e t h=>(hf e t h).1) e1 hst) hdb (bU hst'.1) (qy hst'.2)
   ·split at h
    ·rename_i hn
     split at h
     ·rename_i y v ed
      split at h
      ·rename_i ey
       subst ey
       cases e1:trL f args with
       | none=>rw[e1]at h;cases h
       | some l=>
         rw[e1]at h;cases h;obtain⟨fa,fd,ps,vs,h1,h2,h3,h5,h4⟩:=F.gdf y v i np ed e
         cases args with
         | nil=>exact absurd rfl hn.2
         | cons a as=>
           have hst':=hst;simp only[List.any_cons,Bool.or_eq_false_iff]at hst';exact Bx (fun δ r e=>by rw[nU e1 δ r e];exact hn.1) h4 F.room hg h1 h2 h3 h5 (gR (fun e t h=>(hf e t h).1) e1 hst) hdb (bU hst'.1) (qy hst'.2)
      ·cases h
     ·cases h
    ·cases h
  ·cases h
  ·rename_i e
   split at h
   ·rename_i a
    simp only[List.any_cons,List.any_nil,Bool.or_false]at hst
    cases e00:trSS tc f x a with
    | some t'=>
      rw[e00]at h;cases h;exact Bv F (fun e t h=>(hf e t h).1) e00 hg e lk
    | none=>
    rw[e00]at h;dsimp only at h
    cases e0:fn1x x with
    | none=>rw[e0]at h;cases h
    | some b=>
      rw[e0]at h
      cases e1:f a with
      | none=>simp[e1]at h
      | some u=>
        simp[e1]at h;subst h;exact Ci F e0 hg e ((hf a u e1).1 true) hst
   ·rename_i a b
    simp only[List.any_cons,List.any_nil,Bool.or_false,Bool.or_eq_false_iff]at hst;split at h
    ·rename_i ex
     obtain⟨rfl,hq⟩:=ex
     cases e1:f a with
     | none=>rw[e1]at h;cases h
     | some u=>
       cases e2:f b with
       | none=>simp[e1,e2]at h
       | some u2=>
         simp[e1,e2]at h;subst h;exact Hg hq F.calm hg (F.gb _ (by decide +kernel) e) ((hf a u e1).1 true) ((hf b u2 e2).1 true) hst.1 hst.2
    split at h
    ·rename_i ex
     obtain⟨rfl,hq⟩:=ex
     cases e1:f a with
     | none=>rw[e1]at h;cases h
     | some u=>
       cases e2:f b with
       | none=>simp[e1,e2]at h
       | some u2=>
         simp[e1,e2]at h;subst h;exact Gh hq F.calm hg (F.gb _ (by decide +kernel) e) ((hf a u e1).1 true) ((hf b u2 e2).1 true) hst.1 hst.2
    ·split at h
     ·rename_i y py
      split at h
      ·rename_i hc2
       obtain⟨ex,hgy,hly⟩:=hc2;subst ex;split at h
       ·cases h
       cases e1:f a with
       | none=>rw[e1]at h;cases h
       | some u=>
         rw[e1]at h
         cases e2:trTy y with
         | none=>simp[e2]at h
         | some ty=>
           simp[e2]at h;subst h;obtain⟨T,hT,hb,hn,hd,hm⟩:=Ez e2
           have hly:tc.gl.lookup y=none:=by simpa using hly
           exact g8 (GX (o:=o) F.K hT hg (F.gb _ (by decide +kernel) e) (cI F hgy) (F.gb _ hm hly) hb hn hd ((hf a u e1).1 true) (bU hst.1)) fun δ=>by simp only[ev]
      ·cases h
     ·cases h
   ·cases h
 ·cases h
theorem Av(F:Fits X W tc o k){f:Expr->Option T}(hf:∀e t,f e=some t->Right X W o e t){x:Str}{a b:Expr}{t:T}{p pos kp:Pos}(h:uy tc f x a b=some t)(lk:Bool):PE X (.Call (.Name x p) [a] [⟨some "default",b,kp⟩] pos) (tD X W lk fun δ=>ev o δ lk t):=by
 unfold uy at h;split at h
 ·rename_i hc
  obtain⟨rfl,hq,hg,hl,hst⟩:=hc
  cases e1:f a with
  | none=>rw[e1]at h;cases h
  | some u=>
    cases e2:f b with
    | none=>simp[e1,e2]at h
    | some u2=>
      simp[e1,e2]at h;subst h;exact IW hq F.K F.calm (cI F hg) (F.gb _ (by decide +kernel) (by simpa using hl)) ((hf a u e1).1 true) ((hf b u2 e2).1 true) hst
 split at h
 ·rename_i hc
  obtain⟨rfl,hq,hg,hl,hst⟩:=hc
  cases e1:f a with
  | none=>rw[e1]at h;cases h
  | some u=>
    cases e2:f b with
    | none=>simp[e1,e2]at h
    | some u2=>
      simp[e1,e2]at h;subst h;exact Hs hq F.K F.calm (cI F hg) (F.gb _ (by decide +kernel) (by simpa using hl)) ((hf a u e1).1 true) ((hf b u2 e2).1 true) hst
 ·cases h
theorem Es(F:Fits X W tc o k){f:Expr->Option T}(hf:∀e t,f e=some t->Right X W o e t){a:Expr}{name:Str}{args:List Expr}{ok:Bool}{t:T}{apos cpos:Pos}(h:uw f a name args ok=some t)(hok:ok=(apos.endLine==cpos.line))(lk:Bool) :
 PE X (.Call (.Attribute a name apos) args [] cpos) (tD X W lk fun δ=>ev o δ lk t):=by unfold uw at h;cases h
theorem tK{e:Expr}{env:Env}(h:isSet e=false)(x:Value):foldedSetIterable e env x=pure x:=by
 cases e<;>first | rfl | (simp[isSet]at h)
theorem gY:("range":Str)∈cj:=by decide +kernel
theorem CV:("zip":Str)∈cj:=by decide +kernel
theorem xW:("enumerate":Str)∈cj:=by decide +kernel
theorem tupE{tg:Expr}(h:iV tg=true):∃es x1 p,tg=.Tuple es x1 p:=by
 cases tg<;>first | (simp[iV]at h;done) | exact⟨_,_,_,rfl⟩
theorem sr(F:Fits X W tc o k){f:Expr->Option T}(hf:∀e t,f e=some t->Right X W o e t){e:Expr}{it:TI}(tg:Expr)(h:trI tc f (iV tg) e=some it)(lk:Bool):(∃wi,PI X tg e wi/\WalkL X W o lk it wi)/\∀x,foldedSetIterable e X.env x=pure x:=by
 have val:isSet e=false->(f e).map TI.val=some it->(∃wi,PI X tg e wi/\WalkL X W o lk it wi)/\∀x,foldedSetIterable e X.env x=pure x:=fun hs h=>by
  cases e1:f e with
  | none=>rw[e1]at h;cases h
  | some t=>
    rw[e1]at h;cases h;exact⟨Kp F.K ((hf e t e1).1 lk),tK hs⟩
 unfold trI at h;split at h
 ·rename_i x px a pc
  split at h
  ·rename_i ex
   subst ex;split at h
   ·rename_i hc
    simp only[Bool.and_eq_true,Bool.not_eq_true',Option.isNone_iff_eq_none]at hc
    cases e1:f a with
    | none=>rw[e1]at h;cases h
    | some t=>
      rw[e1]at h;cases h;exact⟨FP (cI F hc.1.1) (F.gb _ gY hc.1.2) ((hf a t e1).1 true) hc.2,fun _=>rfl⟩
   ·cases h
  ·split at h
   ·rename_i ex
    subst ex;split at h
    ·rename_i hc
     simp only[Bool.and_eq_true,Bool.not_eq_true',Option.isNone_iff_eq_none]at hc;obtain⟨es,x1,p,rfl⟩:=tupE hc.1.1.1.2
     cases e1:f a with
     | none=>rw[e1]at h;cases h
     | some t=>
       rw[e1]at h;cases h;exact⟨FZ hc.1.1.1.1 F.K (cI F hc.1.1.2) (F.gb _ xW hc.1.2) ((hf a t e1).1 lk) hc.2,fun _=>rfl⟩
    ·cases h
   ·exact val rfl h
 ·rename_i x px a b pc
  split at h
  ·rename_i ex
   subst ex;split at h
   ·rename_i hc
    simp only[Bool.and_eq_true,Bool.not_eq_true',Option.isNone_iff_eq_none]at hc
    cases e1:f a with
    | none=>rw[e1]at h;cases h
    | some t=>
      cases e2:f b with
      | none=>simp[e1,e2]at h
      | some t2=>
        simp[e1,e2]at h;subst h;exact⟨JL hc.1.1.1.1 (cI F hc.1.1.1.2) (F.gb _ gY hc.1.1.2) ((hf a t e1).1 true) ((hf b t2 e2).1 true) hc.1.2 hc.2,fun _=>rfl⟩
   ·cases h
  ·split at h
   ·rename_i ex
    subst ex;split at h
    ·rename_i hc
     simp only[Bool.and_eq_true,Bool.not_eq_true',Option.isNone_iff_eq_none]at hc;obtain⟨es,x1,p,rfl⟩:=tupE hc.1.1.1.1.2
     cases e1:f a with
     | none=>rw[e1]at h;cases h
     | some t=>
       cases e2:f b with
       | none=>simp[e1,e2]at h
       | some t2=>
         simp[e1,e2]at h;subst h;exact⟨M5 hc.1.1.1.1.1 F.K (cI F hc.1.1.1.2) (F.gb _ CV hc.1.1.2) ((hf a t e1).1 lk) ((hf b t2 e2).1 lk) hc.1.2 hc.2,fun _=>rfl⟩
    ·cases h
   ·exact val rfl h
 ·rename_i x px a b c pc
  split at h
  ·rename_i ex
   subst ex;split at h
   ·rename_i hc
    simp only[Bool.and_eq_true,Bool.not_eq_true',Option.isNone_iff_eq_none]at hc
    cases e1:f a with
    | none=>rw[e1]at h;cases h
    | some t=>
      cases e2:f b with
      | none=>simp[e1,e2]at h
      | some t2=>
        cases e3:f c with
        | none=>simp[e1,e2,e3]at h
        | some t3=>
          simp[e1,e2,e3]at h;subst h;exact⟨Hr hc.1.1.1.1.1 (cI F hc.1.1.1.1.2) (F.gb _ gY hc.1.1.1.2) ((hf a t e1).1 true) ((hf b t2 e2).1 true) ((hf c t3 e3).1 true) hc.1.1.2 hc.1.2 hc.2,fun _=>rfl⟩
   ·cases h
  ·exact val rfl h
 ·split at h
  ·cases h
  ·rename_i hs
   exact val (by simpa using hs) h
theorem zT{scope:Scope}(h:blkB scope=true):Blk scope:=by
 unfold blkB at h;simp only[Bool.and_eq_true,decide_eq_true_eq,List.all_eq_true,Bool.or_eq_true,Bool.not_eq_true']at h;refine⟨h.1,fun y hy z=>?_,fun y hy z=>?_,fun y hy z=>?_⟩
 ·have:=(h.2 y hy).1.1
  rw[z]at this;cases this
 ·rcases(h.2 y hy).1.2 with q | q
  ·rw[z]at q;cases q
  ·exact q
 ·rcases(h.2 y hy).2 with q | q
  ·rw[z]at q;cases q
  ·exact q
theorem frees_mem{scope:Scope}{x:Str}:x∈frees scope↔(x,NameKind.free)∈scope.names:=by
 unfold frees
 constructor
 ·intro h
  obtain⟨y,hy,rfl⟩:=List.mem_map.mp h;obtain⟨h1,h2⟩:=List.mem_filter.mp hy
  have:y.2=.free:=by simpa using h2
  rw[<-this];exact h1
 ·exact fun h=>List.mem_map.mpr ⟨_,List.mem_filter.mpr ⟨h,by simp⟩,rfl⟩
theorem zz{X':Cx}{tl:List Str}(hN:X'.N.Nodup)(hloc:∀x∈tl,X'.env.scope.names.lookup x=some .local):∀{es:List Expr} {l:List Str} {i:Nat},j4 es=some l->(∀(j:Nat) x,l[j]?=some x->X'.N[i+j]?=some x/\x∈tl) ->
 PGs X' es (dX (List.range' i l.length))/\(assignEach es X'.env).length=l.length/\(assignEach es X'.env).findIdx? (·.1)=none
 | [],l,i,h,_=>by
   simp only[j4,Option.some.injEq]at h;subst h;exact⟨uN,rfl,rfl⟩
 | e::es,l,i,h,hl=>by
   cases e<;>first | exact nope h | simp only[j4]at h
   rename_i x p
   cases e1:j4 es with
   | none=>rw[e1]at h;cases h
   | some l'=>
     rw[e1]at h;cases h
     obtain⟨h1,h2,h3⟩:=zz hN hloc (i:=i+1) e1 fun j y hj=>by
      have:=hl (j+1) y (by simpa using hj);rw[show i+(j+1)=i+1+j by omega]at this;exact this
     obtain⟨k1,k2⟩:=hl 0 x rfl;rw[Nat.add_zero]at k1;have kl:=hloc x k2;refine⟨?_,?_,?_⟩
     ·rw[List.length_cons,List.range'_succ]
      exact p7 (jK hN k1 (.inl kl) (.inr kl)) h1
     ·show(assignEach es X'.env).length+1=_
      rw[h2];rfl
     ·show List.findIdx? (·.1) ((false,assign (.Name x p) X'.env)::assignEach es X'.env)=none
      rw[List.findIdx?_cons,h3];rfl
theorem qZ{K:PySem.W.Frag}{n:Nat}:gTup K n (dX (List.range n))=gTup K (List.range n).length (dX (List.range n)):=by rw[List.length_range]
theorem rW(hx:X.xe=fun _ _=>False)(F:Fits X W tc o k){f:Tc->Expr->Option T}(hf:∀(X':Cx) (tc':Tc),(X'.xe=fun _ _=>False)->Fits X' W tc' o k->∀e t,f tc' e=some t->Right X' W o e t){elt tg iter:Expr}{ifs:List Expr}{scope:Scope}{t:T}(h:pB tc f elt tg iter ifs scope=some t) :
 ∃N m caps tup g it c e,t=.comp caps m tup it c e/\CompIn X W o scope N elt tg iter ifs m caps tup g it c e:=by
 unfold pB at h
 cases e1:o7 tg with
 | none=>rw[e1]at h;cases h
 | some q=>
 obtain⟨tn,tup⟩:=q;rw[e1]at h;simp only[Option.bind_some]at h;split at h
 ·rename_i hb
  cases e2:ixs tc.N (frees scope)with
  | none=>rw[e2]at h;cases h
  | some caps=>
  cases e3:trI tc (f tc) (iV tg) iter with
  | none=>simp[e2,e3]at h
  | some it=>
  cases e4:tH (f ⟨tn++frees scope,fj scope tc.sc,tc.gl⟩) ifs with
  | none=>simp[e2,e3,e4]at h
  | some c=>
  cases e5:f ⟨tn++frees scope,fj scope tc.sc,tc.gl⟩ elt with
  | none=>simp[e2,e3,e4,e5]at h
  | some e=>
  simp[e2,e3,e4,e5]at h;subst h;unfold Fz at hb;simp only[Bool.and_eq_true,decide_eq_true_eq,List.all_eq_true,Bool.or_eq_true]at hb;obtain⟨⟨⟨b1,b2⟩,b3⟩,b4⟩:=hb
  have FC:=fun fp pins s H=>F.comp (scope:=scope) b2 fp pins s H
  obtain⟨⟨wi,hi1,hi2⟩,hs⟩:=sr F (fun e t h=>hf X tc hx F e t h) tg e3 true
  have hi:∃wi,PI X tg iter wi/\Du X W o it wi:=⟨wi,hi1,hi2.comp⟩
  have hloc:∀(X0:Cx),X0.env=X.env->∀x∈tn,(relabel scope X.env).names.lookup x=some .local:=fun _ _ x hx=>lookup_relabel_local (b3 x hx)
  have hg:∃g,(∀fp pins s H,PG (cxC X scope (tn++frees scope) fp pins s H) tg g)/\(∀H0,TgR { X with H₀:=H0 } W (List.range tn.length) tup g)/\(tup=false->tn.length=1):=by
   cases tg<;>first | exact nope e1 | simp only[o7]at e1
   ·rename_i x p
    cases e1;exact⟨qY 0,fun fp pins s H=>jK (X:=cxC X scope ([x]++frees scope) fp pins s H) b2 rfl (.inl (hloc X rfl x List.mem_cons_self)) (.inr (hloc X rfl x List.mem_cons_self)),fun H0=>yp,fun _=>rfl⟩
   ·rename_i es kk p
    cases e6:j4 es with
    | none=>rw[e6]at e1;cases e1
    | some l=>
      rw[e6]at e1;cases e1;refine⟨gTup X.K tn.length (dX (List.range tn.length)),fun fp pins s H=>?_,fun H0=>?_,fun z=>by cases z⟩
      ·obtain⟨k1,k2,k3⟩:=zz (X':=cxC X scope (tn++frees scope) fp pins s H) (tl:=tn) b2 (hloc X rfl) (i:=0) e6 fun j x hj=>⟨by
        rw[Nat.zero_add];show(tn++frees scope)[j]?=some x
        rw[List.getElem?_append_left (List.getElem?_eq_some_iff.mp hj).1];exact hj,List.mem_of_getElem? hj⟩
       rw[<-List.range_eq_range']at k1;exact zg (X:=cxC X scope (tn++frees scope) fp pins s H) F.calm k1 k2 k3
      ·rw[qZ]
       exact Ce (X:={ X with H₀:=H0 }) F.K
  obtain⟨g,g1,g2,g3⟩:=hg;refine⟨tn++frees scope,tn.length,caps,tup,g,it,c,e,rfl,F.K,hx,F.calm,zT b1,⟨?_,fun j kk x hj hx=>?_,fun y hy hk=>?_⟩,g3,hi,g1,g2,fun fp pins s H=>?_,fun fp pins s H=>(hf (cxC X scope (tn++frees scope) fp pins s H) _ hx (FC fp pins s H) elt e e5).1 false,hs⟩
  ·rw[List.length_append,tQ e2]
  ·obtain⟨y,y1,y2⟩:=vA e2 hj
   rw[List.getElem?_append_right (by omega),Nat.add_sub_cancel_left,y1]at hx;cases hx;have hm:=List.mem_of_getElem? y1;rw[F.N,F.sc];exact⟨y2,(zT b1).fre _ (frees_mem.mp hm) rfl,b4 x hm⟩
  ·rw[F.sc]
   exact b4 y.1 (frees_mem.mpr (by rw[<-hk];exact hy))
  ·cases ifs with
   | nil=>
     simp only[tH,Option.some.injEq]at e4;subst e4
     refine PIf.imp Ff fun σ H' Q ⟨me,B,δ,S,q⟩=>?_
     simp only[ev,R.bind,truth,R.of]at q;exact q H' (Same.refl _)
   | cons c1 rest=>
     cases rest with
     | nil=>
       simp only[tH]at e4;exact Fe (hf (cxC X scope (tn++frees scope) fp pins s H) _ hx (FC fp pins s H) c1 c e4).2
     | cons _ _=>simp[tH]at e4
 ·cases h
theorem wz{c:Const}{d:D}{j:Nat}{pos:Pos}(h:jB c=some d)(lk:Bool):PE X (.Constant c j pos) (tD X W lk fun δ=>ev o δ lk (.cst d)):=by
 cases c<;>first | exact nope h | simp only[jB]at h
 ·cases h;exact vZ Ju (fun G=>by simp only[Rep]) o
 ·cases h;exact vZ K4 (fun G=>by simp only[Rep]) o
 ·cases h;exact vZ Hl (fun G=>by simp only[Rep]) o
 ·split at h
  ·rename_i s hl
   cases h;refine vZ GP (fun G=>?_) o;simp only[Rep,strV];refine⟨trivial,?_⟩
   have:s.cps.toList.length=s.length:=by simp[Str.length]
   omega
  ·cases h
theorem Dm{b:Expr}(h:isSlice b=false):tY b:=fun o i=>by cases b<;>first | rfl | (simp[isSlice]at h)
theorem Km{a b:Expr}{ta tb:T}{pos:Pos}(F:Fits X W tc o k)(ha:PE X a (tD X W true fun δ=>ev o δ true ta))(hb:PE X b (tD X W true fun δ=>ev o δ true tb))(hs:isSlice b=false)(lk:Bool) :
 PE X (.Subscript a b pos) (tD X W lk fun δ=>ev o δ lk (.idx ta tb)):=by
 have nosl:NoSl b:=by intro x y;cases b<;>first | rfl | (simp[isSlice]at hs)
 refine PE.imp (PE.or (Le G6 ha hb (Dm hs)) (Fi (Cd F.room) ha hb nosl)) fun σ H Q h=>?_
 obtain⟨me,B,δ,S,h⟩:=tD_iff.mp h;simp only[ev]at h
 by_cases hd:∃r ks vs,ev o δ true ta=.ok r/\r.2=.dct ks vs
 ·obtain⟨r,ks,vs,e,e2⟩:=hd
  refine .inr ?_
  refine tD.mono (part (fa:=fun δ=>ev o δ true ta) S h) fun v H1 ⟨r1,e1,S1,s1,t1,_,h1⟩=>?_
  have:r1=r:=by rw[e]at e1;cases e1;rfl
  subst this
  refine tD.mono (part (fa:=fun δ=>ev o δ true tb) (g:=fun y=>idxD r1.2 y.2) S1 h1) fun u H2 ⟨r2,e3,S2,s2,t2,_,h2⟩=>?_
  rw[e2]at t1 h2;obtain⟨a,kvs,rfl,q1,q2,q3,q4⟩:=t1;simp only[idxD]at h2
  cases e4:keyOf r2.2 with
  | none=>rw[e4]at h2;exact h2.elim
  | some x=>
    rw[e4]at h2;simp only[Option.bind_some]at h2
    cases e5:look ks vs x with
    | none=>rw[e5]at h2;exact h2.elim
    | some d=>
      rw[e5]at h2;obtain⟨v,h3,h4⟩:=ju q2 (q4.mono (aD s2)) e5;refine⟨a,v,rfl,?_,h2 v H2 (Same.refl _) (.shared h4)⟩;rw[jE e4 t2,<-h3];obtain⟨ep,q1⟩:=q1;exact DGet.k (s2 _ _ q1)
 ·refine .inl (lE (lk:=lk) (Eb F.K) (by intro x y c;cases x<;>simp only[je]<;>first | (intro z;cases z;done) | exact rz _ _ _) ?_)
  refine tD_iff.mpr ⟨me,B,δ,S,?_⟩
  have e:((ev o δ true ta).bind fun x=>(ev o δ true tb).bind fun y=>je x.2 y.2)=((ev o δ true ta).bind fun x=>(ev o δ true tb).bind fun y=>idxD x.2 y.2):=by
   cases e:ev o δ true ta with
   | ok r=>
     show((ev o δ true tb).bind fun y=>je r.2 y.2)=((ev o δ true tb).bind fun y=>idxD r.2 y.2)
     congr 1
     funext y
     cases e2:r.2 with
     | dct ks vs=>exact absurd ⟨r,ks,vs,e,e2⟩ hd
     | _=>rfl
   | exc c=>rfl
   | stuck=>rfl
  show After X W lk σ H (Hid B σ δ) ((ev o δ true ta).bind fun x=>(ev o δ true tb).bind fun y=>je x.2 y.2) Q;rw[e];exact h
theorem ud{f:Expr->Option T}(hf:∀e t,f e=some t->Right X W o e t){vs:List Expr}{t:T}{pos:Pos}(h:trJ f vs=some t)(lk:Bool):PE X (.JoinedStr vs pos) (tD X W lk fun δ=>ev o δ lk t):=by unfold trJ at h;cases h
theorem sndE:∀(n:Nat) {X:Cx} {tc:Tc},(X.xe=fun _ _=>False)->Fits X W tc o k->∀(e:Expr) (t:T),trE n tc e=some t->Right X W o e t:=by
 intro n
 induction n with
 | zero=>intro X tc hx F e t h;exact nope h
 | succ n ih'=>
   intro X tc hx F e t h
   have ih:=fun e t h=>ih' hx F e t h
   cases e with
   | Name x pos=>
     rw[bc]at h;delta trEb at h;dsimp only at h;split at h
     ·rename_i hv
      obtain⟨h1,h2,h3⟩:=jP F hv
      cases e1:bJ tc.N x with
      | none=>rw[e1]at h;cases h
      | some i=>
        rw[e1]at h;cases h;exact aU (fun lk=>M3 (by rw[F.N];exact bI e1) h1 h2 h3 o) (fun _=>rfl)
     ·split at h
      ·rename_i hc
       simp only[Bool.and_eq_true,Bool.not_eq_true']at hc;split at h
       ·rename_i d e1
        cases h;obtain⟨u,v,m1,m2,m3⟩:=F.gv x d e1;exact aU (fun lk=>vZ (Ck (cI F hc.1) m1 m2 hc.2) m3 o) (fun _=>rfl)
       ·cases h
      ·cases h
   | IfExp c a b pos=>
     rw[bc]at h;delta trEb at h;dsimp only at h
     cases e1:trE n tc c with
     | none=>rw[e1]at h;cases h
     | some u1=>
       cases e2:trE n tc a with
       | none=>simp[e1,e2]at h
       | some u2=>
         cases e3:trE n tc b with
         | none=>simp[e1,e2,e3]at h
         | some u3=>
           simp[e1,e2,e3]at h;subst h;exact⟨fun lk=>Ly (ih c u1 e1).2 ((ih a u2 e2).1 lk) ((ih b u3 e3).1 lk),Jl (ih c u1 e1).2 (ih a u2 e2).2 (ih b u3 e3).2⟩
   | Constant c j pos=>
     rw[bc]at h;delta trEb at h;dsimp only at h
     cases e1:jB c with
     | none=>rw[e1]at h;cases h
     | some d=>
       rw[e1]at h;cases h;exact aU (fun lk=>wz e1 lk) (fun _=>rfl)
   | BinOp a op b pos=>
     rw[bc]at h;delta trEb at h;dsimp only at h
     cases e1:trOp op with
     | none=>rw[e1]at h;cases h
     | some p=>
       cases e2:trE n tc a with
       | none=>simp[e1,e2]at h
       | some ta=>
         cases e3:trE n tc b with
         | none=>simp[e1,e2,e3]at h
         | some tb=>
           simp[e1,e2,e3]at h;subst h;exact aU (fun lk=>Gu F e1 ((ih a ta e2).1 true) ((ih b tb e3).1 true) lk) (fun _=>rfl)
   | UnaryOp op a pos=>
     cases op<;>first | exact nope h | (rw[bc]at h;delta trEb at h;dsimp only at h)
     all_goals
      cases e1:trE n tc a with
      | none=>rw[e1]at h;cases h
      | some ta=>
        rw[e1]at h;cases h
        first
         | exact⟨fun lk=>g8 (LQ ((ih a ta e1).1 true)) fun δ=>by simp only[ev],yG (HF (ih a ta e1).2) fun δ=>by simp only[ev]⟩
         | exact aU (fun lk=>Li ((ih a ta e1).1 true)) (fun _=>rfl)
   | Compare a ops cs pos=>
     match ops,cs,h with
     | [op],[b],h=>
       rw[bc]at h;delta trEb at h;dsimp only at h;split at h
       ·cases h
       ·rename_i hm
        cases ek:xq tc (trE n tc) op a b with
        | some t'=>
          rw[ek]at h;cases h;exact HR F ih ek (by simpa using hm)
        | none=>
        rw[ek]at h;dsimp only at h
        cases e1:ww op with
        | none=>rw[e1]at h;cases h
        | some p=>
          cases e2:trE n tc a with
          | none=>simp[e1,e2]at h
          | some ta=>
            cases e3:trE n tc b with
            | none=>simp[e1,e2,e3]at h
            | some tb=>
              simp[e1,e2,e3]at h;subst h;exact Ip F e1 (by simpa using hm) ((ih a ta e2).1 true) ((ih b tb e3).1 true)
     | [],_,h=>exact nope h
     | _::_::_,_,h=>exact nope h
     | [_],[],h=>exact nope h
     | [_],_::_::_,h=>exact nope h
   | BoolOp op vs pos=>
     cases op with
     | And=>
       rw[bc]at h;delta trEb at h;dsimp only at h;obtain⟨h1,h2⟩:=pC (pos:=pos) ih h;exact⟨h1,h2.pt⟩
     | Or=>
       rw[bc]at h;delta trEb at h;dsimp only at h;obtain⟨h1,h2⟩:=v8 (pos:=pos) ih h;exact⟨h1,h2.pt⟩
   | Tuple es kk pos=>
     rw[bc]at h;delta trEb at h;dsimp only at h;split at h
     ·cases h
     ·rename_i hst
      cases e1:trL (trE n tc) es with
      | none=>rw[e1]at h;cases h
      | some l=>
        rw[e1]at h;cases h;exact aU (fun lk=>M6 (gR (fun e t h=>(ih e t h).1) e1 (by simpa using hst))) (fun _=>rfl)
   | List es pos=>
     rw[bc]at h;delta trEb at h;dsimp only at h;split at h
     ·cases h
     ·rename_i hst
      cases e1:trL (trE n tc) es with
      | none=>rw[e1]at h;cases h
      | some l=>
        rw[e1]at h;cases h;exact aU (fun lk=>Mp (gR (fun e t h=>(ih e t h).1) e1 (by simpa using hst))) (fun _=>rfl)
   | ListComp elt gens scope pos=>
     match gens,h with
     | [g],h=>
       rw[bc]at h;delta trEb at h;dsimp only at h;split at h
       ·rename_i h0
        obtain⟨tg,iter,ifs,as⟩:=g;simp only at h0 h;subst h0;obtain⟨N,m,caps,tup,g,it,c,e,rfl,A⟩:=rW hx F (fun X' tc' hx' F' e t h=>ih' hx' F' e t h) h;exact aU (fun lk=>Af A) (fun _=>rfl)
       ·cases h
     | [],h=>exact nope h
     | _::_::_,h=>exact nope h
   | Subscript a b pos=>
     by_cases hs:∃lo hi p2,b=.Slice lo hi none p2
     ·obtain⟨lo,hi,p2,rfl⟩:=hs
      rw[bc]at h;delta trEb at h;dsimp only at h
      cases e1:trE n tc a with
      | none=>rw[e1]at h;cases h
      | some ta=>
        cases e2:oh (trE n tc) lo with
        | none=>simp[e1,e2]at h
        | some tl=>
          cases e3:oh (trE n tc) hi with
          | none=>simp[e1,e2,e3]at h
          | some th=>
            simp[e1,e2,e3]at h;subst h;exact aU (fun lk=>g8 (Mv Ir (Ay F.K) ((ih a ta e1).1 true) (zZ ih e2) (zZ ih e3)) fun δ=>by simp only[ev]) (fun _=>rfl)
     ·have h':(if isSlice b then none else(match o9 tc a with
       | some q=>(trE n tc b).map fun i=>T.kidx q.1 q.2 i
       | none=>(trE n tc a).bind fun t=>(trE n tc b).map fun i=>T.idx t i))=some t:=by
       cases b<;>first | exact h | skip
       rename_i lo hi st p2
       cases st with
       | none=>exact absurd ⟨lo,hi,p2,rfl⟩ hs
       | some st=>exact nope h
      cases hsl:isSlice b with
      | true=>simp[hsl]at h'
      | false=>
        simp only[hsl,Bool.false_eq_true,if_false]at h'
        cases e0:o9 tc a with
        | some q=>
          rw[e0]at h'
          cases e2:trE n tc b with
          | none=>simp[e2]at h'
          | some tb=>
            simp[e2]at h';subst h'
            cases a<;>first | exact nope e0 | simp only[o9]at e0
            all_goals
             rename_i x px;split at e0
             ·rename_i hc
              simp only[Bool.and_eq_true,Bool.not_eq_true']at hc;split at e0
              ·rename_i ks vs e1
               cases e0;obtain⟨ad,m1,m2⟩:=F.gd x ks vs e1;exact aU (fun lk=>Iw hc.1.1 F.K m2 (cI F hc.1.2) m1 hc.2 ((ih b tb e2).1 true) (by intro x y;cases b<;>first | rfl | (simp[isSlice]at hsl))) (fun _=>rfl)
              ·cases e0
             ·cases e0
        | none=>
        rw[e0]at h';simp only at h'
        cases e1:trE n tc a with
        | none=>rw[e1]at h';cases h'
        | some ta=>
          cases e2:trE n tc b with
          | none=>simp[e1,e2]at h'
          | some tb=>
            simp[e1,e2]at h';subst h';exact aU (fun lk=>Km F ((ih a ta e1).1 true) ((ih b tb e2).1 true) hsl lk) (fun _=>rfl)
   | Call f args kws pos=>
     match f,kws,h with
     | .Name x p,[],h=>
       rw[bc]at h;delta trEb at h;dsimp only at h;exact aU (fun lk=>DG F ih h lk) (fun _=>rfl)
     | .Attribute a name apos,[],h=>
       rw[bc]at h;delta trEb at h;dsimp only at h;split at h
       ·exact aU (fun lk=>Hq F ih h rfl lk) (fun _=>rfl)
       ·exact aU (fun lk=>Es F ih h rfl lk) (fun _=>rfl)
     | .Name x p,[kw],h=>
       match args,kw,h with
       | [a],⟨some nm,b,kp⟩,h=>
         rw[bc]at h;delta trEb at h;dsimp only at h;split at h
         ·rename_i ex
          subst ex;exact aU (fun lk=>Av F ih h lk) (fun _=>rfl)
         ·cases h
       | [_],⟨none,_,_⟩,h=>exact nope h
       | [],⟨some _,_,_⟩,h | [],⟨none,_,_⟩,h=>exact nope h
       | _::_::_,⟨some _,_,_⟩,h | _::_::_,⟨none,_,_⟩,h=>exact nope h
     | .Name x p,⟨some _,_,_⟩::_::_,h | .Name x p,⟨none,_,_⟩::_::_,h=>rcases args with _ | ⟨_,_ | _⟩<;>exact nope h
     | .Attribute ..,_::_,h=>exact nope h
     | .BoolOp ..,_,h=>exact nope h
     | .NamedExpr ..,_,h=>exact nope h
     | .BinOp ..,_,h=>exact nope h
     | .UnaryOp ..,_,h=>exact nope h
     | .Lambda ..,_,h=>exact nope h
     | .IfExp ..,_,h=>exact nope h
     | .Dict ..,_,h=>exact nope h
     | .Set ..,_,h=>exact nope h
     | .ListComp ..,_,h=>exact nope h
     | .SetComp ..,_,h=>exact nope h
     | .DictComp ..,_,h=>exact nope h
     | .GeneratorExp ..,_,h=>exact nope h
     | .Await ..,_,h=>exact nope h
     | .Yield ..,_,h=>exact nope h
     | .YieldFrom ..,_,h=>exact nope h
     | .Compare ..,_,h=>exact nope h
     | .Call ..,_,h=>exact nope h
     | .FormattedValue ..,_,h=>exact nope h
     | .JoinedStr ..,_,h=>exact nope h
     | .Constant ..,_,h=>exact nope h
     | .Subscript ..,_,h=>exact nope h
     | .Starred ..,_,h=>exact nope h
     | .List ..,_,h=>exact nope h
     | .Tuple ..,_,h=>exact nope h
     | .Slice ..,_,h=>exact nope h
   | JoinedStr vs pos=>
     rw[bc]at h;delta trEb at h;dsimp only at h;exact aU (fun lk=>ud ih h lk) (fun _=>rfl)
   | _=>exact nope h
end
end Z
namespace Z
open PySem PySem.Spec PyProof.Rows L2
noncomputable def pP:Expr->Bool
 | .ListComp ..=>true
 | .SetComp ..=>true
 | .DictComp ..=>true
 | _=>false
noncomputable def aH(tc:Tc):List Expr->Option (List Nat)
 | []=>some []
 | .Name x _::es=>if locB tc.sc x then(bJ tc.N x).bind fun i=>(aH tc es).map fun l=>i::l else none
 | _=>none
noncomputable def trTg(tc:Tc):Expr->Option (List Nat×Bool)
 | .Name x _=>if locB tc.sc x then(bJ tc.N x).map fun i=>([i],false)else none
 | .Tuple es _ _=>(aH tc es).map fun l=>(l,true)
 | _=>none
noncomputable def trSs(f:Stmt->Option S):List Stmt->Option SL
 | []=>some .nil
 | s::ss=>(f s).bind fun t=>(trSs f ss).map fun l=>.cons t l
noncomputable def isName:Expr->Bool
 | .Name ..=>true
 | _=>false
noncomputable def Hm:T->Bool
 | .var _=>true
 | _=>false
noncomputable def bT:Nat:=40
noncomputable def nQ:Expr->Bool
 | .ListComp _ [g] _ _=>decide (g.is_async=0)
 | _=>false
noncomputable def trA(tc:Tc)(tgs:List Expr)(e:Expr):Option S:=match tgs with
 | [.Name x _]=>if locB tc.sc x&&(!pP e||nQ e)then(bJ tc.N x).bind fun i=>(trE bT tc e).map fun t=>.set i t else none
 | [.Subscript (.Name x _) k _]=>none
 | [.Attribute (.Name x _) fn _]=>none
 | _=>none
noncomputable def DP(tc:Tc)(tgs:List Expr)(e:Expr):Option S:=none
noncomputable def trSx(tc:Tc)(tgs:List Expr)(e:Expr):Option S:=none
noncomputable def trA2(tc:Tc)(tgs:List Expr)(e:Expr):Option S:=match trSx tc tgs e with
 | some t=>some t
 | none=>match DP tc tgs e with
   | some t=>some t
   | none=>trA tc tgs e
noncomputable def Dg(tc:Tc)(x:Str)(e:Expr)(ok:Bool):Option S:=none
noncomputable def trX(tc:Tc)(e:Expr):Option S:=match e with
 | .Call (.Attribute (.Name x _) m apos) [e] [] cpos=>if m="append" then(if visB tc.sc x&&!az e&&(apos.endLine==cpos.line)then(bJ tc.N x).bind fun i=>(trE bT tc e).map fun t=>.append i t else none)else(if m="update" then Dg tc x e (apos.endLine==cpos.line)else if m="extend"/\jZ=true then(if visB tc.sc x&&!az e&&(apos.endLine==cpos.line)then(bJ tc.N x).bind fun i=>(trE bT tc e).map fun t=>.extend i t else none)else none)
 | .Call (.Attribute (.Name x _) m apos) [] [] cpos=>none
 | _=>none
noncomputable def n8(tc:Tc)(e:Option Expr)(cs:Option Expr):Option S:=none
noncomputable def Ar(f:Stmt->Option S)(tc:Tc)(body:List Stmt)(hs:List ExceptHandler):Option S:=none
noncomputable def Hb:TL->Bool
 | .nil=>false
 | .cons (.var _) _=>true
 | .cons _ l=>Hb l
noncomputable def BX:TL->Bool
 | .nil=>false
 | .cons (.lst l) r=>Hb l||BX r
 | .cons _ r=>BX r
noncomputable def lstV:T->Bool
 | .not (.call _ l)=>BX l
 | _=>false
noncomputable def trSb(f:Stmt->Option S)(tc:Tc)(st:Stmt):Option S:=match st with
 | .Assign tgs e _=>trA2 tc tgs e
 | .If c a b _=>(trE bT tc c).bind fun t=>(trSs f a).bind fun u=>(trSs f b).map fun v=>if lstV t then .ifq t u v else .ifs t u v
 | .For tg iter body [] _=>(trTg tc tg).bind fun g=>(trI tc (trE bT tc) (iV tg) iter).bind fun it=>(trSs f body).map fun b=>.for_ g.1 g.2 it b
 | .While c body [] _=>(trE bT tc c).bind fun t=>(trSs f body).map fun b=>.while_ t b
 | .Return (some e) _=>(trE bT tc e).bind fun t=>if Hm t&&!isName e then none else some (.ret t)
 | .Return none _=>some .retn
 | .Expr e _=>trX tc e
 | .Raise e c _=>n8 tc e c
 | .Try body hs [] [] _=>Ar f tc body hs
 | .Pass _=>some .pass
 | .Break _=>some .brk
 | .Continue _=>some .cont
 | _=>none
noncomputable def trS:Nat->Tc->Stmt->Option S
 | 0,_,_=>none
 | n+1,tc,st=>some ((trSb (trS n tc) tc st).getD nF)
theorem wu{n:Nat}{tc:Tc}{st:Stmt}{t:S}(h:trS (n+1) tc st=some t):trSb (trS n tc) tc st=some t\/t=nF:=by
 have h:some ((trSb (trS n tc) tc st).getD nF)=some t:=h
 cases e:trSb (trS n tc) tc st with
 | none=>rw[e]at h;cases h;exact .inr rfl
 | some u=>rw[e]at h;cases h;exact .inl rfl
structure FitsS(X:Cx)(W:Wd)(tc:Tc)(o:Orc)(k:Nat):Prop extends Fits X W tc o k where
 fn:∀x,X.fn x=true
 pass:PassesOwn (model X.prog X.w) X.A X.env X.xe
 stk:X.stack=X.env::X.outer
 frm:X.env.frame=some X.env.locals
theorem Fits.nox{X:Cx}{W:Wd}{tc:Tc}{o:Orc}{k:Nat}(F:Fits X W tc o k):Fits X.nox W tc o k:=⟨F.N,F.nd,F.sc,F.K,F.room,F.calm,F.gf,F.gb,F.gv,F.gd,F.xf,F.gdf,F.ob⟩
theorem Right.lift{X:Cx}{W:Wd}{o:Orc}{e:Expr}{t:T}(h:Right X.nox W o e t):Right X W o e t:=⟨fun lk=>PE.lift (h.1 lk),PT.lift h.2⟩
theorem sndX(n:Nat){X:Cx}{W:Wd}{tc:Tc}{o:Orc}{k:Nat}(F:Fits X W tc o k)(e:Expr)(t:T)(h:trE n tc e=some t):Right X W o e t:=Right.lift (sndE n rfl F.nox e t h)
section
variable{X:Cx}{W:Wd}{tc:Tc}{o:Orc}{k:Nat}
theorem jU(F:Fits X W tc o k){x:Str}(h:locB tc.sc x=true):Loc X.env.scope x:=by
 unfold locB at h;rw[F.sc];unfold L2.Loc;split at h
 ·rename_i e;exact .inl e
 ·rename_i e;exact .inr e
 ·cases h
theorem passes(F:FitsS X W tc o k):PassesOwn (model X.prog X.w) X.A X.env X.xe:=F.pass
theorem wR{i:Nat}{e:T}:∀δ c δ',evS o (.set i e) δ≠.ex c δ':=fun δ c δ' h=>by
 simp only[evS]at h
 cases e1:(evF o δ e).2 with
 | ok r=>
   rw[e1]at h;have h:bw ((setSlot (evF o δ e).1 i r.1 r.2).map .nx)=.ex c δ':=h
   cases e2:setSlot (evF o δ e).1 i r.1 r.2 with
   | none=>rw[e2]at h;cases h
   | some δ1=>rw[e2]at h;cases h
 | exc c=>rw[e1]at h;cases h
 | stuck=>rw[e1]at h;cases h
theorem xV{e:Expr}{t:Option Expr}{l:Nat}{env:Env}(h:pP e=false):swapsWith e t l env=pure false:=by
 cases e<;>first | rfl | (simp[pP]at h)
theorem pI(F:FitsS X W tc o k):∀{es:List Expr} {is:List Nat},aH tc es=some is->PGs X es (dX is)/\(assignEach es X.env).length=is.length/\(assignEach es X.env).findIdx? (·.1)=none
 | [],is,h=>by
   simp only[aH,Option.some.injEq]at h;subst h;exact⟨uN,rfl,rfl⟩
 | .Name x p::es,is,h=>by
   simp only[aH]at h;split at h
   ·rename_i hl
    cases e1:bJ tc.N x with
    | none=>rw[e1]at h;cases h
    | some i=>
      cases e2:aH tc es with
      | none=>simp[e1,e2]at h
      | some l=>
        simp[e1,e2]at h;subst h;obtain⟨h1,h2,h3⟩:=pI F e2;refine⟨p7 (jK (by rw[F.N];exact F.nd) (by rw[F.N];exact bI e1) (jU F.toFits hl) (.inl (F.fn x))) h1,?_,?_⟩
        ·show(assignEach es X.env).length+1=_
         rw[h2];rfl
        ·show List.findIdx? (·.1) ((false,assign (.Name x p) X.env)::assignEach es X.env)=none
         rw[List.findIdx?_cons,h3];rfl
   ·cases h
 | .BoolOp ..::_,_,h=>by simp[aH]at h
 | .NamedExpr ..::_,_,h=>by simp[aH]at h
 | .BinOp ..::_,_,h=>by simp[aH]at h
 | .UnaryOp ..::_,_,h=>by simp[aH]at h
 | .Lambda ..::_,_,h=>by simp[aH]at h
 | .IfExp ..::_,_,h=>by simp[aH]at h
 | .Dict ..::_,_,h=>by simp[aH]at h
 | .Set ..::_,_,h=>by simp[aH]at h
 | .ListComp ..::_,_,h=>by simp[aH]at h
 | .SetComp ..::_,_,h=>by simp[aH]at h
 | .DictComp ..::_,_,h=>by simp[aH]at h
 | .GeneratorExp ..::_,_,h=>by simp[aH]at h
 | .Await ..::_,_,h=>by simp[aH]at h
 | .Yield ..::_,_,h=>by simp[aH]at h
 | .YieldFrom ..::_,_,h=>by simp[aH]at h
 | .Compare ..::_,_,h=>by simp[aH]at h
 | .Call ..::_,_,h=>by simp[aH]at h
 | .FormattedValue ..::_,_,h=>by simp[aH]at h
 | .JoinedStr ..::_,_,h=>by simp[aH]at h
 | .Constant ..::_,_,h=>by simp[aH]at h
 | .Attribute ..::_,_,h=>by simp[aH]at h
 | .Subscript ..::_,_,h=>by simp[aH]at h
 | .Starred ..::_,_,h=>by simp[aH]at h
 | .List ..::_,_,h=>by simp[aH]at h
 | .Tuple ..::_,_,h=>by simp[aH]at h
 | .Slice ..::_,_,h=>by simp[aH]at h
theorem Ky(F:FitsS X W tc o k){tg:Expr}{g:List Nat×Bool}(h:trTg tc tg=some g):∃gg,TgOk X W tg g.1 g.2 gg:=by
 cases tg<;>first | exact nope h | simp only[trTg]at h
 ·split at h
  ·rename_i hl
   rename_i x p
   cases e1:bJ tc.N x with
   | none=>rw[e1]at h;cases h
   | some i=>
     rw[e1]at h;cases h;exact⟨_,Dz (by rw[F.N];exact F.nd) (by rw[F.N];exact bI e1) (jU F.toFits hl) (.inl (F.fn x))⟩
  ·cases h
 ·rename_i es kk p
  cases e1:aH tc es with
  | none=>rw[e1]at h;cases h
  | some l=>
    rw[e1]at h;cases h;obtain⟨h1,h2,h3⟩:=pI F e1;exact⟨_,Ii F.K F.calm h1 h2 h3⟩
theorem lJ{f:Stmt->Option S}(hf:∀s t,f s=some t->PS X s (tS X W (evS o t))):∀{ss:List Stmt} {l:SL},trSs f ss=some l->PSs X ss (tS X W (evSs o l))
 | [],l,h=>by
   simp only[trSs,Option.some.injEq]at h;subst h;exact HY o
 | s::ss,l,h=>by
   simp only[trSs]at h
   cases e1:f s with
   | none=>rw[e1]at h;cases h
   | some t=>
     rw[e1]at h
     cases e2:trSs f ss with
     | none=>simp[e2]at h
     | some l'=>
       simp[e2]at h;subst h;exact Em (hf s t e1) (lJ hf e2)
theorem HB(F:FitsS X W tc o k){tgs:List Expr}{e:Expr}{t:S}{pos:Pos}(h:trA tc tgs e=some t):PS X (.Assign tgs e pos) (tS X W (evS o t)):=by
 have E:=fun e t h=>sndX bT F.toFits e t h
 unfold trA at h;split at h
 ·rename_i x px
  split at h
  ·rename_i hc
   simp only[Bool.and_eq_true,Bool.or_eq_true,Bool.not_eq_true']at hc
   cases e1:bJ tc.N x with
   | none=>rw[e1]at h;cases h
   | some i=>
     cases e2:trE bT tc e with
     | none=>simp[e1,e2]at h
     | some u=>
       simp[e1,e2]at h;subst h
       have hnd:X.N.Nodup:=by rw[F.N];exact F.nd
       have hni:X.N[i]?=some x:=by rw[F.N];exact bI e1
       by_cases hcomp:pP e=true
       ·have hc1:nQ e=true:=by
         rcases hc.2 with z | z
         ·rw[hcomp]at z;cases z
         ·exact z
        unfold nQ at hc1;split at hc1
        ·rename_i elt g scope epos
         have hg0:g.is_async=0:=of_decide_eq_true hc1;obtain⟨tg,iter,ifs,as⟩:=g;simp only at hg0;subst hg0;rw[show bT=39+1 from rfl,yr,if_pos rfl]at e2;obtain⟨N,m,caps,tup,g,it,c,e,rfl,A⟩:=rW (X:=X.nox) rfl F.toFits.nox (fun X' tc' hx' F' e t h=>sndE 39 hx' F' e t h) e2;refine PS.lift (Hz (bsw:=X.env.blockKind==.function&&X.env.kindOf x==some .local&&px.line==epos.line&&!(scope.names.any fun(n,k)=>n==x&&(k==.local||k==.cell))) A hnd hni (jU F.toFits hc.1) (.inl (F.fn x)) (fun hb=>?_) rfl) wR;simp only[Bool.and_eq_true,beq_iff_eq]at hb;exact hb.1.1.2
        ·cases hc1
       ·exact Gz hnd hni (jU F.toFits hc.1) ((E e u e2).1 false) (xV (by simpa using hcomp)) (.inl (F.fn x))
  ·cases h
 all_goals(cases h)
theorem yw(F:FitsS X W tc o k){tgs:List Expr}{e:Expr}{t:S}{pos:Pos}(h:DP tc tgs e=some t):PS X (.Assign tgs e pos) (tS X W (evS o t)):=by unfold DP at h;cases h
theorem Az(F:FitsS X W tc o k){tgs:List Expr}{e:Expr}{t:S}{pos:Pos}(h:trSx tc tgs e=some t):PS X (.Assign tgs e pos) (tS X W (evS o t)):=by unfold trSx at h;cases h
theorem DX(F:FitsS X W tc o k){tgs:List Expr}{e:Expr}{t:S}{pos:Pos}(h:trA2 tc tgs e=some t):PS X (.Assign tgs e pos) (tS X W (evS o t)):=by
 unfold trA2 at h;split at h
 ·rename_i t' e1
  cases h;exact Az F e1
 ·split at h
  ·rename_i t' e1
   cases h;exact yw F e1
  ·exact HB F h
theorem Iu(F:FitsS X W tc o k){x:Str}{e:Expr}{ok:Bool}{t:S}{p apos cpos pos:Pos}(h:Dg tc x e ok=some t)(hok:ok=(apos.endLine==cpos.line)):PS X (.Expr (.Call (.Attribute (.Name x p) "update" apos) [e] [] cpos) pos) (tS X W (evS o t)):=by unfold Dg at h;cases h
theorem GR(F:FitsS X W tc o k){e:Expr}{t:S}{pos:Pos}(h:trX tc e=some t):PS X (.Expr e pos) (tS X W (evS o t)):=by
 have E:=fun e t h=>sndX bT F.toFits e t h
 unfold trX at h;split at h
 ·rename_i x p m apos e cpos
  split at h
  ·rename_i ex
   subst ex;split at h
   ·rename_i hc
    simp only[Bool.and_eq_true,Bool.not_eq_true']at hc;obtain⟨h1,h2,h3⟩:=jP F.toFits hc.1.1
    cases e1:bJ tc.N x with
    | none=>rw[e1]at h;cases h
    | some i=>
      cases e2:trE bT tc e with
      | none=>simp[e1,e2]at h
      | some u=>
        simp[e1,e2]at h;subst h;exact sX (pH (by rw[F.N];exact bI e1) h1 h2 h3) ((E e u e2).1 false) hc.1.2 hc.2
   ·cases h
  ·split at h
   ·rename_i ex
    subst ex;exact Iu F h rfl
   ·split at h
    ·rename_i ex
     obtain⟨rfl,hq⟩:=ex;split at h
     ·rename_i hc
      simp only[Bool.and_eq_true,Bool.not_eq_true']at hc;obtain⟨h1,h2,h3⟩:=jP F.toFits hc.1.1
      cases e1:bJ tc.N x with
      | none=>rw[e1]at h;cases h
      | some i=>
        cases e2:trE bT tc e with
        | none=>simp[e1,e2]at h
        | some u=>
          simp[e1,e2]at h;subst h;exact xF hq (pH (by rw[F.N];exact bI e1) h1 h2 h3) ((E e u e2).1 false) hc.1.2 hc.2
     ·cases h
    ·cases h
 all_goals(cases h)
theorem qX(F:FitsS X W tc o k){e cs:Option Expr}{t:S}{pos:Pos}(h:n8 tc e cs=some t):PS X (.Raise e cs pos) (tS X W (evS o t)):=by unfold n8 at h;cases h
theorem wM(F:FitsS X W tc o k){f:Stmt->Option S}(hf:∀{Y:Cx},FitsS Y W tc o k->∀s t,f s=some t->PS Y s (tS Y W (evS o t))){body:List Stmt}{hs:List ExceptHandler}{t:S}{pos:Pos}(h:Ar f tc body hs=some t):PS X (.Try body hs [] [] pos) (tS X W (evS o t)):=by unfold Ar at h;cases h
theorem Ew{st:Stmt}:PS X st (tS X W (evS o nF)):=fun pins s σ H D I hw=>by
 obtain⟨_,_,_,_,h⟩:=hw;simp only[nF,evS,ev,SO.of,AfterS]at h
theorem sndS:∀(n:Nat) {X:Cx} {tc:Tc},FitsS X W tc o k->∀(st:Stmt) (t:S),trS n tc st=some t->PS X st (tS X W (evS o t)):=by
 intro n
 induction n with
 | zero=>intro X tc F st t h;exact nope h
 | succ n ih'=>
   intro X tc F st t h0
   have ih:=fun st t h=>ih' F st t h
   have E:=fun e t h=>sndX bT F.toFits e t h
   rcases wu h0 with h | rfl
   case inr=>exact Ew
   cases st with
   | Assign tgs e pos=>
     delta trSb at h;dsimp only at h;exact DX F h
   | Raise e c pos=>
     delta trSb at h;dsimp only at h;exact qX F h
   | Try body hs orelse fin pos=>
     cases orelse with
     | cons _ _=>exact nope h
     | nil=>
       cases fin with
       | cons _ _=>exact nope h
       | nil=>
         delta trSb at h;dsimp only at h;exact wM F (fun{Y} FY s t h=>ih' FY s t h) h
   | Expr e pos=>
     delta trSb at h;dsimp only at h;exact GR F h
   | If c a b pos=>
     delta trSb at h;dsimp only at h
     cases e1:trE bT tc c with
     | none=>rw[e1]at h;cases h
     | some u=>
       cases e2:trSs (trS n tc) a with
       | none=>simp[e1,e2]at h
       | some sa=>
         cases e3:trSs (trS n tc) b with
         | none=>simp[e1,e2,e3]at h
         | some sb=>
           simp only[e1,e2,e3,Option.bind_some,Option.map_some,Option.some.injEq]at h;split at h
           ·subst h;exact Io (E c u e1).2 (lJ ih e2) (lJ ih e3)
           ·subst h;exact M9 (E c u e1).2 (lJ ih e2) (lJ ih e3)
   | For tg iter body orelse pos=>
     cases orelse with
     | cons _ _=>exact nope h
     | nil=>
       delta trSb at h;dsimp only at h
       cases e1:trTg tc tg with
       | none=>rw[e1]at h;cases h
       | some g=>
         cases e2:trI tc (trE bT tc) (iV tg) iter with
         | none=>simp[e1,e2]at h
         | some it=>
           cases e3:trSs (trS n tc) body with
           | none=>simp[e1,e2,e3]at h
           | some sb=>
             simp[e1,e2,e3]at h;subst h;obtain⟨gg,hg⟩:=Ky F e1;obtain⟨hi,hs⟩:=sr F.toFits E tg e2 false;exact By (passes F) F.calm hg hi (lJ ih e3) hs
   | While c body orelse pos=>
     cases orelse with
     | cons _ _=>exact nope h
     | nil=>
       delta trSb at h;dsimp only at h
       cases e1:trE bT tc c with
       | none=>rw[e1]at h;cases h
       | some u=>
         cases e3:trSs (trS n tc) body with
         | none=>simp[e1,e3]at h
         | some sb=>
           simp[e1,e3]at h;subst h;exact yM (passes F) (E c u e1).2 (lJ ih e3)
   | Return v pos=>
     cases v with
     | none=>
       delta trSb at h;simp only[Option.some.injEq]at h;subst h;exact BR
     | some e=>
       delta trSb at h;dsimp only at h
       cases e1:trE bT tc e with
       | none=>rw[e1]at h;cases h
       | some u=>
         rw[e1]at h;simp only[Option.bind_some]at h;split at h
         ·cases h
         rename_i hc;cases h
         by_cases hv:∃i,u=.var i
         ·obtain⟨i,rfl⟩:=hv
          cases e with
          | Name x px=>
            rw[show bT=39+1 from rfl,ye]at e1;split at e1
            ·rename_i hv
             obtain⟨h1,h2,h3⟩:=jP F.toFits hv
             cases e2:bJ tc.N x with
             | none=>rw[e2]at e1;cases e1
             | some j=>
               rw[e2]at e1;cases e1;exact Di (by rw[F.N];exact bI e2) h1 h2 h3
            ·split at e1
             ·split at e1<;>cases e1
             ·cases e1
          | _=>simp[Hm,isName]at hc
         ·exact JX (fun i z=>hv ⟨i,z⟩) ((E e u e1).1 false)
   | Pass pos=>delta trSb at h;simp only[Option.some.injEq]at h;subst h;exact Cu
   | Break pos=>delta trSb at h;simp only[Option.some.injEq]at h;subst h;exact Jm
   | Continue pos=>delta trSb at h;simp only[Option.some.injEq]at h;subst h;exact De
   | _=>exact nope h
end
end Z
namespace Z
open PySem PySem.Spec PyProof.Rows L2
structure Df where
 name:Str
 qual:Str
 st:Stmt
 N:List Str
 ps:List Str
 fd:Fd
noncomputable def glOf:Nat->List Df->List (Str×Gk)
 | _,[]=>[]
 | i,d::l=>(d.name,.fn i d.ps.length)::glOf (i+1) l
theorem pL{x:Str}{j np:Nat}:∀{l:List Df} {i:Nat},(glOf i l).lookup x=some (.fn j np)->∃d k,j=i+k/\l[k]?=some d/\d.name=x/\d.ps.length=np
 | [],_,h=>by simp[glOf]at h
 | d::l,i,h=>by
   simp only[glOf,List.lookup_cons]at h
   cases e:(x==d.name)with
   | true=>
     rw[e]at h;simp only[Option.some.injEq,Gk.fn.injEq]at h;exact⟨d,0,by omega,rfl,(eq_of_beq e).symm,h.2⟩
   | false=>
     rw[e]at h;obtain⟨d',k,h1,h2,h3⟩:=pL h;exact⟨d',k+1,by omega,by simpa using h2,h3⟩
noncomputable def NoFn(cs:List (Str×Gk)):Prop:=∀p∈cs,∀i np,p.2≠.fn i np
theorem lookup_append{α:Type}{x:Str}:∀{l m:List (Str×α)},(l++m).lookup x=(l.lookup x).or (m.lookup x)
 | [],m=>by simp
 | (y,g)::l,m=>by
   simp only[List.cons_append,List.lookup_cons];cases (x==y)
   ·exact lookup_append
   ·rfl
theorem lookup_mem{α:Type}{x:Str}{v:α}:∀{l:List (Str×α)},l.lookup x=some v->(x,v)∈l
 | [],h=>by simp at h
 | (y,g)::l,h=>by
   simp only[List.lookup_cons]at h
   cases e:(x==y)with
   | true=>
     rw[e]at h;cases h;have:=eq_of_beq e;subst this;exact List.mem_cons_self
   | false=>rw[e]at h;exact List.mem_cons_of_mem _ (lookup_mem h)
theorem lZ{x:Str}{j np:Nat}{l:List Df}{cs:List (Str×Gk)}(hc:NoFn cs)(h:(glOf 0 l++cs).lookup x=some (.fn j np)):∃d k,j=0+k/\l[k]?=some d/\d.name=x/\d.ps.length=np:=by
 rw[lookup_append]at h
 cases e:(glOf 0 l).lookup x with
 | some q=>
   rw[e]at h;cases h;exact pL e
 | none=>
   rw[e]at h;exact absurd rfl (hc _ (lookup_mem h) j np)
structure DfOk(gl:List (Str×Gk))(d:Df):Prop where
 sc:FnScope d.N d.ps (aq d.st)
 np:d.ps.length=d.fd.np
 ns:d.N.length=d.fd.ns
 tr:trSs (trS 40 ⟨d.N,aq d.st,gl⟩) (aM d.st)=some d.fd.body\/d.fd.body=Eh
section
variable{P:Program}{w:World}{K:PySem.W.Frag}{mg:Str->Option Value}{base:Heap}{W:Wd}{p:Prg}{w0:Nat}{gl:List (Str×Gk)}
noncomputable def DfAt(K:PySem.W.Frag)(mg:Str->Option Value)(d:Df):Prop:=∃f fd,Fun K d.name d.qual d.st f fd/\Binds K fd d.ps []/\mg d.name=some (.ref f)
noncomputable def Bt(P:Program)(w:World)(K:PySem.W.Frag)(mg:Str->Option Value)(base:Heap)(W:Wd)(p:Prg)(w0:Nat)(gl:List (Str×Gk))(n:Nat):Prop :=
 (∀x i np,gl.lookup x=some (.fn i np)->∃f fd ps,mg x=some (.ref f)/\PySem.W.keepIn K (.ref f)=true/\Binds K fd ps []/\FnOk P w K mg base CX0 n f fd ps (spFn W ((orc p w0 n).fn i) np)) /\
 ∀x v i np,gl.lookup ("!d":Str)=some (.dfl x v)->gl.lookup x=some (.fn i np)->∃f fd ps vs,mg x=some (.ref f)/\PySem.W.keepIn K (.ref f)=true/\Binds K fd ps vs/\Vals [.int v] vs/\FnOk P w K mg base CX0 n f fd ps (spFn W ((orc p w0 n).fn i) np)
theorem yD(o:Orc)(np ns:Nat)(args:List D):dB o ⟨np,ns,Eh⟩ args=.stuck:=by
 unfold dB;split
 ·simp[Eh,nF,evSs,evS,ev,SO.of]
 ·rfl
structure Ground(P:Program)(w:World)(K:PySem.W.Frag)(mg:Str->Option Value)(W:Wd)(p:Prg)(gl:List (Str×Gk)):Prop where
 hk:W.K=K
 hgb:∀x∈cj,gl.lookup x=none->mg x=none
 hgv:∀x d,gl.lookup x=some (.val d)->∃u v,mg x=some u/\RelV v u/\∀G,Rep W G d v
 hgd:∀x ks vs,gl.lookup x=some (.dct ks vs)->∃ad,mg x=some (.ref ad)/\KDct P w W ad ks vs
 hdf:∀x v i np,gl.lookup ("!d":Str)=some (.dfl x v)->gl.lookup x=some (.fn i np)->∃d f fd vs,p.fns[i]?=some d.fd/\DfOk gl d/\d.ps.length=np/\Fun K d.name d.qual d.st f fd/\Binds K fd d.ps vs/\Vals [.int v] vs/\mg x=some (.ref f)
theorem Br{d:Df}{n:Nat}{f:Addr}(G:Ground P w K mg W p gl)(ok:DfOk gl d)(tr:trSs (trS 40 ⟨d.N,aq d.st,gl⟩) (aM d.st)=some d.fd.body)(ih:Bt P w K mg base W p w0 gl n)
 (cdv:Value) (A:Around) (outer:List Env) (s:Shared) (H:Hp) (E:XK) (hr:Room n (A.deeper (envOfC d.qual (aq d.st) s.heap.objs.size f cdv))) :
 PSs (cxOf CX0 P w K mg base d.N d.qual (aq d.st) f cdv A outer s H E).nox (aM d.st) (tS (cxOf CX0 P w K mg base d.N d.qual (aq d.st) f cdv A outer s H E).nox W (evSs (orc p w0 n) d.fd.body)):=by
 have FT:FitsS (cxOf CX0 P w K mg base d.N d.qual (aq d.st) f cdv A outer s H E).nox W ⟨d.N,aq d.st,gl⟩ (orc p w0 n) n :=
  ⟨⟨rfl,ok.sc.nd,rfl,G.hk,hr,rfl,ih.1,G.hgb,G.hgv,G.hgd,trivial,ih.2,trivial⟩,fun _=>rfl,PassesOwn.never,rfl,rfl⟩
 exact lJ (sndS 40 FT) tr
theorem mL{d:Df}{i n:Nat}{f:Addr}{fd:FuncData}(G:Ground P w K mg W p gl)(F:Fun K d.name d.qual d.st f fd)(ok:DfOk gl d)(hi:p.fns[i]?=some d.fd)(ih:Bt P w K mg base W p w0 gl n) :
 FnOk P w K mg base CX0 (n+1) f fd d.ps (spFn W ((orc p w0 (n+1)).fn i) d.ps.length):=by
 have e:(orc p w0 (n+1)).fn i=dB (orc p w0 n) ⟨d.ps.length,d.N.length,d.fd.body⟩:=by
  funext a
  have e2:d.fd=⟨d.ps.length,d.N.length,d.fd.body⟩:=by
   rw[ok.np,ok.ns]
  show(match p.fns[i]? with | some d=>dB (orc p w0 n) d a | none=>.stuck)=_;rw[hi,<-e2]
 rw[e];rcases ok.tr with tr | hole
 case inr=>
  refine⟨fun vs H Q E q=>q.1,fun A outer s H args us vs Q E _ _ _ _ q=>?_⟩;obtain⟨_,_,_,_,_,_,r,e,_⟩:=q;rw[hole,yD]at e;cases e
 exact xN F ok.sc rfl rfl (fun cdv A outer s H E hr=>Br G ok tr ih cdv A outer s H E hr) G.hk
theorem Jh{f:Addr}{fd:FuncData}{ps:List Str}{g:List D->R (Bool×D)}{k np:Nat}(hp:np=ps.length)(h:∀a,g a=.stuck):FnOk P w K mg base CX0 k f fd ps (spFn W g np):=by
 refine⟨fun vs H Q E q=>by rw[<-hp];exact q.1,fun A outer s H args us vs Q E _ _ _ _ q=>?_⟩;obtain⟨_,_,_,_,_,_,r,e,_⟩:=q;rw[h]at e;cases e
theorem pq{ds:List Df}{cs:List (Str×Gk)}(hcs:NoFn cs)(G:Ground P w K mg W p (glOf 0 ds++cs))(hp:p.fns=ds.map (·.fd))(hok:∀d∈ds,DfOk (glOf 0 ds++cs) d)(hat:∀d∈ds,DfAt K mg d) :
 ∀n,Bt P w K mg base W p w0 (glOf 0 ds++cs) n
 | 0=>by
   refine⟨fun x i np h=>?_,fun x v i np h h'=>?_⟩
   ·obtain⟨d,k,h1,h2,h3,h4⟩:=lZ hcs h
    obtain⟨f,fd,F,b,m⟩:=hat d (List.mem_of_getElem? h2);exact⟨f,fd,d.ps,by rw[<-h3];exact m,F.kp,b,Jh h4.symm fun _=>rfl⟩
   ·obtain⟨d,f,fd,vs,h1,h2,h3,F,b,hv,m⟩:=G.hdf x v i np h h'
    exact⟨f,fd,d.ps,vs,m,F.kp,b,hv,Jh h3.symm fun _=>rfl⟩
 | n+1=>by
   have a1:=pq hcs G hp hok hat n;refine⟨fun x i np h=>?_,fun x v i np h h'=>?_⟩
   ·obtain⟨d,k,h1,h2,h3,h4⟩:=lZ hcs h
    obtain⟨f,fd,F,b,m⟩:=hat d (List.mem_of_getElem? h2);refine⟨f,fd,d.ps,by rw[<-h3];exact m,F.kp,b,?_⟩;have:=mL (i:=i) G F (hok d (List.mem_of_getElem? h2)) (by rw[hp,List.getElem?_map,h1,Nat.zero_add,h2];rfl) a1;rw[h4]at this;exact this
   ·obtain⟨d,f,fd,vs,h1,h2,h3,F,b,hv,m⟩:=G.hdf x v i np h h'
    refine⟨f,fd,d.ps,vs,m,F.kp,b,hv,?_⟩;have:=mL (i:=i) G F h2 h1 a1;rw[h3]at this;exact this
theorem Jo{ds:List Df}{cs:List (Str×Gk)}{d:Df}{i n:Nat}{f:Addr}{fd:FuncData}(hcs:NoFn cs)(G:Ground P w K mg W p (glOf 0 ds++cs))(hp:p.fns=ds.map (·.fd))(hok:∀d∈ds,DfOk (glOf 0 ds++cs) d)(hat:∀d∈ds,DfAt K mg d)
 (F:Fun K d.name d.qual d.st f fd) (ok:DfOk (glOf 0 ds++cs) d) (hi:p.fns[i]?=some d.fd):FnOk P w K mg base CX0 (n+1) f fd d.ps (spFn W ((orc p w0 (n+1)).fn i) d.ps.length) :=
 mL G F ok hi (pq (base:=base) (w0:=w0) hcs G hp hok hat n)
end
structure CsOk(P:Program)(w:World)(W:Wd)(mg:Str->Option Value)(q:Str×Gk):Prop where
 val:∀d,q.2=.val d->∃u v,mg q.1=some u/\RelV v u/\∀G,Rep W G d v
 dct:∀ks vs,q.2=.dct ks vs->∃ad,mg q.1=some (.ref ad)/\KDct P w W ad ks vs
theorem jb{x:Str}{g:Gk}:∀{l:List Df} {i:Nat},(glOf i l).lookup x=some g->∃j np,g=.fn j np
 | [],_,h=>by simp[glOf]at h
 | d::l,i,h=>by
   simp only[glOf,List.lookup_cons]at h
   cases e:(x==d.name)with
   | true=>rw[e]at h;cases h;exact⟨_,_,rfl⟩
   | false=>rw[e]at h;exact jb h
theorem J3{P:Program}{w:World}{W:Wd}{mg:Str->Option Value}{ds:List Df}{cs:List (Str×Gk)}(h:∀q∈cs,CsOk P w W mg q):(∀x d,(glOf 0 ds++cs).lookup x=some (.val d)->∃u v,mg x=some u/\RelV v u/\∀G,Rep W G d v) /\
 ∀x ks vs,(glOf 0 ds++cs).lookup x=some (.dct ks vs)->∃ad,mg x=some (.ref ad)/\KDct P w W ad ks vs:=by
 have key:∀x g,(glOf 0 ds++cs).lookup x=some g->(∀j np,g≠.fn j np)->(x,g)∈cs:=fun x g e hn=>by
  rw[lookup_append]at e
  cases e1:(glOf 0 ds).lookup x with
  | some q=>
    rw[e1]at e;cases e;obtain⟨j,np,rfl⟩:=jb e1;exact absurd rfl (hn j np)
  | none=>rw[e1]at e;exact lookup_mem e
 exact⟨fun x d e=>(h _ (key x _ e (by simp))).val d rfl,fun x ks vs e=>(h _ (key x _ e (by simp))).dct ks vs rfl⟩
noncomputable def entK(w:World)(q:DK×Tok×Value×D):DictEntry:=match q.1 with
 | .s x=>⟨PyData.keyHash w.params (strV x),.str (strV x) q.2.1,q.2.2.1⟩
 | .i n=>⟨hashInt n,.int n q.2.1,q.2.2.1⟩
noncomputable def Hh(W:Wd):List (DK×Tok×Value×D)->Prop
 | []=>True
 | q::l=>(∃v,RelV v q.2.2.1/\∀G,Rep W G q.2.2.2 v)/\Hh W l
theorem qg{P:Program}{w:World}(q:DK×Tok×Value×D):(bB P w).is (keyV q.1) (entK w q).key=true/\(bB P w).hash (keyV q.1)=(entK w q).hash/\(entK w q).val=q.2.2.1:=by
 obtain⟨k,t,u,d⟩:=q
 cases k with
 | i n=>exact⟨by simp[bB,j7,entK,keyV,Value.isInt],rfl,rfl⟩
 | s x=>exact⟨by simp[bB,j7,entK,keyV,Value.isStrOf],rfl,rfl⟩
theorem KR{P:Program}{w:World}{W:Wd}{a:Addr}{ep:Nat}{es:Array DictEntry}{qs:List (DK×Tok×Value×D)}(h:W.K.lookup a=some { cls:=.type "dict",data:=.dict es ep })(he:es.toList=qs.map (entK w))(hn:(qs.map (·.1)).Nodup)(hs:(a==sysModules)=false)(hl:Hh W qs) :
 KDct P w W a (qs.map (·.1)) (qs.map (·.2.2.2)):=by
 have hnk:((qs.map fun q=>(keyV q.1,q.2.2.1)).map (·.1)).Nodup:=by
  rw[List.map_map];exact List.pairwise_map.mpr ((List.pairwise_map.mp hn).imp fun z e=>z (fH e))
 refine⟨qs.map fun q=>(keyV q.1,q.2.2.1),fun hp hK=>⟨_,es,ep,hK a _ h,⟨rfl,rfl,rfl⟩,rfl,fun e hm=>?_,?_,hnk⟩,fun x d e=>?_,hs,fun x=>?_⟩
 ·have:e∈es.toList:=by simpa using hm
  rw[he]at this;obtain⟨q,_,rfl⟩:=List.mem_map.mp this;exact⟨keyV q.1,(qg q).1,(qg (P:=P) q).2.1.symm⟩
 ·rw[he]
  clear he hn hl hnk h
  induction qs with
  | nil=>exact .nil
  | cons q qs ih=>exact .cons (qg q).1 (qg (P:=P) q).2.2 ih
 ·clear he hnk h
  induction qs with
  | nil=>simp[look]at e
  | cons q qs ih=>
    simp only[List.map_cons,look]at e;split at e
    ·rename_i ex
     subst ex;cases e;obtain⟨v,h1,h2⟩:=hl.1;exact⟨q.2.2.1,v,by simp[valueAt],h1,h2⟩
    ·rename_i ex
     obtain⟨u,v,h1,h2,h3⟩:=ih (List.nodup_cons.mp hn).2 hl.2 e;refine⟨u,v,?_,h2,h3⟩;simp only[valueAt,List.map_cons,List.find?_cons]at h1 ⊢;rw[show decide (keyV q.1=keyV x)=false from decide_eq_false fun z=>ex (fH z)];exact h1
 ·clear he hnk h hl hn
  induction qs with
  | nil=>simp[valueAt]
  | cons q qs ih=>
    simp only[valueAt,List.map_cons,List.find?_cons]at ih ⊢
    by_cases z:keyV q.1=keyV x
    ·rw[decide_eq_true z]
     simp[fH z]
    ·rw[decide_eq_false z]
     have:¬x=q.1:=fun e=>z (by rw[e])
     simp only[List.mem_cons,this,false_or];exact ih
theorem lF{W:Wd}{G:Hp}:∀ns:List Int,Reps W G (ns.map .int) (ns.map V.int)
 | []=>by simp only[List.map_nil,Reps]
 | n::ns=>by simp only[List.map_cons,Reps,Rep];exact⟨trivial,lF ns⟩
noncomputable def spZ(K:PySem.W.Frag)(p:Prg)(n i:Nat):Sp:=fun vs H Q E=>∃w0,∀CT,spFn ⟨K,CT⟩ ((orc p w0 n).fn i) 1 vs H Q E
theorem Ek{K:PySem.W.Frag}{p:Prg}{n i:Nat}{H:Hp}{a:Addr}{ns:List Int}(hp:∃w0,(orc p w0 n).fn i [.lst (ns.map .int)]=.ok (false,.bl true))(hS:SqL K H a (ns.map V.int)):spZ K p n i [.ref a] H (fun v _=>v=.bl true) fun _ _ _=>False:=by
 obtain⟨w0,e⟩:=hp;refine⟨w0,fun CT=>⟨rfl,fun _=>False,[.lst (ns.map .int)],fun _ z=>z.elim,fun _ z=>z.elim,?_,_,e,fun v H' s q=>?_⟩⟩
 ·simp only[Reps,Rep]
  refine⟨⟨a,_,rfl,?_,lF ns⟩,trivial⟩
  have:Same H (vis H fun _=>False):=fun b o h=>bW h fun z=>z
  exact this.seq hS
 ·have:=q.look
  simp only[RepT,Rep]at this;exact this
theorem walkZ{l:PySem.W.OpenLaw}{q:Program}{loose:List Str}{XP:(Str->Option Value)->Heap->Prop}{YP:World->Heap->Prop}{d:DefRec}{K:Params->PySem.W.Frag}{p:Prg}{n i:Nat}{x:Str}
 (hn:l.most=some 63) (hdf:d.params.defaults=[]) (hr:Room n callerA) (hY:∀(w:World) (h:Heap),YP w h->(K w.params).In h)
 (F:∀(w:World) (mg:Str->Option Value) (fa:Addr) (h:Heap),(K w.params).In h->h.Ns mainGlobals mg->mg d.name=some (.ref fa) ->
  ∃(fd:FuncData) (CT:Nat->Addr),(∀(s:Shared) (u:Value),BindsTo s fd ⟨[u],[]⟩ [(x,u)])/\∀(base:Heap) (w0:Nat),FnOk l.prog w (K w.params) mg base CX0 n fa fd [x] (spFn ⟨K w.params,CT⟩ ((orc p w0 n).fn i) 1))
 (hp:∀ns:List Int,ns.length<=63->∃w0,(orc p w0 n).fn i [.lst (ns.map .int)]=.ok (false,.bl true)) :
 PySem.W.WalkO q loose XP YP l.row.toRowW d [] (fun f vs=>PySem.call f vs):=by
 refine L2.walk_of (n:=63) (k:=n) (x:=x) (CX:=fun _=>CX0) (sp:=fun w=>spZ (K w.params) p n i) hn (by decide) hdf hr hY (fun w mg fa h KX G hm=>?_) (fun w H a ns hl _ hS=>Ek (hp ns hl) hS) fun _ _ _ _ _ z=>z
 obtain⟨fd,CT,hb,hF⟩:=F w mg fa h KX G hm;refine⟨fd,hb,fun base _ _=>⟨fun vs H Q E ⟨w0,q⟩=>(hF base w0).len vs H Q E (q CT),fun A outer s H args us vs Q E hr he hb hv ⟨w0,hs⟩=>(hF base w0).run A outer s H args us vs Q E hr he hb hv (hs CT)⟩⟩
theorem us1{α:Type}{P:List α->Prop}(h:∀a,P [a]):∀us:List α,us.length=1->P us
 | [a],_=>h a
theorem us2{α:Type}{P:List α->Prop}(h:∀a b,P [a,b]):∀us:List α,us.length=2->P us
 | [a,b],_=>h a b
theorem us3{α:Type}{P:List α->Prop}(h:∀a b c,P [a,b,c]):∀us:List α,us.length=3->P us
 | [a,b,c],_=>h a b c
theorem us4{α:Type}{P:List α->Prop}(h:∀a b c d,P [a,b,c,d]):∀us:List α,us.length=4->P us
 | [a,b,c,d],_=>h a b c d
noncomputable def bO(d:Df):Prop:=∀(kV doc pm:Value) (an:Option Addr) (cdv ct:Value) (us:List Value),us.length=d.ps.length->bindArgs (PySem.W.fnOf d.name d.qual (aZ d.st) (aM d.st) (aq d.st) .none kV doc pm an cdv ct) ⟨us,[]⟩=pure (d.ps.zip us)
theorem cG{d:Df}(hn:d.ps.length=1)(h:∀(kV doc pm:Value) (an:Option Addr) (cdv ct:Value) (a:Value),bindArgs (PySem.W.fnOf d.name d.qual (aZ d.st) (aM d.st) (aq d.st) .none kV doc pm an cdv ct) ⟨[a],[]⟩=pure (d.ps.zip [a])):bO d:=fun kV doc pm an cdv ct us hl=>us1 (P:=fun us=>bindArgs (PySem.W.fnOf d.name d.qual (aZ d.st) (aM d.st) (aq d.st) .none kV doc pm an cdv ct) ⟨us,[]⟩=pure (d.ps.zip us)) (h kV doc pm an cdv ct) us (hl.trans hn)
theorem fP{d:Df}(hn:d.ps.length=2)(h:∀(kV doc pm:Value) (an:Option Addr) (cdv ct:Value) (a b:Value),bindArgs (PySem.W.fnOf d.name d.qual (aZ d.st) (aM d.st) (aq d.st) .none kV doc pm an cdv ct) ⟨[a,b],[]⟩=pure (d.ps.zip [a,b])):bO d:=fun kV doc pm an cdv ct us hl=>us2 (P:=fun us=>bindArgs (PySem.W.fnOf d.name d.qual (aZ d.st) (aM d.st) (aq d.st) .none kV doc pm an cdv ct) ⟨us,[]⟩=pure (d.ps.zip us)) (h kV doc pm an cdv ct) us (hl.trans hn)
theorem Hf{d:Df}(hn:d.ps.length=3)(h:∀(kV doc pm:Value) (an:Option Addr) (cdv ct:Value) (a b c:Value),bindArgs (PySem.W.fnOf d.name d.qual (aZ d.st) (aM d.st) (aq d.st) .none kV doc pm an cdv ct) ⟨[a,b,c],[]⟩=pure (d.ps.zip [a,b,c])):bO d:=fun kV doc pm an cdv ct us hl=>us3 (P:=fun us=>bindArgs (PySem.W.fnOf d.name d.qual (aZ d.st) (aM d.st) (aq d.st) .none kV doc pm an cdv ct) ⟨us,[]⟩=pure (d.ps.zip us)) (h kV doc pm an cdv ct) us (hl.trans hn)
theorem JG{d:Df}(hn:d.ps.length=4)(h:∀(kV doc pm:Value) (an:Option Addr) (cdv ct:Value) (a b c e:Value),bindArgs (PySem.W.fnOf d.name d.qual (aZ d.st) (aM d.st) (aq d.st) .none kV doc pm an cdv ct) ⟨[a,b,c,e],[]⟩=pure (d.ps.zip [a,b,c,e])):bO d:=fun kV doc pm an cdv ct us hl=>us4 (P:=fun us=>bindArgs (PySem.W.fnOf d.name d.qual (aZ d.st) (aM d.st) (aq d.st) .none kV doc pm an cdv ct) ⟨us,[]⟩=pure (d.ps.zip us)) (h kV doc pm an cdv ct) us (hl.trans hn)
theorem KJ{K:PySem.W.Frag}{h:Heap}{mg:Str->Option Value}{d:Df}{f:Addr}{od an:Option Addr}{sl:Array (Option Value)}{oc kV dc pm cd ct:Value}(X:K.In h)(G:h.Ns mainGlobals mg)
 (a:PySem.W.nsIn K mainGlobals d.name=some (some (.ref f))) (l:K.lookup f=some ⟨oc,od,.func (PySem.W.fnOf d.name d.qual (aZ d.st) (aM d.st) (aq d.st) .none kV dc pm an cd ct),sl⟩) (c:PySem.W.codeIn K cd d.qual=true) (k:PySem.W.keepIn K (.ref f)=true)
 (hb:bO d):DfAt K mg d :=
 ⟨f,_,qF l c k,Binds.all (hb kV dc pm an cd ct),PySem.W.mg_of X G a⟩
noncomputable def Gm(d:Df)(v:Int):Prop:=∀(T:Addr) (t:Tok) (kV doc pm:Value) (an:Option Addr) (cdv ct:Value),
 (∀a b,∃k,bindArgs (PySem.W.fnOf d.name d.qual (aZ d.st) (aM d.st) (aq d.st) (.ref T) kV doc pm an cdv ct) ⟨[a,b],[]⟩=seqItems? (.ref T) >>= k/\k (some #[.int v t])=pure (d.ps.zip [a,b])) /\
 ∀a,∃k,bindArgs (PySem.W.fnOf d.name d.qual (aZ d.st) (aM d.st) (aq d.st) (.ref T) kV doc pm an cdv ct) ⟨[a],[]⟩=seqItems? (.ref T) >>= k/\k (some #[.int v t])=pure (d.ps.zip [a,.int v t])
theorem GQ{K:PySem.W.Frag}{h:Heap}{mg:Str->Option Value}{d:Df}{v:Int}{f T:Addr}{od an o2:Option Addr}{sl s2:Array (Option Value)}{oc kV dc pm cd ct:Value}{t:Tok}{n2:Nat}(X:K.In h)(G:h.Ns mainGlobals mg)
 (a:PySem.W.nsIn K mainGlobals d.name=some (some (.ref f))) (l:K.lookup f=some ⟨oc,od,.func (PySem.W.fnOf d.name d.qual (aZ d.st) (aM d.st) (aq d.st) (.ref T) kV dc pm an cd ct),sl⟩) (c:PySem.W.codeIn K cd d.qual=true) (k:PySem.W.keepIn K (.ref f)=true)
 (lt:K.lookup T=some ⟨.type "tuple",o2,.seq #[.int v t] n2,s2⟩) (hp:d.ps.length=2) (hb:Gm d v):DfAt K mg d/\∃f fd vs,Fun K d.name d.qual d.st f fd/\Binds K fd d.ps vs/\Vals [.int v] vs/\mg d.name=some (.ref f):=by
 have hm:=PySem.W.mg_of X G a;obtain⟨h2,h1⟩:=hb T t kV dc pm an cd ct;refine⟨⟨f,_,qF l c k,fun s us K' hl=>?_,hm⟩,f,_,[.int v t],qF l c k,fun s us K' hl=>?_,.cons ⟨t,rfl⟩ .nil,hm⟩
 ·rw[List.append_nil]at hl ⊢
  rw[hp]at hl
  match us,hl with
  | [x,y],_=>
    obtain⟨k',e1,e2⟩:=h2 x y;exact PySem.W.binds_K K' rfl lt rfl e1 e2
 ·rw[List.length_append,hp]at hl
  match us,hl with
  | [x],_=>
    obtain⟨k',e1,e2⟩:=h1 x;exact PySem.W.binds_K K' rfl lt rfl e1 e2
end Z
namespace KG
open Z
theorem bC{o:Orc}{s:S}{l:SL}{δ δ':Dst}(h:evS o s δ=.nx δ'):evSs o (.cons s l) δ=evSs o l δ':=by simp only[evSs,h]
theorem aF(a b:Int)(hb:0<b):0<=a.fmod b/\a.fmod b<b:=⟨Int.fmod_nonneg_of_pos a hb,Int.fmod_lt_of_pos a hb⟩
end KG
namespace KG
open Z
theorem aA{o:Orc}{f:Fd}{args:List D}{w:Bool}{d:D}{δ0:Dst}(ha:args.length=f.np)(h0:args.map (fun d=>some (Own.sh,d))++List.replicate (f.ns-f.np) none=δ0)(h:∃δ,evSs o f.body δ0=.rt w d δ):dB o f args=.ok (w,d):=by
 obtain⟨δ,h⟩:=h;simp only[dB,ha,if_true,h0,h]
theorem stp{o:Orc}{s:S}{l:SL}{δ:Dst}{w:Bool}{d:D}(δ':Dst)(h:evS o s δ=.nx δ')(k:∃δ1,evSs o l δ'=.rt w d δ1):∃δ1,evSs o (.cons s l) δ=.rt w d δ1:=by
 obtain⟨δ1,k⟩:=k;exact⟨δ1,(bC h).trans k⟩
theorem stpR{o:Orc}{s:S}{l:SL}{δ:Dst}{w:Bool}{d:D}{δ':Dst}(h:evS o s δ=.rt w d δ'):∃δ1,evSs o (.cons s l) δ=.rt w d δ1:=⟨δ',by simp only[evSs,h]⟩
noncomputable def isV:T->Bool
 | .var _=>true
 | _=>false
theorem retE{o:Orc}{δ:Dst}{e:T}(hv:isV e=false):evS o (.ret e) δ=SO.of (evF o δ e).1 (evF o δ e).2 fun r=>.rt r.1 r.2 (evF o δ e).1:=by cases e<;>first | rfl | exact nomatch hv
theorem forE{o:Orc}{δ δ1:Dst}{tg:List Nat}{tp:Bool}{it:TI}{b:SL}(h:cM δ it=δ1):evS o (.for_ tg tp it b) δ=SO.of δ1 (evI o δ1 false it) fun l=>cF (evSs o b) tg tp l δ1:=by subst h;simp only[evS]
noncomputable def cellFd:Fd:=⟨2,2,(SL.cons (S.ifs (T.op2 .lt (T.var 1) (T.b1 .len (T.var 0))) (SL.cons (S.ret (T.idx (T.var 0) (T.var 1))) SL.nil) SL.nil) (SL.cons (S.ret (T.cst (D.int 0))) SL.nil))⟩
theorem yx(o:Orc)(ns:List Int)(k:Nat):dB o cellFd [.lst (ns.map .int),.int (k:Int)]=.ok (false,.int (ns.getD k 0)):=by
 by_cases h:k<ns.length
 ·have h':(k:Int)<(ns.length:Int):=by omega
  have h0:(0:Int)<=k:=by omega
  simp[dB,cellFd,evSs,evS,evF,ev,R.bind,o2,b1D,arith,truth,R.of,SO.of,h,h',idxD,place,h0,List.getD_eq_getElem?_getD,List.getElem?_eq_getElem h]
 ·have h':¬(k:Int)<(ns.length:Int):=by omega
  have h2:ns[k]?=none:=List.getElem?_eq_none (by omega);simp[dB,cellFd,evSs,evS,evF,ev,R.bind,o2,b1D,arith,truth,R.of,SO.of,h,h',List.getD_eq_getElem?_getD,h2]
end KG
namespace KG
open Z
theorem cY(x:List Nat):∀l,(insS x l).Perm (x::l)
 | []=>List.Perm.refl _
 | y::l=>by
   simp only[insS];split
   ·exact List.Perm.refl _
   ·exact((cY x l).cons y).trans (List.Perm.swap x y l)
theorem sortS_perm:∀l,(gn l).Perm l
 | []=>List.Perm.refl _
 | x::l=>(cY x _).trans ((sortS_perm l).cons x)
noncomputable abbrev Pair:=List Nat×Int
noncomputable def addP:List Pair->Pair->List Pair
 | [],p=>[p]
 | (x,v)::m,p=>if x=p.1 then(x,v+p.2)::m else(x,v)::addP m p
noncomputable def gather(l:List Pair):List Pair:=l.foldl addP []
noncomputable def keysOf(l:List Pair):List (List Nat):=(gather l).map (·.1)
noncomputable def prD(p:Pair):D:=.tup [.str p.1,.int p.2]
end KG
namespace KG
open Z
noncomputable def Bd(x:Int):Prop:=x.natAbs<2 ^ 70
theorem rJ{x:Int}(h:Bd x):bits x<=70:=by
 unfold bits;split
 ·omega
 ·rename_i hx
  have h0:x.natAbs≠0:=by omega
  have:=(Nat.log2_lt h0).mpr h;omega
theorem cZ{x y:Int}(hx:Bd x)(hy:Bd y):rC x y=true:=by
 have h1:=rJ hx;have h2:=rJ hy
 have:bits x+bits y<=134217728:=by omega
 simp[rC,this]
end KG
namespace KG
open Z
theorem vR:∀l:List Pair,immL (l.map prD)=true
 | []=>rfl
 | p::l=>by simp[immL,prD,D.imm,vR l]
theorem cH{α:Type}{f c:List D->R (Bool×D)}{a g:α->D}:∀{l:List α},(∀d∈l,c [a d]=.ok (false,.bl true))->(∀d∈l,∃w,f [a d]=.ok (w,g d))->bV f c 1 false (l.map a)=.ok (l.map g)
 | [],_,_=>rfl
 | d::l,hc,hf=>by
   obtain⟨w,h⟩:=hf d List.mem_cons_self;have ih:=cH (l:=l) (fun x hx=>hc x (List.mem_cons_of_mem _ hx)) (fun x hx=>hf x (List.mem_cons_of_mem _ hx));simp only[List.map_cons,bV,takes,Bool.false_eq_true,if_false,R.of,R.bind,hc d List.mem_cons_self,truth,if_true,h,ih]
theorem iQ(o:Orc)(δ:Dst)(lk:Bool)(it:TI)(caps:List Nat)(cs l r:List D)(m:Nat)(tg:Bool)(c e:T)(hI:evI o δ true it=.ok l)(hs:dZ δ caps=some cs)(ho:(caps.all fun i=>!isOwn δ i)=true)(hr:r.length<=1000)
 (hc:bV (fun x=>ev o ((x++cs).map fun d=>some (Own.sh,d)) false e) (fun x=>ev o ((x++cs).map fun d=>some (Own.sh,d)) true c) m tg l=.ok r):ev o δ lk (T.comp caps m tg it c e)=.ok (true,.lst r):=by
 rw[ev,hI,hs];simp only[R.bind,R.of];rw[hc]
 have hz:size r.length=true:=by simp[size];omega
 simp only[ho,hz,R.chk];simp
theorem aG{o:Orc}{δ δ':Dst}{i:Nat}{e:T}{w:Bool}{d:D}(h:ev o δ false e=.ok (w,d))(hs:setSlot δ i w d=some δ'):evS o (.set i e) δ=.nx δ':=by
 simp only[evS,evF,h,SO.of,hs,Option.map_some,bw]
theorem pX{o:Orc}{δ:Dst}{c:T}{w b:Bool}{x y:SL}(h:ev o δ true c=.ok (w,.bl b)):evS o (.ifs c x y) δ=if b=true then evSs o x δ else evSs o y δ:=by
 simp only[evS,h,R.bind,truth,R.of,SO.of]
theorem jO(w:List Nat)(m:Nat):slcD (.str w) none (some (m:Int))=some (false,.str (w.take m)):=by
 have:clip w.length (m:Int)=min m w.length:=by unfold clip;rw[if_pos (Int.natCast_nonneg m),Int.toNat_natCast]
 simp only[slcD,dz,bY,this,cut,List.drop_zero,List.take_eq_take_iff,Option.some.injEq,Prod.mk.injEq,D.str.injEq,true_and]
 exact Nat.min_assoc .. |>.trans (by rw[Nat.min_self])
theorem cQ{o:Orc}{δ:Dst}{lk:Bool}{p:O2}{a b:T}{w1 w2:Bool}{x y:D}(ha:ev o δ true a=.ok (w1,x))(hb:ev o δ true b=.ok (w2,y)):ev o δ lk (T.op2 p a b)=o2 p x y:=by
 simp only[ev,ha,hb,R.bind]
theorem xj(w:List Nat)(m:Nat):slcD (.str w) (some (m:Int)) none=some (false,.str (w.drop m)):=by
 have:clip w.length (m:Int)=min m w.length:=by unfold clip;rw[if_pos (Int.natCast_nonneg m),Int.toNat_natCast]
 simp only[slcD,dz,bY,this,cut,List.take_length]
 congr 3
 by_cases h:m<=w.length
 ·rw[Nat.min_eq_left h]
 ·rw[Nat.min_eq_right (Nat.le_of_not_le h),List.drop_length,List.drop_eq_nil_of_le (Nat.le_of_not_le h)]
theorem ao{o:Orc}{δ:Dst}{lk:Bool}{i:Nat}{d:D}(h:δ[i]?=some (some (.sh,d))):ev o δ lk (T.var i)=.ok (false,d):=by simp only[ev,h]
theorem aj{o:Orc}{δ:Dst}{lk:Bool}{d:D}:ev o δ lk (T.cst d)=.ok (false,d):=by simp only[ev]
theorem mulE{a b:Int}(h:rC a b=true):o2 .mul (.int a) (.int b)=.ok (false,.int (a*b)):=by simp only[o2,arith,h,R.chk,if_true]
section
variable{o:Orc}{δ:Dst}{lk:Bool}
theorem aa{t:T}{l:TL}{x:D}{xs:List D}{w:Bool}(hk:fX δ t=false)(h:ev o δ false t=.ok (w,x))(hl:evL o δ l=.ok (false,xs)):evL o δ (.cons t l)=.ok (false,x::xs):=by
 simp only[evL,hk,h,hl,R.bind,Bool.or_false]
theorem aB{f:Nat}{l:TL}{xs:List D}{w:Bool}{x:D}(hl:evL o δ l=.ok (false,xs))(h:o.fn f xs=.ok (w,x)):ev o δ lk (T.call f l)=.ok (w,x):=by
 simp only[ev,hl,R.bind,h,lent,Bool.false_eq_true,if_false]
theorem bj{l:TL}{xs:List D}(hl:evL o δ l=.ok (false,xs))(hz:size xs.length=true):ev o δ lk (T.tup l)=.ok (false,.tup xs):=by
 simp only[ev,hl,R.bind,hz,Bool.not_false,Bool.and_self,R.chk,if_true]
theorem bL{l:TL}{xs:List D}(hl:evL o δ l=.ok (false,xs))(hz:size xs.length=true):ev o δ lk (T.lst l)=.ok (true,.lst xs):=by
 simp only[ev,hl,R.bind,hz,Bool.not_false,Bool.and_self,R.chk,if_true]
theorem eZ{a b:T}{w w' c:Bool}(ha:ev o δ true a=.ok (w,.bl true))(hb:ev o δ true b=.ok (w',.bl c)):ev o δ lk (T.and a b)=.ok (false,.bl c):=by simp only[ev,ha,hb,R.bind,cD]
theorem qI{a b:T}{w:Bool}(ha:ev o δ true a=.ok (w,.bl false)):ev o δ lk (T.and a b)=.ok (false,.bl false):=by simp only[ev,ha,R.bind]
theorem ifN{c:T}{x:SL}{w:Bool}(h:ev o δ true c=.ok (w,.bl false)):evS o (.ifs c x .nil) δ=.nx δ:=by rw[pX h];rfl
theorem retR{e:T}{w:Bool}{d:D}(h:ev o δ false e=.ok (w,d))(hv:isV e=false):evS o (.ret e) δ=.rt w d δ:=by
 rw[retE hv];simp only[evF,h,SO.of]
theorem ifR{c:T}{s:S}{l y:SL}{δ':Dst}{w b:Bool}{d:D}(h:ev o δ true c=.ok (b,.bl true))(k:evS o s δ=.rt w d δ'):evS o (.ifs c (.cons s l) y) δ=.rt w d δ':=by
 rw[pX h];simp only[if_true,evSs,k]
end
theorem cC{o:Orc}{δ:Dst}{lk:Bool}{a lo hi:T}{w1 w2 w3:Bool}{x y z:D}{l h:Option Int}{r:Bool×D}(ha:ev o δ true a=.ok (w1,x))(hl:ev o δ true lo=.ok (w2,y))(hh:ev o δ true hi=.ok (w3,z))(bl:bnd lo y=some l)(bh:bnd hi z=some h)(hr:slcD x l h=some r):ev o δ lk (T.slc a lo hi)=.ok r:=by
 simp only[ev,ha,hl,hh,R.bind,bl,bh,Option.bind_some,hr,R.of]
theorem FQ{o:Orc}{δ:Dst}{lk:Bool}{b:B2}{a c:T}{w1 w2:Bool}{x y:D}(ha:ev o δ true a=.ok (w1,x))(hc:ev o δ true c=.ok (w2,y)):ev o δ lk (T.b2 b a c)=b2D b x y:=by simp only[ev,ha,hc,R.bind]
theorem yJ{o:Orc}{δ:Dst}{lk:Bool}{b:B1}{a:T}{w1:Bool}{x:D}(ha:ev o δ true a=.ok (w1,x)):ev o δ lk (T.b1 b a)=b1D b x:=by simp only[ev,ha,R.bind]
end KG
namespace KG
open Z
theorem ix{x:List Nat}{k c:Nat}(h:x[k]?=some c):idxD (.str x) (.int (k:Int))=.ok (false,.str [c]):=by
 have hk:=(List.getElem?_eq_some_iff.mp h).1
 have h0:(0:Int)<=k:=by omega
 have h1:(k:Int)<x.length:=by omega
 simp only[idxD,place,h0,h1,if_true,Int.toNat_natCast,Option.bind_some,h,Option.map_some,R.of]
theorem o_lt(a b:Int):o2 .lt (.int a) (.int b)=.ok (false,.bl (decide (a<b))):=rfl
theorem o_gt(a b:Int):o2 .gt (.int a) (.int b)=.ok (false,.bl (decide (b<a))):=rfl
theorem qM(a b:List Nat):o2 .eq (.str a) (.str b)=.ok (false,.bl (decide (a=b))):=rfl
theorem bM(a b:Int):o2 .add (.int a) (.int b)=.ok (false,.int (a+b)):=rfl
theorem jn{o:Orc}{δ:Dst}{lk:Bool}{a i:T}{w1 w2:Bool}{x y:D}(ha:ev o δ true a=.ok (w1,x))(hi:ev o δ true i=.ok (w2,y)):ev o δ lk (T.idx a i)=idxD x y:=by simp only[ev,ha,hi,R.bind]
theorem pR(n m:Nat):clip n (m:Int)=min m n:=by unfold clip;rw[if_pos (Int.natCast_nonneg m),Int.toNat_natCast]
theorem ifF{o:Orc}{δ:Dst}{c:T}{x:SL}{w b:Bool}(h:ev o δ true c=.ok (w,.bl b))(hb:b=false):evS o (.ifs c x .nil) δ=.nx δ:=by subst hb;exact ifN h
theorem ifT{o:Orc}{δ δ':Dst}{c:T}{s:S}{l y:SL}{w w' b:Bool}{d:D}(h:ev o δ true c=.ok (w,.bl b))(hb:b=true)(k:evS o s δ=.rt w' d δ'):evS o (.ifs c (.cons s l) y) δ=.rt w' d δ':=by subst hb;exact ifR h k
theorem Am{o:Orc}{δ:Dst}{lk:Bool}{c a e:T}{w b:Bool}{r:R (Bool×D)}(hc:ev o δ true c=.ok (w,.bl b))(h:ev o δ lk (if b then a else e)=r):ev o δ lk (T.ite c a e)=r:=by
 cases b<;>(simp only[ev,hc,R.bind,truth,R.of];exact h)
theorem Mt{o:Orc}{δ:Dst}{lk:Bool}{a b:T}{w:Bool}(ha:ev o δ true a=.ok (w,.bl true)):ev o δ lk (T.or a b)=.ok (false,.bl true):=by simp only[ev,ha,R.bind]
theorem Lj{o:Orc}{δ:Dst}{lk:Bool}{a b:T}{w w' c:Bool}(ha:ev o δ true a=.ok (w,.bl false))(hb:ev o δ true b=.ok (w',.bl c)):ev o δ lk (T.or a b)=.ok (false,.bl c):=by simp only[ev,ha,hb,R.bind,cD]
theorem rF{o:Orc}{δ:Dst}{lk:Bool}{a b:T}{w w' c c':Bool}(ha:ev o δ true a=.ok (w,.bl c))(hb:ev o δ true b=.ok (w',.bl c')):ev o δ lk (T.or a b)=.ok (false,.bl (c||c')):=by
 cases c
 ·exact Lj ha hb
 ·exact Mt ha
theorem bN(a b:Int)(h:b≠0):o2 .mod (.int a) (.int b)=.ok (false,.int (a.fmod b)):=by simp only[o2,arith,decide_eq_true h,R.chk,if_true]
theorem bu(a b:Int)(h:(decide (b≠0)&&decide (b.natAbs.log2<9000))=true):o2 .fdiv (.int a) (.int b)=.ok (false,.int (a.fdiv b)):=by simp only[o2,arith,h,R.chk,if_true]
theorem dW(a b:Int):o2 .eq (.int a) (.int b)=.ok (false,.bl (decide (a=b))):=rfl
theorem bK{o:Orc}{δ:Dst}{i:Nat}{d:D}(h:δ[i]?=some (some (.ow,d))):ev o δ true (T.var i)=.ok (false,d):=by simp only[ev,h,if_true]
theorem dm{a b:List Nat}(h:a.length+b.length<=16777216):o2 .add (.str a) (.str b)=.ok (false,.str (a++b)):=by
 have:size (a.length+b.length)=true:=decide_eq_true h;simp only[o2,this,R.chk,if_true]
theorem Cw{l:List D}{k:Int}{d:D}(h0:0<=k)(h:l[k.toNat]?=some d):idxD (.lst l) (.int k)=.ok (false,d):=by
 have hk:=(List.getElem?_eq_some_iff.mp h).1
 have h1:k<l.length:=by omega
 simp only[idxD,place,h0,h1,if_true,Option.bind_some,h,Option.map_some,R.of]
section
variable{o:Orc}{δ:Dst}{lk:Bool}
theorem mX{t:T}{l:TL}{x:D}{xs:List D}{w b:Bool}(hk:fX δ t=true)(h:ev o δ true t=.ok (w,x))(hl:evL o δ l=.ok (b,xs)):evL o δ (.cons t l)=.ok (true,x::xs):=by
 simp only[evL,hk,h,hl,R.bind,Bool.true_or]
theorem oM{t:T}{l:TL}{x:D}{xs:List D}{w b:Bool}(hk:fX δ t=false)(h:ev o δ false t=.ok (w,x))(hl:evL o δ l=.ok (b,xs)):evL o δ (.cons t l)=.ok (b,x::xs):=by
 simp only[evL,hk,h,hl,R.bind,Bool.false_or]
theorem jX{f:Nat}{l:TL}{xs:List D}{w:Bool}{x:D}(hl:evL o δ l=.ok (true,xs))(h:o.fn f xs=.ok (w,x))(hi:x.imm=true):ev o δ lk (T.call f l)=.ok (w,x):=by
 simp only[ev,hl,R.bind,h,lent,if_true,hi]
theorem gr{a:T}{w b:Bool}(h:ev o δ true a=.ok (w,.bl b)):ev o δ lk (T.not a)=.ok (false,.bl !b):=by simp only[ev,h,R.bind,truth,R.of]
theorem Lr{m:M1}{a b:T}{w w':Bool}{x y:D}(ha:ev o δ true a=.ok (w,x))(hb:ev o δ true b=.ok (w',y)):ev o δ lk (T.m1 m a b)=m1D m x y:=by simp only[ev,ha,hb,R.bind]
theorem fQ(it:TI)(l r:List D)(c e:T)(hI:evI o δ true it=.ok l)(hr:r.length<=100000)
 (hc:bV (fun x=>ev o ((x++[]).map fun d=>some (Own.sh,d)) false e) (fun x=>ev o ((x++[]).map fun d=>some (Own.sh,d)) true c) 1 false l=.ok r):ev o δ lk (T.comp [] 1 false it c e)=.ok (true,.lst r):=by
 have h2:dZ δ []=some []:=rfl;rw[ev,hI,h2];simp only[R.bind,R.of];rw[hc]
 have hz:size r.length=true:=by simp[size];omega
 simp only[hz,R.chk];simp
theorem wH{t:T}{w:Bool}{n:Int}(h:ev o δ true t=.ok (w,.int n))(h1:-100000<=n)(h2:n<=100000):evI o δ lk (TI.rng1 t)=.ok ((List.range n.toNat).map fun(k:Nat)=>D.int (k:Int)):=by
 have:inR n=true:=by simp[inR];omega
 rw[evI,h];simp only[R.bind,this,R.chk,if_true];simp[rngD]
end
theorem uQ{o:Orc}{δ:Dst}{i:Nat}{e:T}{w:Bool}{d:D}{q:Own}{l:List D}(he:ev o δ false e=.ok (w,d))(ho:ownD δ i=some (q,.lst l))(hz:l.length+1<=100000):evS o (.append i e) δ=.nx (δ.set i (some (q,.lst (l++[d])))):=by
 have:size (l.length+1)=true:=decide_eq_true (by omega);simp only[evS,evF,he,SO.of,ho,Option.bind_some,this,if_true,bw]
theorem neg1{o:Orc}{δ:Dst}{lk:Bool}:ev o δ lk (T.neg (T.cst (D.int 1)))=.ok (false,.int (-1)):=by simp only[ev,R.bind]
theorem qO{n:Nat}:place (n+1) (-1)=some n:=by
 unfold place;rw[if_neg (by omega),if_pos (by omega)]
 congr 1
 omega
theorem qp(a:List D)(x:D):idxD (.lst (a++[x])) (.int (-1))=.ok (false,x):=by
 simp only[idxD,List.length_append,List.length_cons,List.length_nil,qO,Option.bind_some];simp[R.of]
end KG
namespace KG
open Z
inductive Stt where
 | least (c:Int) (l:List Pair)
 | rest (m c:Int) (l:List Pair)
 | nt (s:Stt)
 | grp (w:Bool) (ss:List Stt)
 | trn (w:Bool) (x:List Nat) (s:Stt)
noncomputable def oU:List Nat:=[108,101,97,115,116]
noncomputable def tM:List Nat:=[114,101,115,116]
noncomputable def sNot:List Nat:=[110,111,116]
noncomputable def sAnd:List Nat:=[97,110,100]
noncomputable def sOr:List Nat:=[111,114]
noncomputable def Ba:List Nat:=[115,111,109,101]
noncomputable def sAll:List Nat:=[97,108,108]
noncomputable def gw(w:Bool):List Nat:=if w then sOr else sAnd
noncomputable def tww(w:Bool):List Nat:=if w then sAll else Ba
noncomputable abbrev smT(c:Int)(l:List Pair):D:=.tup [.int c,.tup (l.map prD)]
mutual
noncomputable def toD:Stt->D
 | .least c l=>.tup [.str oU,smT c l]
 | .rest m c l=>.tup [.str tM,.int m,smT c l]
 | .nt s=>.tup [.str sNot,toD s]
 | .grp w ss=>.tup [.str (gw w),.tup (toDs ss)]
 | .trn w x s=>.tup [.str (tww w),.str x,toD s]
noncomputable def toDs:List Stt->List D
 | []=>[]
 | s::ss=>toD s::toDs ss
end
theorem gO:∀ss:List Stt,toDs ss=ss.map toD
 | []=>by rw[toDs];rfl
 | s::ss=>by rw[toDs,gO ss];rfl
noncomputable def Lw(l:List Pair):Prop:=l.length<=1000/\∀p∈l,Bd p.2
noncomputable def wf:Nat->Stt->Prop
 | _,.least _ l=>Lw l
 | _,.rest _ _ l=>Lw l
 | n+1,.nt s=>wf n s
 | n+1,.grp _ ss=>ss.length<=100/\∀s∈ss,wf n s
 | n+1,.trn _ _ s=>wf n s
 | 0,_=>False
theorem fZ:∀{n m:Nat} {s:Stt},wf n s->n<=m->wf m s:=by
 intro n
 induction n with
 | zero=>
   intro m s h _;cases s<;>simp only[wf]at h
   all_goals(cases m<;>exact h)
 | succ n ih=>
   intro m s h hm
   obtain⟨m,rfl⟩:∃k,m=k+1:=⟨m-1,by omega⟩
   cases s with
   | least c l=>exact h
   | rest a c l=>exact h
   | nt s=>simp only[wf]at h ⊢;exact ih h (by omega)
   | grp w ss=>simp only[wf]at h ⊢;exact⟨h.1,fun s hs=>ih (h.2 s hs) (by omega)⟩
   | trn w x s=>simp only[wf]at h ⊢;exact ih h (by omega)
end KG
namespace KG
open Z
mutual
noncomputable def sz:Stt->Nat
 | .least _ _=>1
 | .rest _ _ _=>1
 | .nt s=>sz s+1
 | .grp _ ss=>szs ss+1
 | .trn _ _ s=>sz s+1
noncomputable def szs:List Stt->Nat
 | []=>0
 | s::ss=>sz s+szs ss
end
theorem J9(l:List D)(m:Nat):slcD (.lst l) none (some (m:Int))=some (true,.lst (l.take m)):=by
 simp only[slcD,dz,bY,pR,cut,List.drop_zero];rw[<-List.take_eq_take_min]
theorem JK(l:List D)(m:Nat)(h:m<=l.length):slcD (.lst l) (some (m:Int)) none=some (true,.lst (l.drop m)):=by
 simp only[slcD,dz,bY,pR,cut,List.take_length,Nat.min_eq_left h]
end KG
namespace KG
open Z
section
variable{o:Orc}{δ δ':Dst}{lk:Bool}
theorem au{p:O2}{a b:T}{w1 w2:Bool}{x y:D}{r:R (Bool×D)}(ha:ev o δ true a=.ok (w1,x))(hb:ev o δ true b=.ok (w2,y))(h:o2 p x y=r):ev o δ lk (T.op2 p a b)=r:=(cQ ha hb).trans h
theorem e_b1{b:B1}{a:T}{w:Bool}{x:D}{r:R (Bool×D)}(ha:ev o δ true a=.ok (w,x))(h:b1D b x=r):ev o δ lk (T.b1 b a)=r:=(yJ ha).trans h
theorem e_b2{b:B2}{a c:T}{w1 w2:Bool}{x y:D}{r:R (Bool×D)}(ha:ev o δ true a=.ok (w1,x))(hb:ev o δ true c=.ok (w2,y))(h:b2D b x y=r):ev o δ lk (T.b2 b a c)=r:=(FQ ha hb).trans h
theorem aN{a b:T}{w1 w2:Bool}{x y:D}{r:R (Bool×D)}(ha:ev o δ true a=.ok (w1,x))(hb:ev o δ true b=.ok (w2,y))(h:idxD x y=r):ev o δ lk (T.idx a b)=r:=(jn ha hb).trans h
theorem e_m1{m:M1}{a b:T}{w1 w2:Bool}{x y:D}{r:R (Bool×D)}(ha:ev o δ true a=.ok (w1,x))(hb:ev o δ true b=.ok (w2,y))(h:m1D m x y=r):ev o δ lk (T.m1 m a b)=r:=(Lr ha hb).trans h
theorem mD{a:T}{w:Bool}{i:Int}(ha:ev o δ true a=.ok (w,.int i)):ev o δ lk (T.neg a)=.ok (false,.int (-i)):=by simp only[ev,ha,R.bind]
theorem iI:evL o δ TL.nil=.ok (false,[]):=rfl
theorem zG{i:Nat}{d:D}(h:δ[i]?=some (some (.sh,d))):evS o (.ret (.var i)) δ=.rt false d δ:=by simp only[evS,h]
theorem zX{i:Nat}{d:D}(h:δ[i]?=some (some (.ow,d))):evS o (.ret (.var i)) δ=.rt true d δ:=by simp only[evS,h]
theorem cu{t:T}{w:Bool}{x:D}{l:List D}(h:ev o δ lk t=.ok (w,x))(hi:uP x=some l):evI o δ lk (.val t)=.ok l:=by simp only[evI,h,R.bind,hi,R.of]
theorem fors{δ':Dst}{tg:List Nat}{tp:Bool}{it:TI}{b:SL}{l:List D}(hs:cM δ it=δ)(hi:evI o δ false it=.ok l)(h:cF (evSs o b) tg tp l δ=.nx δ'):evS o (.for_ tg tp it b) δ=.nx δ':=by
 rw[forE hs,hi];exact h
theorem M7{δ1 δ':Dst}{tg:List Nat}{tp:Bool}{it:TI}{b:SL}{l:List D}(hs:cM δ it=δ1)(hi:evI o δ1 false it=.ok l)(h:cF (evSs o b) tg tp l δ1=.nx δ'):evS o (.for_ tg tp it b) δ=.nx δ':=by
 rw[forE hs,hi];exact h
theorem ifsT{c:T}{x y:SL}{w b:Bool}{r:SO}(h:ev o δ true c=.ok (w,.bl b))(hb:b=true)(k:evSs o x δ=r):evS o (.ifs c x y) δ=r:=by subst hb;rw[pX h,if_pos rfl,k]
theorem ifsF{c:T}{x y:SL}{w b:Bool}{r:SO}(h:ev o δ true c=.ok (w,.bl b))(hb:b=false)(k:evSs o y δ=r):evS o (.ifs c x y) δ=r:=by subst hb;rw[pX h,if_neg (by decide),k]
theorem one{s:S}{r:Dst}(h:evS o s δ=.nx r):evSs o (.cons s .nil) δ=.nx r:=by rw[bC h];rfl
theorem cA{f:Dst->SO}{tg:List Nat}{tp:Bool}{d:D}{l ds:List D}{δ1 δ2:Dst}{r:SO}(ht:takes tg.length tp d=some ds)(hs:aR δ tg ds=some δ1)(hb:f δ1=.nx δ2)(k:cF f tg tp l δ2=r):cF f tg tp (d::l) δ=r:=by
 simp only[cF,ht,hs,hb,k]
theorem lD{a:T}{ty:Ty}{w b:Bool}{x:D}(ha:ev o δ true a=.ok (w,x))(h:isD o ty x=some b):ev o δ lk (T.isin a ty)=.ok (false,.bl b):=by simp only[ev,ha,R.bind,h,Option.map_some,R.of]
end
theorem jQ(a b:Int):o2 .sub (.int a) (.int b)=.ok (false,.int (a-b)):=rfl
theorem o_le(a b:Int):o2 .le (.int a) (.int b)=.ok (false,.bl (decide (a<=b))):=rfl
theorem o_ge(a b:Int):o2 .ge (.int a) (.int b)=.ok (false,.bl (decide (b<=a))):=rfl
theorem mY(a b:Int):o2 .ne (.int a) (.int b)=.ok (false,.bl !(decide (a=b))):=rfl
theorem rP(a b:List Nat):o2 .ne (.str a) (.str b)=.ok (false,.bl !(decide (a=b))):=rfl
theorem Ao{a b c:Int}(h:(decide (0<=b)&&decide (b<=64)&&decide (a.natAbs<18446744073709551616))=true)(hc:a ^ b.toNat=c):o2 .pow (.int a) (.int b)=.ok (false,.int c):=by simp only[o2,arith,h,R.chk,if_true,hc]
theorem aP{l:List D}{i:Int}{d:D}(h:l[i.toNat]?=some d)(h0:decide (0<=i)=true):idxD (.tup l) (.int i)=.ok (false,d):=by
 have hk:=(List.getElem?_eq_some_iff.mp h).1;have h0:=of_decide_eq_true h0
 have h1:i<l.length:=by omega
 simp only[idxD,place,h0,h1,if_true,Option.bind_some,h,Option.map_some,R.of]
theorem aC{l:List D}{i:Int}{d:D}(h:l[i.toNat]?=some d)(h0:decide (0<=i)=true):idxD (.lst l) (.int i)=.ok (false,d):=Cw (of_decide_eq_true h0) h
theorem eX(l:List D):b1D .len (.lst l)=.ok (false,.int l.length):=rfl
theorem kj(l:List D):b1D .len (.tup l)=.ok (false,.int l.length):=rfl
theorem jm(l:List Nat):b1D .len (.str l)=.ok (false,.int l.length):=rfl
theorem Lk(i:Int):b1D .abs (.int i)=.ok (false,.int (if i<0 then -i else i)):=rfl
theorem eH(l:List D):b1D .tuple (.lst l)=.ok (false,.tup l):=rfl
end KG
namespace KM
open Z KG
local macro_rules | `(tactic| array_get_dec)=>`(tactic| first | assumption | exact ao rfl | exact bK rfl | exact aj | exact neg1 | (refine' au ?a ?b ?c;(case a=>array_get_dec);(case b=>array_get_dec);(case c=>sizeOf_list_dec)) | (refine' e_b1 ?a ?c;(case a=>array_get_dec);(case c=>sizeOf_list_dec)) | (refine' aN ?a ?b ?c;(case a=>array_get_dec);(case b=>array_get_dec);(case c=>sizeOf_list_dec)) | (refine' mD ?a;(case a=>array_get_dec)) | (refine' gr ?a;(case a=>array_get_dec)) | (refine' bj ?a ?b;(case a=>array_mem_dec);(case b=>exact rfl)) | (refine' bL ?a ?b;(case a=>array_mem_dec);(case b=>exact rfl)) | (refine' aB ?a ?b;(case a=>array_mem_dec);(case b=>assumption)) | (refine' e_m1 ?a ?b ?c;(case a=>array_get_dec);(case b=>array_get_dec);(case c=>sizeOf_list_dec)) | (refine' e_b2 ?a ?b ?c;(case a=>array_get_dec);(case b=>array_get_dec);(case c=>sizeOf_list_dec)) | (refine' cC ?a ?b ?c ?d ?e ?f;(case a=>array_get_dec);(case b=>array_get_dec);(case c=>array_get_dec);(case d=>exact rfl);(case e=>exact rfl);(case f=>sizeOf_list_dec)) | (refine' lD ?a ?b;(case a=>array_get_dec);(case b=>exact rfl)))
local macro_rules | `(tactic| array_mem_dec)=>`(tactic| first | exact iI | (refine' aa rfl ?a ?b;(case a=>array_get_dec);(case b=>array_mem_dec)))
local macro_rules | `(tactic| sizeOf_list_dec)=>`(tactic| first | assumption | exact bM _ _ | exact jQ _ _ | exact o_lt _ _ | exact o_gt _ _ | exact o_le _ _ | exact o_ge _ _ | exact dW _ _ | exact qM _ _ | exact mY _ _ | exact rP _ _ | exact bN _ _ (by decide) | exact bu _ _ (by decide) | exact aP rfl rfl | exact aC rfl rfl | exact eX _ | exact kj _ | exact jm _ | exact eH _ | (refine' dm ?_;(try simp only[List.length_append,List.length_cons,List.length_nil]);omega))
noncomputable def inT(a b:List Nat):T:=(T.op2 .in (T.idx (T.var 0) (T.cst (D.int 0))) (T.tup (TL.cons (T.cst (D.str a)) (TL.cons (T.cst (D.str b)) TL.nil))))
noncomputable def poFd:Fd:=⟨1,1,(SL.cons (S.ifs (inT [97,110,100] [111,114]) (SL.cons (S.ret (T.idx (T.var 0) (T.cst (D.int 1)))) SL.nil) SL.nil) (SL.cons (S.ifs (T.op2 .eq (T.idx (T.var 0) (T.cst (D.int 0))) (T.cst (D.str [110,111,116]))) (SL.cons (S.ret (T.tup (TL.cons (T.idx (T.var 0) (T.cst (D.int 1))) TL.nil))) SL.nil) SL.nil) (SL.cons (S.ifs (inT [115,111,109,101] [97,108,108]) (SL.cons (S.ret (T.tup (TL.cons (T.idx (T.var 0) (T.cst (D.int 2))) TL.nil))) SL.nil) SL.nil) (SL.cons (S.ret (T.tup TL.nil)) SL.nil))))⟩
noncomputable def exB(f:Nat):SL:=(SL.cons (S.extend 1 (T.call f (TL.cons (T.var 2) TL.nil))) SL.nil)
noncomputable def awFd(po aw:Nat):Fd:=⟨1,3,(SL.cons (S.set 1 (T.lst (TL.cons (T.var 0) TL.nil))) (SL.cons (S.for_ [2] false (TI.val (T.call po (TL.cons (T.var 0) TL.nil))) (exB aw)) (SL.cons (S.ret (T.var 1)) SL.nil)))⟩
noncomputable def alFd(aw:Nat):Fd:=⟨1,1,(SL.cons (S.ret (T.comp [] 1 false (TI.val (T.call aw (TL.cons (T.var 0) TL.nil))) (inT [108,101,97,115,116] [114,101,115,116]) (T.var 0))) SL.nil)⟩
noncomputable def olFd(po ol:Nat):Fd:=⟨1,3,(SL.cons (S.ifs (inT [115,111,109,101] [97,108,108]) (SL.cons (S.ret (T.lst (TL.cons (T.var 0) TL.nil))) SL.nil) SL.nil) (SL.cons (S.set 1 (T.lst TL.nil)) (SL.cons (S.for_ [2] false (TI.val (T.call po (TL.cons (T.var 0) TL.nil))) (exB ol)) (SL.cons (S.ret (T.var 1)) SL.nil))))⟩
noncomputable def dpFd(po dp:Nat):Fd:=⟨1,2,(SL.cons (S.set 1 (T.b2 .maxd (T.comp [] 1 false (TI.val (T.call po (TL.cons (T.var 0) TL.nil))) (T.cst (D.bl true)) (T.call dp (TL.cons (T.var 0) TL.nil))) (T.cst (D.int 0)))) (SL.cons (S.ret (T.ite (inT [115,111,109,101] [97,108,108]) (T.op2 .add (T.var 1) (T.cst (D.int 1))) (T.var 1))) SL.nil))⟩
noncomputable def pt:Stt->List Stt
 | .least _ _=>[]
 | .rest _ _ _=>[]
 | .nt s=>[s]
 | .grp _ ss=>ss
 | .trn _ _ s=>[s]
mutual
noncomputable def aw:Stt->List Stt
 | .least c l=>[.least c l]
 | .rest m c l=>[.rest m c l]
 | .nt s=>.nt s::aw s
 | .grp w ss=>.grp w ss::aws ss
 | .trn w x s=>.trn w x s::aw s
noncomputable def aws:List Stt->List Stt
 | []=>[]
 | s::ss=>aw s++aws ss
end
noncomputable def isA:Stt->Bool
 | .least _ _=>true
 | .rest _ _ _=>true
 | _=>false
noncomputable def isT:Stt->Bool
 | .trn _ _ _=>true
 | _=>false
mutual
noncomputable def ol:Stt->List Stt
 | .least _ _=>[]
 | .rest _ _ _=>[]
 | .nt s=>ol s
 | .grp _ ss=>ols ss
 | .trn w x s=>[.trn w x s]
noncomputable def ols:List Stt->List Stt
 | []=>[]
 | s::ss=>ol s++ols ss
end
mutual
noncomputable def dp:Stt->Nat
 | .least _ _=>0
 | .rest _ _ _=>0
 | .nt s=>dp s
 | .grp _ ss=>dps ss
 | .trn _ _ s=>dp s+1
noncomputable def dps:List Stt->Nat
 | []=>0
 | s::ss=>max (dp s) (dps ss)
end
theorem LK(s:Stt):aw s=s::aws (pt s):=by
 cases s<;>simp only[aw,pt,aws,List.append_nil]
theorem K5(s:Stt)(h:isT s=false):ol s=ols (pt s):=by
 cases s<;>simp only[ol,pt,ols,List.append_nil];cases h
theorem KQ(s:Stt):dp s=if isT s then dps (pt s)+1 else dps (pt s):=by
 cases s<;>simp[dp,pt,dps,isT]
mutual
theorem jc:∀s,(aw s).length=sz s
 | .least _ _=>by rw[aw,sz];rfl
 | .rest _ _ _=>by rw[aw,sz];rfl
 | .nt s=>by rw[aw,sz,List.length_cons,jc s]
 | .grp _ ss=>by rw[aw,sz,List.length_cons,nH ss]
 | .trn _ _ s=>by rw[aw,sz,List.length_cons,jc s]
theorem nH:∀ss,(aws ss).length=szs ss
 | []=>by rw[aws,szs];rfl
 | s::ss=>by rw[aws,szs,List.length_append,jc s,nH ss]
end
mutual
theorem Aj:∀s,(ol s).length<=sz s
 | .least _ _=>by rw[ol,sz];simp
 | .rest _ _ _=>by rw[ol,sz];simp
 | .nt s=>by rw[ol,sz];have:=Aj s;omega
 | .grp _ ss=>by rw[ol,sz];have:=oE ss;omega
 | .trn _ _ s=>by rw[ol,sz];simp
theorem oE:∀ss,(ols ss).length<=szs ss
 | []=>by rw[ols,szs];simp
 | s::ss=>by rw[ols,szs,List.length_append];have:=Aj s;have:=oE ss;omega
end
theorem in2(o:Orc)(x a b:List Nat)(r:List D)(q:List (Option Slot))(lk:Bool):ev o (some (.sh,.tup (.str x::r))::q) lk (inT a b)=.ok (false,.bl (decide (a=x)||(decide (b=x)||false))):=by
 unfold inT;refine au (w1:=false) (w2:=false) (x:=.str x) (y:=.tup [.str a,.str b]) (by array_get_dec) (by array_get_dec) ?_
 rfl
noncomputable def hw:Stt->List Nat
 | .least _ _=>oU
 | .rest _ _ _=>tM
 | .nt _=>sNot
 | .grp w _=>gw w
 | .trn w _ _=>tww w
theorem hd(s:Stt):∃r,toD s=.tup (.str (hw s)::r):=by cases s<;>(rw[toD];exact⟨_,rfl⟩)
theorem hw_A(s:Stt):(decide (oU=hw s)||(decide (tM=hw s)||false))=isA s:=by
 cases s with
 | grp w _=>cases w<;>rfl
 | trn w _ _=>cases w<;>rfl
 | _=>rfl
theorem hw_T(s:Stt):(decide (Ba=hw s)||(decide (sAll=hw s)||false))=isT s:=by
 cases s with
 | grp w _=>cases w<;>rfl
 | trn w _ _=>cases w<;>rfl
 | _=>rfl
theorem in_A(o:Orc)(s:Stt)(q:List (Option Slot))(lk:Bool):ev o (some (.sh,toD s)::q) lk (inT oU tM)=.ok (false,.bl (isA s)):=by
 obtain⟨r,e⟩:=hd s;rw[e,in2,hw_A]
theorem in_T(o:Orc)(s:Stt)(q:List (Option Slot))(lk:Bool):ev o (some (.sh,toD s)::q) lk (inT Ba sAll)=.ok (false,.bl (isT s)):=by
 obtain⟨r,e⟩:=hd s;rw[e,in2,hw_T]
section
variable{P:Prg}{ipo iaw ial iol idp:Nat}(hpo:P.fns[ipo]?=some poFd)(w:Nat)
include hpo
theorem iU(s:Stt)(m:Nat):(orc P w (m+1)).fn ipo [toD s]=.ok (false,.tup ((pt s).map toD)):=by
 rw[bz hpo]
 have e0:∀(x y:List Nat) (r:List D),ev (orc P w m) [some (.sh,.tup (.str x::r))] true (T.op2 .eq (T.idx (T.var 0) (T.cst (D.int 0))) (T.cst (D.str y)))=.ok (false,.bl (decide (x=y))):=fun x y r=>by array_get_dec
 cases s with
 | least c l=>
   rw[toD];exact aA rfl rfl (stp _ (ifF (in2 _ _ _ _ _ _ _) rfl) (stp _ (ifF (e0 _ _ _) rfl) (stp _ (ifF (in2 _ _ _ _ _ _ _) rfl) (stpR (retR (bj (xs:=[]) rfl rfl) rfl)))))
 | rest q c l=>
   rw[toD];exact aA rfl rfl (stp _ (ifF (in2 _ _ _ _ _ _ _) rfl) (stp _ (ifF (e0 _ _ _) rfl) (stp _ (ifF (in2 _ _ _ _ _ _ _) rfl) (stpR (retR (bj (xs:=[]) rfl rfl) rfl)))))
 | nt s=>
   rw[toD];refine aA rfl rfl (stp _ (ifF (in2 _ _ _ _ _ _ _) rfl) (stpR (ifT (e0 _ _ _) rfl (retR (w:=false) (d:=.tup [toD s]) ?_ rfl))))
   array_get_dec
 | grp b ss=>
   rw[toD,gO];refine aA rfl rfl (stpR (ifT (in2 _ _ _ _ _ _ _) (by cases b<;>rfl) (retR (w:=false) (d:=.tup (ss.map toD)) ?_ rfl)))
   array_get_dec
 | trn b x s=>
   rw[toD];refine aA rfl rfl (stp _ (ifF (in2 _ _ _ _ _ _ _) (by cases b<;>rfl) ) (stp _ (ifF (e0 _ _ _) (by cases b<;>rfl)) (stpR (ifT (in2 _ _ _ _ _ _ _) (by cases b<;>rfl) (retR (w:=false) (d:=.tup [toD s]) ?_ rfl)))))
   array_get_dec
end
theorem zB{o:Orc}{δ:Dst}{i:Nat}{e:T}{q:Own}{a b:List D}(he:ev o δ false e=.ok (true,.lst b))(ho:ownD δ i=some (q,.lst a))(hz:a.length+b.length<=100000):evS o (.extend i e) δ=.nx (δ.set i (some (q,.lst (a++b)))):=by
 have:size (a.length+b.length)=true:=by simp[size];omega
 simp only[evS,evF,he,SO.of,ho,Option.bind_some,this,Bool.and_self,if_true,bw]
theorem mW(o:Orc)(A:Option Slot)(f:Nat)(g:Stt->List Stt)(gs:List Stt->List Stt)(h0:gs []=[])(hc:∀s ss,gs (s::ss)=g s++gs ss):∀(ss row:List Stt) (p:Option Slot),(∀s∈ss,o.fn f [toD s]=.ok (true,.lst ((g s).map toD)))->row.length+(gs ss).length<=100000 ->
 ∃p',cF (evSs o (exB f)) [2] false (ss.map toD) [A,some (.ow,.lst (row.map toD)),p]=.nx [A,some (.ow,.lst ((row++gs ss).map toD)),p']
 | [],row,p,_,_=>⟨p,by rw[h0,List.append_nil];rfl⟩
 | s::ss,row,p,h,hl=>by
   rw[hc,List.length_append]at hl;obtain⟨p',ih⟩:=mW o A f g gs h0 hc ss (row++g s) (some (.sh,toD s)) (fun x hx=>h x (List.mem_cons_of_mem _ hx)) (by rw[List.length_append];omega);rw[List.map_append]at ih;refine⟨p',cA (ds:=[toD s]) rfl rfl (one (zB (aB (aa rfl (ao rfl) rfl) (h s List.mem_cons_self)) rfl (by rw[List.length_map,List.length_map];omega))) (ih.trans ?_)⟩;rw[hc,List.append_assoc]
theorem Bk{n:Nat}{s p:Stt}(hs:wf n s)(hp:p∈pt s):∃j,n=j+1/\wf j p:=by
 cases s with
 | least _ _=>cases hp
 | rest _ _ _=>cases hp
 | nt s=>
   cases n with
   | zero=>simp only[wf]at hs
   | succ j=>simp only[wf]at hs;rw[List.mem_singleton.mp hp];exact⟨j,rfl,hs⟩
 | grp _ ss=>
   cases n with
   | zero=>simp only[wf]at hs
   | succ j=>simp only[wf]at hs;exact⟨j,rfl,hs.2 p hp⟩
 | trn _ _ s=>
   cases n with
   | zero=>simp only[wf]at hs
   | succ j=>simp only[wf]at hs;rw[List.mem_singleton.mp hp];exact⟨j,rfl,hs⟩
theorem nW{s:Stt}:∀{ss:List Stt},s∈ss->sz s<=szs ss
 | [],h=>by cases h
 | x::ss,h=>by
   rw[szs];rcases List.mem_cons.mp h with rfl | h
   ·omega
   ·have:=nW h;omega
theorem JB(s:Stt):sz s=szs (pt s)+1:=by cases s<;>simp[sz,szs,pt]
section
variable{P:Prg}{ipo iaw ial iol idp:Nat}(hpo:P.fns[ipo]?=some poFd)(haw:P.fns[iaw]?=some (awFd ipo iaw))(w:Nat)
include hpo haw
theorem zU:∀(n:Nat) (s:Stt),wf n s->sz s<=10000->∀m,n+2<=m->(orc P w m).fn iaw [toD s]=.ok (true,.lst ((aw s).map toD)):=by
 intro n
 induction n using Nat.strongRecOn with
 | ind n ih=>
 intro s hs hz m hm
 obtain⟨k,rfl⟩:∃k,m=k+2:=⟨m-2,by omega⟩
 rw[bz haw,LK];have hp:=iU hpo w s k;have hsz:=JB s
 have hc:∀p∈pt s,(orc P w (k+1)).fn iaw [toD p]=.ok (true,.lst ((aw p).map toD)):=fun p q=>by
  obtain⟨j,rfl,h⟩:=Bk hs q;exact ih j (by omega) p h (by have:=nW q;omega) (k+1) (by omega)
 obtain⟨p',hl⟩:=mW (orc P w (k+1)) (some (.sh,toD s)) iaw aw aws (by rw[aws]) (fun s ss=>by rw[aws]) (pt s) [s] none hc (by rw[nH];simp;omega);exact aA rfl (δ0:=[some (.sh,toD s),none,none]) rfl (stp [some (.sh,toD s),some (.ow,.lst ([s].map toD)),none] (aG (w:=true) (d:=.lst [toD s]) (bL (aa rfl (ao rfl) rfl) rfl) rfl) (stp _ (fors rfl (cu (aB (aa rfl (ao rfl) rfl) hp) rfl) hl) (stpR (zX rfl))))
end
section
variable{P:Prg}{ipo iol:Nat}(hpo:P.fns[ipo]?=some poFd)(hol:P.fns[iol]?=some (olFd ipo iol))(w:Nat)
include hpo hol
theorem GC:∀(n:Nat) (s:Stt),wf n s->sz s<=10000->∀m,n+2<=m->(orc P w m).fn iol [toD s]=.ok (true,.lst ((ol s).map toD)):=by
 intro n
 induction n using Nat.strongRecOn with
 | ind n ih=>
 intro s hs hz m hm
 obtain⟨k,rfl⟩:∃k,m=k+2:=⟨m-2,by omega⟩
 rw[bz hol];have hp:=iU hpo w s k;have hsz:=JB s
 cases ht:isT s with
 | true=>
   have e:ol s=[s]:=by cases s<;>first | (cases ht;done) | (rw[ol])
   rw[e];exact aA rfl rfl (stpR (ifT (in_T _ s _ _) ht (retR (bL (xs:=[toD s]) (aa rfl (ao rfl) rfl) rfl) rfl)))
 | false=>
   rw[K5 s ht]
   have hc:∀p∈pt s,(orc P w (k+1)).fn iol [toD p]=.ok (true,.lst ((ol p).map toD)):=fun p q=>by
    obtain⟨j,rfl,h⟩:=Bk hs q;exact ih j (by omega) p h (by have:=nW q;omega) (k+1) (by omega)
   obtain⟨p',hl⟩:=mW (orc P w (k+1)) (some (.sh,toD s)) iol ol ols (by rw[ols]) (fun s ss=>by rw[ols]) (pt s) [] none hc (by have:=oE (pt s);simp;omega);exact aA rfl (δ0:=[some (.sh,toD s),none,none]) rfl (stp _ (ifF (in_T _ s _ _) ht) (stp [some (.sh,toD s),some (.ow,.lst (([]:List Stt).map toD)),none] (aG (w:=true) (d:=.lst []) (bL rfl rfl) rfl) (stp _ (fors rfl (cu (aB (aa rfl (ao rfl) rfl) hp) rfl) hl) (stpR (zX rfl)))))
end
end KM
namespace KM
open Z KG
theorem fU{α:Type}{f c:List D->R (Bool×D)}{m:Nat}{tg:Bool}{a g:α->D}{ts:α->List D}{p:α->Bool}:∀{l:List α},(∀d∈l,takes m tg (a d)=some (ts d))->(∀d∈l,c (ts d)=.ok (false,.bl (p d)))->(∀d∈l,p d=true->∃w,f (ts d)=.ok (w,g d))->bV f c m tg (l.map a)=.ok ((l.filter p).map g)
 | [],_,_,_=>rfl
 | d::l,ht,hc,hf=>by
   have ih:=fU (l:=l) (fun x hx=>ht x (List.mem_cons_of_mem _ hx)) (fun x hx=>hc x (List.mem_cons_of_mem _ hx)) (fun x hx=>hf x (List.mem_cons_of_mem _ hx));rw[List.map_cons,bV,ht d List.mem_cons_self];simp only[R.of,R.bind,hc d List.mem_cons_self,truth];cases e:p d
   ·simp[e,ih]
   ·obtain⟨w,h⟩:=hf d List.mem_cons_self e
    simp[e,h,ih]
noncomputable def ats(s:Stt):List Stt:=(aw s).filter isA
section
variable{P:Prg}{ipo iaw ial iat:Nat}(hpo:P.fns[ipo]?=some poFd)(haw:P.fns[iaw]?=some (awFd ipo iaw))(hal:P.fns[ial]?=some (alFd iaw))(w:Nat)
include hpo haw hal
theorem t8(n:Nat)(s:Stt)(hs:wf n s)(hz:sz s<=10000)(m:Nat)(hm:n+3<=m):(orc P w m).fn ial [toD s]=.ok (true,.lst ((ats s).map toD)):=by
 obtain⟨k,rfl⟩:∃k,m=k+1:=⟨m-1,by omega⟩
 rw[bz hal];have hc:=zU hpo haw w n s hs hz k (by omega)
 have hl:((ats s).map toD).length<=100000:=by
  rw[List.length_map];have:=List.length_filter_le isA (aw s);rw[jc]at this;unfold ats;omega
 exact aA rfl rfl (stpR (retR (fQ _ ((aw s).map toD) _ _ _ (cu (aB (aa rfl (ao rfl) rfl) hc) rfl) hl (fU (ts:=fun q=>[toD q]) (fun _ _=>rfl) (fun q _=>in_A _ q _ _) fun q _ _=>⟨false,ao rfl⟩)) rfl))
noncomputable def atFd(al:Nat):Fd:=⟨1,1,(SL.cons (S.ret (T.b1 .len (T.call al (TL.cons (T.var 0) TL.nil)))) SL.nil)⟩
theorem zP(hat:P.fns[iat]?=some (atFd ial))(n:Nat)(s:Stt)(hs:wf n s)(hz:sz s<=10000)(m:Nat)(hm:n+4<=m):(orc P w m).fn iat [toD s]=.ok (false,.int ((ats s).length:Int)):=by
 obtain⟨k,rfl⟩:∃k,m=k+1:=⟨m-1,by omega⟩
 rw[bz hat];have hc:=t8 hpo haw hal w n s hs hz k (by omega);refine aA rfl rfl (stpR (retR ((yJ (aB (aa rfl (ao rfl) rfl) hc)).trans ?_) rfl));rw[eX,List.length_map]
end
theorem fold_max:∀(r:List Nat) (y:Nat),(r.map fun(n:Nat)=>(n:Int)).foldl (fun m z=>if z>m then z else m) (y:Int)=((max y (r.foldr max 0):Nat):Int)
 | [],y=>by simp
 | x::r,y=>by
   simp only[List.map_cons,List.foldl_cons,List.foldr_cons]
   by_cases h:(x:Int)>y
   ·rw[if_pos h,fold_max r x];congr 1;omega
   ·rw[if_neg h,fold_max r y];congr 1;omega
theorem gJ:∀r:List Nat,intsOf (r.map fun(n:Nat)=>D.int (n:Int))=some (r.map fun(n:Nat)=>(n:Int))
 | []=>rfl
 | x::r=>by simp only[List.map_cons,intsOf,gJ r,Option.map_some]
theorem Cy:∀r:List Nat,b2D .maxd (.lst (r.map fun(n:Nat)=>D.int (n:Int))) (.int 0)=.ok (false,.int ((r.foldr max 0:Nat):Int))
 | []=>rfl
 | x::r=>by
   have h:=gJ (x::r);simp only[List.map_cons]at h ⊢;simp only[b2D,h,Option.map_some,R.of,fold_max,List.foldr_cons]
theorem qi:∀ss:List Stt,dps ss=(ss.map dp).foldr max 0
 | []=>by rw[dps];rfl
 | s::ss=>by rw[dps,qi ss];rfl
theorem Am{o:Orc}{δ:Dst}{lk:Bool}{c a b:T}{w t:Bool}(h:ev o δ true c=.ok (w,.bl t)):ev o δ lk (T.ite c a b)=if t then ev o δ lk a else ev o δ lk b:=by
 simp only[ev,h,R.bind,truth,R.of]
section
variable{P:Prg}{ipo idp:Nat}(hpo:P.fns[ipo]?=some poFd)(hdp:P.fns[idp]?=some (dpFd ipo idp))(w:Nat)
include hpo hdp
theorem Ha:∀(n:Nat) (s:Stt),wf n s->∀m,n+2<=m->(orc P w m).fn idp [toD s]=.ok (false,.int (dp s:Int)):=by
 intro n
 induction n using Nat.strongRecOn with
 | ind n ih=>
 intro s hs m hm
 obtain⟨k,rfl⟩:∃k,m=k+2:=⟨m-2,by omega⟩
 rw[bz hdp];have hp:=iU hpo w s k
 have hc:∀p∈pt s,(orc P w (k+1)).fn idp [toD p]=.ok (false,.int (dp p:Int)):=fun p q=>by
  obtain⟨j,rfl,h⟩:=Bk hs q;exact ih j (by omega) p h (k+1) (by omega)
 have hl:(pt s).length<=100:=by
  cases s with
  | grp _ ss=>
    cases n with
    | zero=>simp only[wf]at hs
    | succ j=>simp only[wf]at hs;exact hs.1
  | _=>simp[pt]
 have e1:ev (orc P w (k+1)) [some (.sh,toD s),none] true (T.comp [] 1 false (TI.val (T.call ipo (TL.cons (T.var 0) TL.nil))) (T.cst (D.bl true)) (T.call idp (TL.cons (T.var 0) TL.nil)))=.ok (true,.lst (((pt s).map dp).map fun(n:Nat)=>D.int (n:Int))):=by
  rw[List.map_map];exact fQ _ ((pt s).map toD) _ _ _ (cu (aB (aa rfl (ao rfl) rfl) hp) rfl) (by rw[List.length_map];omega) (cH (fun d _=>aj) fun d hd=>⟨false,aB (aa rfl (ao rfl) rfl) (hc d hd)⟩)
 have e2:=Cy ((pt s).map dp);rw[<-qi]at e2;refine aA rfl (δ0:=[some (.sh,toD s),none]) rfl (stp [some (.sh,toD s),some (.sh,.int (dps (pt s):Int))] (aG (w:=false) ((FQ e1 aj).trans e2) rfl) (stpR (retR (w:=false) ?_ rfl)));refine(Am (in_T _ s _ _)).trans ?_;rw[KQ];cases isT s
 ·rw[if_neg (by decide),if_neg (by decide)];exact ao rfl
 ·rw[if_pos rfl,if_pos rfl];exact(cQ (ao rfl) aj).trans (bM _ _)
end
end KM
namespace KM
open Z KG
noncomputable def gc(a b:Int):Int:=(Int.gcd a b:Int)
theorem JH(a b:Int):0<=gc a b:=Int.natCast_nonneg _
theorem Jr(a b:Int):gc (if a<0 then -a else a) (if b<0 then -b else b)=gc a b:=by
 unfold gc;split<;>split<;>simp[Int.neg_gcd,Int.gcd_neg]
theorem CP(a:Int)(h:0<=a):gc a 0=a:=by
 unfold gc;rw[Int.gcd_zero_right];omega
theorem Ef(a b:Int):gc b (a % b)=gc a b:=by
 unfold gc;rw[Int.gcd_comm a b]
 congr 1
 have h:=Int.gcd_sub_mul_right_right b a (a/b);rw[show a-a/b*b=a % b by rw[Int.emod_def,Int.mul_comm]]at h;exact h
theorem Mz(a b:Int):gc a b ∣ a:=Int.gcd_dvd_left a b
theorem Fg(a b:Int):gc a b ∣ b:=Int.gcd_dvd_right a b
theorem MF(a b:Int)(h:b≠0):0<gc a b:=by
 unfold gc;have:=Int.gcd_pos_of_ne_zero_right a h;omega
theorem MJ(a b:Int)(h:b≠0):(gc a b).natAbs<=b.natAbs:=by
 obtain⟨q,hq⟩:=Fg a b
 have:b.natAbs=(gc a b).natAbs*q.natAbs:=by rw[<-Int.natAbs_mul,<-hq]
 rw[this]
 have hq0:q≠0:=fun e=>by rw[e,Int.mul_zero]at hq;exact h hq
 exact Nat.le_mul_of_pos_right _ (by omega)
theorem Ia{c:Dst->R (Bool×D)}{body:Dst->SO}(st:Int->Int->Option Slot->Dst)
 (hc:∀g s l,0<=s->c (st g s l)=.ok (false,.bl (decide (s≠0))))
 (hb:∀g s l,s≠0->∃l',body (st g s l)=.nx (st s (g.fmod s) l')) :
 ∀(w:Nat) (g s:Int) (l:Option Slot),0<=g->0<=s->s.toNat<w->∃l',cz c body w (st g s l)=.nx (st (gc g s) 0 l'):=by
 intro w
 induction w with
 | zero=>intro g s l _ _ h;omega
 | succ w ih=>
   intro g s l hg hs hw;rw[cz,hc g s l hs]
   by_cases h0:s=0
   ·subst h0
    refine⟨l,?_⟩;simp[R.bind,truth,R.of,SO.of,CP g hg]
   ·have e:g.fmod s=g % s:=Int.fmod_eq_emod_of_nonneg g hs
    have h1:=Int.emod_nonneg g h0;have h2:=Int.emod_lt_of_pos g (show 0<s by omega);obtain⟨l1,hb1⟩:=hb g s l h0;obtain⟨l',h⟩:=ih s (g % s) l1 hs h1 (by omega);refine⟨l',?_⟩;simp only[R.bind,truth,R.of,SO.of,h0,ne_eq,not_false_eq_true,decide_true,if_true,hb1,e]at h ⊢;rw[h,Ef]
noncomputable def commonFd:Fd:=⟨2,5,(SL.cons (S.set 2 (T.b1 .abs (T.var 0))) (SL.cons (S.set 3 (T.b1 .abs (T.var 1))) (SL.cons (S.while_ (T.op2 .ne (T.var 3) (T.cst (D.int 0))) (SL.cons (S.set 4 (T.op2 .mod (T.var 2) (T.var 3))) (SL.cons (S.set 2 (T.var 3)) (SL.cons (S.set 3 (T.var 4)) SL.nil)))) (SL.cons (S.ret (T.var 2)) SL.nil))))⟩
theorem zF(a:Int):0<=(if a<0 then -a else a):=by split<;>omega
theorem qW(o:Orc)(a b:Int)(hw:b.natAbs<o.w):dB o commonFd [.int a,.int b]=.ok (false,.int (gc a b)):=by
 obtain⟨l',h⟩:=Ia (c:=fun δ=>ev o δ true (T.op2 .ne (T.var 3) (T.cst (D.int 0)))) (body:=evSs o (SL.cons (S.set 4 (T.op2 .mod (T.var 2) (T.var 3))) (SL.cons (S.set 2 (T.var 3)) (SL.cons (S.set 3 (T.var 4)) SL.nil)))) (fun g s l=>[some (.sh,.int a),some (.sh,.int b),some (.sh,.int g),some (.sh,.int s),l])
  (fun g s l _=>by simp[ev,R.bind,o2,eqA,eqS,R.of]) (fun g s l h=>⟨some (.sh,.int (g.fmod s)),by simp[evSs,evS,evF,ev,R.bind,o2,arith,R.chk,h,SO.of,setSlot,bw]⟩)
  o.w (if a<0 then -a else a) (if b<0 then -b else b) none (zF a) (zF b) (by split<;>omega)
 rw[Jr]at h;refine aA rfl (δ0:=[some (.sh,.int a),some (.sh,.int b),none,none,none]) rfl (stp [some (.sh,.int a),some (.sh,.int b),some (.sh,.int (if a<0 then -a else a)),none,none] ?_ (stp [some (.sh,.int a),some (.sh,.int b),some (.sh,.int (if a<0 then -a else a)),some (.sh,.int (if b<0 then -b else b)),none] ?_ (stp [some (.sh,.int a),some (.sh,.int b),some (.sh,.int (gc a b)),some (.sh,.int 0),l'] ?_ (stpR (δ':=[some (.sh,.int a),some (.sh,.int b),some (.sh,.int (gc a b)),some (.sh,.int 0),l']) ?_))))
 ·simp[evS,evF,ev,R.bind,b1D,SO.of,setSlot,bw]
 ·simp[evS,evF,ev,R.bind,b1D,SO.of,setSlot,bw]
 ·rw[evS];exact h
 ·rfl
end KM
namespace KM
open Z KG
local macro_rules | `(tactic| array_get_dec)=>`(tactic| first | assumption | exact ao rfl | exact bK rfl | exact aj | exact neg1 | (refine' au ?a ?b ?c;(case a=>array_get_dec);(case b=>array_get_dec);(case c=>sizeOf_list_dec)) | (refine' e_b1 ?a ?c;(case a=>array_get_dec);(case c=>sizeOf_list_dec)) | (refine' aN ?a ?b ?c;(case a=>array_get_dec);(case b=>array_get_dec);(case c=>sizeOf_list_dec)) | (refine' mD ?a;(case a=>array_get_dec)) | (refine' gr ?a;(case a=>array_get_dec)) | (refine' bj ?a ?b;(case a=>array_mem_dec);(case b=>exact rfl)) | (refine' bL ?a ?b;(case a=>array_mem_dec);(case b=>exact rfl)) | (refine' aB ?a ?b;(case a=>array_mem_dec);(case b=>assumption)) | (refine' e_m1 ?a ?b ?c;(case a=>array_get_dec);(case b=>array_get_dec);(case c=>sizeOf_list_dec)) | (refine' e_b2 ?a ?b ?c;(case a=>array_get_dec);(case b=>array_get_dec);(case c=>sizeOf_list_dec)) | (refine' cC ?a ?b ?c ?d ?e ?f;(case a=>array_get_dec);(case b=>array_get_dec);(case c=>array_get_dec);(case d=>exact rfl);(case e=>exact rfl);(case f=>sizeOf_list_dec)) | (refine' lD ?a ?b;(case a=>array_get_dec);(case b=>exact rfl)))
local macro_rules | `(tactic| array_mem_dec)=>`(tactic| first | exact iI | (refine' aa rfl ?a ?b;(case a=>array_get_dec);(case b=>array_mem_dec)))
local macro_rules | `(tactic| sizeOf_list_dec)=>`(tactic| first | assumption | exact bM _ _ | exact jQ _ _ | exact o_lt _ _ | exact o_gt _ _ | exact o_le _ _ | exact o_ge _ _ | exact dW _ _ | exact qM _ _ | exact mY _ _ | exact rP _ _ | exact bN _ _ (by decide) | exact bu _ _ (by decide) | exact aP rfl rfl | exact aC rfl rfl | exact eX _ | exact kj _ | exact jm _ | exact eH _ | (refine' dm ?_;(try simp only[List.length_append,List.length_cons,List.length_nil]);omega))
noncomputable def lcFd(ic:Nat):Fd:=⟨2,2,(SL.cons (S.ret (T.op2 .mul (T.op2 .fdiv (T.var 0) (T.call ic (TL.cons (T.var 0) (TL.cons (T.var 1) TL.nil)))) (T.var 1))) SL.nil)⟩
noncomputable def lcB(il:Nat):SL:=(SL.cons (S.set 1 (T.call il (TL.cons (T.var 1) (TL.cons (T.var 2) TL.nil)))) SL.nil)
noncomputable def lcoFd(il:Nat):Fd:=⟨1,3,(SL.cons (S.set 1 (T.cst (D.int 1))) (SL.cons (S.for_ [2] false (TI.val (T.b1 .sortedSet (T.var 0))) (lcB il)) (SL.cons (S.ret (T.var 1)) SL.nil)))⟩
theorem Gx(P:Prg)(w n:Nat):(orc P w n).w=w:=by cases n<;>rfl
theorem Cq(a b:Nat)(hb:0<b):(a:Int).fdiv (gc a b)*b=(Nat.lcm a b:Int):=by
 have e:gc (a:Int) (b:Int)=(Nat.gcd a b:Int):=by unfold gc;rw[Int.gcd_natCast_natCast]
 have hg:Nat.gcd a b ∣ a:=Nat.gcd_dvd_left a b;rw[e,Int.fdiv_eq_ediv_of_nonneg _ (Int.natCast_nonneg _),<-Int.natCast_ediv,<-Int.natCast_mul,Nat.lcm]
 congr 1
 exact Nat.div_mul_right_comm hg b
theorem bR{a:Nat}(h:a<2 ^ 60):Bd (a:Int):=by
 unfold Bd;have:(2:Nat) ^ 60<=2 ^ 70:=Nat.pow_le_pow_right (by omega) (by omega);omega
section
variable{P:Prg}{ic il ilo:Nat}(hc:P.fns[ic]?=some commonFd)(hl:P.fns[il]?=some (lcFd ic))(w:Nat)
include hc hl
theorem IK(a b:Nat)(hb:0<b)(h1:a<2 ^ 60)(h2:b<2 ^ 60)(hw:b<w)(m:Nat):(orc P w (m+2)).fn il [.int (a:Int),.int (b:Int)]=.ok (false,.int (Nat.lcm a b:Int)):=by
 rw[bz hl]
 have hg:(orc P w (m+1)).fn ic [.int (a:Int),.int (b:Int)]=.ok (false,.int (gc a b)):=by
  rw[bz hc];exact qW _ _ _ (by rw[Gx];simpa using hw)
 have e:gc (a:Int) (b:Int)=(Nat.gcd a b:Int):=by unfold gc;rw[Int.gcd_natCast_natCast]
 have hp:0<Nat.gcd a b:=Nat.gcd_pos_of_pos_right a hb;have hle:Nat.gcd a b<=b:=Nat.le_of_dvd hb (Nat.gcd_dvd_right a b)
 have hd:o2 .fdiv (.int (a:Int)) (.int (gc a b))=.ok (false,.int ((a:Int).fdiv (gc a b))):=by
  refine bu _ _ ?_;rw[e]
  have h3:((Nat.gcd a b:Nat):Int).natAbs.log2<9000:=by
   rw[Int.natAbs_natCast];exact(Nat.log2_lt (by omega)).mpr (Nat.lt_of_lt_of_le (Nat.lt_of_le_of_lt hle h2) (Nat.pow_le_pow_right (by omega) (by omega)))
  simp only[h3,decide_true,Bool.and_true,decide_eq_true_eq];omega
 have hq:(a:Int).fdiv (gc a b)=((a/Nat.gcd a b:Nat):Int):=by
  rw[e,Int.fdiv_eq_ediv_of_nonneg _ (Int.natCast_nonneg _),<-Int.natCast_ediv]
 have hm:o2 .mul (.int ((a:Int).fdiv (gc a b))) (.int (b:Int))=.ok (false,.int (Nat.lcm a b:Int)):=by
  rw[<-Cq a b hb];refine mulE (cZ ?_ (bR h2));rw[hq];exact bR (Nat.lt_of_le_of_lt (Nat.div_le_self _ _) h1)
 refine aA rfl rfl (stpR (retR (w:=false) ?_ rfl))
 array_get_dec
noncomputable def lcs(l:List Nat):Nat:=l.foldr Nat.lcm 1
omit hc hl in
theorem cN(k:Nat):∀l:List Nat,lcs l ∣ k↔∀x∈l,x ∣ k
 | []=>by simp[lcs]
 | x::l=>by
   have ih:=cN k l;simp only[lcs,List.foldr_cons,List.mem_cons,forall_eq_or_imp]at ih ⊢;rw[<-ih];exact⟨fun h=>⟨Nat.dvd_trans (Nat.dvd_lcm_left _ _) h,Nat.dvd_trans (Nat.dvd_lcm_right _ _) h⟩,fun h=>Nat.lcm_dvd h.1 h.2⟩
omit hc hl in
theorem jy(k:Nat):∀(l:List Nat) (t:Nat),l.foldl Nat.lcm t ∣ k↔t ∣ k/\∀x∈l,x ∣ k
 | [],t=>by simp
 | x::l,t=>by
   rw[List.foldl_cons,jy k l,List.forall_mem_cons];exact⟨fun h=>⟨Nat.dvd_trans (Nat.dvd_lcm_left _ _) h.1,Nat.dvd_trans (Nat.dvd_lcm_right _ _) h.1,h.2⟩,fun h=>⟨Nat.lcm_dvd h.1 h.2.1,h.2.2⟩⟩
omit hc hl in
theorem Dc{l l':List Nat}(h:∀x,x∈l↔x∈l'):lcs l=lcs l' :=
 Nat.dvd_antisymm ((cN _ l).mpr fun x hx=>(cN _ l').mp (Nat.dvd_refl _) x ((h x).mp hx)) ((cN _ l').mpr fun x hx=>(cN _ l).mp (Nat.dvd_refl _) x ((h x).mpr hx))
omit hc hl in
theorem xK(l:List Nat):l.foldl Nat.lcm 1=lcs l :=
 Nat.dvd_antisymm ((jy _ l 1).mpr ⟨Nat.one_dvd _,fun x hx=>(cN _ l).mp (Nat.dvd_refl _) x hx⟩) ((cN _ l).mpr fun x hx=>((jy _ l 1).mp (Nat.dvd_refl _)).2 x hx)
theorem zA(A:Option Slot)(m M:Nat)(hM:0<M)(h60:M<2 ^ 60)(hw:M<w):∀(l:List Nat) (t:Nat) (p:Option Slot),t ∣ M->(∀x∈l,x ∣ M)->∃p',cF (evSs (orc P w (m+2)) (lcB il)) [2] false (l.map fun(n:Nat)=>D.int (n:Int)) [A,some (.sh,.int (t:Int)),p]=.nx [A,some (.sh,.int (l.foldl Nat.lcm t:Nat)),p']
 | [],t,p,_,_=>⟨p,rfl⟩
 | x::l,t,p,ht,hx=>by
   have hxM:=hx x List.mem_cons_self;have hx0:0<x:=Nat.pos_of_dvd_of_pos hxM hM;have hle:=Nat.le_of_dvd hM hxM;have htl:=Nat.le_of_dvd hM ht;have hr:=IK hc hl w t x hx0 (by omega) (by omega) (by omega) m;obtain⟨p',ih⟩:=zA A m M hM h60 hw l (Nat.lcm t x) (some (.sh,.int (x:Int))) (Nat.lcm_dvd ht hxM) (fun y hy=>hx y (List.mem_cons_of_mem _ hy));exact⟨p',cA (ds:=[.int (x:Int)]) rfl rfl (one (aG (w:=false) (d:=.int (Nat.lcm t x:Nat)) (aB (aa rfl (ao rfl) (aa rfl (ao rfl) rfl)) hr) rfl)) ih⟩
end
end KM
namespace KM
open Z KG
theorem qC{α:Type} [DecidableEq α](k:α):∀l:List α,k∈bD l↔k∈l
 | []=>by simp[bD]
 | x::l=>by
   have ih:=qC k l;rw[bD];split
   ·rename_i h
    rw[ih,List.mem_cons];exact⟨.inr,fun z=>z.elim (fun e=>e▸h) id⟩
   ·rw[List.mem_cons,List.mem_cons,ih]
theorem Kq{α:Type} [DecidableEq α]:∀l:List α,(bD l).Nodup
 | []=>List.nodup_nil
 | x::l=>by
   have ih:=Kq l;rw[bD];split
   ·exact ih
   ·rename_i h
    exact List.nodup_cons.mpr ⟨fun z=>h ((qC x l).mp z),ih⟩
theorem pK(x k:Int):∀l:List Int,k∈insI x l↔k=x\/k∈l
 | []=>by simp[insI]
 | y::l=>by
   rw[insI];split
   ·rw[List.mem_cons]
   ·rw[List.mem_cons,pK x k l,List.mem_cons]
    constructor
    ·rintro(h | h | h)
     ·exact .inr (.inl h)
     ·exact .inl h
     ·exact .inr (.inr h)
    ·rintro(h | h | h)
     ·exact .inr (.inl h)
     ·exact .inl h
     ·exact .inr (.inr h)
theorem lG(k:Int):∀l:List Int,k∈sortI l↔k∈l
 | []=>by simp[sortI]
 | x::l=>by rw[sortI,pK,lG k l,List.mem_cons]
noncomputable def intN(l:List Nat):List D:=l.map fun(n:Nat)=>D.int (n:Int)
theorem K1(x:Int)(l:List D):strsOf (.int x::l)=none:=rfl
theorem qm:∀l:List Int,(∀x∈l,0<=x)->l.map D.int=intN (l.map Int.toNat)
 | [],_=>rfl
 | x::l,h=>by
   have h0:=h x List.mem_cons_self
   have ih:=qm l fun y hy=>h y (List.mem_cons_of_mem _ hy)
   simp only[intN,List.map_cons]at ih ⊢;rw[ih,Int.toNat_of_nonneg h0]
theorem xU(l:List Nat)(h:l.length<4000)(hd:(bD (l.map fun(n:Nat)=>(n:Int))).length<64):∃L:List Nat,(∀x,x∈L↔x∈l)/\b1D .sortedSet (.lst (intN l))=.ok (true,.lst (intN L)):=by
 cases l with
 | nil=>exact⟨[],fun x=>Iff.rfl,rfl⟩
 | cons a r=>
   have hi:=gJ (a::r);generalize hl:a::r=l at *
   have hm:∀k,k∈sortI (bD (l.map fun(n:Nat)=>(n:Int)))↔∃x∈l,(x:Int)=k:=fun k=>by rw[lG,qC,List.mem_map]
   have hn:∀k∈sortI (bD (l.map fun(n:Nat)=>(n:Int))),0<=k:=fun k hk=>by
    obtain⟨x,_,rfl⟩:=(hm k).mp hk;omega
   refine⟨(sortI (bD (l.map fun(n:Nat)=>(n:Int)))).map Int.toNat,fun x=>?_,?_⟩
   ·rw[List.mem_map]
    constructor
    ·rintro⟨k,hk,rfl⟩
     obtain⟨y,hy,rfl⟩:=(hm k).mp hk;simpa using hy
    ·intro hx
     exact⟨(x:Int),(hm _).mpr ⟨x,hx,rfl⟩,by simp⟩
   ·have hc:(l.map fun(n:Nat)=>D.int (n:Int)).length<4000/\(bD (l.map fun(n:Nat)=>(n:Int))).length<64:=⟨by rw[List.length_map];exact h,hd⟩
    have hs:strsOf (l.map fun(n:Nat)=>D.int (n:Int))=none:=by rw[<-hl];rfl
    show b1D .sortedSet (.lst (l.map fun(n:Nat)=>D.int (n:Int)))=_;simp only[b1D,ssD,hs,hi,Option.bind_some,if_pos hc,R.of];rw[qm _ hn]
section
variable{P:Prg}{ic il ilo:Nat}(hc:P.fns[ic]?=some commonFd)(hl:P.fns[il]?=some (lcFd ic))(hlo:P.fns[ilo]?=some (lcoFd il))(w:Nat)
include hc hl hlo
theorem vB(l:List Nat)(M:Nat)(hM:0<M)(h60:M<2 ^ 60)(hw:M<w)(hx:∀x∈l,x ∣ M)(h:l.length<4000)(hd:(bD (l.map fun(n:Nat)=>(n:Int))).length<64)(m:Nat):(orc P w (m+3)).fn ilo [.lst (intN l)]=.ok (false,.int (lcs l:Nat)):=by
 rw[bz hlo];obtain⟨L,h1,h2⟩:=xU l h hd
 obtain⟨p',hf⟩:=zA hc hl w (some (.sh,.lst (intN l))) m M hM h60 hw L 1 none (Nat.one_dvd _) fun x q=>hx x ((h1 x).mp q)
 rw[xK,Dc h1]at hf;exact aA rfl (δ0:=[some (.sh,.lst (intN l)),none,none]) rfl (stp [some (.sh,.lst (intN l)),some (.sh,.int ((1:Nat):Int)),none] (aG (w:=false) aj rfl) (stp _ (fors rfl (cu (e_b1 (ao rfl) h2) rfl) hf) (stpR (zG rfl))))
end
end KM
namespace KM
open Z KG
noncomputable def blFd(iaw:Nat):Fd:=⟨1,1,(SL.cons (S.ret (T.b1 .sortedSet (T.comp [] 1 false (TI.val (T.call iaw (TL.cons (T.var 0) TL.nil))) (inT [115,111,109,101] [97,108,108]) (T.idx (T.var 0) (T.cst (D.int 1)))))) SL.nil)⟩
noncomputable def bsC:T:=(T.comp [1] 2 true (TI.val (T.idx (T.var 4) (T.cst (D.int 1)))) (T.op2 .in (T.var 0) (T.var 2)) (T.b1 .abs (T.var 1)))
noncomputable def bsB:SL:=(SL.cons (S.set 4 (T.idx (T.var 3) (T.neg (T.cst (D.int 1))))) (SL.cons (S.extend 2 bsC) SL.nil))
noncomputable def bsFd(ibl ial ilo:Nat):Fd:=⟨1,5,(SL.cons (S.set 1 (T.call ibl (TL.cons (T.var 0) TL.nil))) (SL.cons (S.set 2 (T.lst TL.nil)) (SL.cons (S.for_ [3] false (TI.val (T.call ial (TL.cons (T.var 0) TL.nil))) bsB) (SL.cons (S.ret (T.call ilo (TL.cons (T.var 2) TL.nil))) SL.nil))))⟩
noncomputable def dsFd(ial ilo:Nat):Fd:=⟨1,1,(SL.cons (S.ret (T.call ilo (TL.cons (T.comp [] 1 false (TI.val (T.call ial (TL.cons (T.var 0) TL.nil))) (T.op2 .eq (T.idx (T.var 0) (T.cst (D.int 0))) (T.cst (D.str [114,101,115,116]))) (T.idx (T.var 0) (T.cst (D.int 1)))) TL.nil))) SL.nil)⟩
noncomputable def nmOf:Stt->List Nat
 | .trn _ x _=>x
 | _=>[]
noncomputable def bn(s:Stt):List (List Nat):=((aw s).filter isT).map nmOf
theorem GD(xs:List (List Nat)):strsOf (xs.map D.str)=some xs:=by
 induction xs with
 | nil=>rfl
 | cons x xs ih=>simp[strsOf,ih]
theorem xg(l:List (List Nat))(h:l.length<4000)(hd:(bD l).length<64):b1D .sortedSet (.lst (l.map .str))=.ok (true,.lst ((gn (bD l)).map .str)):=by
 have hc:(l.map D.str).length<4000/\(bD l).length<64:=⟨by rw[List.length_map];exact h,hd⟩
 simp only[b1D,ssD,GD,if_pos hc,R.of]
noncomputable def bnS(s:Stt):List (List Nat):=gn (bD (bn s))
theorem gj(s:Stt)(k:List Nat):k∈bnS s↔k∈bn s:=(KG.sortS_perm _).mem_iff.trans (qC k _)
theorem zJ(s:Stt):(bn s).length<=sz s:=by
 unfold bn;rw[List.length_map];have:=List.length_filter_le isT (aw s)
 rwa [jc]at this
section
variable{P:Prg}{ipo iaw ibl:Nat}(hpo:P.fns[ipo]?=some poFd)(haw:P.fns[iaw]?=some (awFd ipo iaw))(hbl:P.fns[ibl]?=some (blFd iaw))(w:Nat)
include hpo haw hbl
theorem Jz(n:Nat)(s:Stt)(hs:wf n s)(hz:sz s<4000)(hd:(bD (bn s)).length<64)(m:Nat)(hm:n+3<=m):(orc P w m).fn ibl [toD s]=.ok (true,.lst ((bnS s).map .str)):=by
 obtain⟨k,rfl⟩:∃k,m=k+1:=⟨m-1,by omega⟩
 rw[bz hbl];have hc:=zU hpo haw w n s hs (by omega) k (by omega);have hb:=zJ s
 have e1:ev (orc P w k) [some (.sh,toD s)] true (T.comp [] 1 false (TI.val (T.call iaw (TL.cons (T.var 0) TL.nil))) (inT [115,111,109,101] [97,108,108]) (T.idx (T.var 0) (T.cst (D.int 1))))=.ok (true,.lst ((bn s).map .str)):=by
  unfold bn at hb ⊢;rw[List.map_map];refine fQ _ ((aw s).map toD) _ _ _ (cu (aB (aa rfl (ao rfl) rfl) hc) rfl) (by rw[List.length_map]at hb ⊢;omega) (fU (ts:=fun q=>[toD q]) (fun _ _=>rfl) (fun q _=>in_T _ q _ _) fun q _ hq=>⟨false,?_⟩)
  cases q with
  | trn b x s=>rw[toD];exact(jn (ao rfl) aj).trans (aP rfl rfl)
  | _=>cases hq
 exact aA rfl rfl (stpR (retR ((yJ e1).trans (xg _ (by omega) hd)) rfl))
end
noncomputable def prs:Stt->List Pair
 | .least _ l=>l
 | .rest _ _ l=>l
 | _=>[]
noncomputable def bx(L:List (List Nat))(s:Stt):List Nat:=((prs s).filter fun p=>decide (p.1∈L)).map fun p=>p.2.natAbs
noncomputable def bxs(L:List (List Nat)):List Stt->List Nat
 | []=>[]
 | s::ss=>bx L s++bxs L ss
theorem oW(n:List Nat):∀B:List (List Nat),inS (.str n) (B.map .str)=some (decide (n∈B))
 | []=>rfl
 | x::B=>by
   rw[List.map_cons,inS,oW n B];simp only[eqS]
   by_cases h:x=n
   ·simp[h]
   ·have h':¬n=x:=fun e=>h e.symm
    simp[h,h']
theorem in_L(B:List (List Nat))(n:List Nat):o2 .in (.str n) (.lst (B.map .str))=.ok (false,.bl (decide (n∈B))):=by
 simp only[o2,isIn,gq,if_true,oW,Option.map,R.of]
theorem yf(o:Orc)(δ:Dst)(lk:Bool)(it:TI)(caps:List Nat)(cs l r:List D)(m:Nat)(tg:Bool)(c e:T)(hI:evI o δ true it=.ok l)(hs:dZ δ caps=some cs)(hi:immL r=true)(hr:r.length<=100000)
 (hc:bV (fun x=>ev o ((x++cs).map fun d=>some (Own.sh,d)) false e) (fun x=>ev o ((x++cs).map fun d=>some (Own.sh,d)) true c) m tg l=.ok r):ev o δ lk (T.comp caps m tg it c e)=.ok (true,.lst r):=by
 rw[ev,hI,hs];simp only[R.bind,R.of];rw[hc]
 have hz:size r.length=true:=by simp[size];omega
 simp only[hi,hz,R.chk];simp
theorem sS:∀l:List Nat,immL (intN l)=true
 | []=>rfl
 | x::l=>by
   have:=sS l;simp only[intN,List.map_cons,immL,D.imm,Bool.true_and]at this ⊢;exact this
theorem G4(k:Int):b1D .abs (.int k)=.ok (false,.int (k.natAbs:Int)):=by
 rw[Lk]
 congr 3
 split<;>omega
theorem Gy(s:Stt)(h:isA s=true):∃c,idxD (toD s) (.int (-1))=.ok (false,smT c (prs s)):=by
 cases s with
 | least c l=>exact⟨c,by rw[toD];rfl⟩
 | rest q c l=>exact⟨c,by rw[toD];rfl⟩
 | _=>cases h
theorem yK(a b:List Nat):intN (a++b)=intN a++intN b:=by simp[intN]
theorem Bu(o:Orc)(A:Option Slot)(L:List (List Nat))(row:List Nat)(s:Stt)(h:isA s=true)(hl:(prs s).length<=1000)(hr:row.length<=50000)(p:Option Slot):∃p',evSs o bsB [A,some (.ow,.lst (L.map .str)),some (.ow,.lst (intN row)),some (.sh,toD s),p]=.nx [A,some (.ow,.lst (L.map .str)),some (.ow,.lst (intN (row++bx L s))),some (.sh,toD s),p']:=by
 obtain⟨c,hc⟩:=Gy s h
 have hb:(bx L s).length<=1000:=by
  unfold bx;rw[List.length_map];exact Nat.le_trans (List.length_filter_le _ _) hl
 have e1:evS o (S.set 4 (T.idx (T.var 3) (T.neg (T.cst (D.int 1))))) [A,some (.ow,.lst (L.map .str)),some (.ow,.lst (intN row)),some (.sh,toD s),p]=.nx [A,some (.ow,.lst (L.map .str)),some (.ow,.lst (intN row)),some (.sh,toD s),some (.sh,smT c (prs s))]:=aG ((jn (ao rfl) neg1).trans hc) rfl
 have e2:ev o [A,some (.ow,.lst (L.map .str)),some (.ow,.lst (intN row)),some (.sh,toD s),some (.sh,smT c (prs s))] false bsC=.ok (true,.lst (intN (bx L s))):=by
  refine yf _ _ _ _ [1] [.lst (L.map .str)] ((prs s).map prD) _ 2 true _ _ (cu (w:=false) (x:=.tup ((prs s).map prD)) ((jn (ao rfl) aj).trans (aP rfl rfl)) rfl) rfl (sS _) (by simp only[intN,List.length_map];omega) ?_;unfold intN bx;rw[List.map_map]
  exact fU (ts:=fun p:Pair=>[.str p.1,.int p.2]) (fun p _=>rfl) (fun p _=>(cQ (ao rfl) (ao rfl)).trans (in_L L p.1)) fun p _ _=>⟨false,(yJ (ao rfl)).trans (G4 p.2)⟩
 have e3:=zB (i:=2) (q:=.ow) (a:=intN row) e2 rfl (by simp only[intN,List.length_map];omega);rw[<-yK]at e3;exact⟨_,(bC e1).trans ((bC e3).trans rfl)⟩
theorem Ae(o:Orc)(A:Option Slot)(L:List (List Nat)):∀(ss:List Stt) (row:List Nat) (a p:Option Slot),(∀s∈ss,isA s=true/\(prs s).length<=10)->row.length+10*ss.length<=50000 ->
 ∃a' p',cF (evSs o bsB) [3] false (ss.map toD) [A,some (.ow,.lst (L.map .str)),some (.ow,.lst (intN row)),a,p]=.nx [A,some (.ow,.lst (L.map .str)),some (.ow,.lst (intN (row++bxs L ss))),a',p']
 | [],row,a,p,_,_=>⟨a,p,by rw[bxs,List.append_nil];rfl⟩
 | s::ss,row,a,p,h,hl=>by
   rw[List.length_cons]at hl;obtain⟨h1,h2⟩:=h s List.mem_cons_self
   have hb:(bx L s).length<=10:=by
    unfold bx;rw[List.length_map];exact Nat.le_trans (List.length_filter_le _ _) h2
   obtain⟨p1,e1⟩:=Bu o A L row s h1 (by omega) (by omega) p;obtain⟨a',p',ih⟩:=Ae o A L ss (row++bx L s) (some (.sh,toD s)) p1 (fun x hx=>h x (List.mem_cons_of_mem _ hx)) (by rw[List.length_append];omega);exact⟨a',p',cA (ds:=[toD s]) rfl rfl e1 (ih.trans (by rw[bxs,List.append_assoc]))⟩
end KM
namespace KM
open Z KG
noncomputable def isR:Stt->Bool
 | .rest _ _ _=>true
 | _=>false
noncomputable def dv:Stt->Int
 | .rest m _ _=>m
 | _=>1
noncomputable def rn(s:Stt):List Nat:=((ats s).filter isR).map fun a=>(dv a).toNat
noncomputable def bv(s:Stt):Nat:=lcs (bxs (bnS s) (ats s))
noncomputable def rv(s:Stt):Nat:=lcs (rn s)
noncomputable def ld(s:Stt):Nat:=(ats s).length*(ats s).length*bv s*rv s
structure Mok(s:Stt)(M N w:Nat):Prop where
 sz:sz s<=390
 bn:(bD (bn s)).length<64
 pr:∀a∈ats s,(prs a).length<=10
 bd:∀x∈bxs (bnS s) (ats s),x ∣ M
 bdd:(bD ((bxs (bnS s) (ats s)).map fun(n:Nat)=>(n:Int))).length<64
 rp:∀a∈ats s,0<=dv a
 rd:∀x∈rn s,x ∣ N
 rdd:(bD ((rn s).map fun(n:Nat)=>(n:Int))).length<64
 M0:0<M
 M2:M<2 ^ 20
 Mw:M<w
 N0:0<N
 N2:N<2 ^ 20
 Nw:N<w
noncomputable def ldFd(iat ibs ids:Nat):Fd:=⟨1,1,(SL.cons (S.ret (T.op2 .mul (T.op2 .mul (T.op2 .mul (T.call iat (TL.cons (T.var 0) TL.nil)) (T.call iat (TL.cons (T.var 0) TL.nil))) (T.call ibs (TL.cons (T.var 0) TL.nil))) (T.call ids (TL.cons (T.var 0) TL.nil)))) SL.nil)⟩
structure Ms(P:Prg)(ic il ipo iaw ial ibl iol ilo ibs ids iat idp ild:Nat):Prop where
 c:P.fns[ic]?=some commonFd
 l:P.fns[il]?=some (lcFd ic)
 po:P.fns[ipo]?=some poFd
 aw:P.fns[iaw]?=some (awFd ipo iaw)
 al:P.fns[ial]?=some (alFd iaw)
 bl:P.fns[ibl]?=some (blFd iaw)
 ol:P.fns[iol]?=some (olFd ipo iol)
 lo:P.fns[ilo]?=some (lcoFd il)
 bs:P.fns[ibs]?=some (bsFd ibl ial ilo)
 ds:P.fns[ids]?=some (dsFd ial ilo)
 at':P.fns[iat]?=some (atFd ial)
 dp:P.fns[idp]?=some (dpFd ipo idp)
 ld:P.fns[ild]?=some (ldFd iat ibs ids)
theorem iJ(L:List (List Nat)):∀ss:List Stt,(∀a∈ss,(prs a).length<=10)->(bxs L ss).length<=10*ss.length
 | [],_=>by simp[bxs]
 | s::ss,h=>by
   have ih:=iJ L ss fun a ha=>h a (List.mem_cons_of_mem _ ha)
   have h1:=h s List.mem_cons_self
   have h2:(bx L s).length<=10:=by
    unfold bx;rw[List.length_map];exact Nat.le_trans (List.length_filter_le _ _) h1
   rw[bxs,List.length_append,List.length_cons];omega
theorem mO(s:Stt):(ats s).length<=sz s:=by
 have:=List.length_filter_le isA (aw s)
 rwa [jc]at this
theorem za{l:List Nat}{M:Nat}(h:∀x∈l,x ∣ M)(hM:0<M):lcs l<=M:=Nat.le_of_dvd hM ((cN M l).mpr h)
theorem hw_R(s:Stt):decide (hw s=tM)=isR s:=by
 cases s with
 | grp w _=>cases w<;>rfl
 | trn w _ _=>cases w<;>rfl
 | _=>rfl
section
variable{P:Prg}{ic il ipo iaw ial ibl iol ilo ibs ids iat idp ild:Nat}(H:Ms P ic il ipo iaw ial ibl iol ilo ibs ids iat idp ild)(w:Nat)
include H
theorem An(n:Nat)(s:Stt)(M N:Nat)(hs:wf n s)(h:Mok s M N w)(m:Nat)(hm:n+5<=m):(orc P w m).fn ibs [toD s]=.ok (false,.int (bv s:Nat)):=by
 obtain⟨k,rfl⟩:∃k,m=k+4:=⟨m-4,by omega⟩
 rw[bz H.bs];have hsz:=h.sz;have h1:=Jz H.po H.aw H.bl w n s hs (by omega) h.bn (k+3) (by omega);have h2:=t8 H.po H.aw H.al w n s hs (by omega) (k+3) (by omega);have hal:=mO s;have hbl:=iJ (bnS s) (ats s) h.pr;have h60:M<2 ^ 60:=Nat.lt_trans h.M2 (by decide);have h3:=vB H.c H.l H.lo w (bxs (bnS s) (ats s)) M h.M0 h60 h.Mw h.bd (by omega) h.bdd k;obtain⟨a',p',hf⟩:=Ae (orc P w (k+3)) (some (.sh,toD s)) (bnS s) (ats s) [] none none (fun a ha=>⟨(List.mem_filter.mp ha).2,h.pr a ha⟩) (by simp only[List.length_nil];omega);rw[List.nil_append]at hf;exact aA rfl (δ0:=[some (.sh,toD s),none,none,none,none]) rfl (stp [some (.sh,toD s),some (.ow,.lst ((bnS s).map .str)),none,none,none] (aG (w:=true) (aB (aa rfl (ao rfl) rfl) h1) rfl) (stp [some (.sh,toD s),some (.ow,.lst ((bnS s).map .str)),some (.ow,.lst (intN [])),none,none] (aG (w:=true) (d:=.lst []) (bL rfl rfl) rfl) (stp _ (fors rfl (cu (aB (aa rfl (ao rfl) rfl) h2) rfl) hf) (stpR (retR (jX (mX rfl (bK rfl) rfl) h3 rfl) rfl)))))
theorem Jv(n:Nat)(s:Stt)(M N:Nat)(hs:wf n s)(h:Mok s M N w)(m:Nat)(hm:n+5<=m):(orc P w m).fn ids [toD s]=.ok (false,.int (rv s:Nat)):=by
 obtain⟨k,rfl⟩:∃k,m=k+4:=⟨m-4,by omega⟩
 rw[bz H.ds];have hsz:=h.sz;have h2:=t8 H.po H.aw H.al w n s hs (by omega) (k+3) (by omega);have hal:=mO s
 have hrl:(rn s).length<=390:=by
  unfold rn;rw[List.length_map];exact Nat.le_trans (List.length_filter_le _ _) (by omega)
 have h60:N<2 ^ 60:=Nat.lt_trans h.N2 (by decide);have h3:=vB H.c H.l H.lo w (rn s) N h.N0 h60 h.Nw h.rd (by omega) h.rdd k
 have e1:ev (orc P w (k+3)) [some (.sh,toD s)] false (T.comp [] 1 false (TI.val (T.call ial (TL.cons (T.var 0) TL.nil))) (T.op2 .eq (T.idx (T.var 0) (T.cst (D.int 0))) (T.cst (D.str [114,101,115,116]))) (T.idx (T.var 0) (T.cst (D.int 1))))=.ok (true,.lst (intN (rn s))):=by
  have hl2:(intN (rn s)).length<=100000:=by simp only[intN,List.length_map];omega
  revert hl2
  unfold intN rn;rw[List.map_map];intro hl2;refine fQ _ ((ats s).map toD) _ _ _ (cu (aB (aa rfl (ao rfl) rfl) h2) rfl) hl2 (fU (ts:=fun q=>[toD q]) (fun _ _=>rfl) (fun q _=>?_) fun q hq hr=>⟨false,?_⟩)
  ·rw[<-hw_R]
   obtain⟨r,e⟩:=hd q;rw[e];exact(cQ ((jn (ao rfl) aj).trans (aP rfl rfl)) aj).trans (qM _ _)
  ·have h0:=h.rp q hq
   cases q with
   | rest m c l=>
     rw[toD];refine((jn (ao rfl) aj).trans (aP rfl rfl)).trans ?_;show R.ok (false,D.int m)=R.ok (false,D.int ((dv (.rest m c l)).toNat:Int));rw[Int.toNat_of_nonneg h0];rfl
   | _=>cases hr
 exact aA rfl rfl (stpR (retR (aB (aa rfl e1 rfl) h3) rfl))
theorem Ib(n:Nat)(s:Stt)(M N:Nat)(hs:wf n s)(h:Mok s M N w)(m:Nat)(hm:n+6<=m):(orc P w m).fn ild [toD s]=.ok (false,.int (ld s:Nat)):=by
 obtain⟨k,rfl⟩:∃k,m=k+1:=⟨m-1,by omega⟩
 rw[bz H.ld];have hsz:=h.sz;have hal:=mO s;have h1:=zP H.po H.aw H.al w H.at' n s hs (by omega) k (by omega);have h2:=An H w n s M N hs h k (by omega);have h3:=Jv H w n s M N hs h k (by omega);have b1:=za h.bd h.M0;have b2:=za h.rd h.N0;have hM:=h.M2;have hN:=h.N2;have m1:(ats s).length*(ats s).length<=390*390:=Nat.mul_le_mul (by omega) (by omega);have m2:(ats s).length*(ats s).length*bv s<=390*390*2 ^ 20:=Nat.mul_le_mul m1 (Nat.le_of_lt (Nat.lt_of_le_of_lt b1 hM))
 have o1:o2 .mul (.int ((ats s).length:Int)) (.int ((ats s).length:Int))=.ok (false,.int (((ats s).length*(ats s).length:Nat):Int)):=by
  rw[Int.natCast_mul];exact mulE (cZ (bR (by omega)) (bR (by omega)))
 have o2':o2 .mul (.int (((ats s).length*(ats s).length:Nat):Int)) (.int (bv s:Nat))=.ok (false,.int (((ats s).length*(ats s).length*bv s:Nat):Int)):=by
  rw[Int.natCast_mul ((ats s).length*(ats s).length)];exact mulE (cZ (bR (by omega)) (bR (by unfold bv;omega)))
 have o3:o2 .mul (.int (((ats s).length*(ats s).length*bv s:Nat):Int)) (.int (rv s:Nat))=.ok (false,.int (ld s:Nat)):=by
  unfold ld;rw[Int.natCast_mul ((ats s).length*(ats s).length*bv s)];exact mulE (cZ (bR (Nat.lt_of_le_of_lt m2 (by decide))) (bR (by unfold rv;omega)))
 exact aA rfl rfl (stpR (retR (au (au (au (aB (aa rfl (ao rfl) rfl) h1) (aB (aa rfl (ao rfl) rfl) h1) o1) (aB (aa rfl (ao rfl) rfl) h2) o2') (aB (aa rfl (ao rfl) rfl) h3) o3) rfl))
end
end KM
namespace KM
open Z KG
noncomputable def kI:T:=(T.kin [.i 1,.i 2,.i 3] true (T.var 2))
noncomputable def kX:T:=(T.kidx [.i 1,.i 2,.i 3] [(D.int 960),(D.int 240),(D.int 18)] (T.var 2))
noncomputable def bfFd(idp ild ibs:Nat):Fd:=⟨2,3,(SL.cons (S.set 2 (T.op2 .add (T.call idp (TL.cons (T.var 0) TL.nil)) (T.var 1))) (SL.cons (S.ifs (T.or kI (T.op2 .gt (T.call ild (TL.cons (T.var 0) TL.nil)) kX)) (SL.cons (S.ret (T.cst (D.bl false))) SL.nil) SL.nil) (SL.cons (S.ret (T.or (T.op2 .lt (T.var 2) (T.cst (D.int 3))) (T.op2 .eq (T.call ibs (TL.cons (T.var 0) TL.nil)) (T.cst (D.int 1))))) SL.nil)))⟩
noncomputable def ftB(ibf:Nat):SL:=(SL.cons (S.ifs (T.not (T.call ibf (TL.cons (T.var 2) (TL.cons (T.var 1) TL.nil)))) (SL.cons (S.ret (T.cst (D.bl false))) SL.nil) SL.nil) SL.nil)
noncomputable def ftFd(iat iol ibf:Nat):Fd:=⟨2,3,(SL.cons (S.ifs (T.op2 .gt (T.call iat (TL.cons (T.var 0) TL.nil)) (T.cst (D.int 40))) (SL.cons (S.ret (T.cst (D.bl false))) SL.nil) SL.nil) (SL.cons (S.for_ [2] false (TI.val (T.call iol (TL.cons (T.var 0) TL.nil))) (ftB ibf)) (SL.cons (S.ret (T.cst (D.bl true))) SL.nil)))⟩
noncomputable def bfv(d a b:Nat):Bool:=match d with
 | 1=>decide (a<=960)
 | 2=>decide (a<=240)
 | 3=>decide (a<=18)&&decide (b=1)
 | _=>false
noncomputable def bf(s:Stt)(more:Nat):Bool:=bfv (dp s+more) (ld s) (bv s)
theorem zr{d a b:Nat}(d1:d≠1)(d2:d≠2)(d3:d≠3):bfv d a b=false:=by
 unfold bfv
 split<;>first | rfl | (exfalso;omega)
noncomputable def ft(s:Stt)(more:Nat):Bool:=decide ((ats s).length<=40)&&(ol s).all fun t=>bf t more
theorem or_t{o:Orc}{δ:Dst}{lk:Bool}{a b:T}{w:Bool}(ha:ev o δ true a=.ok (w,.bl true)):ev o δ lk (T.or a b)=.ok (false,.bl true):=by simp only[ev,ha,R.bind]
theorem zp{o:Orc}{δ:Dst}{lk:Bool}{i:Int}(h:δ[2]?=some (some (.sh,.int i))):ev o δ lk kI=.ok (false,.bl (true ^^ decide (DK.i i∈[DK.i 1,DK.i 2,DK.i 3]))):=by
 unfold kI;simp only[ev,h,R.bind,keyOf,Option.map_some,R.of]
theorem Dy{o:Orc}{δ:Dst}{lk:Bool}{i:Int}{d:D}(h:δ[2]?=some (some (.sh,.int i)))(hd:look [DK.i 1,.i 2,.i 3] [(D.int 960),(D.int 240),(D.int 18)] (.i i)=some d):ev o δ lk kX=.ok (false,d):=by
 unfold kX;simp only[ev,h,R.bind,keyOf,Option.bind_some,hd,Option.map_some,R.of]
theorem Kh{o:Orc}{δ:Dst}{tg:List Nat}{tp:Bool}{it:TI}{b:SL}{l:List D}{r:SO}(hs:cM δ it=δ)(hi:evI o δ false it=.ok l)(h:cF (evSs o b) tg tp l δ=r):evS o (.for_ tg tp it b) δ=r:=by
 rw[forE hs,hi];exact h
section
variable{P:Prg}{ic il ipo iaw ial ibl iol ilo ibs ids iat idp ild ibf ift:Nat}(H:Ms P ic il ipo iaw ial ibl iol ilo ibs ids iat idp ild)(hbf:P.fns[ibf]?=some (bfFd idp ild ibs))(w:Nat)
include H hbf
theorem G7(n:Nat)(s:Stt)(M N:Nat)(hs:wf n s)(h:Mok s M N w)(more:Nat)(m:Nat)(hm:n+7<=m):(orc P w m).fn ibf [toD s,.int (more:Int)]=.ok (false,.bl (bf s more)):=by
 obtain⟨k,rfl⟩:∃k,m=k+1:=⟨m-1,by omega⟩
 rw[bz hbf];have h1:=Ha H.po H.dp w n s hs k (by omega);have h2:=Ib H w n s M N hs h k (by omega);have h3:=An H w n s M N hs h k (by omega)
 have e1:evS (orc P w k) (S.set 2 (T.op2 .add (T.call idp (TL.cons (T.var 0) TL.nil)) (T.var 1))) [some (.sh,toD s),some (.sh,.int (more:Int)),none]=.nx [some (.sh,toD s),some (.sh,.int (more:Int)),some (.sh,.int ((dp s+more:Nat):Int))] :=
  aG (w:=false) (d:=.int ((dp s+more:Nat):Int)) ((cQ (aB (aa rfl (ao rfl) rfl) h1) (ao rfl)).trans (by rw[Int.natCast_add];exact bM _ _)) rfl
 have hL:∀lk,ev (orc P w k) [some (.sh,toD s),some (.sh,.int (more:Int)),some (.sh,.int ((dp s+more:Nat):Int))] lk (T.call ild (TL.cons (T.var 0) TL.nil))=.ok (false,.int (ld s:Nat)):=fun lk=>aB (aa rfl (ao rfl) rfl) h2
 have hB:ev (orc P w k) [some (.sh,toD s),some (.sh,.int (more:Int)),some (.sh,.int ((dp s+more:Nat):Int))] true (T.op2 .eq (T.call ibs (TL.cons (T.var 0) TL.nil)) (T.cst (D.int 1)))=.ok (false,.bl (decide ((bv s:Int)=1))):=(cQ (aB (aa rfl (ao rfl) rfl) h3) aj).trans (dW _ _)
 have hB1:decide ((bv s:Int)=1)=decide (bv s=1):=by rw[decide_eq_decide];omega
 rw[hB1]at hB;unfold bf;generalize hD:dp s+more=d at *;refine aA rfl (δ0:=[some (.sh,toD s),some (.sh,.int (more:Int)),none]) rfl (stp _ e1 ?_)
 have go:∀(lim:Int),(true ^^ decide (DK.i (d:Int)∈[DK.i 1,DK.i 2,DK.i 3]))=false->look [DK.i 1,.i 2,.i 3] [(D.int 960),(D.int 240),(D.int 18)] (.i (d:Int))=some (.int lim)->∃δ1,evSs (orc P w k) (SL.cons (S.ifs (T.or kI (T.op2 .gt (T.call ild (TL.cons (T.var 0) TL.nil)) kX)) (SL.cons (S.ret (T.cst (D.bl false))) SL.nil) SL.nil) (SL.cons (S.ret (T.or (T.op2 .lt (T.var 2) (T.cst (D.int 3))) (T.op2 .eq (T.call ibs (TL.cons (T.var 0) TL.nil)) (T.cst (D.int 1))))) SL.nil)) [some (.sh,toD s),some (.sh,.int (more:Int)),some (.sh,.int (d:Int))]=.rt false (.bl (!decide (lim<(ld s:Int))&&(decide ((d:Int)<3)||decide (bv s=1)))) δ1:=fun lim hk hl=>by
  have ec:=rF (lk:=true) (zp (o:=orc P w k) (δ:=[some (.sh,toD s),some (.sh,.int (more:Int)),some (.sh,.int (d:Int))]) (lk:=true) rfl) ((cQ (hL true) (Dy rfl hl)).trans (o_gt _ _));rw[hk,Bool.false_or]at ec
  cases hq:decide (lim<(ld s:Int))with
  | true=>exact stpR (ifT ec hq (retR aj rfl))
  | false=>
    refine stp _ (ifF ec hq) (stpR (retR ?_ rfl));exact(rF ((cQ (ao rfl) aj).trans (o_lt _ _)) hB).trans (by simp)
 by_cases d1:d=1
 ·subst d1
  obtain⟨δ1,e⟩:=go 960 rfl rfl;refine⟨δ1,e.trans ?_⟩
  have:(!decide ((960:Int)<(ld s:Int)))=decide (ld s<=960):=by
   by_cases q:ld s<=960<;>simp[q]<;>omega
  simp only[this,bfv];simp
 by_cases d2:d=2
 ·subst d2
  obtain⟨δ1,e⟩:=go 240 rfl rfl;refine⟨δ1,e.trans ?_⟩
  have:(!decide ((240:Int)<(ld s:Int)))=decide (ld s<=240):=by
   by_cases q:ld s<=240<;>simp[q]<;>omega
  simp only[this,bfv];simp
 by_cases d3:d=3
 ·subst d3
  obtain⟨δ1,e⟩:=go 18 rfl rfl;refine⟨δ1,e.trans ?_⟩
  have:(!decide ((18:Int)<(ld s:Int)))=decide (ld s<=18):=by
   by_cases q:ld s<=18<;>simp[q]<;>omega
  simp only[this,bfv];simp
 ·have hn:(true ^^ decide (DK.i (d:Int)∈[DK.i 1,DK.i 2,DK.i 3]))=true:=by
   have:¬(DK.i (d:Int)∈[DK.i 1,DK.i 2,DK.i 3]):=fun z=>by
    simp only[List.mem_cons,DK.i.injEq,List.not_mem_nil,or_false]at z;omega
   simp only[this,decide_false];rfl
  have ek:=zp (o:=orc P w k) (δ:=[some (.sh,toD s),some (.sh,.int (more:Int)),some (.sh,.int (d:Int))]) (lk:=true) rfl;rw[hn]at ek;rw[zr d1 d2 d3];exact stpR (ifT (or_t ek) rfl (retR aj rfl))
omit H hbf in
theorem zL(o:Orc)(A:Option Slot)(more:Nat):∀(l:List Stt) (p:Option Slot),(∀t∈l,o.fn ibf [toD t,.int (more:Int)]=.ok (false,.bl (bf t more)))->∃δ',cF (evSs o (ftB ibf)) [2] false (l.map toD) [A,some (.sh,.int (more:Int)),p]=if(l.all fun t=>bf t more)=true then .nx δ' else .rt false (.bl false) δ'
 | [],p,_=>⟨_,rfl⟩
 | t::l,p,h=>by
   have h1:=h t List.mem_cons_self;have ec:ev o [A,some (.sh,.int (more:Int)),some (.sh,toD t)] true (T.not (T.call ibf (TL.cons (T.var 2) (TL.cons (T.var 1) TL.nil))))=.ok (false,.bl !(bf t more)):=gr (aB (aa rfl (ao rfl) (aa rfl (ao rfl) rfl)) h1)
   obtain⟨δ',ih⟩:=zL o A more l (some (.sh,toD t)) fun x hx=>h x (List.mem_cons_of_mem _ hx)
   cases hb:bf t more with
   | true=>
     rw[hb]at ec;refine⟨δ',cA (ds:=[toD t]) rfl rfl (one (ifF ec rfl)) (ih.trans ?_)⟩;rw[List.all_cons,hb,Bool.true_and]
   | false=>
     rw[hb]at ec;refine⟨[A,some (.sh,.int (more:Int)),some (.sh,toD t)],?_⟩;rw[List.all_cons,hb,Bool.false_and,if_neg (by decide)]
     have e2:evSs o (ftB ibf) [A,some (.sh,.int (more:Int)),some (.sh,toD t)]=.rt false (.bl false) [A,some (.sh,.int (more:Int)),some (.sh,toD t)]:=by
      unfold ftB;simp only[evSs,ifT ec rfl (retR aj rfl)]
     have e3:aR [A,some (.sh,.int (more:Int)),p] [2] [toD t]=some [A,some (.sh,.int (more:Int)),some (.sh,toD t)]:=rfl;simp only[List.map_cons,cF,takes,Bool.false_eq_true,if_false,List.length_cons,List.length_nil,e3,e2]
theorem J8(hft:P.fns[ift]?=some (ftFd iat iol ibf))(n:Nat)(s:Stt)(hs:wf n s)(hz:sz s<=390)(M N:Nat)(ho:∀t∈ol s,wf n t/\Mok t M N w)(more:Nat)(m:Nat)(hm:n+8<=m):(orc P w m).fn ift [toD s,.int (more:Int)]=.ok (false,.bl (ft s more)):=by
 obtain⟨k,rfl⟩:∃k,m=k+1:=⟨m-1,by omega⟩
 rw[bz hft];have h1:=zP H.po H.aw H.al w H.at' n s hs (by omega) k (by omega);have h2:=GC H.po H.ol w n s hs (by omega) k (by omega)
 have h3:∀t∈ol s,(orc P w k).fn ibf [toD t,.int (more:Int)]=.ok (false,.bl (bf t more)):=fun t ht=>G7 H hbf w n t M N (ho t ht).1 (ho t ht).2 more k (by omega)
 have ec:ev (orc P w k) [some (.sh,toD s),some (.sh,.int (more:Int)),none] true (T.op2 .gt (T.call iat (TL.cons (T.var 0) TL.nil)) (T.cst (D.int 40)))=.ok (false,.bl (decide (40<((ats s).length:Int)))):=(cQ (aB (aa rfl (ao rfl) rfl) h1) aj).trans (o_gt _ _);unfold ft
 by_cases h4:(ats s).length<=40
 ·rw[decide_eq_true h4,Bool.true_and]
  have hq:decide (40<((ats s).length:Int))=false:=by rw[decide_eq_false_iff_not];omega
  obtain⟨δ',hf⟩:=zL (orc P w k) (some (.sh,toD s)) more (ol s) none h3;refine aA rfl (δ0:=[some (.sh,toD s),some (.sh,.int (more:Int)),none]) rfl (stp _ (ifF ec hq) ?_);have hi:evI (orc P w k) [some (.sh,toD s),some (.sh,.int (more:Int)),none] false (TI.val (T.call iol (TL.cons (T.var 0) TL.nil)))=.ok ((ol s).map toD):=cu (aB (aa rfl (ao rfl) rfl) h2) rfl
  cases hb:(ol s).all fun t=>bf t more with
  | true=>
    rw[hb,if_pos rfl]at hf;exact stp _ (fors rfl hi hf) (stpR (retR aj rfl))
  | false=>
    rw[hb,if_neg (by decide)]at hf;exact stpR (Kh rfl hi hf)
 ·rw[decide_eq_false h4,Bool.false_and]
  have hq:decide (40<((ats s).length:Int))=true:=by rw[decide_eq_true_iff];omega
  exact aA rfl (δ0:=[some (.sh,toD s),some (.sh,.int (more:Int)),none]) rfl (stpR (ifT ec hq (retR aj rfl)))
end
end KM
namespace P16
open Z
noncomputable def f0:Fd:=KM.commonFd
noncomputable def f1:Fd:=KM.lcFd 0
noncomputable def f2:Fd:=KM.poFd
noncomputable def f3:Fd:=KM.awFd 2 3
noncomputable def f4:Fd:=KM.alFd 3
noncomputable def f5:Fd:=KM.blFd 3
noncomputable def f6:Fd:=KM.olFd 2 6
noncomputable def f7:Fd:=KM.lcoFd 1
noncomputable def f8:Fd:=KM.bsFd 5 4 7
noncomputable def f9:Fd:=KM.dsFd 4 7
noncomputable def f10:Fd:=KM.atFd 4
noncomputable def f11:Fd:=KM.dpFd 2 11
noncomputable def f12:Fd:=KM.ldFd 10 8 9
noncomputable def f13:Fd:=KM.bfFd 11 12 8
noncomputable def f14:Fd:=KM.ftFd 10 6 13
noncomputable def f15:Fd:=KG.cellFd
noncomputable def f16:Fd:=⟨1,6,(SL.cons (S.set 1 (T.cst (D.str [122,120,119,118,117,116,115,114,113,112,110,109,108,107,106,105,104,103,102,101,100,99,98]))) (SL.cons (S.set 2 (T.idx (T.var 1) (T.op2 .mod (T.op2 .fdiv (T.var 0) (T.cst (D.int 2))) (T.cst (D.int 23))))) (SL.cons (S.for_ [3] false (TI.rng1 (T.cst (D.int 6))) (SL.cons (S.set 2 (T.op2 .add (T.var 2) (T.idx (T.op2 .add (T.var 1) (T.cst (D.str [48,49,50,51,52,53,54,55,56,57]))) (T.op2 .mod (T.op2 .mod (T.op2 .mul (T.op2 .mul (T.op2 .add (T.op2 .mod (T.var 0) (T.op2 .pow (T.cst (D.int 10)) (T.cst (D.int 9)))) (T.var 3)) (T.op2 .add (T.var 3) (T.cst (D.int 7)))) (T.cst (D.int 48271))) (T.cst (D.int 65521))) (T.cst (D.int 33)))))) SL.nil)) (SL.cons (S.ifs (T.op2 .eq (T.op2 .mod (T.var 0) (T.cst (D.int 2))) (T.cst (D.int 1))) (SL.cons (S.set 4 (T.op2 .mod (T.op2 .fdiv (T.var 0) (T.cst (D.int 46))) (T.cst (D.int 4)))) (SL.cons (S.ret (T.comp [4,2] 1 false (TI.rng1 (T.cst (D.int 4))) (T.cst (D.bl true)) (T.slc (T.var 2) (T.cst D.non) (T.op2 .add (T.op2 .add (T.var 1) (T.var 0)) (T.cst (D.int 1)))))) SL.nil)) SL.nil) (SL.cons (S.set 2 (T.slc (T.var 2) (T.cst D.non) (T.op2 .mod (T.op2 .fdiv (T.var 0) (T.cst (D.int 46))) (T.cst (D.int 8))))) (SL.cons (S.set 5 (T.op2 .mod (T.op2 .fdiv (T.var 0) (T.cst (D.int 368))) (T.op2 .add (T.b1 .len (T.var 2)) (T.cst (D.int 1))))) (SL.cons (S.ret (T.comp [5,0,1,2] 1 false (TI.rng1 (T.cst (D.int 4))) (T.cst (D.bl true)) (T.op2 .add (T.op2 .add (T.slc (T.var 4) (T.cst D.non) (T.var 1)) (T.idx (T.var 3) (T.op2 .mod (T.op2 .add (T.op2 .fdiv (T.var 2) (T.cst (D.int 3312))) (T.op2 .mul (T.cst (D.int 5)) (T.var 0))) (T.cst (D.int 23))))) (T.slc (T.var 4) (T.var 1) (T.cst D.non))))) SL.nil)))))))⟩
noncomputable def f17:Fd:=⟨1,1,(SL.cons (S.ret (T.idx (T.lst (TL.cons (T.cst (D.int 960)) (TL.cons (T.cst (D.int 960)) (TL.cons (T.cst (D.int 240)) (TL.cons (T.cst (D.int 18)) (TL.cons (T.cst (D.int 18)) (TL.cons (T.cst (D.int 18)) TL.nil))))))) (T.var 0))) SL.nil)⟩
noncomputable def f18:Fd:=⟨2,2,(SL.cons (S.ifs (T.op2 .eq (T.op2 .mod (T.var 0) (T.cst (D.int 8))) (T.cst (D.int 0))) (SL.cons (S.ret (T.op2 .add (T.cst (D.int 37)) (T.op2 .mod (T.op2 .fdiv (T.var 0) (T.cst (D.int 8))) (T.cst (D.int 6))))) SL.nil) SL.nil) (SL.cons (S.ifs (T.op2 .eq (T.op2 .mod (T.var 0) (T.cst (D.int 4))) (T.cst (D.int 1))) (SL.cons (S.ret (T.op2 .add (T.idx (T.lst (TL.cons (T.cst (D.int 40)) (TL.cons (T.cst (D.int 30)) (TL.cons (T.cst (D.int 15)) (TL.cons (T.cst (D.int 4)) (TL.cons (T.cst (D.int 4)) (TL.cons (T.cst (D.int 4)) TL.nil))))))) (T.var 1)) (T.op2 .mod (T.op2 .fdiv (T.var 0) (T.cst (D.int 8))) (T.cst (D.int 2))))) SL.nil) SL.nil) (SL.cons (S.ifs (T.op2 .eq (T.op2 .mod (T.var 0) (T.cst (D.int 4))) (T.cst (D.int 2))) (SL.cons (S.ret (T.op2 .add (T.cst (D.int 1)) (T.op2 .mod (T.op2 .fdiv (T.var 0) (T.cst (D.int 8))) (T.cst (D.int 2))))) SL.nil) SL.nil) (SL.cons (S.ret (T.op2 .add (T.cst (D.int 1)) (T.op2 .mod (T.op2 .fdiv (T.var 0) (T.cst (D.int 8))) (T.cst (D.int 6))))) SL.nil))))⟩
noncomputable def f19:Fd:=⟨2,7,(SL.cons (S.set 2 (T.idx (T.lst (TL.cons (T.cst (D.int 1)) (TL.cons (T.cst (D.int 2)) (TL.cons (T.cst (D.int 3)) (TL.cons (T.cst (D.int 0)) (TL.cons (T.cst (D.int 4)) (TL.cons (T.cst (D.int 1)) (TL.cons (T.cst (D.int 2)) TL.nil)))))))) (T.op2 .mod (T.idx (T.var 0) (T.cst (D.int 0))) (T.cst (D.int 7))))) (SL.cons (S.set 3 (T.cst (D.int 0))) (SL.cons (S.ifs (T.op2 .gt (T.var 2) (T.cst (D.int 0))) (SL.cons (S.set 3 (T.op2 .add (T.var 2) (T.var 1))) SL.nil) SL.nil) (SL.cons (S.set 4 (T.call 18 (TL.cons (T.idx (T.var 0) (T.cst (D.int 1))) (TL.cons (T.var 3) TL.nil)))) (SL.cons (S.set 5 (T.b2 .max (T.cst (D.int 1)) (T.op2 .sub (T.op2 .add (T.op2 .fdiv (T.call 17 (TL.cons (T.var 3) TL.nil)) (T.op2 .mul (T.var 4) (T.var 4))) (T.op2 .mod (T.op2 .fdiv (T.idx (T.var 0) (T.cst (D.int 1))) (T.cst (D.int 48))) (T.cst (D.int 3)))) (T.cst (D.int 1))))) (SL.cons (S.set 6 (T.op2 .mod (T.idx (T.var 0) (T.cst (D.int 2))) (T.cst (D.int 3)))) (SL.cons (S.ifs (T.and (T.op2 .eq (T.var 3) (T.cst (D.int 3))) (T.op2 .gt (T.op2 .mod (T.op2 .fdiv (T.idx (T.var 0) (T.cst (D.int 2))) (T.cst (D.int 3))) (T.cst (D.int 4))) (T.cst (D.int 0)))) (SL.cons (S.set 6 (T.cst (D.int 1))) SL.nil) SL.nil) (SL.cons (S.ifs (T.op2 .eq (T.var 6) (T.cst (D.int 0))) (SL.cons (S.ret (T.tup (TL.cons (T.var 2) (TL.cons (T.var 4) (TL.cons (T.var 5) (TL.cons (T.cst (D.int 1)) TL.nil)))))) SL.nil) SL.nil) (SL.cons (S.ifs (T.op2 .eq (T.var 6) (T.cst (D.int 1))) (SL.cons (S.ret (T.tup (TL.cons (T.var 2) (TL.cons (T.var 4) (TL.cons (T.cst (D.int 1)) (TL.cons (T.var 5) TL.nil)))))) SL.nil) SL.nil) (SL.cons (S.ret (T.tup (TL.cons (T.var 2) (TL.cons (T.var 4) (TL.cons (T.cst (D.int 2)) (TL.cons (T.b2 .max (T.cst (D.int 1)) (T.op2 .fdiv (T.var 5) (T.cst (D.int 2)))) TL.nil)))))) SL.nil))))))))))⟩
noncomputable def f20:Fd:=⟨4,8,(SL.cons (S.set 4 (T.idx (T.var 3) (T.op2 .mod (T.op2 .add (T.var 0) (T.var 1)) (T.b2 .max (T.cst (D.int 1)) (T.b2 .min (T.cst (D.int 3)) (T.idx (T.var 2) (T.cst (D.int 0)))))))) (SL.cons (S.set 5 (T.idx (T.lst (TL.cons (T.cst (D.int 1)) (TL.cons (T.neg (T.cst (D.int 1))) (TL.cons (T.cst (D.int 0)) (TL.cons (T.idx (T.var 2) (T.cst (D.int 2))) TL.nil))))) (T.op2 .mod (T.op2 .fdiv (T.var 0) (T.op2 .add (T.var 1) (T.cst (D.int 1)))) (T.cst (D.int 4))))) (SL.cons (S.ifs (T.op2 .eq (T.var 1) (T.cst (D.int 0))) (SL.cons (S.set 5 (T.op2 .mul (T.idx (T.var 2) (T.cst (D.int 2))) (T.op2 .sub (T.cst (D.int 1)) (T.op2 .mul (T.cst (D.int 2)) (T.op2 .mod (T.var 0) (T.cst (D.int 2))))))) SL.nil) SL.nil) (SL.cons (S.set 6 (T.lst (TL.cons (T.tup (TL.cons (T.idx (T.var 3) (T.cst (D.int 3))) (TL.cons (T.op2 .add (T.cst (D.int 1)) (T.op2 .mod (T.var 0) (T.op2 .pow (T.cst (D.int 10)) (T.cst (D.int 6))))) TL.nil))) TL.nil))) (SL.cons (S.ifs (T.op2 .ne (T.var 5) (T.cst (D.int 0))) (SL.cons (S.append 6 (T.tup (TL.cons (T.var 4) (TL.cons (T.var 5) TL.nil)))) SL.nil) SL.nil) (SL.cons (S.set 7 (T.tup (TL.cons (T.op2 .sub (T.op2 .mod (T.var 0) (T.op2 .pow (T.cst (D.int 10)) (T.cst (D.int 30)))) (T.var 1)) (TL.cons (T.b1 .tuple (T.b1 .sorted (T.var 6))) TL.nil)))) (SL.cons (S.ifs (T.and (T.op2 .gt (T.idx (T.var 2) (T.cst (D.int 3))) (T.cst (D.int 1))) (T.op2 .eq (T.var 1) (T.op2 .sub (T.idx (T.var 2) (T.cst (D.int 1))) (T.cst (D.int 1))))) (SL.cons (S.ret (T.tup (TL.cons (T.cst (D.str [114,101,115,116])) (TL.cons (T.idx (T.var 2) (T.cst (D.int 3))) (TL.cons (T.var 7) TL.nil))))) SL.nil) SL.nil) (SL.cons (S.ifs (T.op2 .eq (T.op2 .mod (T.op2 .add (T.op2 .fdiv (T.var 0) (T.cst (D.int 7))) (T.var 1)) (T.cst (D.int 3))) (T.cst (D.int 0))) (SL.cons (S.ret (T.tup (TL.cons (T.cst (D.str [114,101,115,116])) (TL.cons (T.cst (D.int 1)) (TL.cons (T.var 7) TL.nil))))) SL.nil) SL.nil) (SL.cons (S.ret (T.tup (TL.cons (T.cst (D.str [108,101,97,115,116])) (TL.cons (T.var 7) TL.nil)))) SL.nil)))))))))⟩
noncomputable def f21:Fd:=⟨3,8,(SL.cons (S.set 3 (T.comp [0,1,2] 1 false (TI.rng1 (T.idx (T.var 1) (T.cst (D.int 1)))) (T.cst (D.bl true)) (T.call 20 (TL.cons (T.var 1) (TL.cons (T.var 0) (TL.cons (T.var 2) (TL.cons (T.var 3) TL.nil))))))) (SL.cons (S.set 4 (T.idx (T.lst (TL.cons (T.cst (D.str [97,110,100])) (TL.cons (T.cst (D.str [111,114])) TL.nil))) (T.op2 .mod (T.op2 .fdiv (T.var 0) (T.cst (D.int 3))) (T.cst (D.int 2))))) (SL.cons (S.set 5 (T.idx (T.var 3) (T.cst (D.int 0)))) (SL.cons (S.ifs (T.op2 .gt (T.b1 .len (T.var 3)) (T.cst (D.int 1))) (SL.cons (S.set 5 (T.tup (TL.cons (T.var 4) (TL.cons (T.b1 .tuple (T.var 3)) TL.nil)))) SL.nil) SL.nil) (SL.cons (S.set 6 (T.cst (D.int 0))) (SL.cons (S.ifs (T.and (T.op2 .gt (T.b1 .len (T.var 3)) (T.cst (D.int 1))) (T.and (T.op2 .gt (T.idx (T.var 1) (T.cst (D.int 0))) (T.cst (D.int 1))) (T.op2 .eq (T.op2 .mod (T.op2 .fdiv (T.var 0) (T.cst (D.int 5))) (T.cst (D.int 2))) (T.cst (D.int 1))))) (SL.cons (S.set 7 (T.op2 .add (T.cst (D.int 1)) (T.op2 .mod (T.op2 .fdiv (T.var 0) (T.cst (D.int 7))) (T.op2 .sub (T.b1 .len (T.var 3)) (T.cst (D.int 1)))))) (SL.cons (S.set 5 (T.tup (TL.cons (T.var 4) (TL.cons (T.tup (TL.cons (T.tup (TL.cons (T.cst (D.str [115,111,109,101])) (TL.cons (T.idx (T.var 2) (T.cst (D.int 0))) (TL.cons (T.tup (TL.cons (T.var 4) (TL.cons (T.b1 .tuple (T.slc (T.var 3) (T.cst D.non) (T.var 7))) TL.nil))) TL.nil)))) (TL.cons (T.tup (TL.cons (T.cst (D.str [97,108,108])) (TL.cons (T.idx (T.var 2) (T.cst (D.int 0))) (TL.cons (T.tup (TL.cons (T.var 4) (TL.cons (T.b1 .tuple (T.slc (T.var 3) (T.var 7) (T.cst D.non))) TL.nil))) TL.nil)))) TL.nil))) TL.nil)))) (SL.cons (S.set 6 (T.cst (D.int 1))) SL.nil))) SL.nil) (SL.cons (S.while_ (T.op2 .lt (T.var 6) (T.idx (T.var 1) (T.cst (D.int 0)))) (SL.cons (S.set 5 (T.tup (TL.cons (T.idx (T.lst (TL.cons (T.cst (D.str [115,111,109,101])) (TL.cons (T.cst (D.str [97,108,108])) TL.nil))) (T.op2 .mod (T.op2 .fdiv (T.var 0) (T.op2 .add (T.var 6) (T.cst (D.int 2)))) (T.cst (D.int 2)))) (TL.cons (T.idx (T.var 2) (T.op2 .mod (T.var 6) (T.cst (D.int 3)))) (TL.cons (T.var 5) TL.nil))))) (SL.cons (S.ifs (T.op2 .eq (T.op2 .mod (T.op2 .fdiv (T.var 0) (T.op2 .add (T.var 6) (T.cst (D.int 3)))) (T.cst (D.int 3))) (T.cst (D.int 0))) (SL.cons (S.set 5 (T.tup (TL.cons (T.cst (D.str [110,111,116])) (TL.cons (T.var 5) TL.nil)))) SL.nil) SL.nil) (SL.cons (S.set 6 (T.op2 .add (T.var 6) (T.cst (D.int 1)))) SL.nil)))) (SL.cons (S.ret (T.var 5)) SL.nil))))))))⟩
noncomputable def f22:Fd:=⟨2,3,(SL.cons (S.ifs (T.op2 .eq (T.idx (T.var 0) (T.cst (D.int 0))) (T.cst (D.int 0))) (SL.cons (S.ret (T.cst (D.bl true))) SL.nil) SL.nil) (SL.cons (S.set 2 (T.op2 .add (T.idx (T.var 0) (T.cst (D.int 0))) (T.var 1))) (SL.cons (S.ifs (T.or (T.op2 .gt (T.var 2) (T.cst (D.int 3))) (T.and (T.op2 .eq (T.var 2) (T.cst (D.int 3))) (T.op2 .ne (T.idx (T.var 0) (T.cst (D.int 2))) (T.cst (D.int 1))))) (SL.cons (S.ret (T.cst (D.bl false))) SL.nil) SL.nil) (SL.cons (S.ret (T.op2 .le (T.op2 .mul (T.op2 .mul (T.op2 .mul (T.idx (T.var 0) (T.cst (D.int 1))) (T.idx (T.var 0) (T.cst (D.int 1)))) (T.idx (T.var 0) (T.cst (D.int 2)))) (T.idx (T.var 0) (T.cst (D.int 3)))) (T.call 17 (TL.cons (T.var 2) TL.nil)))) SL.nil))))⟩
noncomputable def f23:Fd:=⟨2,2,(SL.cons (S.ifs (T.op2 .gt (T.b1 .sum (T.comp [] 1 false (TI.val (T.var 0)) (T.cst (D.bl true)) (T.idx (T.var 0) (T.cst (D.int 1))))) (T.cst (D.int 40))) (SL.cons (S.ret (T.cst (D.bl false))) SL.nil) SL.nil) (SL.cons (S.ret (T.b1 .all (T.comp [1] 1 false (TI.val (T.var 0)) (T.cst (D.bl true)) (T.call 22 (TL.cons (T.var 0) (TL.cons (T.var 1) TL.nil)))))) SL.nil))⟩
noncomputable def f24:Fd:=⟨2,5,(SL.cons (S.set 2 (T.lst (TL.cons (T.call 23 (TL.cons (T.var 1) (TL.cons (T.cst (D.int 0)) TL.nil))) (TL.cons (T.call 23 (TL.cons (T.var 1) (TL.cons (T.cst (D.int 0)) TL.nil))) (TL.cons (T.call 23 (TL.cons (T.var 1) (TL.cons (T.cst (D.int 1)) TL.nil))) TL.nil))))) (SL.cons (S.for_ [3,4] true (TI.zip (T.lst (TL.cons (T.call 14 (TL.cons (T.var 0) (TL.cons (T.cst (D.int 0)) TL.nil))) (TL.cons (T.call 14 (TL.cons (T.var 0) (TL.cons (T.cst (D.int 0)) TL.nil))) (TL.cons (T.call 14 (TL.cons (T.var 0) (TL.cons (T.cst (D.int 1)) TL.nil))) TL.nil)))) (T.var 2)) (SL.cons (S.ifs (T.op2 .ne (T.lst (TL.cons (T.op2 .is (T.var 3) (T.cst (D.bl true))) (TL.cons (T.op2 .is (T.var 3) (T.cst (D.bl false))) TL.nil))) (T.lst (TL.cons (T.var 4) (TL.cons (T.not (T.var 4)) TL.nil)))) (SL.cons (S.ret (T.cst (D.bl false))) SL.nil) SL.nil) SL.nil)) (SL.cons (S.ret (T.cst (D.bl true))) SL.nil)))⟩
noncomputable def f25:Fd:=⟨1,8,(SL.cons (S.set 1 (T.call 15 (TL.cons (T.var 0) (TL.cons (T.cst (D.int 0)) TL.nil)))) (SL.cons (S.set 2 (T.call 16 (TL.cons (T.op2 .fdiv (T.var 1) (T.cst (D.int 16))) TL.nil))) (SL.cons (S.set 3 (T.lst TL.nil)) (SL.cons (S.set 4 (T.lst TL.nil)) (SL.cons (S.for_ [5] false (TI.rng1 (T.op2 .add (T.cst (D.int 1)) (T.op2 .fdiv (T.b2 .min (T.b1 .len (T.slc (T.var 0) (T.cst (D.int 1)) (T.cst (D.int 64)))) (T.cst (D.int 62))) (T.cst (D.int 3))))) (SL.cons (S.set 6 (T.comp [5,0] 1 false (TI.rng1 (T.cst (D.int 3))) (T.cst (D.bl true)) (T.call 15 (TL.cons (T.var 2) (TL.cons (T.op2 .add (T.op2 .add (T.op2 .mul (T.cst (D.int 3)) (T.var 1)) (T.cst (D.int 1))) (T.var 0)) TL.nil))))) (SL.cons (S.append 3 (T.call 19 (TL.cons (T.var 6) (TL.cons (T.op2 .mod (T.var 1) (T.cst (D.int 2))) TL.nil)))) (SL.cons (S.append 4 (T.call 21 (TL.cons (T.op2 .add (T.op2 .fdiv (T.idx (T.var 6) (T.cst (D.int 0))) (T.cst (D.int 7))) (T.op2 .fdiv (T.idx (T.var 6) (T.cst (D.int 2))) (T.cst (D.int 3)))) (TL.cons (T.idx (T.var 3) (T.neg (T.cst (D.int 1)))) (TL.cons (T.var 2) TL.nil))))) (SL.cons (S.ifs (T.not (T.call 24 (TL.cons (T.idx (T.var 4) (T.neg (T.cst (D.int 1)))) (TL.cons (T.slc (T.var 3) (T.neg (T.cst (D.int 1))) (T.cst D.non)) TL.nil)))) (SL.cons (S.ret (T.cst (D.bl false))) SL.nil) SL.nil) (SL.cons (S.set 7 (T.tup (TL.cons (T.idx (T.lst (TL.cons (T.cst (D.str [97,110,100])) (TL.cons (T.cst (D.str [111,114])) TL.nil))) (T.op2 .mod (T.op2 .fdiv (T.var 1) (T.cst (D.int 2))) (T.cst (D.int 2)))) (TL.cons (T.b1 .tuple (T.slc (T.var 4) (T.neg (T.cst (D.int 2))) (T.cst D.non))) TL.nil)))) (SL.cons (S.ifs (T.op2 .eq (T.op2 .mod (T.op2 .fdiv (T.var 1) (T.cst (D.int 4))) (T.cst (D.int 2))) (T.cst (D.int 1))) (SL.cons (S.set 7 (T.tup (TL.cons (T.cst (D.str [110,111,116])) (TL.cons (T.var 7) TL.nil)))) SL.nil) SL.nil) (SL.cons (S.ifs (T.not (T.call 24 (TL.cons (T.var 7) (TL.cons (T.slc (T.var 3) (T.neg (T.cst (D.int 2))) (T.cst D.non)) TL.nil)))) (SL.cons (S.ret (T.cst (D.bl false))) SL.nil) SL.nil) SL.nil)))))))) (SL.cons (S.ret (T.cst (D.bl true))) SL.nil))))))⟩
noncomputable def mtab:List (Nat×List Nat×Nat):=[]
noncomputable def itab:List (Nat×Nat):=[]
noncomputable def meth:Nat->List Nat->Option Nat:=tabOf mtab
noncomputable def init:Nat->Option Nat:=zH itab
noncomputable def sub:Nat->Nat->Bool:=fun _ _=>false
noncomputable def prg:Prg:=⟨[f0,f1,f2,f3,f4,f5,f6,f7,f8,f9,f10,f11,f12,f13,f14,f15,f16,f17,f18,f19,f20,f21,f22,f23,f24,f25],meth,init,sub⟩
noncomputable def MK:Nat:=25
end P16
namespace K16
open Z KG KM P16
local macro_rules | `(tactic| array_get_dec)=>`(tactic| first | assumption | exact ao rfl | exact bK rfl | exact aj | exact neg1 | (refine' au ?a ?b ?c;(case a=>array_get_dec);(case b=>array_get_dec);(case c=>sizeOf_list_dec)) | (refine' e_b1 ?a ?c;(case a=>array_get_dec);(case c=>sizeOf_list_dec)) | (refine' aN ?a ?b ?c;(case a=>array_get_dec);(case b=>array_get_dec);(case c=>sizeOf_list_dec)) | (refine' mD ?a;(case a=>array_get_dec)) | (refine' gr ?a;(case a=>array_get_dec)) | (refine' bj ?a ?b;(case a=>array_mem_dec);(case b=>exact rfl)) | (refine' bL ?a ?b;(case a=>array_mem_dec);(case b=>exact rfl)) | (refine' aB ?a ?b;(case a=>array_mem_dec);(case b=>assumption)) | (refine' e_m1 ?a ?b ?c;(case a=>array_get_dec);(case b=>array_get_dec);(case c=>sizeOf_list_dec)) | (refine' e_b2 ?a ?b ?c;(case a=>array_get_dec);(case b=>array_get_dec);(case c=>sizeOf_list_dec)) | (refine' cC ?a ?b ?c ?d ?e ?f;(case a=>array_get_dec);(case b=>array_get_dec);(case c=>array_get_dec);(case d=>exact rfl);(case e=>exact rfl);(case f=>sizeOf_list_dec)) | (refine' lD ?a ?b;(case a=>array_get_dec);(case b=>exact rfl)))
local macro_rules | `(tactic| array_mem_dec)=>`(tactic| first | exact iI | (refine' aa rfl ?a ?b;(case a=>array_get_dec);(case b=>array_mem_dec)))
local macro_rules | `(tactic| sizeOf_list_dec)=>`(tactic| first | assumption | exact bM _ _ | exact jQ _ _ | exact o_lt _ _ | exact o_gt _ _ | exact o_le _ _ | exact o_ge _ _ | exact dW _ _ | exact qM _ _ | exact mY _ _ | exact rP _ _ | exact bN _ _ (by decide) | exact bu _ _ (by decide) | exact aP rfl rfl | exact aC rfl rfl | exact eX _ | exact kj _ | exact jm _ | exact eH _ | (refine' dm ?_;(try simp only[List.length_append,List.length_cons,List.length_nil]);omega))
theorem ms:Ms prg 0 1 2 3 4 5 6 7 8 9 10 11 12:=⟨rfl,rfl,rfl,rfl,rfl,rfl,rfl,rfl,rfl,rfl,rfl,rfl,rfl⟩
noncomputable def limV(t:Nat):Nat:=if t<=1 then 960 else if t=2 then 240 else 18
theorem rO(w m t:Nat)(h:t<=5):(orc prg w (m+1)).fn 17 [.int (t:Int)]=.ok (false,.int (limV t:Nat)):=by
 rw[bz (d:=f17) rfl]
 have:t=0\/t=1\/t=2\/t=3\/t=4\/t=5:=by omega
 refine aA rfl rfl (stpR (retR (w:=false) ?_ rfl))
 have e:∀i:Int,ev (orc prg w m) [some (.sh,.int i)] true (T.lst (TL.cons (T.cst (D.int 960)) (TL.cons (T.cst (D.int 960)) (TL.cons (T.cst (D.int 240)) (TL.cons (T.cst (D.int 18)) (TL.cons (T.cst (D.int 18)) (TL.cons (T.cst (D.int 18)) TL.nil)))))))=.ok (true,.lst [.int 960,.int 960,.int 240,.int 18,.int 18,.int 18]):=fun i=>by array_get_dec
 rcases this with rfl | rfl | rfl | rfl | rfl | rfl<;>exact aN (e _) (ao rfl) (aC rfl rfl)
theorem fD{i:Int}(h:0<=i):∃n:Nat,i=(n:Int):=⟨i.toNat,by omega⟩
theorem xx(w m:Nat)(c:Int)(t:Nat)(h:t<=5):∃q:Nat,1<=q/\q<=42/\(orc prg w (m+1)).fn 18 [.int c,.int (t:Int)]=.ok (false,.int (q:Int)):=by
 rw[bz (d:=f18) rfl];have r6:=aF (c.fdiv 8) 6 (by omega);have r2:=aF (c.fdiv 8) 2 (by omega)
 have e1:ev (orc prg w m) [some (.sh,.int c),some (.sh,.int (t:Int))] true (T.op2 .eq (T.op2 .mod (T.var 0) (T.cst (D.int 8))) (T.cst (D.int 0)))=.ok (false,.bl (decide (c.fmod 8=0))):=by array_get_dec
 have e2:∀j:Int,ev (orc prg w m) [some (.sh,.int c),some (.sh,.int (t:Int))] true (T.op2 .eq (T.op2 .mod (T.var 0) (T.cst (D.int 4))) (T.cst (D.int j)))=.ok (false,.bl (decide (c.fmod 4=j))):=fun j=>by array_get_dec
 have e6:ev (orc prg w m) [some (.sh,.int c),some (.sh,.int (t:Int))] true (T.op2 .mod (T.op2 .fdiv (T.var 0) (T.cst (D.int 8))) (T.cst (D.int 6)))=.ok (false,.int ((c.fdiv 8).fmod 6)):=by array_get_dec
 have e7:ev (orc prg w m) [some (.sh,.int c),some (.sh,.int (t:Int))] true (T.op2 .mod (T.op2 .fdiv (T.var 0) (T.cst (D.int 8))) (T.cst (D.int 2)))=.ok (false,.int ((c.fdiv 8).fmod 2)):=by array_get_dec
 obtain⟨a,ha⟩:=fD r6.1;obtain⟨b,hb⟩:=fD r2.1;rw[ha]at r6 e6;rw[hb]at r2 e7
 by_cases c1:c.fmod 8=0
 ·refine⟨37+a,by omega,by omega,aA rfl rfl (stpR (ifT e1 (decide_eq_true c1) (retR (au aj e6 ?_) rfl)))⟩
  exact(bM _ _).trans (by rw[Int.natCast_add];rfl)
 by_cases c2:c.fmod 4=1
 ·obtain⟨k,hk,ek⟩:∃k:Nat,4<=k/\k<=40/\ev (orc prg w m) [some (.sh,.int c),some (.sh,.int (t:Int))] true (T.idx (T.lst (TL.cons (T.cst (D.int 40)) (TL.cons (T.cst (D.int 30)) (TL.cons (T.cst (D.int 15)) (TL.cons (T.cst (D.int 4)) (TL.cons (T.cst (D.int 4)) (TL.cons (T.cst (D.int 4)) TL.nil))))))) (T.var 1))=.ok (false,.int (k:Int)):=by
   have e:∀i:Int,ev (orc prg w m) [some (.sh,.int c),some (.sh,.int i)] true (T.lst (TL.cons (T.cst (D.int 40)) (TL.cons (T.cst (D.int 30)) (TL.cons (T.cst (D.int 15)) (TL.cons (T.cst (D.int 4)) (TL.cons (T.cst (D.int 4)) (TL.cons (T.cst (D.int 4)) TL.nil)))))))=.ok (true,.lst [.int 40,.int 30,.int 15,.int 4,.int 4,.int 4]):=fun i=>by array_get_dec
   have:t=0\/t=1\/t=2\/t=3\/t=4\/t=5:=by omega
   rcases this with rfl | rfl | rfl | rfl | rfl | rfl
   ·exact⟨40,by omega,by omega,aN (e _) (ao rfl) (aC rfl rfl)⟩
   ·exact⟨30,by omega,by omega,aN (e _) (ao rfl) (aC rfl rfl)⟩
   ·exact⟨15,by omega,by omega,aN (e _) (ao rfl) (aC rfl rfl)⟩
   all_goals exact⟨4,by omega,by omega,aN (e _) (ao rfl) (aC rfl rfl)⟩
  refine⟨k+b,by omega,by omega,aA rfl rfl (stp _ (ifF e1 (decide_eq_false c1)) (stpR (ifT (e2 1) (decide_eq_true c2) (retR (au ek.2 e7 ?_) rfl))))⟩;exact(bM _ _).trans (by rw[Int.natCast_add])
 by_cases c3:c.fmod 4=2
 ·refine⟨1+b,by omega,by omega,aA rfl rfl (stp _ (ifF e1 (decide_eq_false c1)) (stp _ (ifF (e2 1) (decide_eq_false c2)) (stpR (ifT (e2 2) (decide_eq_true c3) (retR (au aj e7 ?_) rfl)))))⟩
  exact(bM _ _).trans (by rw[Int.natCast_add];rfl)
 ·refine⟨1+a,by omega,by omega,aA rfl rfl (stp _ (ifF e1 (decide_eq_false c1)) (stp _ (ifF (e2 1) (decide_eq_false c2)) (stp _ (ifF (e2 2) (decide_eq_false c3)) (stpR (retR (au aj e6 ?_) rfl)))))⟩
  exact(bM _ _).trans (by rw[Int.natCast_add];rfl)
end K16
namespace K16
open Z KG KM P16
local macro_rules | `(tactic| array_get_dec)=>`(tactic| first | assumption | exact ao rfl | exact bK rfl | exact aj | exact neg1 | (refine' au ?a ?b ?c;(case a=>array_get_dec);(case b=>array_get_dec);(case c=>sizeOf_list_dec)) | (refine' e_b1 ?a ?c;(case a=>array_get_dec);(case c=>sizeOf_list_dec)) | (refine' aN ?a ?b ?c;(case a=>array_get_dec);(case b=>array_get_dec);(case c=>sizeOf_list_dec)) | (refine' mD ?a;(case a=>array_get_dec)) | (refine' gr ?a;(case a=>array_get_dec)) | (refine' bj ?a ?b;(case a=>array_mem_dec);(case b=>exact rfl)) | (refine' bL ?a ?b;(case a=>array_mem_dec);(case b=>exact rfl)) | (refine' aB ?a ?b;(case a=>array_mem_dec);(case b=>assumption)) | (refine' e_m1 ?a ?b ?c;(case a=>array_get_dec);(case b=>array_get_dec);(case c=>sizeOf_list_dec)) | (refine' e_b2 ?a ?b ?c;(case a=>array_get_dec);(case b=>array_get_dec);(case c=>sizeOf_list_dec)) | (refine' cC ?a ?b ?c ?d ?e ?f;(case a=>array_get_dec);(case b=>array_get_dec);(case c=>array_get_dec);(case d=>exact rfl);(case e=>exact rfl);(case f=>sizeOf_list_dec)) | (refine' lD ?a ?b;(case a=>array_get_dec);(case b=>exact rfl)))
local macro_rules | `(tactic| array_mem_dec)=>`(tactic| first | exact iI | (refine' aa rfl ?a ?b;(case a=>array_get_dec);(case b=>array_mem_dec)))
local macro_rules | `(tactic| sizeOf_list_dec)=>`(tactic| first | assumption | exact bM _ _ | exact jQ _ _ | exact o_lt _ _ | exact o_gt _ _ | exact o_le _ _ | exact o_ge _ _ | exact dW _ _ | exact qM _ _ | exact mY _ _ | exact rP _ _ | exact bN _ _ (by decide) | exact bu _ _ (by decide) | exact aP rfl rfl | exact aC rfl rfl | exact eX _ | exact kj _ | exact jm _ | exact eH _ | (refine' dm ?_;(try simp only[List.length_append,List.length_cons,List.length_nil]);omega))
theorem t7(j:Int):∃r:Nat,1<=r/\(r:Int)<=max 1 j/\b2D .max (.int 1) (.int j)=.ok (false,.int (r:Int)):=by
 by_cases h:j>1
 ·refine⟨j.toNat,by omega,by omega,?_⟩
  rw[Int.toNat_of_nonneg (by omega)];simp only[b2D,h,if_true]
 ·refine⟨1,by omega,by omega,?_⟩
  simp only[b2D,h,if_false];rfl
theorem Bg(o:Orc)(δ:Dst)(c:Int)(e:T)(he:ev o δ true e=.ok (false,.int c))(hn:fX δ e=false):∃d:Nat,d<=4/\ev o δ false (T.idx (T.lst (TL.cons (T.cst (D.int 1)) (TL.cons (T.cst (D.int 2)) (TL.cons (T.cst (D.int 3)) (TL.cons (T.cst (D.int 0)) (TL.cons (T.cst (D.int 4)) (TL.cons (T.cst (D.int 1)) (TL.cons (T.cst (D.int 2)) TL.nil)))))))) (T.op2 .mod e (T.cst (D.int 7))))=.ok (false,.int (d:Int)):=by
 have r:=aF c 7 (by omega);have e1:ev o δ true (T.op2 .mod e (T.cst (D.int 7)))=.ok (false,.int (c.fmod 7)):=au he aj (bN _ _ (by decide))
 have e2:ev o δ true (T.lst (TL.cons (T.cst (D.int 1)) (TL.cons (T.cst (D.int 2)) (TL.cons (T.cst (D.int 3)) (TL.cons (T.cst (D.int 0)) (TL.cons (T.cst (D.int 4)) (TL.cons (T.cst (D.int 1)) (TL.cons (T.cst (D.int 2)) TL.nil))))))))=.ok (true,.lst [.int 1,.int 2,.int 3,.int 0,.int 4,.int 1,.int 2]):=by array_get_dec
 generalize c.fmod 7=i at *
 have:i=0\/i=1\/i=2\/i=3\/i=4\/i=5\/i=6:=by omega
 rcases this with rfl | rfl | rfl | rfl | rfl | rfl | rfl
 ·exact⟨1,by omega,aN e2 e1 (aC rfl rfl)⟩
 ·exact⟨2,by omega,aN e2 e1 (aC rfl rfl)⟩
 ·exact⟨3,by omega,aN e2 e1 (aC rfl rfl)⟩
 ·exact⟨0,by omega,aN e2 e1 (aC rfl rfl)⟩
 ·exact⟨4,by omega,aN e2 e1 (aC rfl rfl)⟩
 ·exact⟨1,by omega,aN e2 e1 (aC rfl rfl)⟩
 ·exact⟨2,by omega,aN e2 e1 (aC rfl rfl)⟩
theorem qI{o:Orc}{δ:Dst}{lk:Bool}{a b:T}{w:Bool}(ha:ev o δ true a=.ok (w,.bl false)):ev o δ lk (T.and a b)=.ok (false,.bl false):=by simp only[ev,ha,R.bind]
theorem Fw(t:Nat):limV t<=960:=by unfold limV;split;omega;split<;>omega
theorem tG(w m:Nat)(c0 c1 c2:Int)(more:Nat)(hm:more<=1):∃d q a b:Nat,d<=4/\1<=q/\q<=42/\1<=a/\a<=1000/\1<=b/\b<=1000/\(orc prg w (m+2)).fn 19 [.lst [.int c0,.int c1,.int c2],.int (more:Int)]=.ok (false,.tup [.int (d:Int),.int (q:Int),.int (a:Int),.int (b:Int)]):=by
 rw[bz (d:=f19) rfl];generalize hC:D.lst [D.int c0,D.int c1,D.int c2]=C
 have i0:∀(δ:Dst) (lk:Bool) (q:List (Option Slot)),δ=some (.sh,C)::q->ev (orc prg w (m+1)) δ lk (T.idx (T.var 0) (T.cst (D.int 0)))=.ok (false,.int c0):=fun δ lk q e=>by subst e hC;exact aN (ao rfl) aj (aC rfl rfl)
 have i1:∀(δ:Dst) (lk:Bool) (q:List (Option Slot)),δ=some (.sh,C)::q->ev (orc prg w (m+1)) δ lk (T.idx (T.var 0) (T.cst (D.int 1)))=.ok (false,.int c1):=fun δ lk q e=>by subst e hC;exact aN (ao rfl) aj (aC rfl rfl)
 have i2:∀(δ:Dst) (lk:Bool) (q:List (Option Slot)),δ=some (.sh,C)::q->ev (orc prg w (m+1)) δ lk (T.idx (T.var 0) (T.cst (D.int 2)))=.ok (false,.int c2):=fun δ lk q e=>by subst e hC;exact aN (ao rfl) aj (aC rfl rfl)
 obtain⟨d,hd,ed⟩:=Bg (orc prg w (m+1)) [some (.sh,C),some (.sh,.int (more:Int)),none,none,none,none,none] c0 (T.idx (T.var 0) (T.cst (D.int 0))) (i0 _ _ _ rfl) rfl
 obtain⟨t,ht,et⟩:∃t:Nat,t<=5/\evS (orc prg w (m+1)) (S.ifs (T.op2 .gt (T.var 2) (T.cst (D.int 0))) (SL.cons (S.set 3 (T.op2 .add (T.var 2) (T.var 1))) SL.nil) SL.nil) [some (.sh,C),some (.sh,.int (more:Int)),some (.sh,.int (d:Int)),some (.sh,.int 0),none,none,none]=.nx [some (.sh,C),some (.sh,.int (more:Int)),some (.sh,.int (d:Int)),some (.sh,.int (t:Int)),none,none,none]:=by
  have ec:ev (orc prg w (m+1)) [some (.sh,C),some (.sh,.int (more:Int)),some (.sh,.int (d:Int)),some (.sh,.int 0),none,none,none] true (T.op2 .gt (T.var 2) (T.cst (D.int 0)))=.ok (false,.bl (decide (0<(d:Int)))):=(cQ (ao rfl) aj).trans (o_gt _ _)
  by_cases h:0<(d:Int)
  ·exact⟨d+more,by omega,ifsT ec (decide_eq_true h) (one (aG (w:=false) (d:=.int ((d+more:Nat):Int)) ((cQ (ao rfl) (ao rfl)).trans (by rw[Int.natCast_add];exact bM _ _)) rfl))⟩
  ·exact⟨0,by omega,ifsF ec (decide_eq_false h) rfl⟩
 obtain⟨q,q1,q2,eq⟩:=xx w m c1 t ht;have el:=rO w m t ht;have hll:=Fw t
 have hq0:(0:Int)<((q*q:Nat):Int):=by
  have:=Nat.mul_pos q1 q1;omega
 have hqq:q*q<=42*42:=Nat.mul_le_mul q2 q2;have r3:=aF (c1.fdiv 48) 3 (by omega)
 have hdiv:(limV t:Int).fdiv ((q*q:Nat):Int)<=960/\0<=(limV t:Int).fdiv ((q*q:Nat):Int):=by
  rw[Int.fdiv_eq_ediv_of_nonneg _ (by omega),<-Int.natCast_ediv];have:=Nat.div_le_self (limV t) (q*q);generalize limV t/(q*q)=z at *;omega
 obtain⟨r,rr1,rr2,er⟩:=t7 ((limV t:Int).fdiv ((q*q:Nat):Int)+(c1.fdiv 48).fmod 3-1)
 have hr:r<=1000:=by omega
 have e5:ev (orc prg w (m+1)) [some (.sh,C),some (.sh,.int (more:Int)),some (.sh,.int (d:Int)),some (.sh,.int (t:Int)),some (.sh,.int (q:Int)),none,none] false (T.b2 .max (T.cst (D.int 1)) (T.op2 .sub (T.op2 .add (T.op2 .fdiv (T.call 17 (TL.cons (T.var 3) TL.nil)) (T.op2 .mul (T.var 4) (T.var 4))) (T.op2 .mod (T.op2 .fdiv (T.idx (T.var 0) (T.cst (D.int 1))) (T.cst (D.int 48))) (T.cst (D.int 3)))) (T.cst (D.int 1))))=.ok (false,.int (r:Int)):=by
  have hmul:o2 .mul (.int (q:Int)) (.int (q:Int))=.ok (false,.int ((q*q:Nat):Int)):=by
   rw[Int.natCast_mul];exact mulE (cZ (bR (by omega)) (bR (by omega)))
  have hfd:o2 .fdiv (.int (limV t:Nat)) (.int ((q*q:Nat):Int))=.ok (false,.int ((limV t:Int).fdiv ((q*q:Nat):Int))):=by
   refine bu _ _ ?_
   have h3:(((q*q:Nat):Int)).natAbs.log2<9000:=by
    rw[Int.natAbs_natCast];exact(Nat.log2_lt (by omega)).mpr (Nat.lt_of_lt_of_le (Nat.lt_of_le_of_lt hqq (by decide:42*42<2 ^ 11)) (Nat.pow_le_pow_right (by omega) (by omega)))
   simp only[h3,decide_true,Bool.and_true,decide_eq_true_eq];omega
  exact e_b2 aj (au (au (au (aB (aa rfl (ao rfl) rfl) el) (au (ao rfl) (ao rfl) hmul) hfd) (au (au (i1 _ _ _ rfl) aj (bu _ _ (by decide))) aj (bN _ _ (by decide))) (bM _ _)) aj (jQ _ _)) er
 have e6:ev (orc prg w (m+1)) [some (.sh,C),some (.sh,.int (more:Int)),some (.sh,.int (d:Int)),some (.sh,.int (t:Int)),some (.sh,.int (q:Int)),some (.sh,.int (r:Int)),none] false (T.op2 .mod (T.idx (T.var 0) (T.cst (D.int 2))) (T.cst (D.int 3)))=.ok (false,.int (c2.fmod 3)):=au (i2 _ _ _ rfl) aj (bN _ _ (by decide))
 obtain⟨y,ey⟩:∃y:Int,evS (orc prg w (m+1)) (S.ifs (T.and (T.op2 .eq (T.var 3) (T.cst (D.int 3))) (T.op2 .gt (T.op2 .mod (T.op2 .fdiv (T.idx (T.var 0) (T.cst (D.int 2))) (T.cst (D.int 3))) (T.cst (D.int 4))) (T.cst (D.int 0)))) (SL.cons (S.set 6 (T.cst (D.int 1))) SL.nil) SL.nil) [some (.sh,C),some (.sh,.int (more:Int)),some (.sh,.int (d:Int)),some (.sh,.int (t:Int)),some (.sh,.int (q:Int)),some (.sh,.int (r:Int)),some (.sh,.int (c2.fmod 3))]=.nx [some (.sh,C),some (.sh,.int (more:Int)),some (.sh,.int (d:Int)),some (.sh,.int (t:Int)),some (.sh,.int (q:Int)),some (.sh,.int (r:Int)),some (.sh,.int y)]:=by
  have ea:ev (orc prg w (m+1)) [some (.sh,C),some (.sh,.int (more:Int)),some (.sh,.int (d:Int)),some (.sh,.int (t:Int)),some (.sh,.int (q:Int)),some (.sh,.int (r:Int)),some (.sh,.int (c2.fmod 3))] true (T.op2 .eq (T.var 3) (T.cst (D.int 3)))=.ok (false,.bl (decide ((t:Int)=3))):=(cQ (ao rfl) aj).trans (dW _ _);have eb:ev (orc prg w (m+1)) [some (.sh,C),some (.sh,.int (more:Int)),some (.sh,.int (d:Int)),some (.sh,.int (t:Int)),some (.sh,.int (q:Int)),some (.sh,.int (r:Int)),some (.sh,.int (c2.fmod 3))] true (T.op2 .gt (T.op2 .mod (T.op2 .fdiv (T.idx (T.var 0) (T.cst (D.int 2))) (T.cst (D.int 3))) (T.cst (D.int 4))) (T.cst (D.int 0)))=.ok (false,.bl (decide (0<(c2.fdiv 3).fmod 4))):=au (au (au (i2 _ _ _ rfl) aj (bu _ _ (by decide))) aj (bN _ _ (by decide))) aj (o_gt _ _)
  have ec:∃b,ev (orc prg w (m+1)) [some (.sh,C),some (.sh,.int (more:Int)),some (.sh,.int (d:Int)),some (.sh,.int (t:Int)),some (.sh,.int (q:Int)),some (.sh,.int (r:Int)),some (.sh,.int (c2.fmod 3))] true (T.and (T.op2 .eq (T.var 3) (T.cst (D.int 3))) (T.op2 .gt (T.op2 .mod (T.op2 .fdiv (T.idx (T.var 0) (T.cst (D.int 2))) (T.cst (D.int 3))) (T.cst (D.int 4))) (T.cst (D.int 0))))=.ok (false,.bl b):=by
   cases hb:decide ((t:Int)=3)with
   | true=>rw[hb]at ea;exact⟨_,eZ ea eb⟩
   | false=>rw[hb]at ea;exact⟨false,qI ea⟩
  obtain⟨b,ec⟩:=ec
  cases b with
  | true=>exact⟨1,ifsT ec rfl (one (aG aj rfl))⟩
  | false=>exact⟨_,ifsF ec rfl rfl⟩
 have ez:∀j:Int,ev (orc prg w (m+1)) [some (.sh,C),some (.sh,.int (more:Int)),some (.sh,.int (d:Int)),some (.sh,.int (t:Int)),some (.sh,.int (q:Int)),some (.sh,.int (r:Int)),some (.sh,.int y)] true (T.op2 .eq (T.var 6) (T.cst (D.int j)))=.ok (false,.bl (decide (y=j))):=fun j=>(cQ (ao rfl) aj).trans (dW _ _)
 have pre:∀(x:D),(∃δ1,evSs (orc prg w (m+1)) (SL.cons (S.ifs (T.op2 .eq (T.var 6) (T.cst (D.int 0))) (SL.cons (S.ret (T.tup (TL.cons (T.var 2) (TL.cons (T.var 4) (TL.cons (T.var 5) (TL.cons (T.cst (D.int 1)) TL.nil)))))) SL.nil) SL.nil) (SL.cons (S.ifs (T.op2 .eq (T.var 6) (T.cst (D.int 1))) (SL.cons (S.ret (T.tup (TL.cons (T.var 2) (TL.cons (T.var 4) (TL.cons (T.cst (D.int 1)) (TL.cons (T.var 5) TL.nil)))))) SL.nil) SL.nil) (SL.cons (S.ret (T.tup (TL.cons (T.var 2) (TL.cons (T.var 4) (TL.cons (T.cst (D.int 2)) (TL.cons (T.b2 .max (T.cst (D.int 1)) (T.op2 .fdiv (T.var 5) (T.cst (D.int 2)))) TL.nil)))))) SL.nil))) [some (.sh,C),some (.sh,.int (more:Int)),some (.sh,.int (d:Int)),some (.sh,.int (t:Int)),some (.sh,.int (q:Int)),some (.sh,.int (r:Int)),some (.sh,.int y)]=.rt false x δ1)->dB (orc prg w (m+1)) f19 [C,.int (more:Int)]=.ok (false,x):=fun x h=>
  aA rfl (δ0:=[some (.sh,C),some (.sh,.int (more:Int)),none,none,none,none,none]) rfl (stp _ (aG ed rfl) (stp [some (.sh,C),some (.sh,.int (more:Int)),some (.sh,.int (d:Int)),some (.sh,.int 0),none,none,none] (aG aj rfl) (stp _ et (stp _ (aG (aB (aa rfl (i1 _ _ _ rfl) (aa rfl (ao rfl) rfl)) eq) rfl) (stp _ (aG e5 rfl) (stp _ (aG e6 rfl) (stp _ ey h)))))))
 by_cases y0:y=0
 ·exact⟨d,q,r,1,hd,q1,q2,rr1,hr,by omega,by omega,pre _ (stpR (ifT (ez 0) (decide_eq_true y0) (retR (bj (aa rfl (ao rfl) (aa rfl (ao rfl) (aa rfl (ao rfl) (aa rfl aj rfl)))) rfl) rfl)))⟩
 by_cases y1:y=1
 ·exact⟨d,q,1,r,hd,q1,q2,by omega,by omega,rr1,hr,pre _ (stp _ (ifF (ez 0) (decide_eq_false y0)) (stpR (ifT (ez 1) (decide_eq_true y1) (retR (bj (aa rfl (ao rfl) (aa rfl (ao rfl) (aa rfl aj (aa rfl (ao rfl) rfl)))) rfl) rfl))))⟩
 ·obtain⟨b,b1,b2,eb⟩:=t7 ((r:Int).fdiv 2)
  have:(r:Int).fdiv 2<=1000:=by
   rw[Int.fdiv_eq_ediv_of_nonneg _ (by omega)];omega
  exact⟨d,q,2,b,hd,q1,q2,by omega,by omega,b1,by omega,pre _ (stp _ (ifF (ez 0) (decide_eq_false y0)) (stp _ (ifF (ez 1) (decide_eq_false y1)) (stpR (retR (bj (aa rfl (ao rfl) (aa rfl (ao rfl) (aa rfl aj (aa rfl (e_b2 aj (au (ao rfl) aj (bu _ _ (by decide))) eb) rfl)))) rfl) rfl))))⟩
end K16
namespace K16
open Z KG KM P16
noncomputable def L23:List Nat:=[122,120,119,118,117,116,115,114,113,112,110,109,108,107,106,105,104,103,102,101,100,99,98]
theorem Cp{x:List Nat}{j:Int}(h0:0<=j)(h1:j<x.length):∃ch,x[j.toNat]?=some ch/\idxD (.str x) (.int j)=.ok (false,.str [ch]):=by
 have hl:j.toNat<x.length:=by omega
 refine⟨x[j.toNat],List.getElem?_eq_getElem hl,?_⟩;simp only[idxD,place,h0,h1,if_true,Option.bind_some,List.getElem?_eq_getElem hl,Option.map_some,R.of]
noncomputable def wB:SL:=(SL.cons (S.set 2 (T.op2 .add (T.var 2) (T.idx (T.op2 .add (T.var 1) (T.cst (D.str [48,49,50,51,52,53,54,55,56,57]))) (T.op2 .mod (T.op2 .mod (T.op2 .mul (T.op2 .mul (T.op2 .add (T.op2 .mod (T.var 0) (T.op2 .pow (T.cst (D.int 10)) (T.cst (D.int 9)))) (T.var 3)) (T.op2 .add (T.var 3) (T.cst (D.int 7)))) (T.cst (D.int 48271))) (T.cst (D.int 65521))) (T.cst (D.int 33)))))) SL.nil)
theorem ni{x:Int}(h0:0<=x)(h:x<2 ^ 60):Bd x:=by
 obtain⟨n,rfl⟩:=fD h0;exact bR (by omega)
theorem JV(o:Orc)(c:Int)(wd:List Nat)(hw:wd.length<=100)(k:Nat)(hk:k<6)(a b:Option Slot):∃ch,evSs o wB [some (.sh,.int c),some (.sh,.str L23),some (.sh,.str wd),some (.sh,.int (k:Int)),a,b]=.nx [some (.sh,.int c),some (.sh,.str L23),some (.sh,.str (wd++[ch])),some (.sh,.int (k:Int)),a,b]:=by
 have r9:=aF c (10 ^ 9) (by decide);have hp:o2 .pow (.int 10) (.int 9)=.ok (false,.int (10 ^ 9)):=Ao (by decide) (by decide);have hL:o2 .add (.str L23) (.str [48,49,50,51,52,53,54,55,56,57])=.ok (false,.str (L23++[48,49,50,51,52,53,54,55,56,57])):=dm (by decide)
 have h9:((10:Int) ^ 9)=1000000000:=by decide
 rw[h9]at r9 hp;generalize hx:c.fmod 1000000000=x at r9
 have hm:o2 .mod (.int c) (.int 1000000000)=.ok (false,.int x):=by rw[<-hx];exact bN _ _ (by decide)
 have b1:(x+k)*(k+7)<2 ^ 40/\0<=(x+k)*((k:Int)+7):=by
  have:k=0\/k=1\/k=2\/k=3\/k=4\/k=5:=by omega
  rcases this with rfl | rfl | rfl | rfl | rfl | rfl<;>(simp only[Int.cast_ofNat_Int];omega)
 have m1:o2 .mul (.int (x+k)) (.int ((k:Int)+7))=.ok (false,.int ((x+k)*((k:Int)+7))):=mulE (cZ (ni (by omega) (by omega)) (ni (by omega) (by omega)));generalize (x+k)*((k:Int)+7)=y at b1 m1;have m2:o2 .mul (.int y) (.int 48271)=.ok (false,.int (y*48271)):=mulE (cZ (ni (by omega) (by omega)) (ni (by omega) (by omega)));have r33:=aF ((y*48271).fmod 65521) 33 (by decide);have n1:o2 .mod (.int (y*48271)) (.int 65521)=.ok (false,.int ((y*48271).fmod 65521)):=bN _ _ (by decide);have n2:o2 .mod (.int ((y*48271).fmod 65521)) (.int 33)=.ok (false,.int (((y*48271).fmod 65521).fmod 33)):=bN _ _ (by decide);obtain⟨ch,_,hi⟩:=Cp (x:=L23++[48,49,50,51,52,53,54,55,56,57]) r33.1 (by show _<(33:Int);exact r33.2);have hc:o2 .add (.str wd) (.str [ch])=.ok (false,.str (wd++[ch])):=dm (by simp only[List.length_cons,List.length_nil];omega);exact⟨ch,one (aG (w:=false) (d:=.str (wd++[ch])) (au (ao rfl) (aN (au (ao rfl) aj hL) (au (au (au (au (au (au (ao rfl) (au aj aj hp) hm) (ao rfl) (bM _ _)) (au (ao rfl) aj (bM _ _)) m1) aj m2) aj n1) aj n2) hi) hc) rfl)⟩
theorem J7(o:Orc)(c:Int)(a b:Option Slot):∀(n k:Nat) (wd:List Nat) (p:Option Slot),k+n=6->wd.length=k+1->∃wd' p',wd'.length=7/\cF (evSs o wB) [3] false ((List.range' k n).map fun(k:Nat)=>D.int (k:Int)) [some (.sh,.int c),some (.sh,.str L23),some (.sh,.str wd),p,a,b]=.nx [some (.sh,.int c),some (.sh,.str L23),some (.sh,.str wd'),p',a,b]
 | 0,k,wd,p,h,hl=>⟨wd,p,by omega,rfl⟩
 | n+1,k,wd,p,h,hl=>by
   obtain⟨ch,e1⟩:=JV o c wd (by omega) k (by omega) a b;obtain⟨wd',p',h',e2⟩:=J7 o c a b n (k+1) (wd++[ch]) (some (.sh,.int (k:Int))) (by omega) (by simp;omega);exact⟨wd',p',h',cA (ds:=[.int (k:Int)]) rfl rfl e1 e2⟩
end K16
namespace K16
open Z KG KM P16
local macro_rules | `(tactic| array_get_dec)=>`(tactic| first | assumption | exact ao rfl | exact bK rfl | exact aj | exact neg1 | (refine' au ?a ?b ?c;(case a=>array_get_dec);(case b=>array_get_dec);(case c=>sizeOf_list_dec)) | (refine' e_b1 ?a ?c;(case a=>array_get_dec);(case c=>sizeOf_list_dec)) | (refine' aN ?a ?b ?c;(case a=>array_get_dec);(case b=>array_get_dec);(case c=>sizeOf_list_dec)) | (refine' mD ?a;(case a=>array_get_dec)) | (refine' gr ?a;(case a=>array_get_dec)) | (refine' bj ?a ?b;(case a=>array_mem_dec);(case b=>exact rfl)) | (refine' bL ?a ?b;(case a=>array_mem_dec);(case b=>exact rfl)) | (refine' aB ?a ?b;(case a=>array_mem_dec);(case b=>assumption)) | (refine' e_m1 ?a ?b ?c;(case a=>array_get_dec);(case b=>array_get_dec);(case c=>sizeOf_list_dec)) | (refine' e_b2 ?a ?b ?c;(case a=>array_get_dec);(case b=>array_get_dec);(case c=>sizeOf_list_dec)) | (refine' cC ?a ?b ?c ?d ?e ?f;(case a=>array_get_dec);(case b=>array_get_dec);(case c=>array_get_dec);(case d=>exact rfl);(case e=>exact rfl);(case f=>sizeOf_list_dec)) | (refine' lD ?a ?b;(case a=>array_get_dec);(case b=>exact rfl)))
local macro_rules | `(tactic| array_mem_dec)=>`(tactic| first | exact iI | (refine' aa rfl ?a ?b;(case a=>array_get_dec);(case b=>array_mem_dec)))
local macro_rules | `(tactic| sizeOf_list_dec)=>`(tactic| first | assumption | exact bM _ _ | exact jQ _ _ | exact o_lt _ _ | exact o_gt _ _ | exact o_le _ _ | exact o_ge _ _ | exact dW _ _ | exact qM _ _ | exact mY _ _ | exact rP _ _ | exact bN _ _ (by decide) | exact bu _ _ (by decide) | exact aP rfl rfl | exact aC rfl rfl | exact eX _ | exact kj _ | exact jm _ | exact eH _ | (refine' dm ?_;(try simp only[List.length_append,List.length_cons,List.length_nil]);omega))
theorem zY{α:Type}(f:Nat->α)(h:∀i j,i<j->j<4->f i≠f j):((List.range 4).map f).Nodup:=by
 show[f 0,f 1,f 2,f 3].Nodup;have h01:=h 0 1 (by omega) (by omega);have h02:=h 0 2 (by omega) (by omega);have h03:=h 0 3 (by omega) (by omega);have h12:=h 1 2 (by omega) (by omega);have h13:=h 1 3 (by omega) (by omega);have h23:=h 2 3 (by omega) (by omega);simp only[List.nodup_cons,List.mem_cons,List.not_mem_nil,or_false,not_or,not_false_eq_true,List.nodup_nil,and_true];exact⟨⟨h01,h02,h03⟩,⟨h12,h13⟩,h23⟩
noncomputable def chF(x:Int)(k:Nat):Nat:=(L23[((x+5*(k:Int)).fmod 23).toNat]?).getD 0
theorem Dw:∀i<23,∀j<23,(L23[i]?).getD 0=(L23[j]?).getD 0->i=j:=by decide
theorem Fq(x:Int)(i j:Nat)(h:i<j)(hj:j<4):chF x i≠chF x j:=fun e=>by
 have ri:=aF (x+5*(i:Int)) 23 (by decide);have rj:=aF (x+5*(j:Int)) 23 (by decide);have:=Dw _ (by omega) _ (by omega) e
 have e2:(x+5*(i:Int)).fmod 23=(x+5*(j:Int)).fmod 23:=by omega
 rw[Int.fmod_eq_emod_of_nonneg _ (by decide),Int.fmod_eq_emod_of_nonneg _ (by decide)]at e2;omega
theorem vL(w m:Nat)(c:Int):∃N:List (List Nat),N.length=4/\N.Nodup/\(orc prg w (m+1)).fn 16 [.int c]=.ok (true,.lst (N.map .str)):=by
 rw[bz (d:=f16) rfl];have r23:=aF (c.fdiv 2) 23 (by decide);obtain⟨ch,_,hi⟩:=Cp (x:=L23) r23.1 (by show _<(23:Int);exact r23.2);obtain⟨wd,p',hw,hf⟩:=J7 (orc prg w m) c none none 6 0 [ch] none rfl rfl
 have hr:∀(δ:Dst) (n:Int),0<=n->n<=100->∀lk,evI (orc prg w m) δ lk (TI.rng1 (T.cst (D.int n)))=.ok ((List.range n.toNat).map fun(k:Nat)=>D.int (k:Int)):=fun δ n h0 h1 lk=>wH aj (by omega) (by omega)
 have pre:∀(x:D) ,(∃δ1,evSs (orc prg w m) (SL.cons (S.ifs (T.op2 .eq (T.op2 .mod (T.var 0) (T.cst (D.int 2))) (T.cst (D.int 1))) (SL.cons (S.set 4 (T.op2 .mod (T.op2 .fdiv (T.var 0) (T.cst (D.int 46))) (T.cst (D.int 4)))) (SL.cons (S.ret (T.comp [4,2] 1 false (TI.rng1 (T.cst (D.int 4))) (T.cst (D.bl true)) (T.slc (T.var 2) (T.cst D.non) (T.op2 .add (T.op2 .add (T.var 1) (T.var 0)) (T.cst (D.int 1)))))) SL.nil)) SL.nil) (SL.cons (S.set 2 (T.slc (T.var 2) (T.cst D.non) (T.op2 .mod (T.op2 .fdiv (T.var 0) (T.cst (D.int 46))) (T.cst (D.int 8))))) (SL.cons (S.set 5 (T.op2 .mod (T.op2 .fdiv (T.var 0) (T.cst (D.int 368))) (T.op2 .add (T.b1 .len (T.var 2)) (T.cst (D.int 1))))) (SL.cons (S.ret (T.comp [5,0,1,2] 1 false (TI.rng1 (T.cst (D.int 4))) (T.cst (D.bl true)) (T.op2 .add (T.op2 .add (T.slc (T.var 4) (T.cst D.non) (T.var 1)) (T.idx (T.var 3) (T.op2 .mod (T.op2 .add (T.op2 .fdiv (T.var 2) (T.cst (D.int 3312))) (T.op2 .mul (T.cst (D.int 5)) (T.var 0))) (T.cst (D.int 23))))) (T.slc (T.var 4) (T.var 1) (T.cst D.non))))) SL.nil)))) [some (.sh,.int c),some (.sh,.str L23),some (.sh,.str wd),p',none,none]=.rt true x δ1)->dB (orc prg w m) f16 [.int c]=.ok (true,x):=fun x h=>
  aA rfl (δ0:=[some (.sh,.int c),none,none,none,none,none]) rfl (stp [some (.sh,.int c),some (.sh,.str L23),none,none,none,none] (aG aj rfl) (stp [some (.sh,.int c),some (.sh,.str L23),some (.sh,.str [ch]),none,none,none] (aG (aN (ao rfl) (au (au (ao rfl) aj (bu _ _ (by decide))) aj (bN _ _ (by decide))) hi) rfl) (stp _ (fors rfl (hr _ 6 (by decide) (by decide) _) hf) h)))
 have ec:ev (orc prg w m) [some (.sh,.int c),some (.sh,.str L23),some (.sh,.str wd),p',none,none] true (T.op2 .eq (T.op2 .mod (T.var 0) (T.cst (D.int 2))) (T.cst (D.int 1)))=.ok (false,.bl (decide (c.fmod 2=1))):=by array_get_dec
 by_cases h1:c.fmod 2=1
 ·have r4:=aF (c.fdiv 46) 4 (by decide)
  obtain⟨s,hs⟩:=fD r4.1;rw[hs]at r4;refine⟨(List.range 4).map fun k=>wd.take (s+k+1),by simp,zY _ fun i j hij hj e=>?_,pre _ (stpR (δ':=[some (.sh,.int c),some (.sh,.str L23),some (.sh,.str wd),p',some (.sh,.int (s:Int)),none]) (ifsT ec (decide_eq_true h1) ?_))⟩
  ·have:=congrArg List.length e
   simp only[List.length_take,hw]at this;omega
  ·have e4:evS (orc prg w m) (S.set 4 (T.op2 .mod (T.op2 .fdiv (T.var 0) (T.cst (D.int 46))) (T.cst (D.int 4)))) [some (.sh,.int c),some (.sh,.str L23),some (.sh,.str wd),p',none,none]=.nx [some (.sh,.int c),some (.sh,.str L23),some (.sh,.str wd),p',some (.sh,.int (s:Int)),none]:=aG (w:=false) (d:=.int (s:Int)) (au (au (ao rfl) aj (bu _ _ (by decide))) aj ((bN _ _ (by decide)).trans (by rw[hs]))) rfl
   have e5:ev (orc prg w m) [some (.sh,.int c),some (.sh,.str L23),some (.sh,.str wd),p',some (.sh,.int (s:Int)),none] false (T.comp [4,2] 1 false (TI.rng1 (T.cst (D.int 4))) (T.cst (D.bl true)) (T.slc (T.var 2) (T.cst D.non) (T.op2 .add (T.op2 .add (T.var 1) (T.var 0)) (T.cst (D.int 1)))))=.ok (true,.lst (((List.range 4).map fun k=>wd.take (s+k+1)).map .str)):=by
    rw[List.map_map];refine iQ _ _ _ _ [4,2] [.int (s:Int),.str wd] ((List.range 4).map fun(k:Nat)=>D.int (k:Int)) _ 1 false _ _ (hr _ 4 (by decide) (by decide) _) rfl rfl (by simp) (cH (fun d _=>aj) fun k hk=>⟨false,?_⟩);have hsl:=jO wd (s+k+1);exact cC (ao rfl) aj (au (au (ao rfl) (ao rfl) (bM _ _)) aj (bM _ _)) rfl rfl (by show slcD (.str wd) none (some ((s:Int)+(k:Int)+1))=some (false,D.str (wd.take (s+k+1)));rw[<-hsl];rfl)
   rw[bC e4];simp only[evSs,retR e5 rfl]
 ·have r8:=aF (c.fdiv 46) 8 (by decide)
  obtain⟨e,he⟩:=fD r8.1;rw[he]at r8;have e2:evS (orc prg w m) (S.set 2 (T.slc (T.var 2) (T.cst D.non) (T.op2 .mod (T.op2 .fdiv (T.var 0) (T.cst (D.int 46))) (T.cst (D.int 8))))) [some (.sh,.int c),some (.sh,.str L23),some (.sh,.str wd),p',none,none]=.nx [some (.sh,.int c),some (.sh,.str L23),some (.sh,.str (wd.take e)),p',none,none]:=aG (w:=false) (d:=.str (wd.take e)) (cC (ao rfl) aj (au (au (ao rfl) aj (bu _ _ (by decide))) aj ((bN _ _ (by decide)).trans (by rw[he]))) rfl rfl (jO wd e)) rfl
  have hl2:(wd.take e).length<=7:=by rw[List.length_take];omega
  generalize wd.take e=wd2 at e2 hl2;have ra:=aF (c.fdiv 368) ((wd2.length:Int)+1) (by omega);obtain⟨a,ha⟩:=fD ra.1
  have hdv:o2 .mod (.int (c.fdiv 368)) (.int ((wd2.length:Int)+1))=.ok (false,.int (a:Int)):=by rw[<-ha];exact bN _ _ (by omega)
  have e3:evS (orc prg w m) (S.set 5 (T.op2 .mod (T.op2 .fdiv (T.var 0) (T.cst (D.int 368))) (T.op2 .add (T.b1 .len (T.var 2)) (T.cst (D.int 1))))) [some (.sh,.int c),some (.sh,.str L23),some (.sh,.str wd2),p',none,none]=.nx [some (.sh,.int c),some (.sh,.str L23),some (.sh,.str wd2),p',none,some (.sh,.int (a:Int))]:=aG (w:=false) (d:=.int (a:Int)) (au (au (ao rfl) aj (bu _ _ (by decide))) (au (e_b1 (ao rfl) (jm _)) aj (bM _ _)) hdv) rfl;refine⟨(List.range 4).map fun k=>(wd2.take a++[chF (c.fdiv 3312) k])++wd2.drop a,by simp,zY _ fun i j hij hj q=>?_,pre _ (stp _ (ifF ec (decide_eq_false h1)) (stp _ e2 (stp _ e3 (stpR (retR (w:=true) ?_ rfl)))))⟩
  ·rw[List.append_assoc,List.append_assoc]at q
   have q:=List.append_cancel_left q;simp only[List.cons_append,List.cons.injEq]at q;exact Fq _ i j hij hj q.1
  ·rw[List.map_map]
   refine iQ _ _ _ _ [5,0,1,2] [.int (a:Int),.int c,.str L23,.str wd2] ((List.range 4).map fun(k:Nat)=>D.int (k:Int)) _ 1 false _ _ (hr _ 4 (by decide) (by decide) _) rfl rfl (by simp) (cH (fun d _=>aj) fun k hk=>⟨false,?_⟩);have hk4:=List.mem_range.mp hk;have r:=aF (c.fdiv 3312+5*(k:Int)) 23 (by decide);obtain⟨x,hx,hi2⟩:=Cp (x:=L23) r.1 (by show _<(23:Int);exact r.2)
   have hch:chF (c.fdiv 3312) k=x:=by unfold chF;rw[hx];rfl
   have hm:o2 .mul (.int 5) (.int (k:Int))=.ok (false,.int (5*(k:Int))):=mulE (cZ (ni (by decide) (by decide)) (ni (by omega) (by omega)))
   have ht:(wd2.take a).length<=7:=by rw[List.length_take];omega
   have hdr:(wd2.drop a).length<=7:=by rw[List.length_drop];omega
   have hc1:o2 .add (.str (wd2.take a)) (.str [x])=.ok (false,.str (wd2.take a++[x])):=dm (by simp only[List.length_cons,List.length_nil];omega);have hc2:o2 .add (.str (wd2.take a++[x])) (.str (wd2.drop a))=.ok (false,.str (wd2.take a++[x]++wd2.drop a)):=dm (by simp only[List.length_append,List.length_cons,List.length_nil];omega);show ev _ _ _ _=R.ok (false,D.str ((wd2.take a++[chF (c.fdiv 3312) k])++wd2.drop a));rw[hch];exact au (au (cC (ao rfl) aj (ao rfl) rfl rfl (jO wd2 a)) (aN (ao rfl) (au (au (au (ao rfl) aj (bu _ _ (by decide))) (au aj (ao rfl) hm) (bM _ _)) aj (bN _ _ (by decide))) hi2) hc1) (cC (ao rfl) (ao rfl) aj rfl rfl (xj wd2 a)) hc2
end K16
namespace K16
open Z KG KM P16
structure Row where
 d:Nat
 q:Nat
 a:Nat
 b:Nat
structure Row.Ok(r:Row):Prop where
 d4:r.d<=4
 q1:1<=r.q
 q2:r.q<=42
 a1:1<=r.a
 a2:r.a<=1000
 b1:1<=r.b
 b2:r.b<=1000
noncomputable def rowD(r:Row):D:=.tup [.int (r.d:Int),.int (r.q:Int),.int (r.a:Int),.int (r.b:Int)]
noncomputable def gf(r:Row)(more:Nat):Bool:=if r.d=0 then true else if 3<r.d+more\/(r.d+more=3/\r.a≠1)then false else decide (r.q*r.q*r.a*r.b<=limV (r.d+more))
theorem Jk(w m:Nat)(r:Row)(h:r.Ok)(more:Nat)(hm:more<=1):(orc prg w (m+2)).fn 22 [rowD r,.int (more:Int)]=.ok (false,.bl (gf r more)):=by
 rw[bz (d:=f22) rfl];have hd:=h.d4;have hl:=rO w m (r.d+more) (by omega)
 have i0:∀(q:List (Option Slot)) (lk:Bool),ev (orc prg w (m+1)) (some (.sh,rowD r)::q) lk (T.idx (T.var 0) (T.cst (D.int 0)))=.ok (false,.int (r.d:Int)):=fun q lk=>aN (ao rfl) aj (aP rfl rfl)
 have i1:∀(q:List (Option Slot)) (lk:Bool),ev (orc prg w (m+1)) (some (.sh,rowD r)::q) lk (T.idx (T.var 0) (T.cst (D.int 1)))=.ok (false,.int (r.q:Int)):=fun q lk=>aN (ao rfl) aj (aP rfl rfl)
 have i2:∀(q:List (Option Slot)) (lk:Bool),ev (orc prg w (m+1)) (some (.sh,rowD r)::q) lk (T.idx (T.var 0) (T.cst (D.int 2)))=.ok (false,.int (r.a:Int)):=fun q lk=>aN (ao rfl) aj (aP rfl rfl)
 have i3:∀(q:List (Option Slot)) (lk:Bool),ev (orc prg w (m+1)) (some (.sh,rowD r)::q) lk (T.idx (T.var 0) (T.cst (D.int 3)))=.ok (false,.int (r.b:Int)):=fun q lk=>aN (ao rfl) aj (aP rfl rfl)
 have e0:ev (orc prg w (m+1)) [some (.sh,rowD r),some (.sh,.int (more:Int)),none] true (T.op2 .eq (T.idx (T.var 0) (T.cst (D.int 0))) (T.cst (D.int 0)))=.ok (false,.bl (decide ((r.d:Int)=0))):=au (i0 _ _) aj (dW _ _);unfold gf
 by_cases h0:r.d=0
 ·rw[if_pos h0]
  exact aA rfl rfl (stpR (ifT e0 (decide_eq_true (by omega)) (retR aj rfl)))
 rw[if_neg h0];have e1:evS (orc prg w (m+1)) (S.set 2 (T.op2 .add (T.idx (T.var 0) (T.cst (D.int 0))) (T.var 1))) [some (.sh,rowD r),some (.sh,.int (more:Int)),none]=.nx [some (.sh,rowD r),some (.sh,.int (more:Int)),some (.sh,.int ((r.d+more:Nat):Int))]:=aG (w:=false) (d:=.int ((r.d+more:Nat):Int)) (au (i0 _ _) (ao rfl) (by rw[Int.natCast_add];exact bM _ _)) rfl;have ea:ev (orc prg w (m+1)) [some (.sh,rowD r),some (.sh,.int (more:Int)),some (.sh,.int ((r.d+more:Nat):Int))] true (T.op2 .gt (T.var 2) (T.cst (D.int 3)))=.ok (false,.bl (decide (3<((r.d+more:Nat):Int)))):=au (ao rfl) aj (o_gt _ _)
 have eb:ev (orc prg w (m+1)) [some (.sh,rowD r),some (.sh,.int (more:Int)),some (.sh,.int ((r.d+more:Nat):Int))] true (T.and (T.op2 .eq (T.var 2) (T.cst (D.int 3))) (T.op2 .ne (T.idx (T.var 0) (T.cst (D.int 2))) (T.cst (D.int 1))))=.ok (false,.bl (decide (((r.d+more:Nat):Int)=3)&&!(decide ((r.a:Int)=1)))):=by
  have x1:ev (orc prg w (m+1)) [some (.sh,rowD r),some (.sh,.int (more:Int)),some (.sh,.int ((r.d+more:Nat):Int))] true (T.op2 .eq (T.var 2) (T.cst (D.int 3)))=.ok (false,.bl (decide (((r.d+more:Nat):Int)=3))):=au (ao rfl) aj (dW _ _);have x2:ev (orc prg w (m+1)) [some (.sh,rowD r),some (.sh,.int (more:Int)),some (.sh,.int ((r.d+more:Nat):Int))] true (T.op2 .ne (T.idx (T.var 0) (T.cst (D.int 2))) (T.cst (D.int 1)))=.ok (false,.bl (!(decide ((r.a:Int)=1)))):=au (i2 _ _) aj (mY _ _)
  cases hb:decide (((r.d+more:Nat):Int)=3)with
  | true=>rw[hb]at x1;rw[Bool.true_and];exact eZ x1 x2
  | false=>rw[hb]at x1;rw[Bool.false_and];exact qI x1
 have ec:=rF (lk:=true) ea eb
 by_cases h3:3<r.d+more\/(r.d+more=3/\r.a≠1)
 ·rw[if_pos h3]
  refine aA rfl (δ0:=[some (.sh,rowD r),some (.sh,.int (more:Int)),none]) rfl (stp _ (ifF e0 (decide_eq_false (by omega))) (stp _ e1 (stpR (ifT ec ?_ (retR aj rfl)))));rcases h3 with h3 | ⟨h3,h4⟩
  ·rw[decide_eq_true (show(3:Int)<((r.d+more:Nat):Int) by omega),Bool.true_or]
  ·rw[decide_eq_true (show((r.d+more:Nat):Int)=3 by omega),decide_eq_false (show ¬(r.a:Int)=1 by omega)];simp
 ·rw[if_neg h3]
  have hq1:=h.q2;have ha2:=h.a2;have hb2:=h.b2;have m1:r.q*r.q<=42*42:=Nat.mul_le_mul hq1 hq1;have m2:r.q*r.q*r.a<=42*42*1000:=Nat.mul_le_mul m1 ha2
  have o1:o2 .mul (.int (r.q:Int)) (.int (r.q:Int))=.ok (false,.int ((r.q*r.q:Nat):Int)):=by rw[Int.natCast_mul];exact mulE (cZ (bR (by omega)) (bR (by omega)))
  have o2':o2 .mul (.int ((r.q*r.q:Nat):Int)) (.int (r.a:Int))=.ok (false,.int ((r.q*r.q*r.a:Nat):Int)):=by rw[Int.natCast_mul (r.q*r.q)];exact mulE (cZ (bR (by omega)) (bR (by omega)))
  have o3:o2 .mul (.int ((r.q*r.q*r.a:Nat):Int)) (.int (r.b:Int))=.ok (false,.int ((r.q*r.q*r.a*r.b:Nat):Int)):=by rw[Int.natCast_mul (r.q*r.q*r.a)];exact mulE (cZ (bR (by omega)) (bR (by omega)))
  have ef:decide (((r.q*r.q*r.a*r.b:Nat):Int)<=(limV (r.d+more):Nat))=decide (r.q*r.q*r.a*r.b<=limV (r.d+more)):=by rw[decide_eq_decide];exact Int.ofNat_le
  rw[<-ef];refine aA rfl (δ0:=[some (.sh,rowD r),some (.sh,.int (more:Int)),none]) rfl (stp _ (ifF e0 (decide_eq_false (by omega))) (stp _ e1 (stp _ (ifF ec ?_) (stpR (retR (au (au (au (au (i1 _ _) (i1 _ _) o1) (i2 _ _) o2') (i3 _ _) o3) (aB (aa rfl (ao rfl) rfl) hl) (o_le _ _)) rfl)))));rw[not_or,not_and]at h3;rw[decide_eq_false (show ¬(3:Int)<((r.d+more:Nat):Int) by omega),Bool.false_or]
  by_cases h5:r.d+more=3
  ·have:=h3.2 h5
   rw[decide_eq_true (show(r.a:Int)=1 by omega)];simp
  ·rw[decide_eq_false (show ¬((r.d+more:Nat):Int)=3 by omega),Bool.false_and]
end K16
namespace K16
open Z KG KM P16
noncomputable def due(rs:List Row)(more:Nat):Bool:=decide ((rs.map (·.q)).sum<=40)&&rs.all fun r=>gf r more
theorem pM:∀l:List Nat,(l.map fun(n:Nat)=>(n:Int)).sum=((l.sum:Nat):Int)
 | []=>rfl
 | x::l=>by rw[List.map_cons,List.sum_cons,List.sum_cons,pM l,Int.natCast_add]
theorem pW{α:Type}(f:α->Bool):∀l:List α,boolsOf (l.map fun x=>D.bl (f x))=some (l.map f)
 | []=>rfl
 | x::l=>by simp only[List.map_cons,boolsOf,pW f l,Option.map_some]
theorem Hw{α:Type}(f:α->Bool):∀l:List α,immL (l.map fun x=>D.bl (f x))=true
 | []=>rfl
 | x::l=>by simp only[List.map_cons,immL,D.imm,Hw f l,Bool.and_self]
theorem vJ(w m:Nat)(rs:List Row)(h:∀r∈rs,r.Ok)(hl:rs.length<=100)(more:Nat)(hm:more<=1):(orc prg w (m+3)).fn 23 [.lst (rs.map rowD),.int (more:Int)]=.ok (false,.bl (due rs more)):=by
 rw[bz (d:=f23) rfl]
 have e1:ev (orc prg w (m+2)) [some (.sh,.lst (rs.map rowD)),some (.sh,.int (more:Int))] true (T.comp [] 1 false (TI.val (T.var 0)) (T.cst (D.bl true)) (T.idx (T.var 0) (T.cst (D.int 1))))=.ok (true,.lst (intN (rs.map (·.q)))):=by
  unfold intN;rw[List.map_map];exact fQ _ (rs.map rowD) _ _ _ (cu (ao rfl) rfl) (by rw[List.length_map];omega) (cH (fun d _=>aj) fun r _=>⟨false,aN (ao rfl) aj (aP rfl rfl)⟩)
 have e2:b1D .sum (.lst (intN (rs.map (·.q))))=.ok (false,.int (((rs.map (·.q)).sum:Nat):Int)):=by
  have hi:=gJ (rs.map (·.q));show b1D .sum (.lst ((rs.map (·.q)).map fun(n:Nat)=>D.int (n:Int)))=_;simp only[b1D,hi,Option.map_some,R.of,pM]
 have e3:ev (orc prg w (m+2)) [some (.sh,.lst (rs.map rowD)),some (.sh,.int (more:Int))] true (T.comp [1] 1 false (TI.val (T.var 0)) (T.cst (D.bl true)) (T.call 22 (TL.cons (T.var 0) (TL.cons (T.var 1) TL.nil))))=.ok (true,.lst (rs.map fun r=>.bl (gf r more))) :=
  iQ _ _ _ _ [1] [.int (more:Int)] (rs.map rowD) _ 1 false _ _ (cu (ao rfl) rfl) rfl rfl (by rw[List.length_map];omega) (cH (fun d _=>aj) fun r hr=>⟨false,aB (aa rfl (ao rfl) (aa rfl (ao rfl) rfl)) (Jk w m r (h r hr) more hm)⟩)
 have e4:b1D .all (.lst (rs.map fun r=>D.bl (gf r more)))=.ok (false,.bl (rs.all fun r=>gf r more)):=by
  simp only[b1D,pW,Option.map_some,R.of,List.all_map]
  rfl
 have ec:ev (orc prg w (m+2)) [some (.sh,.lst (rs.map rowD)),some (.sh,.int (more:Int))] true (T.op2 .gt (T.b1 .sum (T.comp [] 1 false (TI.val (T.var 0)) (T.cst (D.bl true)) (T.idx (T.var 0) (T.cst (D.int 1))))) (T.cst (D.int 40)))=.ok (false,.bl (decide (40<(((rs.map (·.q)).sum:Nat):Int)))):=au (e_b1 e1 e2) aj (o_gt _ _);unfold due
 by_cases h4:(rs.map (·.q)).sum<=40
 ·rw[decide_eq_true h4,Bool.true_and]
  exact aA rfl rfl (stp _ (ifF ec (decide_eq_false (by omega))) (stpR (retR (e_b1 e3 e4) rfl)))
 ·rw[decide_eq_false h4,Bool.false_and]
  exact aA rfl rfl (stpR (ifT ec (decide_eq_true (by omega)) (retR aj rfl)))
theorem vK(w m:Nat)(c0 c1 c2:Int)(more:Nat)(hm:more<=1):∃r:Row,r.Ok/\(orc prg w (m+2)).fn 19 [.lst [.int c0,.int c1,.int c2],.int (more:Int)]=.ok (false,rowD r):=by
 obtain⟨d,q,a,b,h1,h2,h3,h4,h5,h6,h7,e⟩:=tG w m c0 c1 c2 more hm;exact⟨⟨d,q,a,b⟩,⟨h1,h2,h3,h4,h5,h6,h7⟩,e⟩
end K16
namespace K16
open Z KG KM P16
noncomputable def rtB:SL:=(SL.cons (S.ifs (T.op2 .ne (T.lst (TL.cons (T.op2 .is (T.var 3) (T.cst (D.bl true))) (TL.cons (T.op2 .is (T.var 3) (T.cst (D.bl false))) TL.nil))) (T.lst (TL.cons (T.var 4) (TL.cons (T.not (T.var 4)) TL.nil)))) (SL.cons (S.ret (T.cst (D.bl false))) SL.nil) SL.nil) SL.nil)
theorem oK(o:Orc)(A B C:Option Slot)(b:Bool):evSs o rtB [A,B,C,some (.sh,.bl b),some (.sh,.bl b)]=.nx [A,B,C,some (.sh,.bl b),some (.sh,.bl b)]:=by
 cases b<;>rfl
end K16
namespace K16
open Z KG KM
theorem zK(s:Stt):ats (.nt s)=ats s:=by unfold ats;rw[aw];rfl
theorem di(b:Bool)(x:List Nat)(s:Stt):ats (.trn b x s)=ats s:=by unfold ats;rw[aw];rfl
noncomputable def atss(ss:List Stt):List Stt:=(aws ss).filter isA
theorem iK(b:Bool)(ss:List Stt):ats (.grp b ss)=atss ss:=by unfold ats atss;rw[aw];rfl
theorem fL(s:Stt)(ss:List Stt):atss (s::ss)=ats s++atss ss:=by unfold atss ats;rw[aws,List.filter_append]
theorem qD(s:Stt)(h:isA s=true):ats s=[s]:=by cases s<;>first | (cases h;done) | (unfold ats;rw[aw];rfl)
theorem dJ:∀(ss:List Stt),(∀a∈ss,isA a=true)->atss ss=ss
 | [],_=>by unfold atss;rw[aws];rfl
 | s::ss,h=>by rw[fL,qD s (h s List.mem_cons_self),dJ ss fun a ha=>h a (List.mem_cons_of_mem _ ha)];rfl
theorem Ka(s:Stt):bn (.nt s)=bn s:=by unfold bn;rw[aw];rfl
theorem gW(b:Bool)(x:List Nat)(s:Stt):bn (.trn b x s)=x::bn s:=by unfold bn;rw[aw];rfl
noncomputable def bns(ss:List Stt):List (List Nat):=((aws ss).filter isT).map nmOf
theorem pQ(b:Bool)(ss:List Stt):bn (.grp b ss)=bns ss:=by unfold bn bns;rw[aw];rfl
theorem jD(s:Stt)(ss:List Stt):bns (s::ss)=bn s++bns ss:=by unfold bns bn;rw[aws,List.filter_append,List.map_append]
theorem uR(s:Stt)(h:isA s=true):bn s=[]:=by cases s<;>first | (cases h;done) | (unfold bn;rw[aw];rfl)
theorem fW:∀(ss:List Stt),(∀a∈ss,isA a=true)->bns ss=[]
 | [],_=>by unfold bns;rw[aws];rfl
 | s::ss,h=>by rw[jD,uR s (h s List.mem_cons_self),fW ss fun a ha=>h a (List.mem_cons_of_mem _ ha)];rfl
theorem tu(s:Stt)(h:isA s=true):dp s=0:=by cases s<;>first | (cases h;done) | rw[dp]
theorem fK:∀(ss:List Stt),(∀a∈ss,isA a=true)->dps ss=0
 | [],_=>by rw[dps]
 | s::ss,h=>by rw[dps,tu s (h s List.mem_cons_self),fK ss fun a ha=>h a (List.mem_cons_of_mem _ ha)];rfl
theorem vh(s:Stt)(h:isA s=true):ol s=[]:=by cases s<;>first | (cases h;done) | rw[ol]
theorem lq:∀(ss:List Stt),(∀a∈ss,isA a=true)->ols ss=[]
 | [],_=>by rw[ols]
 | s::ss,h=>by rw[ols,vh s (h s List.mem_cons_self),lq ss fun a ha=>h a (List.mem_cons_of_mem _ ha)];rfl
noncomputable def turn(f:Nat->Bool×Bool)(N:Nat->List Nat)(l:Nat)(s:Stt):Stt:=if(f l).2 then .nt (.trn (f l).1 (N (l % 3)) s)else .trn (f l).1 (N (l % 3)) s
noncomputable def wrap(f:Nat->Bool×Bool)(N:Nat->List Nat):Nat->Nat->Stt->Stt
 | _,0,s=>s
 | l,n+1,s=>wrap f N (l+1) n (turn f N l s)
theorem jt(f:Nat->Bool×Bool)(N:Nat->List Nat)(l:Nat)(s:Stt):ats (turn f N l s)=ats s:=by
 unfold turn;split
 ·rw[zK,di]
 ·rw[di]
theorem oN(f:Nat->Bool×Bool)(N:Nat->List Nat)(l:Nat)(s:Stt):bn (turn f N l s)=N (l % 3)::bn s:=by
 unfold turn;split
 ·rw[Ka,gW]
 ·rw[gW]
theorem Et(f:Nat->Bool×Bool)(N:Nat->List Nat)(l:Nat)(s:Stt):dp (turn f N l s)=dp s+1:=by
 unfold turn;split
 ·rw[dp,dp]
 ·rw[dp]
theorem BW(f:Nat->Bool×Bool)(N:Nat->List Nat)(l:Nat)(s:Stt):ol (turn f N l s)=[.trn (f l).1 (N (l % 3)) s]:=by
 unfold turn;split
 ·rw[ol,ol]
 ·rw[ol]
theorem oR(f:Nat->Bool×Bool)(N:Nat->List Nat):∀(n l:Nat) (s:Stt),ats (wrap f N l n s)=ats s
 | 0,_,_=>rfl
 | n+1,l,s=>by rw[wrap,oR f N n,jt]
theorem uI(f:Nat->Bool×Bool)(N:Nat->List Nat):∀(n l:Nat) (s:Stt),dp (wrap f N l n s)=dp s+n
 | 0,_,_=>rfl
 | n+1,l,s=>by rw[wrap,uI f N n,Et];omega
theorem ue(f:Nat->Bool×Bool)(N:Nat->List Nat)(x:List Nat):∀(n l:Nat) (s:Stt),x∈bn (wrap f N l n s)↔x∈bn s\/∃i,l<=i/\i<l+n/\x=N (i % 3)
 | 0,l,s=>⟨.inl,fun h=>h.elim id fun⟨i,a,b,_⟩=>by omega⟩
 | n+1,l,s=>by
   rw[wrap,ue f N x n,oN,List.mem_cons]
   constructor
   ·rintro((h | h) | ⟨i,a,b,c⟩)
    ·exact .inr ⟨l,by omega,by omega,h⟩
    ·exact .inl h
    ·exact .inr ⟨i,by omega,by omega,c⟩
   ·rintro(h | ⟨i,a,b,c⟩)
    ·exact .inl (.inr h)
    ·by_cases e:i=l
     ·subst e;exact .inl (.inl c)
     ·exact .inr ⟨i,by omega,by omega,c⟩
theorem cO(f:Nat->Bool×Bool)(N:Nat->List Nat):∀(n l:Nat) (s:Stt),wrap f N l (n+1) s=turn f N (l+n) (wrap f N l n s)
 | 0,l,s=>rfl
 | n+1,l,s=>by
   rw[wrap,cO f N n (l+1),show l+1+n=l+(n+1) by omega];rfl
theorem nR(f:Nat->Bool×Bool)(N:Nat->List Nat)(n l:Nat)(s:Stt):ol (wrap f N l (n+1) s)=[.trn (f (l+n)).1 (N ((l+n) % 3)) (wrap f N l n s)]:=by rw[cO,BW]
end K16
namespace K16
open Z KG KM
theorem zy(r:Row)(more:Nat)(h:r.d≠0):bfv (r.d+more) (r.q*r.q*r.a*r.b) r.a=gf r more:=by
 unfold gf;rw[if_neg h]
 by_cases h1:r.d+more=1
 ·rw[h1,if_neg (by omega)];rfl
 by_cases h2:r.d+more=2
 ·rw[h2,if_neg (by omega)];rfl
 by_cases h3:r.d+more=3
 ·rw[h3]
  by_cases ha:r.a=1
  ·rw[if_neg (by omega)]
   show(decide (_<=18)&&decide (r.a=1))=_;rw[decide_eq_true ha,Bool.and_true];rfl
  ·rw[if_pos (.inr ⟨rfl,ha⟩)]
   show(decide (_<=18)&&decide (r.a=1))=_;rw[decide_eq_false ha,Bool.and_false]
 ·rw[zr h1 h2 h3,if_pos (.inl (by omega))]
structure Base(N:Nat->List Nat)(as:List Stt)(l0:Nat)(s:Stt):Prop where
 at':ats s=as
 dp:dp s=l0
 bn:∀x,x∈bn s↔∃i,i<l0/\x=N (i % 3)
 ol:l0=0->ol s=[]
theorem wG(N:Nat->List Nat)(a:Stt)(h:isA a=true):Base N [a] 0 a:=⟨qD a h,tu a h,fun x=>by rw[uR a h];exact⟨fun z=>(nomatch z),fun⟨i,z,_⟩=>by omega⟩,fun _=>vh a h⟩
theorem wF(N:Nat->List Nat)(w:Bool)(as:List Stt)(h:∀a∈as,isA a=true):Base N as 0 (.grp w as):=by
 refine⟨by rw[iK,dJ as h],by rw[KM.dp,fK as h],fun x=>?_,fun _=>by rw[KM.ol,lq as h]⟩;rw[pQ,fW as h];exact⟨fun z=>(nomatch z),fun⟨i,z,_⟩=>by omega⟩
theorem xZ(N:Nat->List Nat)(w:Bool)(as bs:List Stt)(h:∀a∈as,isA a=true)(h2:∀a∈bs,isA a=true):Base N (as++bs) 1 (.grp w [.trn false (N 0) (.grp w as),.trn true (N 0) (.grp w bs)]):=by
 have e0:atss []=[]:=by unfold atss;rw[aws];rfl
 have e1:bns []=[]:=by unfold bns;rw[aws];rfl
 refine⟨?_,?_,fun x=>?_,fun z=>by omega⟩
 ·rw[iK,fL,fL,di,di,iK,iK,dJ as h,dJ bs h2,e0,List.append_nil]
 ·simp only[KM.dp,dps,fK as h,fK bs h2];rfl
 ·rw[pQ,jD,jD,gW,gW,pQ,pQ,fW as h,fW bs h2,e1]
  simp only[List.append_nil,List.mem_append,List.mem_singleton,or_self]
  constructor
  ·intro z;exact⟨0,by omega,z⟩
  ·rintro⟨i,z,e⟩
   have:i=0:=by omega
   subst this;exact e
theorem dH{N:Nat->List Nat}{as:List Stt}{l0:Nat}{s:Stt}(B:Base N as l0 s)(f:Nat->Bool×Bool)(n:Nat):ats (wrap f N l0 n s)=as/\dp (wrap f N l0 n s)=l0+n/\(∀x,x∈bn (wrap f N l0 n s)↔∃i,i<l0+n/\x=N (i % 3)):=by
 refine⟨by rw[oR,B.at'],by rw[uI,B.dp],fun x=>?_⟩;rw[ue,B.bn]
 constructor
 ·rintro(⟨i,a,b⟩ | ⟨i,a,b,c⟩)
  ·exact⟨i,by omega,b⟩
  ·exact⟨i,by omega,c⟩
 ·rintro⟨i,a,b⟩
  by_cases h:i<l0
  ·exact .inl ⟨i,h,b⟩
  ·exact .inr ⟨i,by omega,by omega,b⟩
theorem zE{s t:Stt}(h1:ats s=ats t)(h2:∀x,x∈bn s↔x∈bn t):bv s=bv t:=by
 have hx:∀a,bx (bnS s) a=bx (bnS t) a:=fun a=>by
  unfold bx
  congr 1
  exact List.filter_congr fun p _=>by rw[decide_eq_decide,gj,gj,h2]
 have hxs:∀l,bxs (bnS s) l=bxs (bnS t) l:=fun l=>by
  induction l with
  | nil=>rfl
  | cons a l ih=>rw[bxs,bxs,hx,ih]
 unfold bv;rw[hxs,h1]
theorem zO{s t:Stt}(h1:ats s=ats t):rv s=rv t:=by unfold rv rn;rw[h1]
theorem JZ{N:Nat->List Nat}{as:List Stt}{l0:Nat}{s:Stt}(B:Base N as l0 s)(f:Nat->Bool×Bool)(r:Row)(hl:l0<=r.d)(hl2:l0=0\/l0<r.d)(hq:as.length=r.q)(ha:r.d≠0->bv (wrap f N l0 (r.d-l0) s)=r.a)(hb:r.d≠0->rv (wrap f N l0 (r.d-l0) s)=r.b)(more:Nat):ft (wrap f N l0 (r.d-l0) s) more=due [r] more:=by
 obtain⟨g1,g2,g3⟩:=dH B f (r.d-l0);unfold ft due;rw[g1,hq]
 have hs:([r].map (·.q)).sum=r.q:=by simp
 rw[hs]
 congr 1
 by_cases h0:r.d=0
 ·have hl0:l0=0:=by omega
  have e:r.d-l0=0:=by omega
  rw[e,wrap,B.ol hl0];simp[gf,h0]
 ·obtain⟨n,hn⟩:∃n,r.d-l0=n+1:=⟨r.d-l0-1,by omega⟩
  obtain⟨o1,o2,o3⟩:=dH B f n;rw[hn]at ha hb g2 g3 ⊢;rw[nR]
  have hT1:ats (.trn (f (l0+n)).1 (N ((l0+n) % 3)) (wrap f N l0 n s))=ats (wrap f N l0 (n+1) s):=by rw[di,cO,jt]
  have hT2:∀x,x∈bn (.trn (f (l0+n)).1 (N ((l0+n) % 3)) (wrap f N l0 n s))↔x∈bn (wrap f N l0 (n+1) s):=fun x=>by rw[gW,cO,oN]
  have hd:dp (.trn (f (l0+n)).1 (N ((l0+n) % 3)) (wrap f N l0 n s))=r.d:=by rw[KM.dp,o2];omega
  have hv:bv (.trn (f (l0+n)).1 (N ((l0+n) % 3)) (wrap f N l0 n s))=r.a:=(zE hT1 hT2).trans (ha h0);have hw:rv (.trn (f (l0+n)).1 (N ((l0+n) % 3)) (wrap f N l0 n s))=r.b:=(zO hT1).trans (hb h0)
  have hg:(ats (.trn (f (l0+n)).1 (N ((l0+n) % 3)) (wrap f N l0 n s))).length=r.q:=by rw[di,o1,hq]
  simp only[List.all_cons,List.all_nil,Bool.and_true,bf,ld,hd,hv,hw,hg];exact zy r more h0
end K16
namespace K16
open Z KG KM
structure Fits(G:Stt)(r:Row):Prop where
 len:(ats G).length=r.q
 all:∀more,((ol G).all fun t=>bf t more)=gf r more
theorem qU{N:Nat->List Nat}{as:List Stt}{l0:Nat}{s:Stt}(B:Base N as l0 s)(f:Nat->Bool×Bool)(r:Row)(hl:l0<=r.d)(hl2:l0=0\/l0<r.d)(hq:as.length=r.q)(ha:r.d≠0->bv (wrap f N l0 (r.d-l0) s)=r.a)(hb:r.d≠0->rv (wrap f N l0 (r.d-l0) s)=r.b):Fits (wrap f N l0 (r.d-l0) s) r:=by
 obtain⟨g1,g2,g3⟩:=dH B f (r.d-l0);refine⟨by rw[g1,hq],fun more=>?_⟩
 by_cases h0:r.d=0
 ·have hl0:l0=0:=by omega
  have e:r.d-l0=0:=by omega
  rw[e,wrap,B.ol hl0];simp[gf,h0]
 ·obtain⟨n,hn⟩:∃n,r.d-l0=n+1:=⟨r.d-l0-1,by omega⟩
  obtain⟨o1,o2,o3⟩:=dH B f n;rw[hn]at ha hb g2 g3 ⊢;rw[nR]
  have hT1:ats (.trn (f (l0+n)).1 (N ((l0+n) % 3)) (wrap f N l0 n s))=ats (wrap f N l0 (n+1) s):=by rw[di,cO,jt]
  have hT2:∀x,x∈bn (.trn (f (l0+n)).1 (N ((l0+n) % 3)) (wrap f N l0 n s))↔x∈bn (wrap f N l0 (n+1) s):=fun x=>by rw[gW,cO,oN]
  have hd:dp (.trn (f (l0+n)).1 (N ((l0+n) % 3)) (wrap f N l0 n s))=r.d:=by rw[KM.dp,o2];omega
  have hv:bv (.trn (f (l0+n)).1 (N ((l0+n) % 3)) (wrap f N l0 n s))=r.a:=(zE hT1 hT2).trans (ha h0);have hw:rv (.trn (f (l0+n)).1 (N ((l0+n) % 3)) (wrap f N l0 n s))=r.b:=(zO hT1).trans (hb h0)
  have hg:(ats (.trn (f (l0+n)).1 (N ((l0+n) % 3)) (wrap f N l0 n s))).length=r.q:=by rw[di,o1,hq]
  simp only[List.all_cons,List.all_nil,Bool.and_true,bf,ld,hd,hv,hw,hg];exact zy r more h0
theorem J4{G:Stt}{r:Row}(h:Fits G r)(more:Nat):ft G more=due [r] more:=by
 unfold ft due;rw[h.len,h.all];simp
theorem Kz(s:Stt)(more:Nat):ft (.nt s) more=ft s more:=by
 unfold ft;rw[zK,KM.ol]
theorem joined:∀l:List (Stt×Row),(∀p∈l,Fits p.1 p.2)->(atss (l.map (·.1))).length=((l.map (·.2)).map (·.q)).sum/\∀more,((ols (l.map (·.1))).all fun t=>bf t more)=(l.map (·.2)).all fun r=>gf r more
 | [],_=>⟨by show(atss []).length=_;unfold atss;rw[aws];rfl,fun more=>by show(ols []).all _=_;rw[ols];rfl⟩
 | p::l,h=>by
   obtain⟨h1,h2⟩:=joined l fun q hq=>h q (List.mem_cons_of_mem _ hq)
   have hp:=h p List.mem_cons_self;refine⟨?_,fun more=>?_⟩
   ·rw[List.map_cons,fL,List.length_append,h1,hp.len];simp
   ·rw[List.map_cons,ols,List.all_append,h2 more,hp.all];simp
theorem Dt(w:Bool)(l:List (Stt×Row))(h:∀p∈l,Fits p.1 p.2)(more:Nat):ft (.grp w (l.map (·.1))) more=due (l.map (·.2)) more:=by
 obtain⟨h1,h2⟩:=joined l h;unfold ft due;rw[iK,KM.ol,h1,h2]
end K16
namespace K16
open Z KG KM
theorem yX{l:List Nat}{a:Nat}(h:∀x∈l,x ∣ a)(h2:a∈l\/a=1):lcs l=a:=by
 refine Nat.dvd_antisymm ((cN a l).mpr h) ?_;rcases h2 with h2 | h2
 ·exact(cN _ l).mp (Nat.dvd_refl _) a h2
 ·rw[h2];exact Nat.one_dvd _
theorem Ik(L:List (List Nat))(t:Stt)(x:Nat):x∈bx L t↔∃p∈prs t,p.1∈L/\p.2.natAbs=x:=by
 unfold bx;rw[List.mem_map]
 constructor
 ·rintro⟨p,hp,e⟩
  obtain⟨h1,h2⟩:=List.mem_filter.mp hp;exact⟨p,h1,of_decide_eq_true h2,e⟩
 ·rintro⟨p,hp,hL,e⟩
  exact⟨p,List.mem_filter.mpr ⟨hp,decide_eq_true hL⟩,e⟩
theorem jJ(L:List (List Nat))(x:Nat):∀as:List Stt,x∈bxs L as↔∃t∈as,∃p∈prs t,p.1∈L/\p.2.natAbs=x
 | []=>by rw[bxs];simp
 | t::as=>by
   rw[bxs,List.mem_append,Ik,jJ L x as]
   constructor
   ·rintro(h | ⟨u,hu,h⟩)
    ·exact⟨t,List.mem_cons_self,h⟩
    ·exact⟨u,List.mem_cons_of_mem _ hu,h⟩
   ·rintro⟨u,hu,h⟩
    rcases List.mem_cons.mp hu with rfl | hu
    ·exact .inl h
    ·exact .inr ⟨u,hu,h⟩
theorem Lb{s:Stt}{a:Nat}(h1:∀t∈ats s,∀p∈prs t,p.1∈bn s->p.2.natAbs ∣ a)(h2:(∃t∈ats s,∃p∈prs t,p.1∈bn s/\p.2.natAbs=a)\/a=1):bv s=a:=by
 refine yX (fun x hx=>?_) (h2.imp (fun⟨t,ht,p,hp,hL,e⟩=>(jJ _ a _).mpr ⟨t,ht,p,hp,(gj s _).mpr hL,e⟩) id);obtain⟨t,ht,p,hp,hL,rfl⟩:=(jJ _ x _).mp hx;exact h1 t ht p hp ((gj s _).mp hL)
theorem vM(s:Stt)(x:Nat):x∈rn s↔∃t∈ats s,isR t=true/\(dv t).toNat=x:=by
 unfold rn;rw[List.mem_map]
 constructor
 ·rintro⟨t,ht,e⟩
  obtain⟨h1,h2⟩:=List.mem_filter.mp ht;exact⟨t,h1,h2,e⟩
 ·rintro⟨t,h1,h2,e⟩
  exact⟨t,List.mem_filter.mpr ⟨h1,h2⟩,e⟩
theorem LR{s:Stt}{b:Nat}(h1:∀t∈ats s,isR t=true->(dv t).toNat ∣ b)(h2:(∃t∈ats s,isR t=true/\(dv t).toNat=b)\/b=1):rv s=b:=by
 refine yX (fun x hx=>?_) (h2.imp (fun h=>(vM s b).mpr h) id);obtain⟨t,ht,hr,rfl⟩:=(vM s x).mp hx;exact h1 t ht hr
end K16
namespace K16
open Z KG KM P16
noncomputable def bnd3(d:Nat):Nat:=max 1 (min 3 d)
structure Pl(N:Nat->List Nat)(r:Row)(k:Nat)(l:List Pair):Prop where
 len:l.length<=2
 bd:∀p∈l,Bd p.2
 fr:∀p∈l,p.1≠N 3->p.2.natAbs ∣ r.a
 one:∀L:List (List Nat),N 3∉L->(l.filter fun p=>decide (p.1∈L)).length<=1
 first:k=0->∃p∈l,∃j,j<bnd3 r.d/\p.1=N j/\p.2.natAbs=r.a
structure At(N:Nat->List Nat)(r:Row)(k:Nat)(t:Stt):Prop where
 isA:isA t=true
 wf:∀n,wf n t
 pl:Pl N r k (prs t)
 dv0:0<=dv t
 dvd:isR t=true->(dv t).toNat ∣ r.b
 last:k+1=r.q->1<r.b->isR t=true/\(dv t).toNat=r.b
theorem Ht{N:Nat->List Nat}{r:Row}{k:Nat}{f:Int}(hf:Bd f)(hk:k≠0):Pl N r k [(N 3,f)]where
 len:=by simp
 bd:=fun p hp=>by rw[List.mem_singleton]at hp;subst hp;exact hf
 fr:=fun p hp h=>by rw[List.mem_singleton]at hp;subst hp;exact absurd rfl h
 one:=fun L _=>Nat.le_trans (List.length_filter_le _ _) (by simp)
 first:=fun h=>absurd h hk
theorem Hu{N:Nat->List Nat}{r:Row}{k j:Nat}{f n:Int}(hf:Bd f)(hn:Bd n)(hj:j<bnd3 r.d)(hd:n.natAbs ∣ r.a)(h0:k=0->n.natAbs=r.a){l:List Pair}(hl:l=[(N 3,f),(N j,n)]\/l=[(N j,n),(N 3,f)]):Pl N r k l:=by
 have hm:∀p,p∈l↔p=(N 3,f)\/p=(N j,n):=fun p=>by
  rcases hl with rfl | rfl
  ·simp
  ·simp[or_comm]
 refine⟨by rcases hl with rfl | rfl<;>simp,fun p hp=>?_,fun p hp h=>?_,fun L hL=>?_,fun hk=>⟨(N j,n),(hm _).mpr (.inr rfl),j,hj,rfl,h0 hk⟩⟩
 ·rcases(hm p).mp hp with rfl | rfl
  ·exact hf
  ·exact hn
 ·rcases(hm p).mp hp with rfl | rfl
  ·exact absurd rfl h
  ·exact hd
 ·have e:decide (N 3∈L)=false:=decide_eq_false hL
  rcases hl with rfl | rfl
  ·rw[List.filter_cons_of_neg (by simp[hL])]
   exact Nat.le_trans (List.length_filter_le _ _) (by simp)
  ·rw[List.filter_cons]
   have:(List.filter (fun p:Pair=>decide (p.1∈L)) [(N 3,f)])=[]:=by rw[List.filter_cons_of_neg (by simp[hL])];rfl
   rw[this];split<;>simp
noncomputable def nOf(Ns:List (List Nat))(i:Nat):List Nat:=(Ns[i]?).getD []
theorem uE{Ns:List (List Nat)}(h:Ns.length=4){j:Int}(h0:0<=j)(h4:j<4):idxD (.lst (Ns.map .str)) (.int j)=.ok (false,.str (nOf Ns j.toNat)):=by
 refine aC ?_ (decide_eq_true h0)
 have hj:j.toNat<Ns.length:=by omega
 rw[List.getElem?_map,nOf,List.getElem?_eq_getElem hj]
 rfl
theorem Ac{Ns:List (List Nat)}(h:Ns.length=4)(hn:Ns.Nodup){i j:Nat}(hi:i<4)(hj:j<4)(e:nOf Ns i=nOf Ns j):i=j:=by
 have h1:i<Ns.length:=by omega
 have h2:j<Ns.length:=by omega
 unfold nOf at e;rw[List.getElem?_eq_getElem h1,List.getElem?_eq_getElem h2]at e;have e:Ns[i]=Ns[j]:=e;have hp:=List.pairwise_iff_getElem.mp hn;rcases Nat.lt_trichotomy i j with z | z | z
 ·exact absurd e (hp i j h1 h2 z)
 ·exact z
 ·exact absurd e.symm (hp j i h2 h1 z)
theorem Je(d:Nat):b2D .min (.int 3) (.int (d:Int))=.ok (false,.int ((min 3 d:Nat):Int)):=by
 by_cases h:(d:Int)<3
 ·have e:min 3 d=d:=by omega
  simp only[b2D,h,if_true,e]
 ·have e:min 3 d=3:=by omega
  simp only[b2D,h,if_false,e];rfl
theorem Jd(d:Nat):b2D .max (.int 1) (.int (d:Int))=.ok (false,.int ((max 1 d:Nat):Int)):=by
 by_cases h:(d:Int)>1
 ·have e:max 1 d=d:=by omega
  simp only[b2D,h,if_true,e]
 ·have e:max 1 d=1:=by omega
  simp only[b2D,h,if_false,e];rfl
theorem lg{n:Nat}(h:n<2 ^ 60):n.log2<9000:=by
 by_cases h0:n=0
 ·subst h0;decide
 ·exact(Nat.log2_lt h0).mpr (Nat.lt_of_lt_of_le h (Nat.pow_le_pow_right (by omega) (by omega)))
theorem xR(x:List Nat)(i:Int):b1D .sorted (.lst [.tup [.str x,.int i]])=.ok (true,.lst [.tup [.str x,.int i]]):=rfl
theorem yd{x y:List Nat}{i j:Int}(h:x≠y):∃l:List Pair,(l=[(x,i),(y,j)]\/l=[(y,j),(x,i)])/\b1D .sorted (.lst [.tup [.str x,.int i],.tup [.str y,.int j]])=.ok (true,.lst (l.map prD)):=by
 have e:b1D .sorted (.lst [.tup [.str x,.int i],.tup [.str y,.int j]])=.of ((if x=y then none else some (if ltS y x then[D.tup [.str y,.int j],.tup [.str x,.int i]]else[.tup [.str x,.int i],.tup [.str y,.int j]])).map fun r=>(true,D.lst r)):=rfl;rw[e,if_neg h]
 cases hc:ltS y x with
 | true=>exact⟨_,.inr rfl,by simp only[if_true,List.map_cons,List.map_nil,prD,Option.map_some,R.of]⟩
 | false=>exact⟨_,.inl rfl,by simp only[Bool.false_eq_true,if_false,List.map_cons,List.map_nil,prD,Option.map_some,R.of]⟩
set_option maxHeartbeats 1000000 in
theorem wX(w m:Nat)(c:Int)(k:Nat)(hk:k<=100)(r:Row)(hr:r.Ok)(Ns:List (List Nat))(h4:Ns.length=4)(hn:Ns.Nodup):∃t,At (nOf Ns) r k t/\(orc prg w (m+1)).fn 20 [.int c,.int (k:Int),rowD r,.lst (Ns.map .str)]=.ok (false,toD t):=by
 rw[bz (d:=f20) rfl];generalize orc prg w m=o;have ha1:=hr.a1;have ha2:=hr.a2;have hb1:=hr.b1;have hb2:=hr.b2
 have q0:∀(δ:Dst) (lk:Bool),δ[2]?=some (some (Own.sh,rowD r))->ev o δ lk (T.idx (T.var 2) (T.cst (D.int 0)))=.ok (false,.int (r.d:Int)):=fun δ lk h=>aN (ao h) aj (aP rfl rfl)
 have q1:∀(δ:Dst) (lk:Bool),δ[2]?=some (some (Own.sh,rowD r))->ev o δ lk (T.idx (T.var 2) (T.cst (D.int 1)))=.ok (false,.int (r.q:Int)):=fun δ lk h=>aN (ao h) aj (aP rfl rfl)
 have q2:∀(δ:Dst) (lk:Bool),δ[2]?=some (some (Own.sh,rowD r))->ev o δ lk (T.idx (T.var 2) (T.cst (D.int 2)))=.ok (false,.int (r.a:Int)):=fun δ lk h=>aN (ao h) aj (aP rfl rfl)
 have q3:∀(δ:Dst) (lk:Bool),δ[2]?=some (some (Own.sh,rowD r))->ev o δ lk (T.idx (T.var 2) (T.cst (D.int 3)))=.ok (false,.int (r.b:Int)):=fun δ lk h=>aN (ao h) aj (aP rfl rfl)
 generalize hL:D.lst (Ns.map .str)=L;generalize hR:rowD r=Rw at q0 q1 q2 q3
 have hix:∀j:Int,0<=j->j<4->idxD L (.int j)=.ok (false,.str (nOf Ns j.toNat)):=fun j h0 h1=>by rw[<-hL];exact uE h4 h0 h1
 have hb3:1<=bnd3 r.d/\bnd3 r.d<=3:=by unfold bnd3;omega
 have rj:=aF (c+(k:Int)) ((bnd3 r.d:Nat):Int) (by omega);obtain⟨j,hj⟩:=fD rj.1
 have s4:evS o (S.set 4 (T.idx (T.var 3) (T.op2 .mod (T.op2 .add (T.var 0) (T.var 1)) (T.b2 .max (T.cst (D.int 1)) (T.b2 .min (T.cst (D.int 3)) (T.idx (T.var 2) (T.cst (D.int 0)))))))) [some (.sh,.int c),some (.sh,.int (k:Int)),some (.sh,Rw),some (.sh,L),none,none,none,none]=.nx [some (.sh,.int c),some (.sh,.int (k:Int)),some (.sh,Rw),some (.sh,L),some (.sh,.str (nOf Ns j)),none,none,none]:=by
  refine aG (w:=false) (d:=.str (nOf Ns j)) (aN (ao rfl) (au (au (ao rfl) (ao rfl) (bM _ _)) (e_b2 aj (e_b2 aj (q0 _ _ rfl) (Je r.d)) (Jd _)) (bN _ _ ?_)) ?_) rfl
  ·show((bnd3 r.d:Nat):Int)≠0;omega
  ·show idxD L (.int ((c+(k:Int)).fmod ((bnd3 r.d:Nat):Int)))=_
   rw[hj,hix _ (by omega) (by omega)];rfl
 have hj3:j<bnd3 r.d:=by omega
 have hne:nOf Ns 3≠nOf Ns j:=fun e=>by have:=Ac h4 hn (by omega) (by omega) e;omega
 have hk1:(((k+1:Nat):Int)).natAbs.log2<9000:=by rw[Int.natAbs_natCast];exact lg (by omega)
 have ri:=aF (c.fdiv ((k+1:Nat):Int)) 4 (by omega)
 have lx:∀lk,ev o [some (.sh,.int c),some (.sh,.int (k:Int)),some (.sh,Rw),some (.sh,L),some (.sh,.str (nOf Ns j)),none,none,none] lk (T.lst (TL.cons (T.cst (D.int 1)) (TL.cons (T.neg (T.cst (D.int 1))) (TL.cons (T.cst (D.int 0)) (TL.cons (T.idx (T.var 2) (T.cst (D.int 2))) TL.nil)))))=.ok (true,.lst [.int 1,.int (-1),.int 0,.int (r.a:Int)]):=fun lk=>bL (aa rfl aj (aa rfl (mD aj) (aa rfl aj (aa rfl (q2 _ _ rfl) rfl)))) rfl
 have ix:ev o [some (.sh,.int c),some (.sh,.int (k:Int)),some (.sh,Rw),some (.sh,L),some (.sh,.str (nOf Ns j)),none,none,none] true (T.op2 .mod (T.op2 .fdiv (T.var 0) (T.op2 .add (T.var 1) (T.cst (D.int 1)))) (T.cst (D.int 4)))=.ok (false,.int ((c.fdiv ((k+1:Nat):Int)).fmod 4)) :=
  au (au (ao rfl) (au (ao rfl) aj (bM _ _)) (bu _ _ (by
   show(decide (((k:Nat):Int)+1≠0)&&decide (((k:Int)+1).natAbs.log2<9000))=true
   rw[Bool.and_eq_true];exact⟨decide_eq_true (by omega),decide_eq_true hk1⟩))) aj (bN _ _ (by decide))
 obtain⟨x,hx,ex⟩:∃x:Int,(x=1\/x=-1\/x=0\/x=(r.a:Int))/\evS o (S.set 5 (T.idx (T.lst (TL.cons (T.cst (D.int 1)) (TL.cons (T.neg (T.cst (D.int 1))) (TL.cons (T.cst (D.int 0)) (TL.cons (T.idx (T.var 2) (T.cst (D.int 2))) TL.nil))))) (T.op2 .mod (T.op2 .fdiv (T.var 0) (T.op2 .add (T.var 1) (T.cst (D.int 1)))) (T.cst (D.int 4))))) [some (.sh,.int c),some (.sh,.int (k:Int)),some (.sh,Rw),some (.sh,L),some (.sh,.str (nOf Ns j)),none,none,none]=.nx [some (.sh,.int c),some (.sh,.int (k:Int)),some (.sh,Rw),some (.sh,L),some (.sh,.str (nOf Ns j)),some (.sh,.int x),none,none]:=by
  generalize (c.fdiv ((k+1:Nat):Int)).fmod 4=i at ri ix
  have:i=0\/i=1\/i=2\/i=3:=by omega
  rcases this with rfl | rfl | rfl | rfl
  ·exact⟨1,by simp,aG (w:=false) (aN (lx _) ix (aC rfl rfl)) rfl⟩
  ·exact⟨-1,by simp,aG (w:=false) (aN (lx _) ix (aC rfl rfl)) rfl⟩
  ·exact⟨0,by simp,aG (w:=false) (aN (lx _) ix (aC rfl rfl)) rfl⟩
  ·exact⟨r.a,by simp,aG (w:=false) (aN (lx _) ix (aC rfl rfl)) rfl⟩
 obtain⟨n,hn0,hnB,es⟩:∃n:Int,(n=0/\k≠0\/n≠0/\n.natAbs ∣ r.a/\(k=0->n.natAbs=r.a))/\Bd n/\evS o (S.ifs (T.op2 .eq (T.var 1) (T.cst (D.int 0))) (SL.cons (S.set 5 (T.op2 .mul (T.idx (T.var 2) (T.cst (D.int 2))) (T.op2 .sub (T.cst (D.int 1)) (T.op2 .mul (T.cst (D.int 2)) (T.op2 .mod (T.var 0) (T.cst (D.int 2))))))) SL.nil) SL.nil) [some (.sh,.int c),some (.sh,.int (k:Int)),some (.sh,Rw),some (.sh,L),some (.sh,.str (nOf Ns j)),some (.sh,.int x),none,none]=.nx [some (.sh,.int c),some (.sh,.int (k:Int)),some (.sh,Rw),some (.sh,L),some (.sh,.str (nOf Ns j)),some (.sh,.int n),none,none]:=by
  have ec:ev o [some (.sh,.int c),some (.sh,.int (k:Int)),some (.sh,Rw),some (.sh,L),some (.sh,.str (nOf Ns j)),some (.sh,.int x),none,none] true (T.op2 .eq (T.var 1) (T.cst (D.int 0)))=.ok (false,.bl (decide ((k:Int)=0))):=au (ao rfl) aj (dW _ _);have bda:Bd (r.a:Int):=bR (by omega)
  by_cases k0:k=0
  ·have r2:=aF c 2 (by omega)
   have e1:ev o [some (.sh,.int c),some (.sh,.int (k:Int)),some (.sh,Rw),some (.sh,L),some (.sh,.str (nOf Ns j)),some (.sh,.int x),none,none] true (T.op2 .mod (T.var 0) (T.cst (D.int 2)))=.ok (false,.int (c.fmod 2)):=au (ao rfl) aj (bN _ _ (by decide))
   have fin:∀s:Int,(s=1\/s=-1)->ev o [some (.sh,.int c),some (.sh,.int (k:Int)),some (.sh,Rw),some (.sh,L),some (.sh,.str (nOf Ns j)),some (.sh,.int x),none,none] true (T.op2 .sub (T.cst (D.int 1)) (T.op2 .mul (T.cst (D.int 2)) (T.op2 .mod (T.var 0) (T.cst (D.int 2)))))=.ok (false,.int s)->∃n:Int,(n=0/\k≠0\/n≠0/\n.natAbs ∣ r.a/\(k=0->n.natAbs=r.a))/\Bd n/\evS o (S.ifs (T.op2 .eq (T.var 1) (T.cst (D.int 0))) (SL.cons (S.set 5 (T.op2 .mul (T.idx (T.var 2) (T.cst (D.int 2))) (T.op2 .sub (T.cst (D.int 1)) (T.op2 .mul (T.cst (D.int 2)) (T.op2 .mod (T.var 0) (T.cst (D.int 2))))))) SL.nil) SL.nil) [some (.sh,.int c),some (.sh,.int (k:Int)),some (.sh,Rw),some (.sh,L),some (.sh,.str (nOf Ns j)),some (.sh,.int x),none,none]=.nx [some (.sh,.int c),some (.sh,.int (k:Int)),some (.sh,Rw),some (.sh,L),some (.sh,.str (nOf Ns j)),some (.sh,.int n),none,none]:=fun s hs e2=>by
    have hab:((r.a:Int)*s).natAbs=r.a:=by rcases hs with rfl | rfl<;>omega
    refine⟨(r.a:Int)*s,.inr ⟨fun z=>?_,by rw[hab];exact Nat.dvd_refl _,fun _=>hab⟩,?_,ifsT ec (decide_eq_true (by omega)) (one (aG (w:=false) (au (q2 _ _ rfl) e2 (mulE (cZ bda ?_))) rfl))⟩
    ·rw[z]at hab;simp at hab;omega
    ·unfold Bd;rw[hab];omega
    ·rcases hs with rfl | rfl<;>(unfold Bd;decide)
   have hc2:c.fmod 2=0\/c.fmod 2=1:=by omega
   rcases hc2 with z | z
   ·rw[z]at e1;exact fin 1 (.inl rfl) (au aj (au aj e1 (mulE rfl)) rfl)
   ·rw[z]at e1;exact fin (-1) (.inr rfl) (au aj (au aj e1 (mulE rfl)) rfl)
  ·refine⟨x,?_,?_,ifsF ec (decide_eq_false (by omega)) rfl⟩
   ·rcases hx with rfl | rfl | rfl | rfl
    ·exact .inr ⟨by decide,Nat.one_dvd _,fun z=>absurd z k0⟩
    ·exact .inr ⟨by decide,Nat.one_dvd _,fun z=>absurd z k0⟩
    ·exact .inl ⟨rfl,k0⟩
    ·exact .inr ⟨by omega,by rw[Int.natAbs_natCast];exact Nat.dvd_refl _,fun z=>absurd z k0⟩
   ·rcases hx with rfl | rfl | rfl | rfl
    ·unfold Bd;decide
    ·unfold Bd;decide
    ·unfold Bd;decide
    ·exact bda
 have rf:=aF c 1000000 (by omega);have hfB:Bd (1+c.fmod 1000000):=ni (by omega) (by omega)
 have s6:evS o (S.set 6 (T.lst (TL.cons (T.tup (TL.cons (T.idx (T.var 3) (T.cst (D.int 3))) (TL.cons (T.op2 .add (T.cst (D.int 1)) (T.op2 .mod (T.var 0) (T.op2 .pow (T.cst (D.int 10)) (T.cst (D.int 6))))) TL.nil))) TL.nil))) [some (.sh,.int c),some (.sh,.int (k:Int)),some (.sh,Rw),some (.sh,L),some (.sh,.str (nOf Ns j)),some (.sh,.int n),none,none]=.nx [some (.sh,.int c),some (.sh,.int (k:Int)),some (.sh,Rw),some (.sh,L),some (.sh,.str (nOf Ns j)),some (.sh,.int n),some (.ow,.lst [.tup [.str (nOf Ns 3),.int (1+c.fmod 1000000)]]),none] :=
  aG (w:=true) (bL (aa rfl (bj (aa rfl (aN (ao rfl) aj (hix 3 (by omega) (by omega))) (aa rfl (au aj (au (ao rfl) (au aj aj (Ao rfl rfl)) (bN _ _ (by decide))) (bM _ _)) rfl)) rfl) rfl) rfl) rfl
 generalize hF:1+c.fmod 1000000=f at hfB s6
 obtain⟨l,Q,hl,e7,e8⟩:∃(l:List Pair) (Q:D),Pl (nOf Ns) r k l/\evS o (S.ifs (T.op2 .ne (T.var 5) (T.cst (D.int 0))) (SL.cons (S.append 6 (T.tup (TL.cons (T.var 4) (TL.cons (T.var 5) TL.nil)))) SL.nil) SL.nil) [some (.sh,.int c),some (.sh,.int (k:Int)),some (.sh,Rw),some (.sh,L),some (.sh,.str (nOf Ns j)),some (.sh,.int n),some (.ow,.lst [.tup [.str (nOf Ns 3),.int f]]),none]=.nx [some (.sh,.int c),some (.sh,.int (k:Int)),some (.sh,Rw),some (.sh,L),some (.sh,.str (nOf Ns j)),some (.sh,.int n),some (.ow,Q),none]/\b1D .sorted Q=.ok (true,.lst (l.map prD)):=by
  have ec:ev o [some (.sh,.int c),some (.sh,.int (k:Int)),some (.sh,Rw),some (.sh,L),some (.sh,.str (nOf Ns j)),some (.sh,.int n),some (.ow,.lst [.tup [.str (nOf Ns 3),.int f]]),none] true (T.op2 .ne (T.var 5) (T.cst (D.int 0)))=.ok (false,.bl (!(decide (n=0)))):=au (ao rfl) aj (mY _ _);rcases hn0 with⟨z,k0⟩ | ⟨z,hd,h0⟩
  ·exact⟨[(nOf Ns 3,f)],_,Ht hfB k0,ifsF ec (by rw[decide_eq_true z];rfl) rfl,xR _ _⟩
  ·obtain⟨l,hl,e⟩:=yd (i:=f) (j:=n) hne
   exact⟨l,_,Hu hfB hnB hj3 hd h0 hl,ifsT ec (by rw[decide_eq_false z];rfl) (one (uQ (bj (aa rfl (ao rfl) (aa rfl (ao rfl) rfl)) rfl) rfl (by simp))),e⟩
 have s7:evS o (S.set 7 (T.tup (TL.cons (T.op2 .sub (T.op2 .mod (T.var 0) (T.op2 .pow (T.cst (D.int 10)) (T.cst (D.int 30)))) (T.var 1)) (TL.cons (T.b1 .tuple (T.b1 .sorted (T.var 6))) TL.nil)))) [some (.sh,.int c),some (.sh,.int (k:Int)),some (.sh,Rw),some (.sh,L),some (.sh,.str (nOf Ns j)),some (.sh,.int n),some (.ow,Q),none]=.nx [some (.sh,.int c),some (.sh,.int (k:Int)),some (.sh,Rw),some (.sh,L),some (.sh,.str (nOf Ns j)),some (.sh,.int n),some (.ow,Q),some (.sh,smT (c.fmod (10 ^ 30)-(k:Int)) l)] :=
  aG (w:=false) (bj (aa rfl (au (au (ao rfl) (au aj aj (Ao rfl rfl)) (bN _ _ (by decide))) (ao rfl) (jQ _ _)) (aa rfl (e_b1 (e_b1 (bK rfl) e8) (eH _)) rfl)) rfl) rfl
 generalize c.fmod (10 ^ 30)-(k:Int)=C at s7
 have hLw:Lw l:=⟨Nat.le_trans hl.len (by omega),hl.bd⟩
 have go:∀t,(∃δ1,evSs o (SL.cons (S.ifs (T.and (T.op2 .gt (T.idx (T.var 2) (T.cst (D.int 3))) (T.cst (D.int 1))) (T.op2 .eq (T.var 1) (T.op2 .sub (T.idx (T.var 2) (T.cst (D.int 1))) (T.cst (D.int 1))))) (SL.cons (S.ret (T.tup (TL.cons (T.cst (D.str [114,101,115,116])) (TL.cons (T.idx (T.var 2) (T.cst (D.int 3))) (TL.cons (T.var 7) TL.nil))))) SL.nil) SL.nil) (SL.cons (S.ifs (T.op2 .eq (T.op2 .mod (T.op2 .add (T.op2 .fdiv (T.var 0) (T.cst (D.int 7))) (T.var 1)) (T.cst (D.int 3))) (T.cst (D.int 0))) (SL.cons (S.ret (T.tup (TL.cons (T.cst (D.str [114,101,115,116])) (TL.cons (T.cst (D.int 1)) (TL.cons (T.var 7) TL.nil))))) SL.nil) SL.nil) (SL.cons (S.ret (T.tup (TL.cons (T.cst (D.str [108,101,97,115,116])) (TL.cons (T.var 7) TL.nil)))) SL.nil))) [some (.sh,.int c),some (.sh,.int (k:Int)),some (.sh,Rw),some (.sh,L),some (.sh,.str (nOf Ns j)),some (.sh,.int n),some (.ow,Q),some (.sh,smT C l)]=.rt false (toD t) δ1)->dB o f20 [.int c,.int (k:Int),Rw,L]=.ok (false,toD t):=fun t h=>
  aA rfl rfl (stp _ s4 (stp _ ex (stp _ es (stp _ s6 (stp _ e7 (stp _ s7 h))))))
 have c1:ev o [some (.sh,.int c),some (.sh,.int (k:Int)),some (.sh,Rw),some (.sh,L),some (.sh,.str (nOf Ns j)),some (.sh,.int n),some (.ow,Q),some (.sh,smT C l)] true (T.op2 .gt (T.idx (T.var 2) (T.cst (D.int 3))) (T.cst (D.int 1)))=.ok (false,.bl (decide (1<(r.b:Int)))):=au (q3 _ _ rfl) aj (o_gt _ _);have c2:ev o [some (.sh,.int c),some (.sh,.int (k:Int)),some (.sh,Rw),some (.sh,L),some (.sh,.str (nOf Ns j)),some (.sh,.int n),some (.ow,Q),some (.sh,smT C l)] true (T.op2 .eq (T.var 1) (T.op2 .sub (T.idx (T.var 2) (T.cst (D.int 1))) (T.cst (D.int 1))))=.ok (false,.bl (decide ((k:Int)=(r.q:Int)-1))):=au (ao rfl) (au (q1 _ _ rfl) aj (jQ _ _)) (dW _ _);have c3:ev o [some (.sh,.int c),some (.sh,.int (k:Int)),some (.sh,Rw),some (.sh,L),some (.sh,.str (nOf Ns j)),some (.sh,.int n),some (.ow,Q),some (.sh,smT C l)] true (T.op2 .eq (T.op2 .mod (T.op2 .add (T.op2 .fdiv (T.var 0) (T.cst (D.int 7))) (T.var 1)) (T.cst (D.int 3))) (T.cst (D.int 0)))=.ok (false,.bl (decide ((c.fdiv 7+(k:Int)).fmod 3=0))):=au (au (au (au (ao rfl) aj (bu _ _ (by decide))) (ao rfl) (bM _ _)) aj (bN _ _ (by decide))) aj (dW _ _)
 have hw:∀(t:Stt),prs t=l->isA t=true->∀n,wf n t:=fun t e h n=>by
  cases t<;>first | (cases h;done) | skip
  all_goals(have:l=_:=e.symm;cases n<;>(rw[wf];rw[prs]at this;rw[<-this];exact hLw))
 by_cases hA:1<r.b/\k+1=r.q
 ·refine⟨.rest r.b C l,⟨rfl,hw _ rfl rfl,hl,by show(0:Int)<=r.b;omega,fun _=>by show((r.b:Int)).toNat ∣ r.b;rw[Int.toNat_natCast];exact Nat.dvd_refl _,fun _ _=>⟨rfl,Int.toNat_natCast _⟩⟩,go _ (stpR (ifT (eZ (by rw[decide_eq_true (show(1:Int)<r.b by omega)]at c1;exact c1) c2) (decide_eq_true (by omega)) (retR (bj (aa rfl aj (aa rfl (q3 _ _ rfl) (aa rfl (ao rfl) rfl))) rfl) rfl)))⟩
 ·obtain⟨b,hb,ec⟩:∃b,b=false/\ev o [some (.sh,.int c),some (.sh,.int (k:Int)),some (.sh,Rw),some (.sh,L),some (.sh,.str (nOf Ns j)),some (.sh,.int n),some (.ow,Q),some (.sh,smT C l)] true (T.and (T.op2 .gt (T.idx (T.var 2) (T.cst (D.int 3))) (T.cst (D.int 1))) (T.op2 .eq (T.var 1) (T.op2 .sub (T.idx (T.var 2) (T.cst (D.int 1))) (T.cst (D.int 1)))))=.ok (false,.bl b):=by
   by_cases hB:1<r.b
   ·rw[decide_eq_true (show(1:Int)<r.b by omega)]at c1
    exact⟨_,decide_eq_false (by omega),eZ c1 c2⟩
   ·rw[decide_eq_false (show ¬(1:Int)<r.b by omega)]at c1
    exact⟨false,rfl,qI c1⟩
  have no:k+1=r.q->1<r.b->False:=fun h1 h2=>hA ⟨h2,h1⟩
  by_cases hC:(c.fdiv 7+(k:Int)).fmod 3=0
  ·exact⟨.rest 1 C l,⟨rfl,hw _ rfl rfl,hl,by show(0:Int)<=1;omega,fun _=>Nat.one_dvd _,fun h1 h2=>(no h1 h2).elim⟩,go _ (stp _ (ifF ec hb) (stpR (ifT c3 (decide_eq_true hC) (retR (bj (aa rfl aj (aa rfl aj (aa rfl (ao rfl) rfl))) rfl) rfl))))⟩
  ·exact⟨.least C l,⟨rfl,hw _ rfl rfl,hl,by show(0:Int)<=1;omega,(fun h=>(nomatch h)),fun h1 h2=>(no h1 h2).elim⟩,go _ (stp _ (ifF ec hb) (stp _ (ifF c3 (decide_eq_false hC)) (stpR (retR (bj (aa rfl aj (aa rfl (ao rfl) rfl)) rfl) rfl))))⟩
end K16
namespace K16
open Z KG KM
theorem mG{α:Type} [DecidableEq α]:∀l:List α,(bD l).length<=l.length
 | []=>Nat.le_refl _
 | x::l=>by
   rw[bD];split
   ·exact Nat.le_trans (mG l) (Nat.le_succ _)
   ·exact Nat.succ_le_succ (mG l)
structure Gd(r:Row)(G:Stt):Prop where
 fits:Fits G r
 wf:wf 12 G
 sz:sz G<=60
 out:∀t∈ol G,KG.wf 12 t/\∀M N w,r.a ∣ M->r.b ∣ N->0<M->M<2 ^ 20->M<w->0<N->N<2 ^ 20->N<w->Mok t M N w
theorem Ep{f:Nat->Bool×Bool}{N:Nat->List Nat}{l n:Nat}{s:Stt}(h:wf n s):wf (n+2) (turn f N l s):=by
 unfold turn;split
 ·rw[wf,wf];exact h
 ·rw[wf];exact fZ h (by omega)
theorem oF{f:Nat->Bool×Bool}{N:Nat->List Nat}:∀{k l n:Nat} {s:Stt},wf n s->wf (n+2*k) (wrap f N l k s)
 | 0,_,_,_,h=>h
 | k+1,l,n,s,h=>by
   rw[wrap,show n+2*(k+1)=n+2+2*k by omega];exact oF (Ep h)
theorem Bc{f:Nat->Bool×Bool}{N:Nat->List Nat}{l:Nat}{s:Stt}:sz (turn f N l s)<=sz s+2:=by
 unfold turn;split
 ·rw[sz,sz];omega
 ·rw[sz];omega
theorem mU{f:Nat->Bool×Bool}{N:Nat->List Nat}:∀{k l:Nat} {s:Stt},sz (wrap f N l k s)<=sz s+2*k
 | 0,_,_=>Nat.le_refl _
 | k+1,l,s=>by
   rw[wrap];have:=mU (f:=f) (N:=N) (k:=k) (l:=l+1) (s:=turn f N l s);have:=Bc (f:=f) (N:=N) (l:=l) (s:=s);omega
theorem iJ{L:List (List Nat)}:∀{as:List Stt},(∀u∈as,(bx L u).length<=1)->(bxs L as).length<=as.length
 | [],_=>by rw[bxs];exact Nat.le_refl _
 | u::as,h=>by
   rw[bxs,List.length_append,List.length_cons];have:=h u List.mem_cons_self
   have:=iJ fun v hv=>h v (List.mem_cons_of_mem _ hv)
   omega
structure Row.As(N:Nat->List Nat)(r:Row)(as:List Stt):Prop where
 len:as.length=r.q
 all:∀u∈as,∃k,At N r k u
 first:∃u∈as,At N r 0 u
 last:∃u∈as,∃k,k+1=r.q/\At N r k u
theorem yW{N:Nat->List Nat}{r:Row}{as:List Stt}{l0:Nat}{s:Stt}(hr:r.Ok)(hN:∀i,i<3->N i≠N 3)(A:r.As N as)(B:Base N as l0 s)(f:Nat->Bool×Bool)(hl:l0=0\/l0=1/\1<r.d)(hw:wf 3 s)(hz:sz s<=r.q+5):Gd r (wrap f N l0 (r.d-l0) s):=by
 have d4:=hr.d4;have q2:=hr.q2
 have hle:l0<=r.d:=by omega
 have free:∀{n:Nat} {x:List Nat},(∃i,i<n/\x=N (i % 3))->x≠N 3:=fun{n x} ⟨i,_,e⟩=>e▸hN _ (Nat.mod_lt _ (by omega))
 obtain⟨g1,g2,g3⟩:=dH B f (r.d-l0)
 have ha:r.d≠0->bv (wrap f N l0 (r.d-l0) s)=r.a:=fun h0=>by
  refine Lb (fun t ht p hp hb=>?_) (.inl ?_)
  ·rw[g1]at ht
   obtain⟨k,At⟩:=A.all t ht;exact At.pl.fr p hp (free ((g3 _).mp hb))
  ·obtain⟨u,hu,At⟩:=A.first
   obtain⟨p,hp,j,hj,e1,e2⟩:=At.pl.first rfl;refine⟨u,by rw[g1];exact hu,p,hp,(g3 _).mpr ⟨j,?_,?_⟩,e2⟩
   ·unfold bnd3 at hj;omega
   ·rw[e1,Nat.mod_eq_of_lt (by unfold bnd3 at hj;omega)]
 have hb:r.d≠0->rv (wrap f N l0 (r.d-l0) s)=r.b:=fun h0=>by
  refine LR (fun t ht hR=>?_) ?_
  ·rw[g1]at ht
   obtain⟨k,At⟩:=A.all t ht;exact At.dvd hR
  ·by_cases h1:1<r.b
   ·obtain⟨u,hu,k,hk,At⟩:=A.last
    exact .inl ⟨u,by rw[g1];exact hu,At.last hk h1⟩
   ·have:=hr.b1
    exact .inr (by omega)
 refine⟨qU B f r hle (by omega) A.len ha hb,fZ (oF hw) (by omega),Nat.le_trans mU (by omega),fun t ht=>?_⟩
 by_cases h0:r.d=0
 ·have e:r.d-l0=0:=by omega
  rw[e,wrap,B.ol (by omega)]at ht;exact(nomatch ht)
 obtain⟨n,hn⟩:∃n,r.d-l0=n+1:=⟨r.d-l0-1,by omega⟩
 rw[hn,nR,List.mem_singleton]at ht;subst ht;obtain⟨o1,o2,o3⟩:=dH B f n
 have hsz:sz (.trn (f (l0+n)).1 (N ((l0+n) % 3)) (wrap f N l0 n s))<=60:=by
  rw[sz];have:=mU (f:=f) (N:=N) (k:=n) (l:=l0) (s:=s);omega
 have hat:ats (.trn (f (l0+n)).1 (N ((l0+n) % 3)) (wrap f N l0 n s))=as:=by rw[di,o1]
 have hbn:∀x,x∈bn (.trn (f (l0+n)).1 (N ((l0+n) % 3)) (wrap f N l0 n s))->x≠N 3:=fun x hx=>by
  rw[gW,List.mem_cons]at hx;rcases hx with e | hx
  ·exact free ⟨l0+n,Nat.lt_succ_self _,e⟩
  ·exact free ((o3 x).mp hx)
 refine⟨fZ (n:=3+2*n+1) (by rw[wf];exact oF hw) (by omega),fun M K w hM hK m0 m1 m2 k0 k1 k2=>⟨by omega,?_,fun a h=>?_,fun x hx=>?_,?_,fun a h=>?_,fun x hx=>?_,?_,m0,m1,m2,k0,k1,k2⟩⟩
 ·have:=mG (bn (.trn (f (l0+n)).1 (N ((l0+n) % 3)) (wrap f N l0 n s)))
  have:=zJ (.trn (f (l0+n)).1 (N ((l0+n) % 3)) (wrap f N l0 n s));omega
 ·rw[hat]at h
  obtain⟨k,At⟩:=A.all a h;exact Nat.le_trans At.pl.len (by omega)
 ·obtain⟨u,hu,p,hp,hL,rfl⟩:=(jJ _ x _).mp hx
  rw[hat]at hu;obtain⟨k,At⟩:=A.all u hu;exact Nat.dvd_trans (At.pl.fr p hp (hbn _ ((gj _ _).mp hL))) hM
 ·refine Nat.lt_of_le_of_lt (mG _) ?_
  rw[List.length_map];refine Nat.lt_of_le_of_lt (iJ fun u hu=>?_) (?_:(ats (.trn (f (l0+n)).1 (N ((l0+n) % 3)) (wrap f N l0 n s))).length<64)
  ·rw[hat]at hu
   obtain⟨k,At⟩:=A.all u hu;unfold bx;rw[List.length_map]
   exact At.pl.one _ fun z=>hbn _ ((gj _ _).mp z) rfl
  ·rw[hat,A.len];omega
 ·rw[hat]at h
  obtain⟨k,At⟩:=A.all a h;exact At.dv0
 ·obtain⟨u,hu,hR,rfl⟩:=(vM _ x).mp hx
  rw[hat]at hu;obtain⟨k,At⟩:=A.all u hu;exact Nat.dvd_trans (At.dvd hR) hK
 ·refine Nat.lt_of_le_of_lt (mG _) ?_
  rw[List.length_map];unfold rn;rw[List.length_map];refine Nat.lt_of_le_of_lt (List.length_filter_le _ _) ?_;rw[hat,A.len];omega
end K16
namespace K16
open Z KG KM P16
noncomputable def fOf(c:Int)(l:Nat):Bool×Bool:=(decide ((c.fdiv ((l+2:Nat):Int)).fmod 2=1),decide ((c.fdiv ((l+3:Nat):Int)).fmod 3=0))
noncomputable def whC:T:=(T.op2 .lt (T.var 6) (T.idx (T.var 1) (T.cst (D.int 0))))
noncomputable def whB:SL:=(SL.cons (S.set 5 (T.tup (TL.cons (T.idx (T.lst (TL.cons (T.cst (D.str [115,111,109,101])) (TL.cons (T.cst (D.str [97,108,108])) TL.nil))) (T.op2 .mod (T.op2 .fdiv (T.var 0) (T.op2 .add (T.var 6) (T.cst (D.int 2)))) (T.cst (D.int 2)))) (TL.cons (T.idx (T.var 2) (T.op2 .mod (T.var 6) (T.cst (D.int 3)))) (TL.cons (T.var 5) TL.nil))))) (SL.cons (S.ifs (T.op2 .eq (T.op2 .mod (T.op2 .fdiv (T.var 0) (T.op2 .add (T.var 6) (T.cst (D.int 3)))) (T.cst (D.int 3))) (T.cst (D.int 0))) (SL.cons (S.set 5 (T.tup (TL.cons (T.cst (D.str [110,111,116])) (TL.cons (T.var 5) TL.nil)))) SL.nil) SL.nil) (SL.cons (S.set 6 (T.op2 .add (T.var 6) (T.cst (D.int 1)))) SL.nil)))
theorem Be(o:Orc)(c:Int)(Rw:D)(Ns:List (List Nat))(h4:Ns.length=4)(A B z:Option Slot)(l:Nat)(hl:l<=100)(s:Stt):evSs o whB [some (.sh,.int c),some (.sh,Rw),some (.sh,.lst (Ns.map .str)),A,B,some (.sh,toD s),some (.sh,.int (l:Int)),z]=.nx [some (.sh,.int c),some (.sh,Rw),some (.sh,.lst (Ns.map .str)),A,B,some (.sh,toD (turn (fOf c) (nOf Ns) l s)),some (.sh,.int ((l+1:Nat):Int)),z]:=by
 generalize hL:D.lst (Ns.map .str)=L
 have hix:∀j:Int,0<=j->j<4->idxD L (.int j)=.ok (false,.str (nOf Ns j.toNat)):=fun j h0 h1=>by rw[<-hL];exact uE h4 h0 h1
 have fd:∀(n:Nat),0<n->n<2 ^ 50->o2 .fdiv (.int c) (.int (n:Int))=.ok (false,.int (c.fdiv (n:Int))):=fun n h0 h1=>by
  refine bu _ _ ?_;rw[Bool.and_eq_true];exact⟨decide_eq_true (by omega),decide_eq_true (by rw[Int.natAbs_natCast];exact lg (by omega))⟩
 have r2:=aF (c.fdiv ((l+2:Nat):Int)) 2 (by omega)
 have rl:((l:Int)).fmod 3=((l % 3:Nat):Int):=by rw[Int.fmod_eq_emod_of_nonneg _ (by omega)];rfl
 have l3:l % 3<3:=Nat.mod_lt _ (by omega)
 have e1:ev o [some (.sh,.int c),some (.sh,Rw),some (.sh,L),A,B,some (.sh,toD s),some (.sh,.int (l:Int)),z] true (T.op2 .mod (T.op2 .fdiv (T.var 0) (T.op2 .add (T.var 6) (T.cst (D.int 2)))) (T.cst (D.int 2)))=.ok (false,.int ((c.fdiv ((l+2:Nat):Int)).fmod 2)) :=
  au (au (ao rfl) (au (ao rfl) aj (bM _ _)) (fd (l+2) (by omega) (by omega))) aj (bN _ _ (by decide))
 have e2:ev o [some (.sh,.int c),some (.sh,Rw),some (.sh,L),A,B,some (.sh,toD s),some (.sh,.int (l:Int)),z] false (T.idx (T.lst (TL.cons (T.cst (D.str [115,111,109,101])) (TL.cons (T.cst (D.str [97,108,108])) TL.nil))) (T.op2 .mod (T.op2 .fdiv (T.var 0) (T.op2 .add (T.var 6) (T.cst (D.int 2)))) (T.cst (D.int 2))))=.ok (false,.str (tww (fOf c l).1)):=by
  unfold fOf;generalize (c.fdiv ((l+2:Nat):Int)).fmod 2=i at r2 e1
  have:i=0\/i=1:=by omega
  rcases this with rfl | rfl
  all_goals(exact aN (bL (aa rfl aj (aa rfl aj rfl)) rfl) e1 (aC rfl rfl))
 have e3:ev o [some (.sh,.int c),some (.sh,Rw),some (.sh,L),A,B,some (.sh,toD s),some (.sh,.int (l:Int)),z] false (T.idx (T.var 2) (T.op2 .mod (T.var 6) (T.cst (D.int 3))))=.ok (false,.str (nOf Ns (l % 3))):=by
  refine aN (ao rfl) (au (ao rfl) aj (bN _ _ (by decide))) ?_;rw[rl,hix _ (by omega) (by omega)];rfl
 have s5:evS o (S.set 5 (T.tup (TL.cons (T.idx (T.lst (TL.cons (T.cst (D.str [115,111,109,101])) (TL.cons (T.cst (D.str [97,108,108])) TL.nil))) (T.op2 .mod (T.op2 .fdiv (T.var 0) (T.op2 .add (T.var 6) (T.cst (D.int 2)))) (T.cst (D.int 2)))) (TL.cons (T.idx (T.var 2) (T.op2 .mod (T.var 6) (T.cst (D.int 3)))) (TL.cons (T.var 5) TL.nil))))) [some (.sh,.int c),some (.sh,Rw),some (.sh,L),A,B,some (.sh,toD s),some (.sh,.int (l:Int)),z]=.nx [some (.sh,.int c),some (.sh,Rw),some (.sh,L),A,B,some (.sh,toD (.trn (fOf c l).1 (nOf Ns (l % 3)) s)),some (.sh,.int (l:Int)),z] :=
  aG (w:=false) (d:=toD (.trn (fOf c l).1 (nOf Ns (l % 3)) s)) (by rw[toD];exact bj (aa rfl e2 (aa rfl e3 (aa rfl (ao rfl) rfl))) rfl) rfl
 have ec:∀X:D,ev o [some (.sh,.int c),some (.sh,Rw),some (.sh,L),A,B,some (.sh,X),some (.sh,.int (l:Int)),z] true (T.op2 .eq (T.op2 .mod (T.op2 .fdiv (T.var 0) (T.op2 .add (T.var 6) (T.cst (D.int 3)))) (T.cst (D.int 3))) (T.cst (D.int 0)))=.ok (false,.bl (fOf c l).2):=fun X=>
  au (au (au (ao rfl) (au (ao rfl) aj (bM _ _)) (fd (l+3) (by omega) (by omega))) aj (bN _ _ (by decide))) aj (dW _ _)
 have s6:∀X:D,evS o (S.set 6 (T.op2 .add (T.var 6) (T.cst (D.int 1)))) [some (.sh,.int c),some (.sh,Rw),some (.sh,L),A,B,some (.sh,X),some (.sh,.int (l:Int)),z]=.nx [some (.sh,.int c),some (.sh,Rw),some (.sh,L),A,B,some (.sh,X),some (.sh,.int ((l+1:Nat):Int)),z]:=fun X=>aG (w:=false) (au (ao rfl) aj (bM _ _)) rfl
 have tn:∀u,toD (.nt u)=.tup [.str [110,111,116],toD u]:=fun u=>by rw[toD];rfl
 unfold whB;rw[bC s5]
 cases hf:(fOf c l).2 with
 | true=>
   have ht:turn (fOf c) (nOf Ns) l s=.nt (.trn (fOf c l).1 (nOf Ns (l % 3)) s):=by unfold turn;rw[hf];rfl
   have sN:evS o (S.ifs (T.op2 .eq (T.op2 .mod (T.op2 .fdiv (T.var 0) (T.op2 .add (T.var 6) (T.cst (D.int 3)))) (T.cst (D.int 3))) (T.cst (D.int 0))) (SL.cons (S.set 5 (T.tup (TL.cons (T.cst (D.str [110,111,116])) (TL.cons (T.var 5) TL.nil)))) SL.nil) SL.nil) [some (.sh,.int c),some (.sh,Rw),some (.sh,L),A,B,some (.sh,toD (.trn (fOf c l).1 (nOf Ns (l % 3)) s)),some (.sh,.int (l:Int)),z]=.nx [some (.sh,.int c),some (.sh,Rw),some (.sh,L),A,B,some (.sh,toD (.nt (.trn (fOf c l).1 (nOf Ns (l % 3)) s))),some (.sh,.int (l:Int)),z] :=
    (by rw[tn];exact ifsT (ec _) hf (one (aG (w:=false) (bj (aa rfl aj (aa rfl (ao rfl) rfl)) rfl) rfl)))
   rw[bC sN,bC (s6 _),ht];rfl
 | false=>
   have ht:turn (fOf c) (nOf Ns) l s=.trn (fOf c l).1 (nOf Ns (l % 3)) s:=by unfold turn;rw[hf];rfl
   rw[bC (ifsF (ec _) hf rfl),bC (s6 _),ht];rfl
theorem zN(o:Orc)(c:Int)(r:Row)(Ns:List (List Nat))(h4:Ns.length=4)(A B z:Option Slot):∀(n l:Nat) (s:Stt) (u:Nat),l+n=r.d->n<u->r.d<=50->cz (fun δ=>ev o δ true whC) (evSs o whB) u [some (.sh,.int c),some (.sh,rowD r),some (.sh,.lst (Ns.map .str)),A,B,some (.sh,toD s),some (.sh,.int (l:Int)),z]=.nx [some (.sh,.int c),some (.sh,rowD r),some (.sh,.lst (Ns.map .str)),A,B,some (.sh,toD (wrap (fOf c) (nOf Ns) l n s)),some (.sh,.int (r.d:Int)),z]
 | n,l,s,u,hd,hu,h50=>by
   obtain⟨u,rfl⟩:∃v,u=v+1:=⟨u-1,by omega⟩
   have ec:ev o [some (.sh,.int c),some (.sh,rowD r),some (.sh,.lst (Ns.map .str)),A,B,some (.sh,toD s),some (.sh,.int (l:Int)),z] true whC=.ok (false,.bl (decide ((l:Int)<(r.d:Int)))):=au (ao rfl) (aN (ao rfl) aj (aP rfl rfl)) (o_lt _ _);rw[cz];simp only[ec,R.bind,truth,R.of,SO.of]
   cases n with
   | zero=>
     have:l=r.d:=by omega
     subst this;rw[decide_eq_false (by omega)];rfl
   | succ n=>
     rw[decide_eq_true (by omega)];simp only[if_true,Be o c (rowD r) Ns h4 A B z l (by omega) s];exact zN o c r Ns h4 A B z n (l+1) (turn (fOf c) (nOf Ns) l s) u (by omega) (by omega) h50
end K16
namespace K16
open Z KG KM P16
theorem xM{N:Nat->List Nat}{r:Row}{as:List Stt}(A:r.As N as):∀u∈as,isA u=true/\∀n,wf n u:=fun u hu=>by
 obtain⟨k,h⟩:=A.all u hu;exact⟨h.isA,h.wf⟩
theorem fB:∀{as:List Stt},(∀u∈as,isA u=true)->szs as=as.length
 | [],_=>by rw[szs];rfl
 | u::as,h=>by
   rw[szs,fB fun v hv=>h v (List.mem_cons_of_mem _ hv),List.length_cons]
   have:sz u=1:=by
    have:=h u List.mem_cons_self
    cases u<;>first | (cases this;done) | rw[sz]
   omega
set_option maxHeartbeats 1000000 in
theorem uo(w m:Nat)(hw:10<=w)(c:Int)(r:Row)(hr:r.Ok)(Ns:List (List Nat))(h4:Ns.length=4)(hn:Ns.Nodup):∃G,Gd r G/\(orc prg w (m+2)).fn 21 [.int c,rowD r,.lst (Ns.map .str)]=.ok (false,toD G):=by
 rw[bz (d:=f21) rfl];have hq1:=hr.q1;have hq2:=hr.q2;have hd4:=hr.d4
 have H:∀k,k<r.q->∃t,At (nOf Ns) r k t/\(orc prg w (m+1)).fn 20 [.int c,.int (k:Int),rowD r,.lst (Ns.map .str)]=.ok (false,toD t):=fun k hk=>wX w m c k (by omega) r hr Ns h4 hn
 obtain⟨g,hg⟩:∃g:Nat->Stt,∀k,k<r.q->At (nOf Ns) r k (g k)/\(orc prg w (m+1)).fn 20 [.int c,.int (k:Int),rowD r,.lst (Ns.map .str)]=.ok (false,toD (g k)):=by
  refine⟨fun k=>if h:k<r.q then Classical.choose (H k h)else .least 0 [],fun k hk=>?_⟩;have e:(if h:k<r.q then Classical.choose (H k h)else Stt.least 0 [])=Classical.choose (H k hk):=dif_pos hk;show At (nOf Ns) r k (if h:k<r.q then Classical.choose (H k h)else Stt.least 0 [])/\(orc prg w (m+1)).fn 20 [.int c,.int (k:Int),rowD r,.lst (Ns.map .str)]=.ok (false,toD (if h:k<r.q then Classical.choose (H k h)else Stt.least 0 []));rw[e];exact Classical.choose_spec (H k hk)
 have ow:(orc prg w (m+1)).w=w:=Gx prg w (m+1);generalize orc prg w (m+1)=o at hg ow ⊢
 obtain⟨as,has⟩:∃as,as=(List.range r.q).map g:=⟨_,rfl⟩
 have hlen:as.length=r.q:=by rw[has,List.length_map,List.length_range]
 have A:r.As (nOf Ns) as:=by
  have mem:∀k,k<r.q->g k∈as:=fun k hk=>by rw[has];exact List.mem_map_of_mem (List.mem_range.mpr hk)
  refine⟨hlen,fun u hu=>?_,⟨g 0,mem 0 (by omega),(hg 0 (by omega)).1⟩,⟨g (r.q-1),mem _ (by omega),r.q-1,by omega,(hg _ (by omega)).1⟩⟩;rw[has]at hu;obtain⟨k,hk,rfl⟩:=List.mem_map.mp hu;exact⟨k,(hg k (List.mem_range.mp hk)).1⟩
 have hA:=xM A
 have h0:as[0]?=some (g 0):=by
  rw[has,List.getElem?_map,List.getElem?_range (by omega)];rfl
 have s3:evS o (S.set 3 (T.comp [0,1,2] 1 false (TI.rng1 (T.idx (T.var 1) (T.cst (D.int 1)))) (T.cst (D.bl true)) (T.call 20 (TL.cons (T.var 1) (TL.cons (T.var 0) (TL.cons (T.var 2) (TL.cons (T.var 3) TL.nil))))))) [some (.sh,.int c),some (.sh,rowD r),some (.sh,.lst (Ns.map .str)),none,none,none,none,none]=.nx [some (.sh,.int c),some (.sh,rowD r),some (.sh,.lst (Ns.map .str)),some (.ow,.lst (as.map toD)),none,none,none,none]:=by
  refine aG (w:=true) (d:=.lst (as.map toD)) (iQ _ _ _ _ [0,1,2] [.int c,rowD r,.lst (Ns.map .str)] ((List.range r.q).map fun(k:Nat)=>D.int (k:Int)) _ 1 false _ _ ?_ rfl rfl (by rw[List.length_map];omega) ?_) rfl
  ·have e:ev o [some (.sh,.int c),some (.sh,rowD r),some (.sh,.lst (Ns.map .str)),none,none,none,none,none] true (T.idx (T.var 1) (T.cst (D.int 1)))=.ok (false,.int (r.q:Int)):=aN (ao rfl) aj (aP rfl rfl)
   have hin:inR (r.q:Int)=true:=by unfold inR;rw[Bool.and_eq_true];exact⟨decide_eq_true (by omega),decide_eq_true (by omega)⟩
   have er:rngD 0 (r.q:Int)=(List.range r.q).map fun(k:Nat)=>D.int (k:Int):=by
    unfold rngD
    have:((r.q:Int)-0).toNat=r.q:=by omega
    rw[this]
    exact List.map_congr_left fun k _=>by rw[Int.zero_add]
   simp only[evI,e,R.bind,hin,R.chk,if_true,er]
  ·rw[has,List.map_map]
   exact cH (fun k _=>aj) fun k hk=>⟨false,aB (aa rfl (ao rfl) (aa rfl (ao rfl) (aa rfl (ao rfl) (aa rfl (ao rfl) rfl)))) (hg k (List.mem_range.mp hk)).2⟩
 have r2:=aF (c.fdiv 3) 2 (by omega)
 obtain⟨wb,s4⟩:∃wb:Bool,evS o (S.set 4 (T.idx (T.lst (TL.cons (T.cst (D.str [97,110,100])) (TL.cons (T.cst (D.str [111,114])) TL.nil))) (T.op2 .mod (T.op2 .fdiv (T.var 0) (T.cst (D.int 3))) (T.cst (D.int 2))))) [some (.sh,.int c),some (.sh,rowD r),some (.sh,.lst (Ns.map .str)),some (.ow,.lst (as.map toD)),none,none,none,none]=.nx [some (.sh,.int c),some (.sh,rowD r),some (.sh,.lst (Ns.map .str)),some (.ow,.lst (as.map toD)),some (.sh,.str (gw wb)),none,none,none]:=by
  have e1:ev o [some (.sh,.int c),some (.sh,rowD r),some (.sh,.lst (Ns.map .str)),some (.ow,.lst (as.map toD)),none,none,none,none] true (T.op2 .mod (T.op2 .fdiv (T.var 0) (T.cst (D.int 3))) (T.cst (D.int 2)))=.ok (false,.int ((c.fdiv 3).fmod 2)):=au (au (ao rfl) aj (bu _ _ (by decide))) aj (bN _ _ (by decide));generalize (c.fdiv 3).fmod 2=i at r2 e1
  have:i=0\/i=1:=by omega
  rcases this with rfl | rfl
  ·exact⟨false,aG (w:=false) (aN (bL (aa rfl aj (aa rfl aj rfl)) rfl) e1 (aC rfl rfl)) rfl⟩
  ·exact⟨true,aG (w:=false) (aN (bL (aa rfl aj (aa rfl aj rfl)) rfl) e1 (aC rfl rfl)) rfl⟩
 have s5:evS o (S.set 5 (T.idx (T.var 3) (T.cst (D.int 0)))) [some (.sh,.int c),some (.sh,rowD r),some (.sh,.lst (Ns.map .str)),some (.ow,.lst (as.map toD)),some (.sh,.str (gw wb)),none,none,none]=.nx [some (.sh,.int c),some (.sh,rowD r),some (.sh,.lst (Ns.map .str)),some (.ow,.lst (as.map toD)),some (.sh,.str (gw wb)),some (.sh,toD (g 0)),none,none] :=
  aG (w:=false) (aN (bK rfl) aj (aC (by show(as.map toD)[0]?=_;rw[List.getElem?_map,h0];rfl) rfl)) rfl
 have tg:∀ss:List Stt,toD (.grp wb ss)=.tup [.str (gw wb),.tup (ss.map toD)]:=fun ss=>by rw[toD,gO]
 have ln:∀(δ:Dst),δ[3]?=some (some (Own.ow,.lst (as.map toD)))->ev o δ true (T.op2 .gt (T.b1 .len (T.var 3)) (T.cst (D.int 1)))=.ok (false,.bl (decide (1<(r.q:Int)))):=fun δ h=>au (e_b1 (bK h) (eX _)) aj (by rw[List.length_map,hlen];exact o_gt _ _)
 obtain⟨s,Bs,hws,hzs,s5'⟩:∃s,Base (nOf Ns) as 0 s/\wf 3 s/\sz s<=r.q+5/\evS o (S.ifs (T.op2 .gt (T.b1 .len (T.var 3)) (T.cst (D.int 1))) (SL.cons (S.set 5 (T.tup (TL.cons (T.var 4) (TL.cons (T.b1 .tuple (T.var 3)) TL.nil)))) SL.nil) SL.nil) [some (.sh,.int c),some (.sh,rowD r),some (.sh,.lst (Ns.map .str)),some (.ow,.lst (as.map toD)),some (.sh,.str (gw wb)),some (.sh,toD (g 0)),none,none]=.nx [some (.sh,.int c),some (.sh,rowD r),some (.sh,.lst (Ns.map .str)),some (.ow,.lst (as.map toD)),some (.sh,.str (gw wb)),some (.sh,toD s),none,none]:=by
  by_cases h1:1<r.q
  ·refine⟨.grp wb as,wF _ wb as fun u hu=>(hA u hu).1,?_,?_,ifsT (ln _ rfl) (decide_eq_true (by omega)) (one (aG (w:=false) (d:=toD (.grp wb as)) ?_ rfl))⟩
   ·rw[wf];exact⟨by omega,fun u hu=>(hA u hu).2 2⟩
   ·rw[sz,fB fun u hu=>(hA u hu).1];omega
   ·rw[tg];exact bj (aa rfl (ao rfl) (aa rfl (e_b1 (bK rfl) (eH _)) rfl)) rfl
  ·have e1:as=[g 0]:=by
    have:as.length=1:=by omega
    match as,this,h0 with
    | [x],_,h0=>simp at h0;rw[h0]
   have hg0:=(hg 0 (by omega)).1;refine⟨g 0,by rw[e1];exact wG _ _ hg0.isA,hg0.wf 3,?_,ifsF (ln _ rfl) (decide_eq_false (by omega)) rfl⟩;have:=hg0.isA
   cases hgz:g 0<;>rw[hgz]at this<;>first | (cases this;done) | (rw[sz];omega)
 have s6:evS o (S.set 6 (T.cst (D.int 0))) [some (.sh,.int c),some (.sh,rowD r),some (.sh,.lst (Ns.map .str)),some (.ow,.lst (as.map toD)),some (.sh,.str (gw wb)),some (.sh,toD s),none,none]=.nx [some (.sh,.int c),some (.sh,rowD r),some (.sh,.lst (Ns.map .str)),some (.ow,.lst (as.map toD)),some (.sh,.str (gw wb)),some (.sh,toD s),some (.sh,.int ((0:Nat):Int)),none]:=aG (w:=false) aj rfl
 obtain⟨l0,s',z,Bs',hl0,hws',hzs',s7⟩:∃(l0:Nat) (s':Stt) (z:Option Slot),Base (nOf Ns) as l0 s'/\(l0=0\/l0=1/\1<r.d)/\wf 3 s'/\sz s'<=r.q+5/\evS o (S.ifs (T.and (T.op2 .gt (T.b1 .len (T.var 3)) (T.cst (D.int 1))) (T.and (T.op2 .gt (T.idx (T.var 1) (T.cst (D.int 0))) (T.cst (D.int 1))) (T.op2 .eq (T.op2 .mod (T.op2 .fdiv (T.var 0) (T.cst (D.int 5))) (T.cst (D.int 2))) (T.cst (D.int 1))))) (SL.cons (S.set 7 (T.op2 .add (T.cst (D.int 1)) (T.op2 .mod (T.op2 .fdiv (T.var 0) (T.cst (D.int 7))) (T.op2 .sub (T.b1 .len (T.var 3)) (T.cst (D.int 1)))))) (SL.cons (S.set 5 (T.tup (TL.cons (T.var 4) (TL.cons (T.tup (TL.cons (T.tup (TL.cons (T.cst (D.str [115,111,109,101])) (TL.cons (T.idx (T.var 2) (T.cst (D.int 0))) (TL.cons (T.tup (TL.cons (T.var 4) (TL.cons (T.b1 .tuple (T.slc (T.var 3) (T.cst D.non) (T.var 7))) TL.nil))) TL.nil)))) (TL.cons (T.tup (TL.cons (T.cst (D.str [97,108,108])) (TL.cons (T.idx (T.var 2) (T.cst (D.int 0))) (TL.cons (T.tup (TL.cons (T.var 4) (TL.cons (T.b1 .tuple (T.slc (T.var 3) (T.var 7) (T.cst D.non))) TL.nil))) TL.nil)))) TL.nil))) TL.nil)))) (SL.cons (S.set 6 (T.cst (D.int 1))) SL.nil))) SL.nil) [some (.sh,.int c),some (.sh,rowD r),some (.sh,.lst (Ns.map .str)),some (.ow,.lst (as.map toD)),some (.sh,.str (gw wb)),some (.sh,toD s),some (.sh,.int ((0:Nat):Int)),none]=.nx [some (.sh,.int c),some (.sh,rowD r),some (.sh,.lst (Ns.map .str)),some (.ow,.lst (as.map toD)),some (.sh,.str (gw wb)),some (.sh,toD s'),some (.sh,.int (l0:Int)),z]:=by
  have d1:ev o [some (.sh,.int c),some (.sh,rowD r),some (.sh,.lst (Ns.map .str)),some (.ow,.lst (as.map toD)),some (.sh,.str (gw wb)),some (.sh,toD s),some (.sh,.int ((0:Nat):Int)),none] true (T.op2 .gt (T.idx (T.var 1) (T.cst (D.int 0))) (T.cst (D.int 1)))=.ok (false,.bl (decide (1<(r.d:Int)))):=au (aN (ao rfl) aj (aP rfl rfl)) aj (o_gt _ _);have d2:ev o [some (.sh,.int c),some (.sh,rowD r),some (.sh,.lst (Ns.map .str)),some (.ow,.lst (as.map toD)),some (.sh,.str (gw wb)),some (.sh,toD s),some (.sh,.int ((0:Nat):Int)),none] true (T.op2 .eq (T.op2 .mod (T.op2 .fdiv (T.var 0) (T.cst (D.int 5))) (T.cst (D.int 2))) (T.cst (D.int 1)))=.ok (false,.bl (decide ((c.fdiv 5).fmod 2=1))):=au (au (au (ao rfl) aj (bu _ _ (by decide))) aj (bN _ _ (by decide))) aj (dW _ _)
  by_cases h1:1<r.q
  case neg=>
   have e:=ln [some (.sh,.int c),some (.sh,rowD r),some (.sh,.lst (Ns.map .str)),some (.ow,.lst (as.map toD)),some (.sh,.str (gw wb)),some (.sh,toD s),some (.sh,.int ((0:Nat):Int)),none] rfl;rw[decide_eq_false (show ¬(1:Int)<r.q by omega)]at e;exact⟨0,s,none,Bs,.inl rfl,hws,hzs,ifF (qI e) rfl⟩
  have e:=ln [some (.sh,.int c),some (.sh,rowD r),some (.sh,.lst (Ns.map .str)),some (.ow,.lst (as.map toD)),some (.sh,.str (gw wb)),some (.sh,toD s),some (.sh,.int ((0:Nat):Int)),none] rfl;rw[decide_eq_true (show(1:Int)<r.q by omega)]at e
  by_cases h2:1<r.d
  case neg=>
   rw[decide_eq_false (show ¬(1:Int)<r.d by omega)]at d1;exact⟨0,s,none,Bs,.inl rfl,hws,hzs,ifF (eZ e (qI d1)) rfl⟩
  rw[decide_eq_true (show(1:Int)<r.d by omega)]at d1
  by_cases h3:(c.fdiv 5).fmod 2=1
  case neg=>exact⟨0,s,none,Bs,.inl rfl,hws,hzs,ifF (eZ e (eZ d1 d2)) (decide_eq_false h3)⟩
  have r7:=aF (c.fdiv 7) ((r.q:Int)-1) (by omega);obtain⟨k,hk⟩:=fD r7.1;rw[hk]at r7
  have c7:evS o (S.set 7 (T.op2 .add (T.cst (D.int 1)) (T.op2 .mod (T.op2 .fdiv (T.var 0) (T.cst (D.int 7))) (T.op2 .sub (T.b1 .len (T.var 3)) (T.cst (D.int 1)))))) [some (.sh,.int c),some (.sh,rowD r),some (.sh,.lst (Ns.map .str)),some (.ow,.lst (as.map toD)),some (.sh,.str (gw wb)),some (.sh,toD s),some (.sh,.int ((0:Nat):Int)),none]=.nx [some (.sh,.int c),some (.sh,rowD r),some (.sh,.lst (Ns.map .str)),some (.ow,.lst (as.map toD)),some (.sh,.str (gw wb)),some (.sh,toD s),some (.sh,.int ((0:Nat):Int)),some (.sh,.int ((1+k:Nat):Int))]:=by
   refine aG (w:=false) (au aj (au (au (ao rfl) aj (bu _ _ (by decide))) (au (e_b1 (bK rfl) (eX _)) aj (jQ _ _)) (bN _ _ (by rw[List.length_map,hlen];omega))) ?_) rfl;rw[List.length_map,hlen,hk,Int.natCast_add];exact bM _ _
  have hcut:1+k<=as.length:=by omega
  have hn0:idxD (.lst (Ns.map .str)) (.int 0)=.ok (false,.str (nOf Ns 0)):=uE h4 (by omega) (by omega);have hsplit:as.take (1+k)++as.drop (1+k)=as:=List.take_append_drop _ _
  have hT:∀u∈as.take (1+k),isA u=true/\∀n,wf n u:=fun u hu=>hA u (List.mem_of_mem_take hu)
  have hD:∀u∈as.drop (1+k),isA u=true/\∀n,wf n u:=fun u hu=>hA u (List.mem_of_mem_drop hu)
  have c5:evS o (S.set 5 (T.tup (TL.cons (T.var 4) (TL.cons (T.tup (TL.cons (T.tup (TL.cons (T.cst (D.str [115,111,109,101])) (TL.cons (T.idx (T.var 2) (T.cst (D.int 0))) (TL.cons (T.tup (TL.cons (T.var 4) (TL.cons (T.b1 .tuple (T.slc (T.var 3) (T.cst D.non) (T.var 7))) TL.nil))) TL.nil)))) (TL.cons (T.tup (TL.cons (T.cst (D.str [97,108,108])) (TL.cons (T.idx (T.var 2) (T.cst (D.int 0))) (TL.cons (T.tup (TL.cons (T.var 4) (TL.cons (T.b1 .tuple (T.slc (T.var 3) (T.var 7) (T.cst D.non))) TL.nil))) TL.nil)))) TL.nil))) TL.nil)))) [some (.sh,.int c),some (.sh,rowD r),some (.sh,.lst (Ns.map .str)),some (.ow,.lst (as.map toD)),some (.sh,.str (gw wb)),some (.sh,toD s),some (.sh,.int ((0:Nat):Int)),some (.sh,.int ((1+k:Nat):Int))]=.nx [some (.sh,.int c),some (.sh,rowD r),some (.sh,.lst (Ns.map .str)),some (.ow,.lst (as.map toD)),some (.sh,.str (gw wb)),some (.sh,toD (.grp wb [.trn false (nOf Ns 0) (.grp wb (as.take (1+k))),.trn true (nOf Ns 0) (.grp wb (as.drop (1+k)))])),some (.sh,.int ((0:Nat):Int)),some (.sh,.int ((1+k:Nat):Int))]:=by
   have t1:ev o [some (.sh,.int c),some (.sh,rowD r),some (.sh,.lst (Ns.map .str)),some (.ow,.lst (as.map toD)),some (.sh,.str (gw wb)),some (.sh,toD s),some (.sh,.int ((0:Nat):Int)),some (.sh,.int ((1+k:Nat):Int))] false (T.tup (TL.cons (T.var 4) (TL.cons (T.b1 .tuple (T.slc (T.var 3) (T.cst D.non) (T.var 7))) TL.nil)))=.ok (false,.tup [.str (gw wb),.tup ((as.map toD).take (1+k))]):=bj (aa rfl (ao rfl) (aa rfl (e_b1 (cC (bK rfl) aj (ao rfl) rfl rfl (J9 _ _)) (eH _)) rfl)) rfl;have t2:ev o [some (.sh,.int c),some (.sh,rowD r),some (.sh,.lst (Ns.map .str)),some (.ow,.lst (as.map toD)),some (.sh,.str (gw wb)),some (.sh,toD s),some (.sh,.int ((0:Nat):Int)),some (.sh,.int ((1+k:Nat):Int))] false (T.tup (TL.cons (T.var 4) (TL.cons (T.b1 .tuple (T.slc (T.var 3) (T.var 7) (T.cst D.non))) TL.nil)))=.ok (false,.tup [.str (gw wb),.tup ((as.map toD).drop (1+k))]):=bj (aa rfl (ao rfl) (aa rfl (e_b1 (cC (bK rfl) (ao rfl) aj rfl rfl (JK _ _ (by rw[List.length_map];exact hcut))) (eH _)) rfl)) rfl
   have tt:toD (.grp wb [.trn false (nOf Ns 0) (.grp wb (as.take (1+k))),.trn true (nOf Ns 0) (.grp wb (as.drop (1+k)))])=.tup [.str (gw wb),.tup [.tup [.str [115,111,109,101],.str (nOf Ns 0),.tup [.str (gw wb),.tup ((as.map toD).take (1+k))]],.tup [.str [97,108,108],.str (nOf Ns 0),.tup [.str (gw wb),.tup ((as.map toD).drop (1+k))]]]]:=by
    have tr:∀(b:Bool) (x:List Nat) (u:Stt),toD (.trn b x u)=.tup [.str (tww b),.str x,toD u]:=fun b x u=>by rw[toD]
    rw[tg,List.map_cons,List.map_cons,List.map_nil,tr,tr,tg,tg,List.map_take,List.map_drop];rfl
   exact aG (w:=false) (by rw[tt];exact bj (aa rfl (ao rfl) (aa rfl (bj (aa rfl (bj (aa rfl aj (aa rfl (aN (ao rfl) aj hn0) (aa rfl t1 rfl))) rfl) (aa rfl (bj (aa rfl aj (aa rfl (aN (ao rfl) aj hn0) (aa rfl t2 rfl))) rfl) rfl)) rfl) rfl)) rfl) rfl
  refine⟨1,_,some (.sh,.int ((1+k:Nat):Int)),?_,.inr ⟨rfl,h2⟩,?_,?_,ifsT (eZ e (eZ d1 d2)) (decide_eq_true h3) (by rw[bC c7,bC c5];exact one (aG (w:=false) aj rfl))⟩
  ·have:=xZ (nOf Ns) wb (as.take (1+k)) (as.drop (1+k)) (fun u hu=>(hT u hu).1) fun u hu=>(hD u hu).1
   rw[hsplit]at this;exact this
  ·rw[wf]
   refine⟨by simp,fun u hu=>?_⟩;simp only[List.mem_cons,List.not_mem_nil,or_false]at hu;rcases hu with rfl | rfl
   ·rw[wf,wf];exact⟨by rw[List.length_take];omega,fun u hu=>(hT u hu).2 0⟩
   ·rw[wf,wf];exact⟨by rw[List.length_drop];omega,fun u hu=>(hD u hu).2 0⟩
  ·have e1:=fB fun u hu=>(hT u hu).1
   have e2:=fB fun u hu=>(hD u hu).1
   have e3:(as.take (1+k)).length+(as.drop (1+k)).length=r.q:=by rw[<-List.length_append,hsplit,hlen]
   simp only[sz,szs,e1,e2];omega
 have hN3:∀i,i<3->nOf Ns i≠nOf Ns 3:=fun i hi e=>by have:=Ac h4 hn (by omega) (by omega) e;omega
 have G:=yW hr hN3 A Bs' (fOf c) hl0 hws' hzs';refine⟨_,G,aA rfl rfl (stp _ s3 (stp _ s4 (stp _ s5 (stp _ s5' (stp _ s6 (stp _ s7 (stp [some (.sh,.int c),some (.sh,rowD r),some (.sh,.lst (Ns.map .str)),some (.ow,.lst (as.map toD)),some (.sh,.str (gw wb)),some (.sh,toD (wrap (fOf c) (nOf Ns) l0 (r.d-l0) s')),some (.sh,.int (r.d:Int)),z] ?_ (stpR (zG rfl)))))))))⟩;show cz (fun δ=>ev o δ true whC) (evSs o whB) o.w _=_;rw[ow];exact zN o c r Ns h4 _ _ z (r.d-l0) l0 s' w (by omega) (by omega) (by omega)
end K16
namespace K16
open Z KG KM P16
mutual
theorem immD:∀s:Stt,(toD s).imm=true
 | .least c l=>by rw[toD];simp[D.imm,immL,vR]
 | .rest m c l=>by rw[toD];simp[D.imm,immL,vR]
 | .nt s=>by rw[toD];simp[D.imm,immL,immD s]
 | .grp w ss=>by rw[toD];simp[D.imm,immL,Jq ss]
 | .trn w x s=>by rw[toD];simp[D.imm,immL,immD s]
theorem Jq:∀ss:List Stt,immL (toDs ss)=true
 | []=>by rw[toDs];rfl
 | s::ss=>by rw[toDs,immL,immD s,Jq ss];rfl
end
theorem oM{o:Orc}{δ:Dst}{t:T}{l:TL}{x:D}{xs:List D}{w b:Bool}(hk:fX δ t=false)(h:ev o δ false t=.ok (w,x))(hl:evL o δ l=.ok (b,xs)):evL o δ (.cons t l)=.ok (b,x::xs):=by
 simp only[evL,hk,h,hl,R.bind,Bool.false_or]
theorem iH(w m:Nat)(X:Stt)(rs:List Row)(h14:∀more:Nat,more<=1->(orc prg w m).fn 14 [toD X,.int (more:Int)]=.ok (false,.bl (due rs more)))(h23:∀more:Nat,more<=1->(orc prg w m).fn 23 [.lst (rs.map rowD),.int (more:Int)]=.ok (false,.bl (due rs more))):(orc prg w (m+1)).fn 24 [toD X,.lst (rs.map rowD)]=.ok (false,.bl true):=by
 rw[bz (d:=f24) rfl];have a0:=h14 0 (by omega);have a1:=h14 1 (by omega);have b0:=h23 0 (by omega);have b1:=h23 1 (by omega);generalize orc prg w m=o at a0 a1 b0 b1 ⊢;generalize due rs 0=p at a0 b0;generalize due rs 1=q at a1 b1;generalize D.lst (rs.map rowD)=L at b0 b1;generalize toD X=x at a0 a1
 have s2:evS o (S.set 2 (T.lst (TL.cons (T.call 23 (TL.cons (T.var 1) (TL.cons (T.cst (D.int 0)) TL.nil))) (TL.cons (T.call 23 (TL.cons (T.var 1) (TL.cons (T.cst (D.int 0)) TL.nil))) (TL.cons (T.call 23 (TL.cons (T.var 1) (TL.cons (T.cst (D.int 1)) TL.nil))) TL.nil))))) [some (.sh,x),some (.sh,L),none,none,none]=.nx [some (.sh,x),some (.sh,L),some (.ow,.lst [.bl p,.bl p,.bl q]),none,none] :=
  aG (w:=true) (bL (aa rfl (aB (aa rfl (ao rfl) (aa rfl aj rfl)) b0) (aa rfl (aB (aa rfl (ao rfl) (aa rfl aj rfl)) b0) (aa rfl (aB (aa rfl (ao rfl) (aa rfl aj rfl)) b1) rfl))) rfl) rfl
 have eI:evI o [some (.sh,x),some (.sh,L),some (.sh,.lst [.bl p,.bl p,.bl q]),none,none] false (TI.zip (T.lst (TL.cons (T.call 14 (TL.cons (T.var 0) (TL.cons (T.cst (D.int 0)) TL.nil))) (TL.cons (T.call 14 (TL.cons (T.var 0) (TL.cons (T.cst (D.int 0)) TL.nil))) (TL.cons (T.call 14 (TL.cons (T.var 0) (TL.cons (T.cst (D.int 1)) TL.nil))) TL.nil)))) (T.var 2))=.ok [.tup [.bl p,.bl p],.tup [.bl p,.bl p],.tup [.bl q,.bl q]]:=by
  have e1:ev o [some (.sh,x),some (.sh,L),some (.sh,.lst [.bl p,.bl p,.bl q]),none,none] false (T.lst (TL.cons (T.call 14 (TL.cons (T.var 0) (TL.cons (T.cst (D.int 0)) TL.nil))) (TL.cons (T.call 14 (TL.cons (T.var 0) (TL.cons (T.cst (D.int 0)) TL.nil))) (TL.cons (T.call 14 (TL.cons (T.var 0) (TL.cons (T.cst (D.int 1)) TL.nil))) TL.nil))))=.ok (true,.lst [.bl p,.bl p,.bl q]) :=
   bL (aa rfl (aB (aa rfl (ao rfl) (aa rfl aj rfl)) a0) (aa rfl (aB (aa rfl (ao rfl) (aa rfl aj rfl)) a0) (aa rfl (aB (aa rfl (ao rfl) (aa rfl aj rfl)) a1) rfl))) rfl
  have e2:ev o [some (.sh,x),some (.sh,L),some (.sh,.lst [.bl p,.bl p,.bl q]),none,none] false (T.var 2)=.ok (false,.lst [.bl p,.bl p,.bl q]):=ao rfl;simp only[evI,e1,e2,R.bind]
  rfl
 have go:cF (evSs o rtB) [3,4] true [.tup [.bl p,.bl p],.tup [.bl p,.bl p],.tup [.bl q,.bl q]] [some (.sh,x),some (.sh,L),some (.sh,.lst [.bl p,.bl p,.bl q]),none,none]=.nx [some (.sh,x),some (.sh,L),some (.sh,.lst [.bl p,.bl p,.bl q]),some (.sh,.bl q),some (.sh,.bl q)] :=
  cA rfl rfl (oK o _ _ _ p) (cA rfl rfl (oK o _ _ _ p) (cA rfl rfl (oK o _ _ _ q) rfl))
 exact aA rfl rfl (stp _ s2 (stp _ (M7 rfl eI go) (stpR (retR aj rfl))))
noncomputable def oG(l:List (Stt×Row)):Nat:=l.foldr (fun p n=>p.2.a*n) 1
noncomputable def nT(l:List (Stt×Row)):Nat:=l.foldr (fun p n=>p.2.b*n) 1
theorem kh:∀{l:List (Stt×Row)} {p:Stt×Row},p∈l->p.2.a ∣ oG l
 | q::l,p,h=>by
   show p.2.a ∣ q.2.a*oG l;rcases List.mem_cons.mp h with rfl | h
   ·exact Nat.dvd_mul_right _ _
   ·exact Nat.dvd_trans (kh h) (Nat.dvd_mul_left _ _)
theorem lr:∀{l:List (Stt×Row)} {p:Stt×Row},p∈l->p.2.b ∣ nT l
 | q::l,p,h=>by
   show p.2.b ∣ q.2.b*nT l;rcases List.mem_cons.mp h with rfl | h
   ·exact Nat.dvd_mul_right _ _
   ·exact Nat.dvd_trans (lr h) (Nat.dvd_mul_left _ _)
theorem yE{l:List (Stt×Row)}(h:∀p∈l,p.2.Ok)(hl:l.length<=2):(0<oG l/\oG l<=1000000)/\0<nT l/\nT l<=1000000:=by
 match l,hl,h with
 | [],_,_=>exact⟨⟨by decide,by decide⟩,by decide,by decide⟩
 | [p],_,h=>
   have:=h p (by simp);have h1:=this.a1;have h2:=this.a2;have h3:=this.b1;have h4:=this.b2;refine⟨?_,?_⟩
   ·show 0<p.2.a*1/\p.2.a*1<=_;omega
   ·show 0<p.2.b*1/\p.2.b*1<=_;omega
 | [p,q],_,h=>
   have hp:=h p (by simp);have hq:=h q (by simp);have m1:=Nat.mul_le_mul hp.a2 hq.a2;have m2:=Nat.mul_le_mul hp.b2 hq.b2;have p1:=Nat.mul_pos hp.a1 hq.a1;have p2:=Nat.mul_pos hp.b1 hq.b1;refine⟨?_,?_⟩
   ·show 0<p.2.a*(q.2.a*1)/\p.2.a*(q.2.a*1)<=_
    rw[Nat.mul_one];omega
   ·show 0<p.2.b*(q.2.b*1)/\p.2.b*(q.2.b*1)<=_
    rw[Nat.mul_one];omega
theorem nA(w m:Nat)(hw:1048576<=w)(hm:30<=m)(X:Stt)(l:List (Stt×Row))(hX:wf 14 X)(hz:sz X<=390)(hl:l.length<=2)(hg:∀p∈l,p.2.Ok/\Gd p.2 p.1)(ho:∀t∈ol X,∃p∈l,t∈ol p.1)(more:Nat):(orc prg w m).fn 14 [toD X,.int (more:Int)]=.ok (false,.bl (ft X more)):=by
 obtain⟨⟨a1,a2⟩,b1,b2⟩:=yE (fun p hp=>(hg p hp).1) hl;have hbf:prg.fns[13]?=some (bfFd 11 12 8):=rfl;have hft:prg.fns[14]?=some (ftFd 10 6 13):=rfl;have k1:oG l<2 ^ 20:=Nat.lt_of_le_of_lt a2 (by decide);have k2:nT l<2 ^ 20:=Nat.lt_of_le_of_lt b2 (by decide)
 have k3:oG l<w:=by omega
 have k4:nT l<w:=by omega
 refine J8 ms hbf w hft 14 X hX hz (oG l) (nT l) (fun t ht=>?_) more m (by omega);obtain⟨p,hp,hto⟩:=ho t ht;obtain⟨w1,w2⟩:=(hg p hp).2.out t hto;exact⟨fZ w1 (by omega),w2 _ _ w (kh hp) (lr hp) a1 k1 k3 b1 k2 k4⟩
theorem tX(w m:Nat)(hw:1048576<=w)(hm:30<=m)(G:Stt)(r:Row)(hr:r.Ok)(hG:Gd r G):(orc prg w (m+1)).fn 24 [toD G,.lst ([r].map rowD)]=.ok (false,.bl true):=by
 obtain⟨k,rfl⟩:∃k,m=k+3:=⟨m-3,by omega⟩
 refine iH w (k+3) G [r] (fun more h=>?_) fun more h=>vJ w k [r] (fun x hx=>by rw[List.mem_singleton]at hx;subst hx;exact hr) (by simp) more h
 rw[<-J4 hG.fits more];exact nA w (k+3) hw hm G [(G,r)] (fZ hG.wf (by omega)) (by have:=hG.sz;omega) (by simp) (fun p hp=>by rw[List.mem_singleton]at hp;subst hp;exact⟨hr,hG⟩) (fun t ht=>⟨(G,r),by simp,ht⟩) more
theorem rM:∀{l:List (Stt×Row)} {t:Stt},t∈ols (l.map (·.1))->∃p∈l,t∈ol p.1
 | [],t,h=>by rw[List.map_nil,ols]at h;exact(nomatch h)
 | p::l,t,h=>by
   rw[List.map_cons,ols,List.mem_append]at h;rcases h with h | h
   ·exact⟨p,List.mem_cons_self,h⟩
   ·obtain⟨q,hq,h⟩:=rM h
    exact⟨q,List.mem_cons_of_mem _ hq,h⟩
theorem CN{l:List (Stt×Row)}(h:∀p∈l,sz p.1<=60)(hl:l.length<=2):szs (l.map (·.1))<=120:=by
 match l,hl,h with
 | [],_,_=>rw[List.map_nil,szs];omega
 | [p],_,h=>rw[List.map_cons,List.map_nil,szs,szs];have:=h p (by simp);omega
 | [p,q],_,h=>rw[List.map_cons,List.map_cons,List.map_nil,szs,szs,szs];have:=h p (by simp);have:=h q (by simp);omega
theorem uv(w m:Nat)(hw:1048576<=w)(hm:30<=m)(b nt:Bool)(l:List (Stt×Row))(hl:l.length<=2)(hg:∀p∈l,p.2.Ok/\Gd p.2 p.1):(orc prg w (m+1)).fn 24 [toD (if nt then .nt (.grp b (l.map (·.1)))else .grp b (l.map (·.1))),.lst ((l.map (·.2)).map rowD)]=.ok (false,.bl true):=by
 obtain⟨k,rfl⟩:∃k,m=k+3:=⟨m-3,by omega⟩
 have hwf:wf 13 (.grp b (l.map (·.1))):=by
  rw[wf];refine⟨by rw[List.length_map];omega,fun s hs=>?_⟩;obtain⟨p,hp,rfl⟩:=List.mem_map.mp hs;exact(hg p hp).2.wf
 have hsz:sz (.grp b (l.map (·.1)))<=121:=by
  rw[sz];have:=CN (fun p hp=>(hg p hp).2.sz) hl;omega
 have hdue:∀more:Nat,more<=1->(orc prg w (k+3)).fn 23 [.lst ((l.map (·.2)).map rowD),.int (more:Int)]=.ok (false,.bl (due (l.map (·.2)) more)):=fun more h=>vJ w k _ (fun x hx=>by
  obtain⟨p,hp,rfl⟩:=List.mem_map.mp hx
  exact(hg p hp).1) (by rw[List.length_map];omega) more h
 have hfit:∀more:Nat,ft (.grp b (l.map (·.1))) more=due (l.map (·.2)) more:=fun more=>Dt b l (fun p hp=>(hg p hp).2.fits) more
 have hol:∀t∈ol (.grp b (l.map (·.1))),∃p∈l,t∈ol p.1:=fun t ht=>rM (by rw[KM.ol]at ht;exact ht)
 have hol2:∀t∈ol (.nt (.grp b (l.map (·.1)))),∃p∈l,t∈ol p.1:=fun t ht=>hol t (by rw[KM.ol]at ht;exact ht)
 have hn14:wf 14 (.nt (.grp b (l.map (·.1)))):=by rw[wf];exact hwf
 have hsn:sz (.nt (.grp b (l.map (·.1))))<=390:=by rw[sz];omega
 generalize Stt.grp b (l.map (·.1))=Y at *
 cases nt with
 | false=>
   have F1:∀more:Nat,(orc prg w (k+3)).fn 14 [toD Y,.int (more:Int)]=.ok (false,.bl (ft Y more)):=fun more=>nA w (k+3) hw hm Y l (fZ hwf (by omega)) (Nat.le_trans hsz (by omega)) hl hg hol more
   have F2:∀more:Nat,more<=1->(orc prg w (k+3)).fn 14 [toD Y,.int (more:Int)]=.ok (false,.bl (due (l.map (·.2)) more)):=fun more _=>by rw[<-hfit];exact F1 more
   have F3:=iH w (k+3) Y _ F2 hdue;rw[if_neg Bool.false_ne_true];exact F3
 | true=>
   have hfn:∀more,ft (.nt Y) more=due (l.map (·.2)) more:=fun more=>by rw[Kz,hfit]
   rw[if_pos rfl];generalize Stt.nt Y=V at *
   have F1:∀more:Nat,(orc prg w (k+3)).fn 14 [toD V,.int (more:Int)]=.ok (false,.bl (ft V more)):=fun more=>nA w (k+3) hw hm V l hn14 hsn hl hg hol2 more
   have F2:∀more:Nat,more<=1->(orc prg w (k+3)).fn 14 [toD V,.int (more:Int)]=.ok (false,.bl (due (l.map (·.2)) more)):=fun more _=>by rw[<-hfn];exact F1 more
   have F3:=iH w (k+3) V _ F2 hdue;exact F3
end K16
namespace K16
open Z KG KM P16
noncomputable def RS(l:List (Stt×Row)):List D:=l.map fun p=>rowD p.2
noncomputable def PS(l:List (Stt×Row)):List D:=l.map fun p=>toD p.1
noncomputable def lwB:SL:=(SL.cons (S.set 6 (T.comp [5,0] 1 false (TI.rng1 (T.cst (D.int 3))) (T.cst (D.bl true)) (T.call 15 (TL.cons (T.var 2) (TL.cons (T.op2 .add (T.op2 .add (T.op2 .mul (T.cst (D.int 3)) (T.var 1)) (T.cst (D.int 1))) (T.var 0)) TL.nil))))) (SL.cons (S.append 3 (T.call 19 (TL.cons (T.var 6) (TL.cons (T.op2 .mod (T.var 1) (T.cst (D.int 2))) TL.nil)))) (SL.cons (S.append 4 (T.call 21 (TL.cons (T.op2 .add (T.op2 .fdiv (T.idx (T.var 6) (T.cst (D.int 0))) (T.cst (D.int 7))) (T.op2 .fdiv (T.idx (T.var 6) (T.cst (D.int 2))) (T.cst (D.int 3)))) (TL.cons (T.idx (T.var 3) (T.neg (T.cst (D.int 1)))) (TL.cons (T.var 2) TL.nil))))) (SL.cons (S.ifs (T.not (T.call 24 (TL.cons (T.idx (T.var 4) (T.neg (T.cst (D.int 1)))) (TL.cons (T.slc (T.var 3) (T.neg (T.cst (D.int 1))) (T.cst D.non)) TL.nil)))) (SL.cons (S.ret (T.cst (D.bl false))) SL.nil) SL.nil) (SL.cons (S.set 7 (T.tup (TL.cons (T.idx (T.lst (TL.cons (T.cst (D.str [97,110,100])) (TL.cons (T.cst (D.str [111,114])) TL.nil))) (T.op2 .mod (T.op2 .fdiv (T.var 1) (T.cst (D.int 2))) (T.cst (D.int 2)))) (TL.cons (T.b1 .tuple (T.slc (T.var 4) (T.neg (T.cst (D.int 2))) (T.cst D.non))) TL.nil)))) (SL.cons (S.ifs (T.op2 .eq (T.op2 .mod (T.op2 .fdiv (T.var 1) (T.cst (D.int 4))) (T.cst (D.int 2))) (T.cst (D.int 1))) (SL.cons (S.set 7 (T.tup (TL.cons (T.cst (D.str [110,111,116])) (TL.cons (T.var 7) TL.nil)))) SL.nil) SL.nil) (SL.cons (S.ifs (T.not (T.call 24 (TL.cons (T.var 7) (TL.cons (T.slc (T.var 3) (T.neg (T.cst (D.int 2))) (T.cst D.non)) TL.nil)))) (SL.cons (S.ret (T.cst (D.bl false))) SL.nil) SL.nil) SL.nil)))))))
theorem vq(l:List D)(k:Nat)(hk:0<k):slcD (.lst l) (some (-(k:Int))) none=some (true,.lst (l.drop (l.length-k))):=by
 have e:dz l.length (some (-(k:Int)))=l.length-k:=by
  show clip l.length (-(k:Int))=_;unfold clip;rw[if_neg (by omega)];omega
 have e2:bY l.length none=l.length:=rfl;simp only[slcD,e,e2,cut,List.take_length]
theorem Mh(n:Nat):b2D .min (.int (n:Int)) (.int 62)=.ok (false,.int ((min n 62:Nat):Int)):=by
 by_cases h:(62:Int)<n
 ·have e:min n 62=62:=by omega
  simp only[b2D,h,if_true,e];rfl
 ·have e:min n 62=n:=by omega
  simp only[b2D,h,if_false,e]
theorem zV(w m:Nat)(ns:List Int)(k:Nat):(orc prg w (m+1)).fn 15 [.lst (ns.map .int),.int (k:Int)]=.ok (false,.int (ns.getD k 0)):=by
 rw[bz (d:=f15) rfl];exact yx _ ns k
set_option maxHeartbeats 1000000 in
theorem Eu(w:Nat)(hw:1048576<=w)(ns:List Int)(c1:Int)(Ns:List (List Nat))(h4:Ns.length=4)(hn:Ns.Nodup)(l:List (Stt×Row))(hl:l.length<=60)(hg:∀p∈l,p.2.Ok/\Gd p.2 p.1)(k:Nat)(hk:k<=60)(b c:Option Slot) :
 ∃p b' c',(p.2.Ok/\Gd p.2 p.1)/\evSs (orc prg w 44) lwB [some (.sh,.lst (ns.map .int)),some (.sh,.int c1),some (.ow,.lst (Ns.map .str)),some (.ow,.lst (RS l)),some (.ow,.lst (PS l)),some (.sh,.int (k:Int)),b,c]=.nx [some (.sh,.lst (ns.map .int)),some (.sh,.int c1),some (.ow,.lst (Ns.map .str)),some (.ow,.lst (RS (l++[p]))),some (.ow,.lst (PS (l++[p]))),some (.sh,.int (k:Int)),b',c']:=by
 have hcell:=zV w 43 ns
 obtain⟨x0,x1,x2,s6⟩:∃x0 x1 x2:Int,evS (orc prg w 44) (S.set 6 (T.comp [5,0] 1 false (TI.rng1 (T.cst (D.int 3))) (T.cst (D.bl true)) (T.call 15 (TL.cons (T.var 2) (TL.cons (T.op2 .add (T.op2 .add (T.op2 .mul (T.cst (D.int 3)) (T.var 1)) (T.cst (D.int 1))) (T.var 0)) TL.nil))))) [some (.sh,.lst (ns.map .int)),some (.sh,.int c1),some (.ow,.lst (Ns.map .str)),some (.ow,.lst (RS l)),some (.ow,.lst (PS l)),some (.sh,.int (k:Int)),b,c]=.nx [some (.sh,.lst (ns.map .int)),some (.sh,.int c1),some (.ow,.lst (Ns.map .str)),some (.ow,.lst (RS l)),some (.ow,.lst (PS l)),some (.sh,.int (k:Int)),some (.ow,.lst [.int x0,.int x1,.int x2]),c]:=by
  generalize D.lst (ns.map .int)=L at hcell ⊢;refine⟨ns.getD (3*k+1+0) 0,ns.getD (3*k+1+1) 0,ns.getD (3*k+1+2) 0,aG (w:=true) (iQ _ _ _ _ [5,0] [.int (k:Int),L] (([0,1,2]:List Nat).map fun(i:Nat)=>D.int (i:Int)) (([0,1,2]:List Nat).map fun(i:Nat)=>D.int (ns.getD (3*k+1+i) 0)) 1 false _ _ ?_ rfl rfl (by simp) ?_) rfl⟩
  ·simp only[evI,ev,R.bind];rfl
  ·refine cH (fun i _=>aj) fun i hi=>⟨false,aB (aa rfl (ao rfl) (aa rfl (au (au (au aj (ao rfl) (mulE (cZ (by unfold Bd;decide) (bR (by omega))))) aj (bM _ _)) (ao rfl) (bM _ _)) rfl)) ?_⟩
   have:=hcell (3*k+1+i);rw[show((3*k+1+i:Nat):Int)=3*(k:Int)+1+(i:Int) by omega]at this;exact this
 have rm:=aF c1 2 (by omega);obtain⟨more,hmo⟩:=fD rm.1;obtain⟨r,hr,er⟩:=vK w 42 x0 x1 x2 more (by omega)
 have s3:evS (orc prg w 44) (S.append 3 (T.call 19 (TL.cons (T.var 6) (TL.cons (T.op2 .mod (T.var 1) (T.cst (D.int 2))) TL.nil)))) [some (.sh,.lst (ns.map .int)),some (.sh,.int c1),some (.ow,.lst (Ns.map .str)),some (.ow,.lst (RS l)),some (.ow,.lst (PS l)),some (.sh,.int (k:Int)),some (.ow,.lst [.int x0,.int x1,.int x2]),c]=.nx [some (.sh,.lst (ns.map .int)),some (.sh,.int c1),some (.ow,.lst (Ns.map .str)),some (.ow,.lst (RS l++[rowD r])),some (.ow,.lst (PS l)),some (.sh,.int (k:Int)),some (.ow,.lst [.int x0,.int x1,.int x2]),c] :=
  uQ (jX (mX rfl (bK rfl) (aa rfl (au (ao rfl) aj ((bN _ _ (by decide)).trans (by rw[hmo]))) rfl)) er rfl) rfl (by unfold RS;rw[List.length_map];omega)
 obtain⟨G,hG,eG⟩:=uo w 42 (by omega) (x0.fdiv 7+x2.fdiv 3) r hr Ns h4 hn
 have s4:evS (orc prg w 44) (S.append 4 (T.call 21 (TL.cons (T.op2 .add (T.op2 .fdiv (T.idx (T.var 6) (T.cst (D.int 0))) (T.cst (D.int 7))) (T.op2 .fdiv (T.idx (T.var 6) (T.cst (D.int 2))) (T.cst (D.int 3)))) (TL.cons (T.idx (T.var 3) (T.neg (T.cst (D.int 1)))) (TL.cons (T.var 2) TL.nil))))) [some (.sh,.lst (ns.map .int)),some (.sh,.int c1),some (.ow,.lst (Ns.map .str)),some (.ow,.lst (RS l++[rowD r])),some (.ow,.lst (PS l)),some (.sh,.int (k:Int)),some (.ow,.lst [.int x0,.int x1,.int x2]),c]=.nx [some (.sh,.lst (ns.map .int)),some (.sh,.int c1),some (.ow,.lst (Ns.map .str)),some (.ow,.lst (RS l++[rowD r])),some (.ow,.lst (PS l++[toD G])),some (.sh,.int (k:Int)),some (.ow,.lst [.int x0,.int x1,.int x2]),c] :=
  uQ (jX (oM rfl (au (au (aN (bK rfl) aj (aC rfl rfl)) aj (bu _ _ (by decide))) (au (aN (bK rfl) aj (aC rfl rfl)) aj (bu _ _ (by decide))) (bM _ _)) (oM rfl (aN (bK rfl) neg1 (qp _ _)) (mX rfl (bK rfl) rfl))) eG (immD G)) rfl (by unfold PS;rw[List.length_map];omega)
 have eR:RS (l++[(G,r)])=RS l++[rowD r]:=by unfold RS;rw[List.map_append];rfl
 have eP:PS (l++[(G,r)])=PS l++[toD G]:=by unfold PS;rw[List.map_append];rfl
 have hgl:∀p∈l++[(G,r)],p.2.Ok/\Gd p.2 p.1:=fun p hp=>by
  rcases List.mem_append.mp hp with h | h
  ·exact hg p h
  ·rw[List.mem_singleton]at h;subst h;exact⟨hr,hG⟩
 have r1:=tX w 43 hw (by omega) G r hr hG
 have s5:evS (orc prg w 44) (S.ifs (T.not (T.call 24 (TL.cons (T.idx (T.var 4) (T.neg (T.cst (D.int 1)))) (TL.cons (T.slc (T.var 3) (T.neg (T.cst (D.int 1))) (T.cst D.non)) TL.nil)))) (SL.cons (S.ret (T.cst (D.bl false))) SL.nil) SL.nil) [some (.sh,.lst (ns.map .int)),some (.sh,.int c1),some (.ow,.lst (Ns.map .str)),some (.ow,.lst (RS l++[rowD r])),some (.ow,.lst (PS l++[toD G])),some (.sh,.int (k:Int)),some (.ow,.lst [.int x0,.int x1,.int x2]),c]=.nx [some (.sh,.lst (ns.map .int)),some (.sh,.int c1),some (.ow,.lst (Ns.map .str)),some (.ow,.lst (RS l++[rowD r])),some (.ow,.lst (PS l++[toD G])),some (.sh,.int (k:Int)),some (.ow,.lst [.int x0,.int x1,.int x2]),c]:=by
  have e1:slcD (.lst (RS l++[rowD r])) (some (-1)) none=some (true,.lst ([r].map rowD)):=by
   have:=vq (RS l++[rowD r]) 1 (by omega);rw[List.length_append,List.length_singleton,Nat.add_sub_cancel,List.drop_left]at this;exact this
  exact ifF (gr (aB (aa rfl (aN (bK rfl) neg1 (qp _ _)) (aa rfl (cC (bK rfl) neg1 aj rfl rfl e1) rfl)) r1)) rfl
 rw[<-eR,<-eP]at s5
 have lk2:∀(xs:List D),slcD (.lst xs) (some (-2)) none=some (true,.lst (xs.drop (xs.length-2))):=fun xs=>vq xs 2 (by omega)
 obtain⟨l2,hl2⟩:∃l2,l2=(l++[(G,r)]).drop ((l++[(G,r)]).length-2):=⟨_,rfl⟩
 have hl2n:l2.length<=2:=by rw[hl2,List.length_drop];omega
 have hl2g:∀p∈l2,p.2.Ok/\Gd p.2 p.1:=fun p hp=>hgl p (by rw[hl2]at hp;exact List.mem_of_mem_drop hp)
 have dR:(RS (l++[(G,r)])).drop ((RS (l++[(G,r)])).length-2)=(l2.map (·.2)).map rowD:=by rw[List.map_map,hl2,List.map_drop];unfold RS;rw[List.length_map];rfl
 have dP:(PS (l++[(G,r)])).drop ((PS (l++[(G,r)])).length-2)=(l2.map (·.1)).map toD:=by rw[List.map_map,hl2,List.map_drop];unfold PS;rw[List.length_map];rfl
 rw[<-eR]at s3 s4;rw[<-eP]at s4;refine⟨(G,r),?_⟩;generalize RS (l++[(G,r)])=R2 at dR s3 s4 s5;generalize PS (l++[(G,r)])=P2 at dP s4 s5;have r2:=aF (c1.fdiv 2) 2 (by omega)
 obtain⟨wb,ew⟩:∃wb:Bool,∀(δ:Dst),δ[1]?=some (some (.sh,.int c1))->ev (orc prg w 44) δ false (T.idx (T.lst (TL.cons (T.cst (D.str [97,110,100])) (TL.cons (T.cst (D.str [111,114])) TL.nil))) (T.op2 .mod (T.op2 .fdiv (T.var 1) (T.cst (D.int 2))) (T.cst (D.int 2))))=.ok (false,.str (gw wb)):=by
  have e1:∀(δ:Dst),δ[1]?=some (some (.sh,.int c1))->ev (orc prg w 44) δ true (T.op2 .mod (T.op2 .fdiv (T.var 1) (T.cst (D.int 2))) (T.cst (D.int 2)))=.ok (false,.int ((c1.fdiv 2).fmod 2)):=fun δ h=>au (au (ao h) aj (bu _ _ (by decide))) aj (bN _ _ (by decide))
  generalize (c1.fdiv 2).fmod 2=i at r2 e1
  have:i=0\/i=1:=by omega
  rcases this with rfl | rfl
  ·exact⟨false,fun δ h=>aN (bL (aa rfl aj (aa rfl aj rfl)) rfl) (e1 δ h) (aC rfl rfl)⟩
  ·exact⟨true,fun δ h=>aN (bL (aa rfl aj (aa rfl aj rfl)) rfl) (e1 δ h) (aC rfl rfl)⟩
 have tg:toD (.grp wb (l2.map (·.1)))=.tup [.str (gw wb),.tup ((l2.map (·.1)).map toD)]:=by rw[toD,gO]
 have tn:∀u,toD (.nt u)=.tup [.str [110,111,116],toD u]:=fun u=>by rw[toD];rfl
 have hT:=uv w 43 hw (by omega) wb (decide ((c1.fdiv 4).fmod 2=1)) l2 hl2n hl2g;generalize (l2.map (·.2)).map rowD=RR at dR hT
 have s7:evS (orc prg w 44) (S.set 7 (T.tup (TL.cons (T.idx (T.lst (TL.cons (T.cst (D.str [97,110,100])) (TL.cons (T.cst (D.str [111,114])) TL.nil))) (T.op2 .mod (T.op2 .fdiv (T.var 1) (T.cst (D.int 2))) (T.cst (D.int 2)))) (TL.cons (T.b1 .tuple (T.slc (T.var 4) (T.neg (T.cst (D.int 2))) (T.cst D.non))) TL.nil)))) [some (.sh,.lst (ns.map .int)),some (.sh,.int c1),some (.ow,.lst (Ns.map .str)),some (.ow,.lst R2),some (.ow,.lst P2),some (.sh,.int (k:Int)),some (.ow,.lst [.int x0,.int x1,.int x2]),c]=.nx [some (.sh,.lst (ns.map .int)),some (.sh,.int c1),some (.ow,.lst (Ns.map .str)),some (.ow,.lst R2),some (.ow,.lst P2),some (.sh,.int (k:Int)),some (.ow,.lst [.int x0,.int x1,.int x2]),some (.sh,toD (.grp wb (l2.map (·.1))))]:=by
  rw[tg,<-dP];exact aG (w:=false) (bj (aa rfl (ew _ rfl) (aa rfl (e_b1 (cC (bK rfl) (mD aj) aj rfl rfl (lk2 P2)) (eH _)) rfl)) rfl) rfl
 have ec:∀X:D,ev (orc prg w 44) [some (.sh,.lst (ns.map .int)),some (.sh,.int c1),some (.ow,.lst (Ns.map .str)),some (.ow,.lst R2),some (.ow,.lst P2),some (.sh,.int (k:Int)),some (.ow,.lst [.int x0,.int x1,.int x2]),some (.sh,X)] true (T.op2 .eq (T.op2 .mod (T.op2 .fdiv (T.var 1) (T.cst (D.int 4))) (T.cst (D.int 2))) (T.cst (D.int 1)))=.ok (false,.bl (decide ((c1.fdiv 4).fmod 2=1))):=fun X=>au (au (au (ao rfl) aj (bu _ _ (by decide))) aj (bN _ _ (by decide))) aj (dW _ _)
 generalize decide ((c1.fdiv 4).fmod 2=1)=nb at hT ec;generalize Stt.grp wb (l2.map (·.1))=Y at hT s7
 have s8:evS (orc prg w 44) (S.ifs (T.op2 .eq (T.op2 .mod (T.op2 .fdiv (T.var 1) (T.cst (D.int 4))) (T.cst (D.int 2))) (T.cst (D.int 1))) (SL.cons (S.set 7 (T.tup (TL.cons (T.cst (D.str [110,111,116])) (TL.cons (T.var 7) TL.nil)))) SL.nil) SL.nil) [some (.sh,.lst (ns.map .int)),some (.sh,.int c1),some (.ow,.lst (Ns.map .str)),some (.ow,.lst R2),some (.ow,.lst P2),some (.sh,.int (k:Int)),some (.ow,.lst [.int x0,.int x1,.int x2]),some (.sh,toD Y)]=.nx [some (.sh,.lst (ns.map .int)),some (.sh,.int c1),some (.ow,.lst (Ns.map .str)),some (.ow,.lst R2),some (.ow,.lst P2),some (.sh,.int (k:Int)),some (.ow,.lst [.int x0,.int x1,.int x2]),some (.sh,toD (if nb=true then .nt Y else Y))]:=by
  cases nb with
  | true=>
    rw[if_pos rfl,tn];exact ifsT (ec _) rfl (one (aG (w:=false) (bj (aa rfl aj (aa rfl (ao rfl) rfl)) rfl) rfl))
  | false=>
    rw[if_neg Bool.false_ne_true];exact ifsF (ec _) rfl rfl
 generalize toD (if nb=true then Stt.nt Y else Y)=Z2 at hT s8
 have s9:evS (orc prg w 44) (S.ifs (T.not (T.call 24 (TL.cons (T.var 7) (TL.cons (T.slc (T.var 3) (T.neg (T.cst (D.int 2))) (T.cst D.non)) TL.nil)))) (SL.cons (S.ret (T.cst (D.bl false))) SL.nil) SL.nil) [some (.sh,.lst (ns.map .int)),some (.sh,.int c1),some (.ow,.lst (Ns.map .str)),some (.ow,.lst R2),some (.ow,.lst P2),some (.sh,.int (k:Int)),some (.ow,.lst [.int x0,.int x1,.int x2]),some (.sh,Z2)]=.nx [some (.sh,.lst (ns.map .int)),some (.sh,.int c1),some (.ow,.lst (Ns.map .str)),some (.ow,.lst R2),some (.ow,.lst P2),some (.sh,.int (k:Int)),some (.ow,.lst [.int x0,.int x1,.int x2]),some (.sh,Z2)]:=by
  rw[<-dR]at hT;exact ifF (gr (aB (aa rfl (ao rfl) (aa rfl (cC (bK rfl) (mD aj) aj rfl rfl (lk2 R2)) rfl)) hT)) rfl
 refine⟨some (.ow,.lst [.int x0,.int x1,.int x2]),some (.sh,Z2),⟨hr,hG⟩,?_⟩;unfold lwB;rw[bC s6,bC s3,bC s4,bC s5,bC s7,bC s8];exact one s9
theorem yZ(w:Nat)(hw:1048576<=w)(ns:List Int)(c1:Int)(Ns:List (List Nat))(h4:Ns.length=4)(hn:Ns.Nodup):∀(n k:Nat) (l:List (Stt×Row)) (a b c:Option Slot),k+n<=60->l.length<=k->(∀p∈l,p.2.Ok/\Gd p.2 p.1)->∃δ',cF (evSs (orc prg w 44) lwB) [5] false ((List.range' k n).map fun(i:Nat)=>D.int (i:Int)) [some (.sh,.lst (ns.map .int)),some (.sh,.int c1),some (.ow,.lst (Ns.map .str)),some (.ow,.lst (RS l)),some (.ow,.lst (PS l)),a,b,c]=.nx δ'
 | 0,k,l,a,b,c,_,_,_=>⟨_,rfl⟩
 | n+1,k,l,a,b,c,h1,h2,hg=>by
   obtain⟨p,b',c',hp,e⟩:=Eu w hw ns c1 Ns h4 hn l (by omega) hg k (by omega) b c
   obtain⟨δ',e2⟩:=yZ w hw ns c1 Ns h4 hn n (k+1) (l++[p]) (some (.sh,.int (k:Int))) b' c' (by omega) (by rw[List.length_append,List.length_singleton];omega) fun q hq=>by
    rcases List.mem_append.mp hq with h | h
    ·exact hg q h
    ·rw[List.mem_singleton]at h;subst h;exact hp
   refine⟨δ',?_⟩;rw[List.range'_succ,List.map_cons];exact cA rfl rfl e e2
theorem law_run(w:Nat)(hw:1048576<=w)(ns:List Int)(h:ns.length<=63):(orc prg w 45).fn 25 [.lst (ns.map .int)]=.ok (false,.bl true):=by
 rw[bz (d:=f25) rfl];have hc0:=zV w 43 ns 0;generalize ns.getD 0 0=c1 at hc0;obtain⟨Ns,h4,hn,eN⟩:=vL w 43 (c1.fdiv 16);have s1:evS (orc prg w 44) (S.set 1 (T.call 15 (TL.cons (T.var 0) (TL.cons (T.cst (D.int 0)) TL.nil)))) [some (.sh,.lst (ns.map .int)),none,none,none,none,none,none,none]=.nx [some (.sh,.lst (ns.map .int)),some (.sh,.int c1),none,none,none,none,none,none]:=aG (w:=false) (aB (aa rfl (ao rfl) (aa rfl aj rfl)) hc0) rfl;have s2:evS (orc prg w 44) (S.set 2 (T.call 16 (TL.cons (T.op2 .fdiv (T.var 1) (T.cst (D.int 16))) TL.nil))) [some (.sh,.lst (ns.map .int)),some (.sh,.int c1),none,none,none,none,none,none]=.nx [some (.sh,.lst (ns.map .int)),some (.sh,.int c1),some (.ow,.lst (Ns.map .str)),none,none,none,none,none]:=aG (w:=true) (aB (aa rfl (au (ao rfl) aj (bu _ _ (by decide))) rfl) eN) rfl;have s3:evS (orc prg w 44) (S.set 3 (T.lst TL.nil)) [some (.sh,.lst (ns.map .int)),some (.sh,.int c1),some (.ow,.lst (Ns.map .str)),none,none,none,none,none]=.nx [some (.sh,.lst (ns.map .int)),some (.sh,.int c1),some (.ow,.lst (Ns.map .str)),some (.ow,.lst (RS [])),none,none,none,none]:=aG (w:=true) (d:=.lst []) (bL rfl rfl) rfl;have s4:evS (orc prg w 44) (S.set 4 (T.lst TL.nil)) [some (.sh,.lst (ns.map .int)),some (.sh,.int c1),some (.ow,.lst (Ns.map .str)),some (.ow,.lst (RS [])),none,none,none,none]=.nx [some (.sh,.lst (ns.map .int)),some (.sh,.int c1),some (.ow,.lst (Ns.map .str)),some (.ow,.lst (RS [])),some (.ow,.lst (PS [])),none,none,none]:=aG (w:=true) (d:=.lst []) (bL rfl rfl) rfl
 obtain⟨K,hK,eK⟩:∃K:Nat,K<=30/\ev (orc prg w 44) [some (.sh,.lst (ns.map .int)),some (.sh,.int c1),some (.ow,.lst (Ns.map .str)),some (.ow,.lst (RS [])),some (.ow,.lst (PS [])),none,none,none] true (T.op2 .add (T.cst (D.int 1)) (T.op2 .fdiv (T.b2 .min (T.b1 .len (T.slc (T.var 0) (T.cst (D.int 1)) (T.cst (D.int 64)))) (T.cst (D.int 62))) (T.cst (D.int 3))))=.ok (false,.int (K:Int)):=by
  obtain⟨L,eL⟩:∃L,slcD (.lst (ns.map .int)) (some 1) (some 64)=some (true,.lst L):=⟨_,rfl⟩
  refine⟨1+min L.length 62/3,by omega,au aj (au (e_b2 (e_b1 (cC (ao rfl) aj aj rfl rfl eL) (eX _)) aj (Mh _)) aj (bu _ _ (by decide))) ?_⟩;refine(bM _ _).trans ?_
  have e:((min L.length 62:Nat):Int).fdiv 3=((min L.length 62/3:Nat):Int):=by rw[Int.fdiv_eq_ediv_of_nonneg _ (by omega)];rfl
  rw[e,Int.natCast_add];rfl
 have eI:evI (orc prg w 44) [some (.sh,.lst (ns.map .int)),some (.sh,.int c1),some (.ow,.lst (Ns.map .str)),some (.ow,.lst (RS [])),some (.ow,.lst (PS [])),none,none,none] false (TI.rng1 (T.op2 .add (T.cst (D.int 1)) (T.op2 .fdiv (T.b2 .min (T.b1 .len (T.slc (T.var 0) (T.cst (D.int 1)) (T.cst (D.int 64)))) (T.cst (D.int 62))) (T.cst (D.int 3)))))=.ok ((List.range' 0 K).map fun(i:Nat)=>D.int (i:Int)):=by
  have hin:inR (K:Int)=true:=by unfold inR;rw[Bool.and_eq_true];exact⟨decide_eq_true (by omega),decide_eq_true (by omega)⟩
  have er:rngD 0 (K:Int)=(List.range' 0 K).map fun(i:Nat)=>D.int (i:Int):=by
   unfold rngD
   have:((K:Int)-0).toNat=K:=by omega
   rw[this,List.range_eq_range']
   exact List.map_congr_left fun k _=>by rw[Int.zero_add]
  simp only[evI,eK,R.bind,hin,R.chk,if_true,er]
 obtain⟨δ',eF⟩:=yZ w hw ns c1 Ns h4 hn K 0 [] none none none (by omega) (by simp) fun p hp=>(nomatch hp)
 exact aA rfl rfl (stp _ s1 (stp _ s2 (stp _ s3 (stp _ s4 (stp _ (fors rfl eI eF) (stpR (retR aj rfl)))))))
end K16
namespace P16
open Z
theorem pure(ns:List Int)(h:ns.length<=63):∃w0,(orc prg w0 45).fn 25 [.lst (ns.map .int)]=.ok (false,.bl true):=⟨1048576,K16.law_run 1048576 (Nat.le_refl _) ns h⟩
end P16
namespace KF16
open PySem L2 Z P16
noncomputable def top(i:Nat):Stmt:=PySem.Challenge.pw_sumlaw_k16_what_fits.main.body.getD i (.Pass ⟨0,0,0,0⟩)
noncomputable def d0:Df:=⟨"common","common",top 1,["a","b","greater","smaller","left"],["a","b"],f0⟩
noncomputable def d1:Df:=⟨"least_common","least_common",top 2,["a","b"],["a","b"],f1⟩
noncomputable def d2:Df:=⟨"parts_of","parts_of",top 6,["told"],["told"],f2⟩
noncomputable def d3:Df:=⟨"all_within","all_within",top 7,["told","found","part"],["told"],f3⟩
noncomputable def d4:Df:=⟨"atom_list","atom_list",top 8,["told"],["told"],f4⟩
noncomputable def d5:Df:=⟨"bound_list","bound_list",top 9,["told"],["told"],f5⟩
noncomputable def d6:Df:=⟨"outer_list","outer_list",top 10,["told","found","part"],["told"],f6⟩
noncomputable def d7:Df:=⟨"least_common_of","least_common_of",top 11,["numbers","total","number"],["numbers"],f7⟩
noncomputable def d8:Df:=⟨"bound_share","bound_share",top 12,["told","bound","numbers","atom","total"],["told"],f8⟩
noncomputable def d9:Df:=⟨"divisor_share","divisor_share",top 13,["told"],["told"],f9⟩
noncomputable def d10:Df:=⟨"atoms","atoms",top 14,["told"],["told"],f10⟩
noncomputable def d11:Df:=⟨"depth","depth",top 15,["told","inner"],["told"],f11⟩
noncomputable def d12:Df:=⟨"load","load",top 16,["told"],["told"],f12⟩
noncomputable def d13:Df:=⟨"binder_fits","binder_fits",top 17,["told","more","deep"],["told","more"],f13⟩
noncomputable def d14:Df:=⟨"fits","fits",top 18,["told","more","outer"],["told","more"],f14⟩
noncomputable def d15:Df:=⟨"_law_cell_at","_law_cell_at",top 20,["_law_script","_law_k"],["_law_script","_law_k"],f15⟩
noncomputable def d16:Df:=⟨"_law_names","_law_names",top 21,["_law_cell","_law_letters","_law_word","_law_k","_law_start","_law_at"],["_law_cell"],f16⟩
noncomputable def d17:Df:=⟨"_law_limit","_law_limit",top 22,["_law_turns"],["_law_turns"],f17⟩
noncomputable def d18:Df:=⟨"_law_many","_law_many",top 23,["_law_cell","_law_turns"],["_law_cell","_law_turns"],f18⟩
noncomputable def d19:Df:=⟨"_law_drawn","_law_drawn",top 24,["_law_cells","_law_more","_law_deep","_law_turns","_law_many_here","_law_room","_law_way"],["_law_cells","_law_more"],f19⟩
noncomputable def d20:Df:=⟨"_law_atom","_law_atom",top 25,["_law_cell","_law_k","_law_drawn_here","_law_names_here","_law_bound","_law_number","_law_pairs","_law_whole"],["_law_cell","_law_k","_law_drawn_here","_law_names_here"],f20⟩
noncomputable def d21:Df:=⟨"_law_group","_law_group",top 26,["_law_cell","_law_drawn_here","_law_names_here","_law_row","_law_word","_law_part","_law_level","_law_cut"],["_law_cell","_law_drawn_here","_law_names_here"],f21⟩
noncomputable def d22:Df:=⟨"_law_group_fits","_law_group_fits",top 27,["_law_drawn_here","_law_more","_law_turns"],["_law_drawn_here","_law_more"],f22⟩
noncomputable def d23:Df:=⟨"_law_due","_law_due",top 28,["_law_rows","_law_more"],["_law_rows","_law_more"],f23⟩
noncomputable def d24:Df:=⟨"_law_right","_law_right",top 29,["_law_made","_law_rows","_law_dues","_law_answer_told","_law_due_here"],["_law_made","_law_rows"],f24⟩
noncomputable def d25:Df:=⟨"law","law",top 30,["_law_script","_law_first","_law_names_here","_law_rows","_law_parts","_law_at","_law_cells","_law_both"],["_law_script"],f25⟩
noncomputable def cs:List (Str×Gk):=[("MOST_ATOMS",.val (D.int 40)),("MOST_LOAD",.dct [.i 1,.i 2,.i 3] [(D.int 960),(D.int 240),(D.int 18)]),("!d",.dfl "fits" 0)]
noncomputable def ds:List Df:=[d0,d1,d2,d3,d4,d5,d6,d7,d8,d9,d10,d11,d12,d13,d14,d15,d16,d17,d18,d19,d20,d21,d22,d23,d24,d25]
theorem sc0:FnScope d0.N d0.ps (aq d0.st):=⟨rfl,rfl,rfl,by decide +kernel,rfl,by decide +kernel,by decide +kernel⟩
theorem ok0:DfOk (glOf 0 ds++cs) d0:=⟨sc0,rfl,rfl,.inl (by kernel_rfl)⟩
theorem sc1:FnScope d1.N d1.ps (aq d1.st):=⟨rfl,rfl,rfl,by decide +kernel,rfl,by decide +kernel,by decide +kernel⟩
theorem ok1:DfOk (glOf 0 ds++cs) d1:=⟨sc1,rfl,rfl,.inl (by kernel_rfl)⟩
theorem sc2:FnScope d2.N d2.ps (aq d2.st):=⟨rfl,rfl,rfl,by decide +kernel,rfl,by decide +kernel,by decide +kernel⟩
theorem ok2:DfOk (glOf 0 ds++cs) d2:=⟨sc2,rfl,rfl,.inl (by kernel_rfl)⟩
theorem sc3:FnScope d3.N d3.ps (aq d3.st):=⟨rfl,rfl,rfl,by decide +kernel,rfl,by decide +kernel,by decide +kernel⟩
theorem ok3:DfOk (glOf 0 ds++cs) d3:=⟨sc3,rfl,rfl,.inl (by kernel_rfl)⟩
theorem sc4:FnScope d4.N d4.ps (aq d4.st):=⟨rfl,rfl,rfl,by decide +kernel,rfl,by decide +kernel,by decide +kernel⟩
theorem ok4:DfOk (glOf 0 ds++cs) d4:=⟨sc4,rfl,rfl,.inl (by kernel_rfl)⟩
theorem sc5:FnScope d5.N d5.ps (aq d5.st):=⟨rfl,rfl,rfl,by decide +kernel,rfl,by decide +kernel,by decide +kernel⟩
theorem ok5:DfOk (glOf 0 ds++cs) d5:=⟨sc5,rfl,rfl,.inl (by kernel_rfl)⟩
theorem sc6:FnScope d6.N d6.ps (aq d6.st):=⟨rfl,rfl,rfl,by decide +kernel,rfl,by decide +kernel,by decide +kernel⟩
theorem ok6:DfOk (glOf 0 ds++cs) d6:=⟨sc6,rfl,rfl,.inl (by kernel_rfl)⟩
theorem sc7:FnScope d7.N d7.ps (aq d7.st):=⟨rfl,rfl,rfl,by decide +kernel,rfl,by decide +kernel,by decide +kernel⟩
theorem ok7:DfOk (glOf 0 ds++cs) d7:=⟨sc7,rfl,rfl,.inl (by kernel_rfl)⟩
theorem sc8:FnScope d8.N d8.ps (aq d8.st):=⟨rfl,rfl,rfl,by decide +kernel,rfl,by decide +kernel,by decide +kernel⟩
theorem ok8:DfOk (glOf 0 ds++cs) d8:=⟨sc8,rfl,rfl,.inl (by kernel_rfl)⟩
theorem sc9:FnScope d9.N d9.ps (aq d9.st):=⟨rfl,rfl,rfl,by decide +kernel,rfl,by decide +kernel,by decide +kernel⟩
theorem ok9:DfOk (glOf 0 ds++cs) d9:=⟨sc9,rfl,rfl,.inl (by kernel_rfl)⟩
theorem sc10:FnScope d10.N d10.ps (aq d10.st):=⟨rfl,rfl,rfl,by decide +kernel,rfl,by decide +kernel,by decide +kernel⟩
theorem ok10:DfOk (glOf 0 ds++cs) d10:=⟨sc10,rfl,rfl,.inl (by kernel_rfl)⟩
theorem sc11:FnScope d11.N d11.ps (aq d11.st):=⟨rfl,rfl,rfl,by decide +kernel,rfl,by decide +kernel,by decide +kernel⟩
theorem ok11:DfOk (glOf 0 ds++cs) d11:=⟨sc11,rfl,rfl,.inl (by kernel_rfl)⟩
theorem sc12:FnScope d12.N d12.ps (aq d12.st):=⟨rfl,rfl,rfl,by decide +kernel,rfl,by decide +kernel,by decide +kernel⟩
theorem ok12:DfOk (glOf 0 ds++cs) d12:=⟨sc12,rfl,rfl,.inl (by kernel_rfl)⟩
theorem sc13:FnScope d13.N d13.ps (aq d13.st):=⟨rfl,rfl,rfl,by decide +kernel,rfl,by decide +kernel,by decide +kernel⟩
theorem ok13:DfOk (glOf 0 ds++cs) d13:=⟨sc13,rfl,rfl,.inl (by kernel_rfl)⟩
theorem sc14:FnScope d14.N d14.ps (aq d14.st):=⟨rfl,rfl,rfl,by decide +kernel,rfl,by decide +kernel,by decide +kernel⟩
theorem ok14:DfOk (glOf 0 ds++cs) d14:=⟨sc14,rfl,rfl,.inl (by kernel_rfl)⟩
theorem sc15:FnScope d15.N d15.ps (aq d15.st):=⟨rfl,rfl,rfl,by decide +kernel,rfl,by decide +kernel,by decide +kernel⟩
theorem ok15:DfOk (glOf 0 ds++cs) d15:=⟨sc15,rfl,rfl,.inl (by kernel_rfl)⟩
theorem sc16:FnScope d16.N d16.ps (aq d16.st):=⟨rfl,rfl,rfl,by decide +kernel,rfl,by decide +kernel,by decide +kernel⟩
theorem ok16:DfOk (glOf 0 ds++cs) d16:=⟨sc16,rfl,rfl,.inl (by kernel_rfl)⟩
theorem sc17:FnScope d17.N d17.ps (aq d17.st):=⟨rfl,rfl,rfl,by decide +kernel,rfl,by decide +kernel,by decide +kernel⟩
theorem ok17:DfOk (glOf 0 ds++cs) d17:=⟨sc17,rfl,rfl,.inl (by kernel_rfl)⟩
theorem sc18:FnScope d18.N d18.ps (aq d18.st):=⟨rfl,rfl,rfl,by decide +kernel,rfl,by decide +kernel,by decide +kernel⟩
theorem ok18:DfOk (glOf 0 ds++cs) d18:=⟨sc18,rfl,rfl,.inl (by kernel_rfl)⟩
theorem sc19:FnScope d19.N d19.ps (aq d19.st):=⟨rfl,rfl,rfl,by decide +kernel,rfl,by decide +kernel,by decide +kernel⟩
theorem ok19:DfOk (glOf 0 ds++cs) d19:=⟨sc19,rfl,rfl,.inl (by kernel_rfl)⟩
theorem sc20:FnScope d20.N d20.ps (aq d20.st):=⟨rfl,rfl,rfl,by decide +kernel,rfl,by decide +kernel,by decide +kernel⟩
theorem ok20:DfOk (glOf 0 ds++cs) d20:=⟨sc20,rfl,rfl,.inl (by kernel_rfl)⟩
theorem sc21:FnScope d21.N d21.ps (aq d21.st):=⟨rfl,rfl,rfl,by decide +kernel,rfl,by decide +kernel,by decide +kernel⟩
theorem ok21:DfOk (glOf 0 ds++cs) d21:=⟨sc21,rfl,rfl,.inl (by kernel_rfl)⟩
theorem sc22:FnScope d22.N d22.ps (aq d22.st):=⟨rfl,rfl,rfl,by decide +kernel,rfl,by decide +kernel,by decide +kernel⟩
theorem ok22:DfOk (glOf 0 ds++cs) d22:=⟨sc22,rfl,rfl,.inl (by kernel_rfl)⟩
theorem sc23:FnScope d23.N d23.ps (aq d23.st):=⟨rfl,rfl,rfl,by decide +kernel,rfl,by decide +kernel,by decide +kernel⟩
theorem ok23:DfOk (glOf 0 ds++cs) d23:=⟨sc23,rfl,rfl,.inl (by kernel_rfl)⟩
theorem sc24:FnScope d24.N d24.ps (aq d24.st):=⟨rfl,rfl,rfl,by decide +kernel,rfl,by decide +kernel,by decide +kernel⟩
theorem ok24:DfOk (glOf 0 ds++cs) d24:=⟨sc24,rfl,rfl,.inl (by kernel_rfl)⟩
theorem sc25:FnScope d25.N d25.ps (aq d25.st):=⟨rfl,rfl,rfl,by decide +kernel,rfl,by decide +kernel,by decide +kernel⟩
theorem ok25:DfOk (glOf 0 ds++cs) d25:=⟨sc25,rfl,rfl,.inl (by kernel_rfl)⟩
theorem oks:∀d∈ds,DfOk (glOf 0 ds++cs) d:=by
 intro d hd;simp only[ds,List.mem_cons,List.not_mem_nil,or_false]at hd;rcases hd with rfl | rfl | rfl | rfl | rfl | rfl | rfl | rfl | rfl | rfl | rfl | rfl | rfl | rfl | rfl | rfl | rfl | rfl | rfl | rfl | rfl | rfl | rfl | rfl | rfl | rfl
 ·exact ok0
 ·exact ok1
 ·exact ok2
 ·exact ok3
 ·exact ok4
 ·exact ok5
 ·exact ok6
 ·exact ok7
 ·exact ok8
 ·exact ok9
 ·exact ok10
 ·exact ok11
 ·exact ok12
 ·exact ok13
 ·exact ok14
 ·exact ok15
 ·exact ok16
 ·exact ok17
 ·exact ok18
 ·exact ok19
 ·exact ok20
 ·exact ok21
 ·exact ok22
 ·exact ok23
 ·exact ok24
 ·exact ok25
theorem b0:bO d0:=fP rfl fun _ _ _ _ _ _ _ _=>rfl
theorem b1:bO d1:=fP rfl fun _ _ _ _ _ _ _ _=>rfl
theorem b2:bO d2:=cG rfl fun _ _ _ _ _ _ _=>rfl
theorem b3:bO d3:=cG rfl fun _ _ _ _ _ _ _=>rfl
theorem b4:bO d4:=cG rfl fun _ _ _ _ _ _ _=>rfl
theorem b5:bO d5:=cG rfl fun _ _ _ _ _ _ _=>rfl
theorem b6:bO d6:=cG rfl fun _ _ _ _ _ _ _=>rfl
theorem b7:bO d7:=cG rfl fun _ _ _ _ _ _ _=>rfl
theorem b8:bO d8:=cG rfl fun _ _ _ _ _ _ _=>rfl
theorem b9:bO d9:=cG rfl fun _ _ _ _ _ _ _=>rfl
theorem b10:bO d10:=cG rfl fun _ _ _ _ _ _ _=>rfl
theorem b11:bO d11:=cG rfl fun _ _ _ _ _ _ _=>rfl
theorem b12:bO d12:=cG rfl fun _ _ _ _ _ _ _=>rfl
theorem b13:bO d13:=fP rfl fun _ _ _ _ _ _ _ _=>rfl
theorem b14:Gm d14 0:=fun T t _ _ _ _ _ _=>⟨fun a b=>⟨_,rfl,rfl⟩,fun a=>⟨_,rfl,rfl⟩⟩
theorem b15:bO d15:=fP rfl fun _ _ _ _ _ _ _ _=>rfl
theorem b16:bO d16:=cG rfl fun _ _ _ _ _ _ _=>rfl
theorem b17:bO d17:=cG rfl fun _ _ _ _ _ _ _=>rfl
theorem b18:bO d18:=fP rfl fun _ _ _ _ _ _ _ _=>rfl
theorem b19:bO d19:=fP rfl fun _ _ _ _ _ _ _ _=>rfl
theorem b20:bO d20:=JG rfl fun _ _ _ _ _ _ _ _ _ _=>rfl
theorem b21:bO d21:=Hf rfl fun _ _ _ _ _ _ _ _ _=>rfl
theorem b22:bO d22:=fP rfl fun _ _ _ _ _ _ _ _=>rfl
theorem b23:bO d23:=fP rfl fun _ _ _ _ _ _ _ _=>rfl
theorem b24:bO d24:=fP rfl fun _ _ _ _ _ _ _ _=>rfl
theorem b25:bO d25:=cG rfl fun _ _ _ _ _ _ _=>rfl
open PySem.W
noncomputable def ge(P:Params)(x:Str)(t:Tok)(v:Value):DictEntry:=⟨PyData.keyHash P x,.str x t,v⟩
noncomputable def co(a:Addr)(x:Str)(t:Nat)(l n f:Int)(r:Addr)(b:Bool)(r2:Addr)(v1 v2 v3:Value)(r3:Addr)(u:Nat):Addr×Obj:=(a,⟨.type "code",none,.fields #[.str x t,.str x (t+1),.str "/claim/cut.py" (t+2),.int l 0,.int n 0,.int 0 0,.int 0 0,.int f 0,.ref r,.bool b,.int 181 0,.ref r2,v1,v2,v3,.ref r3,.int u 0,.int l 0,.str "/claim/cut.py" (u+1)],#[]⟩)
noncomputable def fo(a:Addr)(x:Str)(i:Nat)(m:Str)(t:Tok)(c:Addr):Addr×Obj:=(a,⟨.type "function",none,.func (fnOf x x (aZ (top i)) (aM (top i)) (aq (top i)) .none .none .none (.str m t) none (.ref c) .none),#[]⟩)
noncomputable def fod(a:Addr)(x:Str)(i:Nat)(m:Str)(t:Tok)(c T:Addr):Addr×Obj:=(a,⟨.type "function",none,.func (fnOf x x (aZ (top i)) (aM (top i)) (aq (top i)) (.ref T) .none .none (.str m t) none (.ref c) .none),#[]⟩)
noncomputable def KK:Params->Frag:=fun P=>[(3,⟨.type "dict",none,.dict #[ge P "__name__" 165 (.str "law_sumlaw_k16_what_fits" 319),ge P "__doc__" 166 .none,ge P "__package__" 167 .none,ge P "__loader__" 168 (.builtin "__main__.__loader__#opaque"),ge P "__spec__" 169 .none,ge P "__annotations__" 170 (.ref 6),ge P "__builtins__" 171 (.ref 4),ge P "__file__" 173 (.str "/claim/cut.py" 172),ge P "__cached__" 174 .none,ge P "common" 199 (.ref 21),ge P "least_common" 207 (.ref 28),ge P "MOST_ATOMS" 211 (.int 40 210),ge P "MOST_LOAD" 221 (.ref 29),ge P "parts_of" 228 (.ref 36),ge P "all_within" 237 (.ref 43),ge P "atom_list" 243 (.ref 48),ge P "bound_list" 249 (.ref 53),ge P "outer_list" 258 (.ref 60),ge P "least_common_of" 267 (.ref 67),ge P "bound_share" 273 (.ref 72),ge P "divisor_share" 279 (.ref 77),ge P "atoms" 286 (.ref 84),ge P "depth" 292 (.ref 89),ge P "load" 299 (.ref 96),ge P "binder_fits" 308 (.ref 103),ge P "fits" 318 (.ref 111),ge P "_law_cell_at" 328 (.ref 118),ge P "_law_names" 334 (.ref 123),ge P "_law_limit" 341 (.ref 130),ge P "_law_many" 349 (.ref 137),ge P "_law_drawn" 362 (.ref 144),ge P "_law_atom" 376 (.ref 151),ge P "_law_group" 382 (.ref 156),ge P "_law_group_fits" 391 (.ref 163),ge P "_law_due" 397 (.ref 168),ge P "_law_right" 408 (.ref 175),ge P "law" 414 (.ref 180)] 37,#[]⟩),co 20 "common" 189 2 2 3 15 true 16 .none (.ref 17) (.ref 18) 19 197,fo 21 "common" 1 "sumlaw.numbers" 187 20,co 27 "least_common" 200 10 2 3 22 true 23 .none (.ref 24) (.ref 25) 26 205,fo 28 "least_common" 2 "sumlaw.numbers" 187 27,co 35 "parts_of" 222 15 1 3 30 true 31 .none (.ref 32) (.ref 33) 34 226,fo 36 "parts_of" 6 "sumlaw.measure" 208 35,co 42 "all_within" 229 23 1 3 37 true 38 .none (.ref 39) (.ref 40) 41 235,fo 43 "all_within" 7 "sumlaw.measure" 208 42,co 47 "atom_list" 238 28 1 3 44 true 45 .none .none .none 46 241,fo 48 "atom_list" 8 "sumlaw.measure" 208 47,co 52 "bound_list" 244 30 1 3 49 true 50 .none .none .none 51 247,fo 53 "bound_list" 9 "sumlaw.measure" 208 52,co 59 "outer_list" 250 32 1 3 54 true 55 .none (.ref 56) (.ref 57) 58 256,fo 60 "outer_list" 10 "sumlaw.measure" 208 59,co 66 "least_common_of" 259 39 1 3 61 true 62 .none (.ref 63) (.ref 64) 65 265,fo 67 "least_common_of" 11 "sumlaw.measure" 208 66,co 71 "bound_share" 268 44 1 3 68 true 69 .none .none .none 70 271,fo 72 "bound_share" 12 "sumlaw.measure" 208 71,co 76 "divisor_share" 274 51 1 3 73 true 74 .none .none .none 75 277,fo 77 "divisor_share" 13 "sumlaw.measure" 208 76,co 83 "atoms" 280 53 1 3 78 true 79 .none (.ref 80) (.ref 81) 82 284,fo 84 "atoms" 14 "sumlaw.measure" 208 83,co 88 "depth" 287 55 1 3 85 true 86 .none .none .none 87 290,fo 89 "depth" 15 "sumlaw.measure" 208 88,co 95 "load" 293 58 1 3 90 true 91 .none (.ref 92) (.ref 93) 94 297,fo 96 "load" 16 "sumlaw.measure" 208 95,co 102 "binder_fits" 300 60 2 3 97 true 98 .none (.ref 99) (.ref 100) 101 306,fo 103 "binder_fits" 17 "sumlaw.measure" 208 102,co 110 "fits" 310 65 2 3 105 true 106 .none (.ref 107) (.ref 108) 109 316,(104,Obj.mk (.type "tuple") none (Data.seq #[.int 0 309]) #[]),fod 111 "fits" 18 "sumlaw.measure" 208 110 104,co 117 "_law_cell_at" 321 73 2 3 112 true 113 .none (.ref 114) (.ref 115) 116 326,fo 118 "_law_cell_at" 20 "law_sumlaw_k16_what_fits" 319 117,co 122 "_law_names" 329 77 1 3 119 true 120 .none .none .none 121 332,fo 123 "_law_names" 21 "law_sumlaw_k16_what_fits" 319 122,co 129 "_law_limit" 335 88 1 3 124 true 125 .none (.ref 126) (.ref 127) 128 339,fo 130 "_law_limit" 22 "law_sumlaw_k16_what_fits" 319 129,co 136 "_law_many" 342 90 2 3 131 true 132 .none (.ref 133) (.ref 134) 135 347,fo 137 "_law_many" 23 "law_sumlaw_k16_what_fits" 319 136,co 143 "_law_drawn" 350 98 2 3 138 true 139 .none (.ref 140) (.ref 141) 142 360,fo 144 "_law_drawn" 24 "law_sumlaw_k16_what_fits" 319 143,co 150 "_law_atom" 363 113 4 3 145 true 146 .none (.ref 147) (.ref 148) 149 374,fo 151 "_law_atom" 25 "law_sumlaw_k16_what_fits" 319 150,co 155 "_law_group" 377 127 3 3 152 true 153 .none .none .none 154 380,fo 156 "_law_group" 26 "law_sumlaw_k16_what_fits" 319 155,co 162 "_law_group_fits" 383 144 2 3 157 true 158 .none (.ref 159) (.ref 160) 161 389,fo 163 "_law_group_fits" 27 "law_sumlaw_k16_what_fits" 319 162,co 167 "_law_due" 392 151 2 3 164 true 165 .none .none .none 166 395,fo 168 "_law_due" 28 "law_sumlaw_k16_what_fits" 319 167,co 174 "_law_right" 398 155 2 3 169 true 170 .none (.ref 171) (.ref 172) 173 406,fo 175 "_law_right" 29 "law_sumlaw_k16_what_fits" 319 174,co 179 "law" 409 161 1 3 176 true 177 .none .none .none 178 412,fo 180 "law" 30 "law_sumlaw_k16_what_fits" 319 179,(29,Obj.mk (.type "dict") none (Data.dict #[DictEntry.mk 1 (.int 1 212) (.int 960 213),DictEntry.mk 2 (.int 2 214) (.int 240 215),DictEntry.mk 3 (.int 3 216) (.int 18 217)] 3) #[])]
noncomputable def Kas:List Addr:=[3,20,21,27,28,35,36,42,43,47,48,52,53,59,60,66,67,71,72,76,77,83,84,88,89,95,96,102,103,110,104,111,117,118,122,123,129,130,136,137,143,144,150,151,155,156,162,163,167,168,174,175,179,180,29]
theorem dk{K:Frag}{h:Heap}{mg:Str->Option Value}(d:Df)(a c:Addr)(m:Str)(t:Tok)(X:K.In h)(G:h.Ns mainGlobals mg)(hb:bO d)(n:nsIn K mainGlobals d.name=some (some (.ref a)))(l:K.lookup a=some ⟨.type "function",none,.func (fnOf d.name d.qual (aZ d.st) (aM d.st) (aq d.st) .none .none .none (.str m t) none (.ref c) .none),#[]⟩)(e:codeIn K (.ref c) d.qual=true)(k:keepIn K (.ref a)=true):DfAt K mg d:=KJ X G n l e k hb
theorem all_mk{lw:PySem.W.OpenLaw}{w:World}{h:Heap}{mg:Str->Option Value}{fa:Addr}(X:(KK w.params).In h)(G:h.Ns mainGlobals mg)(hfa:mg "law"=some (.ref fa)):∃(fd:FuncData) (CT:Nat->Addr),(∀(s:Shared) (u:Value),BindsTo s fd ⟨[u],[]⟩ [("_law_script",u)])/\∀(base:Heap) (w0:Nat),FnOk lw.prog w (KK w.params) mg base CX0 (44+1) fa fd ["_law_script"] (spFn ⟨(KK w.params),CT⟩ ((orc prg w0 (44+1)).fn 25) 1):=by
 have e:=hfa.symm.trans (PySem.W.mg_of X G (show nsIn (KK w.params) mainGlobals "law"=some (some (.ref 180)) by kernel_rfl));cases e;obtain⟨t_14,f14',fd14',vs14',u14⟩:=GQ (d:=d14) X G (show PySem.W.nsIn (KK w.params) mainGlobals "fits"=some (some (.ref 111)) by kernel_rfl) (show(KK w.params).lookup 111=some ⟨(.type "function"),none,.func (PySem.W.fnOf "fits" "fits" (aZ (top 18)) (aM (top 18)) (aq (top 18)) (.ref 104) .none .none (.str "sumlaw.measure" 208) none (.ref 110) .none),#[]⟩ by kernel_rfl) (show PySem.W.codeIn (KK w.params) (.ref 110) "fits"=true by kernel_rfl) (show PySem.W.keepIn (KK w.params) (.ref 111)=true by kernel_rfl) (show(KK w.params).lookup 104=some ⟨.type "tuple",none,.seq #[.int 0 309] 0,#[]⟩ by kernel_rfl) rfl b14
 have hat:∀d∈ds,DfAt (KK w.params) mg d:=by
  intro d hd;simp only[ds,List.mem_cons,List.not_mem_nil,or_false]at hd;rcases hd with rfl | rfl | rfl | rfl | rfl | rfl | rfl | rfl | rfl | rfl | rfl | rfl | rfl | rfl | rfl | rfl | rfl | rfl | rfl | rfl | rfl | rfl | rfl | rfl | rfl | rfl
  ·exact dk d0 21 20 "sumlaw.numbers" 187 X G b0 (by kernel_rfl) (by kernel_rfl) (by kernel_rfl) (by kernel_rfl)
  ·exact dk d1 28 27 "sumlaw.numbers" 187 X G b1 (by kernel_rfl) (by kernel_rfl) (by kernel_rfl) (by kernel_rfl)
  ·exact dk d2 36 35 "sumlaw.measure" 208 X G b2 (by kernel_rfl) (by kernel_rfl) (by kernel_rfl) (by kernel_rfl)
  ·exact dk d3 43 42 "sumlaw.measure" 208 X G b3 (by kernel_rfl) (by kernel_rfl) (by kernel_rfl) (by kernel_rfl)
  ·exact dk d4 48 47 "sumlaw.measure" 208 X G b4 (by kernel_rfl) (by kernel_rfl) (by kernel_rfl) (by kernel_rfl)
  ·exact dk d5 53 52 "sumlaw.measure" 208 X G b5 (by kernel_rfl) (by kernel_rfl) (by kernel_rfl) (by kernel_rfl)
  ·exact dk d6 60 59 "sumlaw.measure" 208 X G b6 (by kernel_rfl) (by kernel_rfl) (by kernel_rfl) (by kernel_rfl)
  ·exact dk d7 67 66 "sumlaw.measure" 208 X G b7 (by kernel_rfl) (by kernel_rfl) (by kernel_rfl) (by kernel_rfl)
  ·exact dk d8 72 71 "sumlaw.measure" 208 X G b8 (by kernel_rfl) (by kernel_rfl) (by kernel_rfl) (by kernel_rfl)
  ·exact dk d9 77 76 "sumlaw.measure" 208 X G b9 (by kernel_rfl) (by kernel_rfl) (by kernel_rfl) (by kernel_rfl)
  ·exact dk d10 84 83 "sumlaw.measure" 208 X G b10 (by kernel_rfl) (by kernel_rfl) (by kernel_rfl) (by kernel_rfl)
  ·exact dk d11 89 88 "sumlaw.measure" 208 X G b11 (by kernel_rfl) (by kernel_rfl) (by kernel_rfl) (by kernel_rfl)
  ·exact dk d12 96 95 "sumlaw.measure" 208 X G b12 (by kernel_rfl) (by kernel_rfl) (by kernel_rfl) (by kernel_rfl)
  ·exact dk d13 103 102 "sumlaw.measure" 208 X G b13 (by kernel_rfl) (by kernel_rfl) (by kernel_rfl) (by kernel_rfl)
  ·exact t_14
  ·exact dk d15 118 117 "law_sumlaw_k16_what_fits" 319 X G b15 (by kernel_rfl) (by kernel_rfl) (by kernel_rfl) (by kernel_rfl)
  ·exact dk d16 123 122 "law_sumlaw_k16_what_fits" 319 X G b16 (by kernel_rfl) (by kernel_rfl) (by kernel_rfl) (by kernel_rfl)
  ·exact dk d17 130 129 "law_sumlaw_k16_what_fits" 319 X G b17 (by kernel_rfl) (by kernel_rfl) (by kernel_rfl) (by kernel_rfl)
  ·exact dk d18 137 136 "law_sumlaw_k16_what_fits" 319 X G b18 (by kernel_rfl) (by kernel_rfl) (by kernel_rfl) (by kernel_rfl)
  ·exact dk d19 144 143 "law_sumlaw_k16_what_fits" 319 X G b19 (by kernel_rfl) (by kernel_rfl) (by kernel_rfl) (by kernel_rfl)
  ·exact dk d20 151 150 "law_sumlaw_k16_what_fits" 319 X G b20 (by kernel_rfl) (by kernel_rfl) (by kernel_rfl) (by kernel_rfl)
  ·exact dk d21 156 155 "law_sumlaw_k16_what_fits" 319 X G b21 (by kernel_rfl) (by kernel_rfl) (by kernel_rfl) (by kernel_rfl)
  ·exact dk d22 163 162 "law_sumlaw_k16_what_fits" 319 X G b22 (by kernel_rfl) (by kernel_rfl) (by kernel_rfl) (by kernel_rfl)
  ·exact dk d23 168 167 "law_sumlaw_k16_what_fits" 319 X G b23 (by kernel_rfl) (by kernel_rfl) (by kernel_rfl) (by kernel_rfl)
  ·exact dk d24 175 174 "law_sumlaw_k16_what_fits" 319 X G b24 (by kernel_rfl) (by kernel_rfl) (by kernel_rfl) (by kernel_rfl)
  ·exact dk d25 180 179 "law_sumlaw_k16_what_fits" 319 X G b25 (by kernel_rfl) (by kernel_rfl) (by kernel_rfl) (by kernel_rfl)
 have hgb:∀x∈cj,(glOf 0 ds++cs).lookup x=none->mg x=none:=by
  intro x hx _;simp only[cj,List.mem_cons,List.not_mem_nil,or_false]at hx;rcases hx with rfl | rfl | rfl | rfl | rfl | rfl | rfl | rfl | rfl | rfl | rfl | rfl | rfl | rfl | rfl | rfl | rfl | rfl | rfl | rfl
  all_goals(exact PySem.W.mg_none_of X G (by kernel_rfl))
 have hcs:∀q∈cs,CsOk lw.prog w ⟨(KK w.params),fun _=>0⟩ mg q:=by
  intro q hq;simp only[cs,List.mem_cons,List.not_mem_nil,or_false]at hq;rcases hq with rfl | rfl | rfl
  ·exact⟨fun d e=>(by cases e;exact⟨_,.int 40,PySem.W.mg_of X G (show PySem.W.nsIn (KK w.params) mainGlobals "MOST_ATOMS"=some (some (.int 40 210)) by kernel_rfl),⟨210,rfl⟩,fun G=>by simp only[Rep]⟩),fun ks vs e=>(by cases e)⟩
  ·exact⟨fun d e=>(by cases e),fun ks vs e=>(by cases e;exact⟨29,PySem.W.mg_of X G (show PySem.W.nsIn (KK w.params) mainGlobals "MOST_LOAD"=some (some (.ref 29)) by kernel_rfl),KR (P:=lw.prog) (w:=w) (W:=⟨(KK w.params),fun _=>0⟩) (qs:=[(.i 1,212,.int 960 213,(D.int 960)),(.i 2,214,.int 240 215,(D.int 240)),(.i 3,216,.int 18 217,(D.int 18))]) (show(KK w.params).lookup 29=some { cls:=.type "dict",data:=.dict #[⟨hashInt 1,.int 1 212,.int 960 213⟩,⟨hashInt 2,.int 2 214,.int 240 215⟩,⟨hashInt 3,.int 3 216,.int 18 217⟩] 3 } by kernel_rfl) (by kernel_rfl) (show([.i 1,.i 2,.i 3]:List DK).Nodup from by decide) (show(29==sysModules)=false by kernel_rfl) ⟨⟨.int 960,⟨213,rfl⟩,fun G=>by simp only[Rep]⟩,⟨⟨.int 240,⟨215,rfl⟩,fun G=>by simp only[Rep]⟩,⟨⟨.int 18,⟨217,rfl⟩,fun G=>by simp only[Rep]⟩,trivial⟩⟩⟩⟩)⟩
  ·exact⟨fun d e=>(by cases e),fun ks vs e=>(by cases e)⟩
 obtain⟨hgv,hgd⟩:=J3 (ds:=ds) hcs
 have hno:NoFn cs:=by
  intro q hq i np;simp only[cs,List.mem_cons,List.not_mem_nil,or_false]at hq;rcases hq with rfl | rfl | rfl<;>simp
 have hdf:∀x v i np,(glOf 0 ds++cs).lookup ("!d":Str)=some (.dfl x v)->(glOf 0 ds++cs).lookup x=some (.fn i np)->∃d f fd vs,prg.fns[i]?=some d.fd/\DfOk (glOf 0 ds++cs) d/\d.ps.length=np/\Fun (KK w.params) d.name d.qual d.st f fd/\Binds (KK w.params) fd d.ps vs/\L2.Vals [.int v] vs/\mg x=some (.ref f):=by
  intro x v i np h h'
  have e:(glOf 0 ds++cs).lookup ("!d":Str)=some (.dfl "fits" 0):=by kernel_rfl
  rw[e]at h;cases h
  have e:(glOf 0 ds++cs).lookup ("fits":Str)=some (.fn 14 2):=by kernel_rfl
  rw[e]at h';cases h';exact⟨d14,f14',fd14',vs14',rfl,ok14,rfl,u14.1,u14.2.1,u14.2.2.1,u14.2.2.2⟩
 have GR0:Ground lw.prog w (KK w.params) mg ⟨(KK w.params),fun _=>0⟩ prg (glOf 0 ds++cs):=⟨rfl,hgb,hgv,hgd,hdf⟩
 refine⟨PySem.W.fnOf "law" "law" (aZ (top 30)) (aM (top 30)) (aq (top 30)) .none .none .none (.str "law_sumlaw_k16_what_fits" 319) none (.ref 179) .none,fun _=>0,fun s v=>.of_eq rfl,fun base w0=>?_⟩;exact Jo (d:=d25) (i:=25) (n:=44) (W:=⟨(KK w.params),fun _=>0⟩) (p:=prg) (ds:=ds) (cs:=cs) hno GR0 rfl oks hat (qF (st:=top 30) (show(KK w.params).lookup 180=some ⟨.type "function",none,.func (fnOf "law" "law" (aZ (top 30)) (aM (top 30)) (aq (top 30)) .none .none .none (.str "law_sumlaw_k16_what_fits" 319) none (.ref 179) .none),#[]⟩ by kernel_rfl) (show codeIn (KK w.params) (.ref 179) "law"=true by kernel_rfl) (by kernel_rfl)) ok25 rfl
end KF16
open PySem PySem.W PyProof.Rows
namespace KF16
open PySem PySem.W L2
noncomputable def Q:Program:={ PySem.Challenge.pw_sumlaw_k16_what_fits with main:={ PySem.Challenge.pw_sumlaw_k16_what_fits.main with body:=[1,2,4,6,7,8,9,10,11,12,13,14,15,16,17,19,20,21,22,23,24,25,26,27,28,29,30].filterMap fun i=>PySem.Challenge.pw_sumlaw_k16_what_fits.main.body[i]? } }
theorem Ij:∀P,Kas=(KK P).map (·.1):=fun P=>by kernel_rfl
noncomputable def HH:Hook:=kHook KK Kas Ij
set_option maxHeartbeats 0 in
theorem left:LeftO PySem.Challenge.rw_sumlaw_k16_what_fits.row.prog Q [Str.ofString "MOST_LOAD",Str.ofString "fits"] (fun s=>xlAt Q [] s&&recOk (RowW.records (OpenRow.toRowW PySem.Challenge.rw_sumlaw_k16_what_fits.row)) s) (Hook.obs HH) (Hook.val HH) 1826 :=
 fun w=>byRow2 (P:=fun w=>(openEnds treeTable PySem.Challenge.rw_sumlaw_k16_what_fits.row.prog w 1826).map (fun s=>(openSeen Q [Str.ofString "MOST_LOAD",Str.ofString "fits"] (importedModules PySem.Challenge.rw_sumlaw_k16_what_fits.row.prog.main.body) (fun s=>xlAt Q [] s&&recOk (RowW.records (OpenRow.toRowW PySem.Challenge.rw_sumlaw_k16_what_fits.row)) s) true s,Hook.obs HH s))=some (openGood Q [Str.ofString "MOST_LOAD",Str.ofString "fits"],Hook.val HH w)) "special-get-raises" (fun w=>by kernel_rfl) (fun w=>by kernel_rfl) w
end KF16
set_option maxRecDepth 100000 in
set_option maxHeartbeats 0 in
theorem PySem.Challenge.cw_sumlaw_k16_what_fits_holds : PySem.Challenge.rw_sumlaw_k16_what_fits.Holds := by
 refine PySem.W.holds_law (by kernel_rfl) fun said=>?_
 refine PySem.W.holds_open (q:=KF16.Q) (YP:=PySem.W.Hook.says KF16.HH) (XP:=PySem.W.XL KF16.Q []) KF16.left (PySem.W.Hook.of KF16.HH) (PySem.W.Hook.keeps KF16.HH) (fun s e=>PySem.W.xl_of s (Bool.and_eq_true_iff.mp e).1) PySem.W.XL.keeps (by rfl) (by rfl) (by rfl) (fun s e=>PySem.W.recFacts_of (Bool.and_eq_true_iff.mp e).2) (by rfl) (by first | assumption | decide +kernel) (by decide +kernel) ⟨rfl,rfl,rfl,rfl,rfl,by decide +kernel⟩ ?hw ?hc
 case hw=>w_witness2
 case hc=>
  refine Z.walkZ (l:=PySem.Challenge.rw_sumlaw_k16_what_fits) (p:=P16.prg) (n:=44+1) (i:=25) (x:="_law_script") rfl rfl ⟨rfl,by decide,by decide⟩ (fun w h Y=>PySem.W.kIn_of Y) ?F P16.pure
  case F=>
   intro w mg fa h KX G hmg;exact KF16.all_mk KX G hmg
