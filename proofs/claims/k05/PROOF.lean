import PyProof.Rows.All
import Wide.All
import OpenK.AllK
import Wide.FinOn
import Lean
import PyProof.EqAt
import PyProof.EqKinds
import PyProof.TupleCall
import KE.KEqDict
import PyProof.Draws
import PyProof.Rows.Range3
import PyProof.Rows.SumAny
import PyProof.DictUpdate
import PyProof.RaisesDict
import PySem.Challenge.RW_sumlaw_k05_plain_worth
set_option Elab.async false
set_option linter.all false
set_option maxRecDepth 100000
set_option autoImplicit true
open PySem renaming wpAny_bind→R6,wpAny_pure→Rc,starEach→Rj,Heap→Rk,wpAny→Rn,model→Rt,Program→Rz,SetTable→RD,World→RT,Around→RV,mainGlobals→Sh,eval→Sv,Builtin→Sw,backTo→SN,wpAny_mono→T8,sizeLine_eq→T9,rawInt→Tf,NameKind→Tg,codeAny_builtin→Th,assignEach→Ti,keywordEach→Tr,mem_of_lookup→Tu,wpAny_setState_of→TJ,foldedSetIterable→TQ,compareOp→TX,wpAny_holding→U6,holding→U7,bootBuiltins→U8,behindInMarks→U9,wpAny_truthy_bool→Ue,codeAny_mono→Uj,plainId_quiet→Ul,wpAny_setField→Uo,wpAny_newObj_type→Ut,unsupported→Uu,sysModules→Ux,backToKw→UW,FuncData→V0,getMethod→V6,attributeBase→V7,standAt→V8,strIterType→Vb,swapsWith→Vd,binaryOp→Vm,wpAny_Call_Name_kw→Vp,Paired→Vr,PassesOwn→Vt,wpAny_pyIter_list→Vw,codeAny→Vx,wpAny_call_entry→VH,sliceBounds→VL,callWith→VM,wpAny_updateSeq→VR,wpAny_passesOwn→W0,wpAny_loadPart'→W2,scanBound→W6,wpAny_rule→W8,tupleKind_room_in1→W9,assign→Wa,valueAt→Wf,fits_of_scanBound→Wg,Keyword→Wi,pyNext→Wj,cLine→Wm,Data→Wt,letOwnedTupleGo→Wu,wpAny_tryCatch→Wx,wpAny_seqItems→Wy,wpAny_field→Wz,setField→WD,Within→WF,pickOrder→WK,callerA→WL,wpAny_call→WP,setEntries→WQ,isInstance→WT,relayAll→WX,relabel→WY,BindsTo→X4,tupleKind→X5,Result→X6,wpAny_letGo→X8,subscripted→Xa,getItem→Xc,atKey→Xd,Params→Xe,GenState→Xf,Code→Xh,updateSeq→Xi,treeTable→Xj,noteFrame→Xk,bindL→Xl,bindC→Xm,setItem→Xo,pyIter→Xp,collect→Xq,argsOk→Xr,ElemsOf→Xv,raiseNew→Xy,IntMulOk→Xz
open PySem.Heap renaming get?_push_of_some→R7,lt_size→Ro,get?_push_size→Rp,get?_update_other→RN,get?_update_self→S5,get?_update_ne→Te,SameBut→Tz,size_push→Uw
open List renaming map_cons→R8,mem_cons_of_mem→Rb,mem_cons_self→Rg,mem_cons→Rh,getElem?_eq_getElem→Rm,size_toArray→Ru,length_cons→Rv,length_map→Rw,length_append→Rx,getElem?_eq_some_iff→Ry,mem_map→RB,range→RG,getElem?_map→RK,map_nil→RQ,replicate→RW,getElem?_set_self→RX,not_mem_nil→RZ,any_cons→S6,getElem?_set_ne→S7,all_eq_true→S8,nodup_cons→Sd,append_nil→Sg,getElem?_append_right→Sq,getD_eq_getElem?_getD→Ss,mem_append_right→Su,mem_of_getElem?→Sx,length_nil→Sy,map_map→SM,lookup_cons→SQ,length→T3,mem_append→T6,getElem?_append_left→Td,mem_range→Tw,mem_map_of_mem→TF,length_replicate→U0,mem_append_left→U5,Perm→Ua,getElem_mem→Uh,map_append→Up,getElem_of_mem→Uv,lookup→UJ,eq_nil_of_length_eq_zero→UL,pairwise_cons→UV,cons_append→V9,filterMap_cons→Va,mem_filter→Ve,find?_cons→Vf,mem_singleton→Vh,getElem?_replicate→Vk,getElem?_eq_none→Vu,length_take→Vv,foldl_cons→VG,pairwise_map→W4,append_assoc→W5,all_cons→W7,filter_cons→Wc,any_nil→Wh,nodup_nil→Wq
open Option renaming some→R9,bind_some→Rq,map_some→RJ,map_eq_some_iff→T7,isSome_iff_exists→U4,getD_some→Ug
open PySem.W renaming Frag→Ra,keepIn→RL,findIn→RP,emptyDict→Tn,fnOf→Uc,instObj→Um,isIn→Uy,callWith_K→Uz,kia_one→UG,codeIn→V4,plainGet→V5,isFn→Vi,hasDictIn→Vj,methodCall_KW→Vn,nsIn→VF,specialIn→VN,plainOver→VP,handedIn→W3,makesIn→Wb,lookIn→Wl,mg_of→Wo
open Option.some renaming injEq→Rf,inj→T4
open Array renaming getElem?_eq_getElem→Rr,getD_eq_getD_getElem?→RM,getElem_toList→Ur,length_toList→Us,mk→Xg
open False renaming elim→RC
open PySem.SetTable renaming below→S9,grown→V3
open PySem.Around renaming under_plainId→SJ
open PySem.SeqAt renaming EqAt→SX
open Ne renaming symm→T5
open PySem.F renaming plain_max_loop→Tp,called_set→TV,plain_list_iadd→Vc
open List.cons renaming injEq→Tq
open PySem.Obj renaming mapFields→Tv,isFreed_of_fields→U3,data_mapFields→Uk,mk→Vz,mapSeq→VB,putSet→X7
open PySem.NameKind renaming free→TY,cell→Wn
open PySem.ClassData renaming mk→Ub
open List.Perm renaming refl→Ud
open True renaming intro→Ui
open PySem.Builtin.Str renaming occurrences→Uq
open PyProof.Rows renaming sortedS→UT,AllBare→VJ,envOfC→Wr,IntsAre→WM,seqObj→WR,pairsOf→Xb,arrOf→Xn,StrsAre→Xu
open PySem.Data renaming cls→Vo,fields→WW
open Sum renaming inr→Vq,inl→Ww
open Prod.mk renaming injEq→Vs
open PySem.SetTable.below renaming go→Vy
open PySem.Txt renaming join→We
open PySem.Paired renaming length→Ws
open Except renaming ok→WN
open MonadExcept renaming tryCatch→Xw
open ToString renaming toString→Xx
noncomputable section
namespace L2
open PySem PySem.Spec PyProof.Rows
abbrev Key:=Sum Int Str
noncomputable def mQ:Key->Value->Bool
 | .inl k,v=>Value.isInt k v
 | .inr x,v=>Value.isStrOf x v
noncomputable def keyH(w:RT):Key->Int
 | .inl k=>hashInt k
 | .inr x=>hashStr w x
theorem aY:∀{k:Key} {v:Value},mQ k v=true->(∃i t,k=Ww i/\v=Value.int i t)\/(∃x t,k=Vq x/\v=Value.str x t)
 | .inl i,v,h=>by
   obtain⟨t,e⟩:=Value.isInt_shape (k:=i) (v:=v) h;exact .inl ⟨i,t,rfl,e⟩
 | .inr x,v,h=>by
   obtain⟨t,e⟩:=Value.isStrOf_shape (x:=x) (v:=v) h;exact .inr ⟨x,t,rfl,e⟩
theorem wN(i:Int)(t:Tok):mQ (.inl i) (.int i t)=true:=by simp[mQ,Value.isInt]
theorem xJ(x:Str)(t:Tok):mQ (.inr x) (.str x t)=true:=by simp[mQ,Value.isStrOf]
theorem Kd(a b:Int):decide ((Ww a:Key)=Ww b)=(a==b):=by
 by_cases e:a=b
 ·subst e;simp
 ·have h:¬(Ww a:Key)=Ww b:=fun q=>e (Ww.inj q)
  rw[decide_eq_false h];exact(beq_eq_false_iff_ne.mpr e).symm
theorem Kv(a b:Str):decide ((Vq a:Key)=Vq b)=decide (a=b):=by
 by_cases e:a=b
 ·subst e;simp
 ·have h:¬(Vq a:Key)=Vq b:=fun q=>e (Vq.inj q)
  rw[decide_eq_false h,decide_eq_false e]
theorem O4(a:Int)(b:Str):decide ((Ww a:Key)=Vq b)=false:=decide_eq_false (fun q=>nomatch q)
theorem Lz(a:Str)(b:Int):decide ((Vq a:Key)=Ww b)=false:=decide_eq_false (fun q=>nomatch q)
noncomputable def bc(prog:Rz)(w:RT):PySem.KeyKind prog w Key where
 is:=mQ
 hash:=keyH w
 inj:=fun v a b ha hb=>by
  rcases aY ha with⟨i,t,rfl,rfl⟩ | ⟨x,t,rfl,rfl⟩
  ·rcases aY hb with⟨j,u,rfl,e⟩ | ⟨y,u,rfl,e⟩
   ·injection e with e1 _;rw[e1]
   ·exact nomatch e
  ·rcases aY hb with⟨j,u,rfl,e⟩ | ⟨y,u,rfl,e⟩
   ·exact nomatch e
   ·injection e with e1 _;rw[e1]
 byValue:=fun k v h=>by
  rcases aY h with⟨i,t,rfl,rfl⟩ | ⟨x,t,rfl,rfl⟩<;>rfl
 pyHash:=fun hv h=>by
  rcases aY hv with⟨i,t,rfl,rfl⟩ | ⟨x,t,rfl,rfl⟩
  ·exact wpAny_pyHash_int h
  ·exact wpAny_pyHash_str h
 eqBool:=fun hu hv h=>by
  rcases aY hu with⟨i,t,rfl,rfl⟩ | ⟨x,t,rfl,rfl⟩
  ·rcases aY hv with⟨j,u,rfl,rfl⟩ | ⟨y,u,rfl,rfl⟩
   ·rw[Kd]at h;exact wpAny_eqBool_int h
   ·rw[O4]at h;exact SX.int_str i t y u _ _ _ _ h
  ·rcases aY hv with⟨j,u,rfl,rfl⟩ | ⟨y,u,rfl,rfl⟩
   ·rw[Lz]at h;exact SX.str_int x t j u _ _ _ _ h
   ·rw[Kv]at h;exact wpAny_eqBool_str h
 «strs»:=fun k x t v h=>by
  rcases aY h with⟨i,u,rfl,e⟩ | ⟨y,u,rfl,e⟩
  ·exact nomatch e
  ·injection e with e1 _
   subst e1;cases v<;>rfl
theorem p7(prog:Rz)(w:RT)(i:Int)(t:Tok):(bc prog w).is (.inl i) (.int i t)=true:=wN i t
theorem qg(prog:Rz)(w:RT)(x:Str)(t:Tok):(bc prog w).is (.inr x) (.str x t)=true:=xJ x t
end L2
namespace L2
open PySem PySem.Spec PyProof.Rows
inductive V where
 | non | bl (b:Bool) | int (i:Int) | str (x:Str) | byt (b:Array UInt8) | flt (b:UInt64) | ref (a:Addr) | ty (n:String)
 deriving DecidableEq
def RelV:V->Value->Prop
 | .non,u=>u=Value.none
 | .bl b,u=>u=Value.bool b
 | .int i,u=>∃t,u=Value.int i t
 | .str x,u=>∃t,u=Value.str x t
 | .byt b,u=>∃t,u=Value.bytes b t
 | .flt b,u=>∃t,u=Value.float b t
 | .ref a,u=>u=Value.ref a
 | .ty n,u=>u=Value.type n
abbrev Vals:List V->List Value->Prop:=Vr RelV
theorem Vals.length(r:Vals xs us):xs.length=us.length:=Ws r
theorem Vals.get:∀{xs:List V} {us:List Value} {i:Nat} {x:V},Vals xs us->xs[i]?=some x->∃u,us[i]?=some u/\RelV x u
 | _,_,_,_,.nil,e=>by simp at e
 | _,_,0,_,.cons r _,e=>by simp at e;subst e;exact⟨_,rfl,r⟩
 | _,_,i+1,x,.cons _ t,e=>by
   obtain⟨u,h1,h2⟩:=Vals.get (i:=i) (x:=x) t (by simpa using e);exact⟨u,by simpa using h1,h2⟩
theorem Vals.set(r:RelV x u):∀{xs:List V} {us:List Value} (i:Nat),Vals xs us->Vals (xs.set i x) (us.set i u)
 | _,_,_,.nil=>.nil
 | _,_,0,.cons _ t=>.cons r t
 | _,_,i+1,.cons q t=>.cons q (Vals.set r i t)
theorem Vals.append:∀{xs ys:List V} {us ws:List Value},Vals xs us->Vals ys ws->Vals (xs++ys) (us++ws)
 | _,_,_,_,.nil,s=>s
 | _,_,_,_,.cons r t,s=>.cons r (Vals.append t s)
theorem Vals.take:∀{xs:List V} {us:List Value} (n:Nat),Vals xs us->Vals (xs.take n) (us.take n)
 | _,_,0,_=>.nil
 | _,_,_+1,.nil=>.nil
 | _,_,n+1,.cons r t=>.cons r (Vals.take n t)
theorem Vals.drop:∀{xs:List V} {us:List Value} (n:Nat),Vals xs us->Vals (xs.drop n) (us.drop n)
 | _,_,0,r=>r
 | _,_,_+1,.nil=>.nil
 | _,_,n+1,.cons _ t=>Vals.drop n t
def RelO:Option V->Option Value->Prop
 | some v,some u=>RelV v u
 | none,none=>True
 | _,_=>False
def KV{κ:Type}:List (κ×V)->List (κ×Value)->Prop:=Vr fun(p:κ×V) (q:κ×Value)=>p.1=q.1/\RelV p.2 q.2
noncomputable def kV:Key->V
 | .inl i=>.int i
 | .inr x=>.str x
inductive HO where
 | lst (xs:List V)
 | tup (xs:List V)
 | dK (kvs:List (Key×V)) (ep:Nat) | dT (kvs:List (List Key×V))
 | set (S:Int->Bool) (n:Nat)
 | ins (C dx:Addr) (fs:List (Str×V))
 | own (x:Addr)
 | xd (fs:List (Str×V))
 | met (f x:Addr)
 | rng (lo hi:Int)
 | frz (o:Obj) (u:HO)
 | tbl (ps:Array Value)
 | ext (φ:Rk->Prop)
abbrev Hp:=Addr->Option HO
noncomputable def upd(H:Hp)(a:Addr)(o:HO):Hp:=fun b=>if b=a then some o else H b
theorem aU:upd H a o a=some o:=by unfold upd;rw[if_pos rfl]
theorem aR(h:b≠a):upd H a o b=H b:=by unfold upd;rw[if_neg h]
theorem Io:upd (upd H a o) a u=upd H a u:=by
 funext b;unfold upd;split<;>rfl
theorem QB{H:Hp}{a b:Addr}{o u:HO}(h:H a=some o)(h':H b=some u)(d:o≠u):a≠b:=by
 intro e;subst e;rw[h]at h';exact d (T4 h')
theorem bJ{H:Hp}{a b:Addr}{o:HO}(h:H a=some o)(h':H b=none):a≠b:=by
 intro e;subst e;rw[h]at h';cases h'
section
variable(P:Rz)(w:RT)
def ObjOk(H:Hp)(h:Rk)(a:Addr):HO->Prop
 | .lst xs=>xs.length<=sizeLine/\∃(its:List Value) (n:Nat),Vals xs its/\h.get? a=some { cls:=.type "list",data:=.seq its.toArray n }
 | .tup xs=>xs.length<=sizeLine/\∃its:List Value,Vals xs its/\IsTup h a its.toArray
 | .dK kvs ep=>kvs.length<=sizeLine/\(a==Ux)=false/\∃vs,KV kvs vs/\h.DictAt (bc P w) a vs ep
 | .dT kvs=>kvs.length<=sizeLine/\(a==Ux)=false/\∃xs:List (List Key×Addr×Value),
  Vr (fun(p:List Key×V) (q:List Key×Addr×Value)=>p.1=q.1/\H q.2.1=some (.tup (p.1.map kV))/\RelV p.2 q.2.2) kvs xs /\
  ∃o es ep,h.get? a=some o/\o.ExactDict/\o.data=.dict es ep/\es.toList=xs.map (entryOfKey (X5 (bc P w)))/\(xs.map (·.1)).Nodup
 | .set S n=>h.SetOf (intKind P w) a S n
 | .ins C dx fs=>H dx=some (.own a)/\fs.length<=1000/\dx≠a/\h.get? a=some (Um C dx) /\
  ∃mA,h.Ns1 dx mA/\(∀f,RelO (fs.lookup f) (mA f))/\WF mA (fs.map (·.1))
 | .own _=>∃o,h.get? a=some o
 | .xd fs=>∃mA,h.Ns1 a mA/\∀f,RelO (fs.lookup f) (mA f)
 | .rng lo hi=>∃t u v,h.get? a=some { cls:=.type "range",data:=.fields #[.int lo t,.int hi u,.int 1 v] }
 | .frz o u=>h.get? a=some o/\ObjOk H h a u
 | .tbl ps=>h.get? a=some { cls:=.none,data:=.fields ps }
 | .met f x=>h.get? a=some (PySem.W.methodObj (.ref f) (.ref x))
 | .ext φ=>φ h/\(∃o,h.get? a=some o)/\∀h1 h2:Rk,φ h1->(∀o,h1.get? a=some o->h2.get? a=some o)->φ h2
def HOk(H:Hp)(h:Rk):Prop:=∀a o,H a=some o->ObjOk P w H h a o
end
section
variable{P:Rz}{w:RT}{H H':Hp}{h h':Rk}{a:Addr}{o:HO}
theorem ObjOk.lt(x:ObjOk P w H h a o):a<h.objs.size:=by
 cases o with
 | lst xs=>obtain⟨_,_,_,_,e⟩:=x;exact Ro e
 | tup xs=>obtain⟨_,_,_,p⟩:=x;exact p.lt
 | dK kvs ep=>obtain⟨_,_,_,_,o,_,e,_⟩:=x;exact Ro e
 | dT kvs=>obtain⟨_,_,_,_,o,_,_,e,_⟩:=x;exact Ro e
 | set S n=>obtain⟨o,_,_,_,e,_⟩:=x;exact Ro e
 | ins C dx fs=>obtain⟨_,_,_,e,_⟩:=x;exact Ro e
 | own y=>obtain⟨_,e⟩:=x;exact Ro e
 | xd fs=>obtain⟨_,⟨_,_,_,e,_⟩,_⟩:=x;exact Ro e
 | rng lo hi=>obtain⟨_,_,_,e⟩:=x;exact Ro e
 | frz ob u=>obtain⟨e,_⟩:=x;exact Ro e
 | tbl ps=>exact Ro (show h.get? a=some _ from x)
 | met f y=>exact Ro (show h.get? a=some _ from x)
 | ext φ=>obtain⟨_,⟨_,e⟩,_⟩:=x;exact Ro e
theorem Paired.mapP:∀{l₁:List α} {l₂:List β},Vr F l₁ l₂->(∀a b,F a b->G a b)->Vr G l₁ l₂
 | _,_,.nil,_=>.nil
 | _,_,.cons r t,f=>.cons (f _ _ r) (Paired.mapP t f)
theorem ObjOk.stay(x:ObjOk P w H h a o)(k:∀b u,(b=a\/H b=some (.own a))->h.get? b=some u->h'.get? b=some u)
 (ho:∀b,H b=some (.own a)->H' b=some (.own a)) (ht:∀b xs,H b=some (.tup xs)->H' b=some (.tup xs)):ObjOk P w H' h' a o:=by
 induction o with
 | lst xs=>obtain⟨z,its,n,r,e⟩:=x;exact⟨z,its,n,r,k _ _ (.inl rfl) e⟩
 | tup xs=>obtain⟨z,its,r,ob,e,c⟩:=x;exact⟨z,its,r,ob,k _ _ (.inl rfl) e,c⟩
 | dK kvs ep=>obtain⟨z,y,vs,r,ob,es,e,c⟩:=x;exact⟨z,y,vs,r,ob,es,k _ _ (.inl rfl) e,c⟩
 | dT kvs=>
   obtain⟨z,y,xs,r,ob,es,ep,e,c⟩:=x;exact⟨z,y,xs,Paired.mapP r fun p q z=>⟨z.1,ht _ _ z.2.1,z.2.2⟩,ob,es,ep,k _ _ (.inl rfl) e,c⟩
 | set S n=>obtain⟨ob,es,ep,t,e,c⟩:=x;exact⟨ob,es,ep,t,k _ _ (.inl rfl) e,c⟩
 | ins C dx fs=>
   obtain⟨d,z,ne,e,mA,⟨od,es,ep,e2,c⟩,r⟩:=x;exact⟨ho _ d,z,ne,k _ _ (.inl rfl) e,mA,⟨od,es,ep,k _ _ (.inr d) e2,c⟩,r⟩
 | own y=>obtain⟨ob,e⟩:=x;exact⟨ob,k _ _ (.inl rfl) e⟩
 | xd fs=>obtain⟨mA,⟨od,es,ep,e,c⟩,r⟩:=x;exact⟨mA,⟨od,es,ep,k _ _ (.inl rfl) e,c⟩,r⟩
 | rng lo hi=>obtain⟨t,u,v,e⟩:=x;exact⟨t,u,v,k _ _ (.inl rfl) e⟩
 | frz ob u ih=>obtain⟨e,q⟩:=x;exact⟨k _ _ (.inl rfl) e,ih q⟩
 | tbl ps=>
   have e:h.get? a=some { cls:=.none,data:=.fields ps }:=x;show h'.get? a=some { cls:=.none,data:=.fields ps };exact k a _ (.inl rfl) e
 | met f y=>
   have e:h.get? a=some (PySem.W.methodObj (.ref f) (.ref y)):=x;show h'.get? a=some (PySem.W.methodObj (.ref f) (.ref y));exact k a _ (.inl rfl) e
 | ext φ=>obtain⟨p,⟨o,e⟩,st⟩:=x;exact⟨st _ _ p fun o q=>k _ _ (.inl rfl) q,⟨o,k _ _ (.inl rfl) e⟩,st⟩
theorem HOk.lt(x:HOk P w H h)(e:H a=some o):a<h.objs.size:=(x a o e).lt
theorem HOk.fresh(x:HOk P w H h)(e:h.objs.size<=a):H a=none:=by
 cases q:H a with
 | none=>rfl
 | some u=>exact absurd (Nat.lt_of_lt_of_le (x.lt q) e) (Nat.lt_irrefl _)
theorem HOk.kept(x:HOk P w H h)(k:∀b u,h.get? b=some u->h'.get? b=some u):HOk P w H h':=fun a o e=>
 (x a o e).stay (fun b u _ q=>k b u q) (fun _ q=>q) fun _ _ q=>q
theorem HOk.laid(x:HOk P w H h)(k:∀b u,h.get? b=some u->h'.get? b=some u)(hp:h.objs.size<=a)(new:ObjOk P w (upd H a o) h' a o):HOk P w (upd H a o) h':=fun b u e=>by
 have hn:=x.fresh hp
 by_cases hb:b=a
 ·subst hb;rw[aU]at e;cases e;exact new
 ·rw[aR hb]at e
  exact(x b u e).stay (fun c v _ q=>k c v q) (fun c q=>by rw[aR (bJ q hn)];exact q) fun c xs q=>by rw[aR (bJ q hn)];exact q
end
def Rd(H:Hp)(a:Addr)(u:HO):Prop:=H a=some u\/∃o,H a=some (.frz o u)
theorem Rd.ok(r:Rd H a u)(x:HOk P w H h):ObjOk P w H h a u:=by
 rcases r with r | ⟨o,r⟩
 ·exact x a u r
 ·obtain⟨_,q⟩:=x a _ r
  exact q
def Mut:Option HO->Prop
 | some (.lst _)=>True
 | some (.dK _ _)=>True
 | some (.dT _)=>True
 | some (.set _ _)=>True
 | some (.ins _ _ _)=>True
 | some (.ext _)=>True
 | _=>False
section
variable{P:Rz}{w:RT}{H:Hp}{h h':Rk}{x e:Addr}{o':HO}
theorem HOk.write(ok:HOk P w H h)(mu:Mut (H x))(he:e=x\/H e=some (.own x))(k:∀b u,b≠e->h.get? b=some u->h'.get? b=some u)(heo:∃u,h'.get? e=some u)
 (new:ObjOk P w (upd H x o') h' x o'):HOk P w (upd H x o') h':=fun b u q=>by
 have nown:∀c y,H c=some (.own y)->c≠x:=fun c y r z=>by subst z;rw[r]at mu;exact mu
 have ntup:∀c xs,H c=some (.tup xs)->c≠x:=fun c xs r z=>by subst z;rw[r]at mu;exact mu
 by_cases hb:b=x
 ·subst hb;rw[aU]at q;cases q;exact new
 ·rw[aR hb]at q
  by_cases hbe:b=e
  ·have q':H b=some (.own x):=by
    rcases he with z | z
    ·exact absurd (hbe.trans z) hb
    ·rw[hbe];exact z
   rw[q]at q';cases q';obtain⟨v,hv⟩:=heo;exact⟨v,by rw[hbe];exact hv⟩
  ·refine(ok b u q).stay (fun c v hc r=>k c v ?_ r) (fun c r=>by rw[aR (nown c b r)];exact r) fun c xs r=>by rw[aR (ntup c xs r)];exact r
   rcases hc with rfl | hc
   ·exact hbe
   ·rintro rfl
    rcases he with z | z
    ·exact nown c b hc z
    ·rw[hc]at z;cases z;exact hb rfl
end
structure Un(fs ex:List Addr)(H H':Hp)(h h':Rk):Prop where
 keep:∀b o,h.get? b=some o->H b=none->b∉fs->b∉ex->h'.get? b=some o
 slot:∀b o,h.get? b=some o->H b=none->b∈fs->b∉ex->∃sl,h'.get? b=some { o with slots:=sl }
 free:∀b o,h.get? b=some o->H b=none->b∉ex->H' b=none
 there:∀b o,h.get? b=some o->b∉ex->∃o',h'.get? b=some o'
 tups:∀b xs,H b=some (.tup xs)->H' b=some (.tup xs)
 frzs:∀b o u,H b=some (.frz o u)->H' b=some (.frz o u)
 tbls:∀b ps,H b=some (.tbl ps)->∃more,H' b=some (.tbl (ps++more))
section
variable{fs fs' ex ex':List Addr}{H H1 H2:Hp}{h h1 h2 h':Rk}{a x e:Addr}{o:HO}
theorem Un.any(u:Un fs ex H H1 h h1)(q:h.get? b=some ob)(n:H b=none)(hx:b∉ex):∃sl,h1.get? b=some { ob with slots:=sl }:=by
 by_cases hb:b∈fs
 ·exact u.slot b ob q n hb hx
 ·exact⟨ob.slots,u.keep b ob q n hb hx⟩
theorem Un.kept(k:∀b u,h.get? b=some u->h'.get? b=some u):Un fs ex H H h h' :=
 ⟨fun b ob q _ _ _=>k b ob q,fun b ob q _ _ _=>⟨ob.slots,k b ob q⟩,fun _ _ _ n _=>n,fun b ob q _=>⟨ob,k b ob q⟩,fun _ _ q=>q,fun _ _ _ q=>q,fun _ ps q=>⟨#[],by rw[q];simp⟩⟩
theorem Un.refl:Un fs ex H H h h:=Un.kept fun _ _ q=>q
theorem Un.laid(k:∀b u,h.get? b=some u->h'.get? b=some u)(hp:h.objs.size<=a)(hn:H a=none):Un fs ex H (upd H a o) h h' where
 keep:=fun b u q _ _ _=>k b u q
 slot:=fun b u q _ _ _=>⟨u.slots,k b u q⟩
 free:=fun b u q n _=>by rw[aR (Nat.ne_of_lt (Nat.lt_of_lt_of_le (Ro q) hp))];exact n
 there:=fun b u q _=>⟨u,k b u q⟩
 tups:=fun b xs q=>by rw[aR (bJ q hn)];exact q
 frzs:=fun b u xs q=>by rw[aR (bJ q hn)];exact q
 tbls:=fun b ps q=>⟨#[],by rw[aR (bJ q hn),q];simp⟩
theorem Un.write(mu:Mut (H x))(he:e=x\/H e=some (.own x))(k:∀b u,b≠e->h.get? b=some u->h'.get? b=some u)(heo:∃u,h'.get? e=some u):Un fs ex H (upd H x o) h h':=by
 have hx:∀b,H b=none->b≠x:=fun b n z=>by subst z;rw[n]at mu;exact mu
 have hb:∀b,H b=none->b≠e:=fun b n z=>by
  subst z;rcases he with r | r
  ·exact hx b n r
  ·rw[n]at r;cases r
 have hm:∀b u,H b=some u->¬Mut (some u)->b≠x:=fun b u q nm z=>by subst z;rw[q]at mu;exact nm mu
 refine⟨fun b u q n _ _=>k b u (hb b n) q,fun b u q n _ _=>⟨u.slots,k b u (hb b n) q⟩,fun b u q n _=>by rw[aR (hx b n)];exact n,fun b u q _=>?_,
  fun b xs q=>by rw[aR (hm b _ q fun z=>z)];exact q,fun b u xs q=>by rw[aR (hm b _ q fun z=>z)];exact q,fun b ps q=>⟨#[],by rw[aR (hm b _ q fun z=>z),q];simp⟩⟩
 by_cases hbe:b=e
 ·subst hbe;exact heo
 ·exact⟨u,k b u hbe q⟩
end
noncomputable def trk(h:Rk)(H:Hp):List Addr:=(RG h.objs.size).filter fun a=>(H a).isSome
noncomputable def hidT(h:Rk)(H:Hp):Rk:=PySem.W.hideAll h (trk h H)
theorem vP(h:Rk)(H:Hp):(hidT h H).objs.size=h.objs.size:=PySem.W.hideAll_size _ _
theorem zG(e:h.get? b=some o)(n:H b=none):(hidT h H).get? b=some o :=
 PySem.W.hideAll_get _ e fun hm=>by
  have q:(H b).isSome=true:=(Ve.mp hm).2;rw[n]at q;simp at q
theorem Hv(e:(hidT h H).get? b=some o):h.get? b=some o/\H b=none:=by
 have e':h.get? b=some o:=PySem.W.of_hideAll (trk h H) e;refine⟨e',?_⟩
 cases q:H b with
 | none=>rfl
 | some x=>
   have hm:b∈trk h H:=Ve.mpr ⟨Tw.mpr (Ro e'),by simp[q]⟩;have z:(hidT h H).get? b=none:=PySem.W.hideAll_none (trk h H) hm;rw[z]at e;cases e
end L2
namespace L2
open PySem PySem.Spec PyProof.Rows
structure Mod(K:Ra)(mg:Str->Option Value)(base:Rk):Prop where
 kin:K.In base
 glob:base.Ns Sh mg
 blt:∃mb,base.Ns builtinsNs mb/\∀x:Str,x≠"__name__"->mb x=U8 x
 nolimit:base.NoLimit
structure Cx where
 prog:Rz
 w:RT
 K:Ra
 mg:Str->Option Value
 base:Rk
 A:RV
 N:List Str
 s₀:Shared
 H₀:Hp
 env:Env
 outer:List Env
 stack:List Env
 ex:List Addr
 fn:Str->Bool
 calm:Bool
 pn:List (Addr×Obj)
 xe:Value->Shared->Prop
noncomputable def frs(l:List Env):List Addr:=l.filterMap (·.frame)
noncomputable abbrev Cx.fs(X:Cx):List Addr:=frs X.outer
def Vis(sc:Scope)(x:Str):Prop:=sc.names.lookup x=some .local\/sc.names.lookup x=some .cell\/sc.names.lookup x=some .free
def Loc(sc:Scope)(x:Str):Prop:=sc.names.lookup x=some .local\/sc.names.lookup x=some .cell
def Look(env:Env)(h:Rk)(m:Str->Option Value)(x:Str)(u:Value):Prop :=
 (env.kindOf x=some .local/\m x=some u)\/((env.kindOf x=some .cell\/env.kindOf x=some .free)/\∃c,env.cells.lookup x=some c/\h.IsCell c (some u))
structure Cx.Ok(X:Cx):Prop where
 mod:Mod X.K X.mg X.base
 kind:X.env.scope.kind=.function
 glob:X.env.globals=Sh
 blt:X.env.builtins=builtinsNs
 above:X.s₀.heap.objs.size<=X.env.locals
 inj:∀x y c,X.env.cells.lookup x=some c->X.env.cells.lookup y=some c->x=y
 has:∀x,(X.env.kindOf x=some .cell\/X.env.kindOf x=some .free)->∃c,X.env.cells.lookup x=some c
 cab:∀x c,X.fn x=true->X.env.cells.lookup x=some c->X.s₀.heap.objs.size<=c
 hd:X.calm=true->X.A.handled=none
 frames:X.A.frames=some X.stack
 stk:X.stack=X.outer\/(X.stack=X.env::X.outer/\X.env.frame=some X.env.locals)
 exf:∀b∈X.ex,b≠X.env.locals/\∀x c,X.env.cells.lookup x=some c->c≠b
 bs:∀b o,X.base.get? b=some o->X.s₀.heap.get? b=some o/\X.H₀ b=none
 bsz:X.base.objs.size<=X.s₀.heap.objs.size
 noex:∀b o,X.base.get? b=some o->b∉X.ex
 exfs:∀b∈X.ex,b∉X.fs
 funs:X.s₀.heap.FunFrames X.base X.outer
 frf:∀b∈X.fs,X.H₀ b=none
structure Inv(X:Cx)(pins:List (Addr×Obj))(σ:List (Option V))(H:Hp)(s:Shared):Prop where
 ok:X.Ok
 os:s.os=X.s₀.os
 bare:VJ s.gens
 base:Un X.fs X.ex X.H₀ H X.s₀.heap s.heap
 loc:∃m,s.heap.Ns X.env.locals m/\∀(i:Nat) (x:Str) (v:V),X.N[i]?=some x->σ[i]?=some (some v)->Vis X.env.scope x->∃u,RelV v u/\Look X.env s.heap m x u
 cell:∀x c,X.env.cells.lookup x=some c->∃v,s.heap.IsCell c v
 free:H X.env.locals=none
 freeC:∀x c,X.env.cells.lookup x=some c->H c=none
 pin:∀p∈X.pn++pins,s.heap.get? p.1=some p.2/\H p.1=none/\p.1≠X.env.locals/\p.1∉X.fs/\∀v,p.2.data≠.cell v
 hok:HOk X.prog X.w H s.heap
 len:σ.length=X.N.length
section
variable{X:Cx}{pins:List (Addr×Obj)}{σ:List (Option V)}{H H':Hp}{s:Shared}{h':Rk}
theorem Cx.Ok.nofr(ok:X.Ok)(e:X.base.get? b=some o):b∉X.fs:=fun hb=>by
 have:=(ok.funs.mem hb).1;rw[e]at this;cases this
theorem Inv.bs(I:Inv X pins σ H s):∀b o,X.base.get? b=some o->s.heap.get? b=some o/\H b=none:=fun b o e=>
 ⟨I.base.keep b o (I.ok.bs b o e).1 (I.ok.bs b o e).2 (I.ok.nofr e) (I.ok.noex b o e),I.base.free b o (I.ok.bs b o e).1 (I.ok.bs b o e).2 (I.ok.noex b o e)⟩
theorem Inv.bk(I:Inv X pins σ H s):∀b o,X.base.get? b=some o->s.heap.get? b=some o:=fun b o e=>(I.bs b o e).1
theorem Inv.mod(I:Inv X pins σ H s):Mod X.K X.mg X.base:=I.ok.mod
theorem Inv.kIn(I:Inv X pins σ H s):X.K.In s.heap:=I.ok.mod.kin.keeps I.bk
theorem Inv.lt(I:Inv X pins σ H s):X.env.locals<s.heap.objs.size:=let⟨_,hn,_⟩:=I.loc;hn.lt
theorem Inv.sz(I:Inv X pins σ H s):X.s₀.heap.objs.size<=s.heap.objs.size:=Nat.le_trans I.ok.above (Nat.le_of_lt I.lt)
theorem Inv.nofs(I:Inv X pins σ H s)(h:s.heap.objs.size<=a):a∉X.fs:=fun hb=>by
 obtain⟨_,o,ho,_⟩:=I.ok.funs.mem hb;exact absurd (Nat.lt_of_lt_of_le (Ro ho) (Nat.le_trans I.sz h)) (Nat.lt_irrefl _)
theorem Inv.cne(I:Inv X pins σ H s):∀x c,X.env.cells.lookup x=some c->c≠X.env.locals:=fun x c e z=>by
 obtain⟨v,o,ho,hd⟩:=I.cell x c e;obtain⟨m,⟨o',es,ep,ho',hd',_⟩,_⟩:=I.loc;rw[z,ho']at ho;cases ho;rw[hd']at hd;cases hd
theorem Inv.funs(I:Inv X pins σ H s):s.heap.FunFrames X.base X.outer:=by
 have all:∀(l:List Env),(∀b∈frs l,b∈X.fs)->X.s₀.heap.FunFrames X.base l->s.heap.FunFrames X.base l:=by
  intro l
  induction l with
  | nil=>intro _ _;trivial
  | cons env r ih=>
    intro hs hl;obtain⟨hk,⟨L,o,hf,hn,ho,hd⟩,hr⟩:=hl;have hL:L∈X.fs:=hs L (by unfold frs;rw[Va,hf];exact Rg)
    obtain⟨sl,e⟩:=I.base.slot L o ho (I.ok.frf L hL) hL fun z=>I.ok.exfs L z hL
    exact⟨hk,⟨L,_,hf,hn,e,hd⟩,ih (fun b hb=>hs b (by unfold frs;rw[Va,hf];exact Rb _ hb)) hr⟩
 exact all X.outer (fun _ hb=>hb) I.ok.funs
theorem Inv.stack(I:Inv X pins σ H s):s.heap.FunFrames X.base X.stack:=by
 rcases I.ok.stk with e | ⟨e,hf⟩
 ·rw[e];exact I.funs
 ·rw[e]
  obtain⟨m,hn,_⟩:=I.loc;refine .cons (by rw[I.ok.kind];decide) hf hn ?_ I.funs;exact Rk.get?_none_of_le (Nat.le_trans I.ok.bsz I.ok.above)
theorem Inv.stkSub(I:Inv X pins σ H s):∀b∈frs X.stack,b∈X.env.locals::X.fs:=fun b hb=>by
 rcases I.ok.stk with e | ⟨e,hf⟩
 ·rw[e]at hb;exact Rb _ hb
 ·rw[e]at hb
  unfold frs at hb;rw[Va,hf]at hb;exact hb
theorem Inv.stkFree(I:Inv X pins σ H s):∀b∈frs X.stack,H b=none:=fun b hb=>by
 rcases Rh.mp (I.stkSub b hb)with e | hb
 ·rw[e];exact I.free
 ·obtain⟨_,o,ho,_⟩:=I.ok.funs.mem hb
  exact I.base.free b o ho (I.ok.frf b hb) fun z=>I.ok.exfs b z hb
theorem Inv.step{g':Array Xf}{t':Nat}{d':Drawn}{ch:List Addr}(I:Inv X pins σ H s)
 (hch:∀b∈ch,(b∈X.ex\/X.s₀.heap.objs.size<=b)/\b≠X.env.locals/\(∀x c,X.env.cells.lookup x=some c->c≠b)/\∀p∈X.pn++pins,p.1≠b)
 (keep:∀b o,b≠X.env.locals->b∉X.fs->b∉ch->s.heap.get? b=some o->H b=none->h'.get? b=some o)
 (slot:∀b o,b≠X.env.locals->b∈X.fs->b∉ch->s.heap.get? b=some o->H b=none->∃sl,h'.get? b=some { o with slots:=sl }) (free:∀b o,b∉ch->s.heap.get? b=some o->H b=none->H' b=none)
 (there:∀b o,b∉ch->s.heap.get? b=some o->∃o',h'.get? b=some o')
 (tups:∀b xs,H b=some (.tup xs)->H' b=some (.tup xs)) (frzs:∀b o u,H b=some (.frz o u)->H' b=some (.frz o u)) (tbls:∀b ps,H b=some (.tbl ps)->∃more,H' b=some (.tbl (ps++more)))
 (ns:∀m,s.heap.Ns X.env.locals m->h'.Ns X.env.locals m) (hok:HOk X.prog X.w H' h') (hg:VJ g') :
 Inv X pins σ H' { s with heap:=h',gens:=g',drawn:=d',toks:=t' }:=by
 have neL:∀b o,X.s₀.heap.get? b=some o->b≠X.env.locals:=fun b o e=>Nat.ne_of_lt (Nat.lt_of_lt_of_le (Ro e) I.ok.above)
 have neC:∀b o,X.s₀.heap.get? b=some o->b∉X.ex->b∉ch:=fun b o e hx hb=>by
  rcases(hch b hb).1 with z | z
  ·exact hx z
  ·exact absurd (Nat.lt_of_lt_of_le (Ro e) z) (Nat.lt_irrefl _)
 have cellK:∀x c,X.env.cells.lookup x=some c->∀v,s.heap.IsCell c v->h'.IsCell c v:=fun x c e v ⟨o,ho,hd⟩=>by
  have nch:c∉ch:=fun z=>(hch c z).2.2.1 x c e rfl
  by_cases hc:c∈X.fs
  ·obtain⟨sl,q⟩:=slot c o (I.cne x c e) hc nch ho (I.freeC x c e)
   exact⟨_,q,hd⟩
  ·exact⟨o,keep c o (I.cne x c e) hc nch ho (I.freeC x c e),hd⟩
 refine⟨I.ok,I.os,hg,⟨fun b o e n hb hx=>?_,fun b o e n hb hx=>?_,fun b o e n hx=>?_,fun b o e hx=>?_,fun b xs e=>tups b xs (I.base.tups b xs e),fun b o xs e=>frzs b o xs (I.base.frzs b o xs e),fun b ps e=>?_⟩,?_,fun x c e=>?_,?_,fun x c e=>?_,fun p hp=>?_,hok,I.len⟩
 ·exact keep b o (neL b o e) hb (neC b o e hx) (I.base.keep b o e n hb hx) (I.base.free b o e n hx)
 ·obtain⟨sl,e1⟩:=I.base.slot b o e n hb hx
  obtain⟨sl',e2⟩:=slot b _ (neL b o e) hb (neC b o e hx) e1 (I.base.free b o e n hx);exact⟨sl',e2⟩
 ·obtain⟨o',e1⟩:=I.base.there b o e hx
  exact free b o' (neC b o e hx) e1 (I.base.free b o e n hx)
 ·obtain⟨o',e1⟩:=I.base.there b o e hx
  exact there b o' (neC b o e hx) e1
 ·obtain⟨m1,e1⟩:=I.base.tbls b ps e
  obtain⟨m2,e2⟩:=tbls b _ e1;exact⟨m1++m2,by rw[e2,Array.append_assoc]⟩
 ·obtain⟨m,hn,hl⟩:=I.loc
  refine⟨m,ns m hn,fun i x v e1 e2 e3=>?_⟩;obtain⟨u,r,l⟩:=hl i x v e1 e2 e3;refine⟨u,r,?_⟩;rcases l with l | ⟨k,c,e,z⟩
  ·exact .inl l
  ·exact .inr ⟨k,c,e,cellK x c e _ z⟩
 ·obtain⟨v,z⟩:=I.cell x c e
  exact⟨v,cellK x c e v z⟩
 ·obtain⟨m,⟨o,_,_,ho,_⟩,_⟩:=I.loc
  exact free _ o (fun z=>(hch _ z).2.1 rfl) ho I.free
 ·obtain⟨v,o,ho,hd⟩:=I.cell x c e
  exact free c o (fun z=>(hch c z).2.2.1 x c e rfl) ho (I.freeC x c e)
 ·obtain⟨e,n,ne,nf,d⟩:=I.pin p hp
  have nch:p.1∉ch:=fun z=>(hch p.1 z).2.2.2 p hp rfl
  exact⟨keep p.1 p.2 ne nf nch e n,free p.1 p.2 nch e n,ne,nf,d⟩
theorem Inv.un{t':Nat}(I:Inv X pins σ H s)(u:Un X.fs [] H H' s.heap h')(hok:HOk X.prog X.w H' h'):Inv X pins σ H' { s with heap:=h',toks:=t' }:=by
 obtain⟨m,⟨o,es,ep,ho,r⟩,_⟩:=id I.loc;obtain⟨sl,hL⟩:=u.any ho I.free (by simp)
 exact I.step (g':=s.gens) (d':=s.drawn) (ch:=[]) (fun _ z=>nomatch z) (fun b o _ hb _ e n=>u.keep b o e n hb (by simp)) (fun b o _ hb _ e n=>u.slot b o e n hb (by simp)) (fun b o _ e n=>u.free b o e n (by simp)) (fun b o _ e=>u.there b o e (by simp)) u.tups u.frzs u.tbls (fun m' hm=>by
  obtain⟨o',es',ep',ho',r'⟩:=hm;rw[ho]at ho';cases ho'
  exact⟨_,es',ep',hL,r'⟩) hok I.bare
theorem Inv.call{g':Array Xf}{t':Nat}{d':Drawn}{ch:List Addr}(I:Inv X pins σ H s)(u:Un (frs X.stack) ch H H' s.heap h')(hok:HOk X.prog X.w H' h')(hg:VJ g')
 (hch:∀b∈ch,(b∈X.ex\/X.s₀.heap.objs.size<=b)/\b≠X.env.locals/\(∀x c,X.env.cells.lookup x=some c->c≠b)/\∀p∈X.pn++pins,p.1≠b) :
 Inv X pins σ H' { s with heap:=h',gens:=g',drawn:=d',toks:=t' }:=by
 obtain⟨m,⟨o,es,ep,ho,r⟩,_⟩:=id I.loc
 obtain⟨sl,hL⟩:=u.any ho I.free fun z=>(hch _ z).2.1 rfl
 exact I.step (ch:=ch) hch (fun b o hL hb hc e n=>u.keep b o e n (fun z=>(Rh.mp (I.stkSub b z)).elim hL hb) hc) (fun b o _ _ hc e n=>u.any e n hc) (fun b o hc e n=>u.free b o e n hc) (fun b o hc e=>u.there b o e hc) u.tups u.frzs u.tbls (fun m' hm=>by
  obtain⟨o',es',ep',ho',r'⟩:=hm;rw[ho]at ho';cases ho'
  exact⟨_,es',ep',hL,r'⟩) hok hg
theorem Inv.turned{t':Nat}{it:Addr}(I:Inv X pins σ H s)(k:∀b o,b≠it->s.heap.get? b=some o->h'.get? b=some o)(hn:H it=none)(hL:it≠X.env.locals)
 (h1:it∈X.ex\/X.s₀.heap.objs.size<=it) (h2:∀x c,X.env.cells.lookup x=some c->c≠it) (h3:∀p∈X.pn++pins,p.1≠it):Inv X pins σ H { s with heap:=h',toks:=t' }:=by
 have nit:∀b u,H b=some u->b≠it:=fun b u e z=>by rw[z,hn]at e;cases e
 refine I.step (g':=s.gens) (d':=s.drawn) (ch:=[it]) (fun b hb=>?_) (fun b o _ _ hc e _=>k b o (fun z=>hc (by simp[z])) e) (fun b o _ _ hc e _=>⟨o.slots,k b o (fun z=>hc (by simp[z])) e⟩) (fun _ _ _ _ n=>n)
  (fun b o hc e=>⟨o,k b o (fun z=>hc (by simp[z])) e⟩) (fun _ _ e=>e) (fun _ _ _ e=>e) (fun b ps e=>⟨#[],by rw[e];simp⟩) (fun m hm=>?_) (fun b u e=>?_) I.bare
 ·have e:b=it:=by simpa using hb
  subst e;exact⟨h1,hL,h2,h3⟩
 ·obtain⟨o,es,ep,ho,r⟩:=hm
  exact⟨o,es,ep,k _ o (T5 hL) ho,r⟩
 ·refine(I.hok b u e).stay (fun c v hc q=>k c v ?_ q) (fun _ q=>q) fun _ _ q=>q
  rcases hc with z | z
  ·rw[z];exact nit b u e
  ·exact nit c _ z
theorem Inv.tok(I:Inv X pins σ H s)(t:Nat):Inv X pins σ H { s with toks:=t }:=I.un (h':=s.heap) (t':=t) Un.refl I.hok
theorem Inv.kept(I:Inv X pins σ H s)(k:∀b u,s.heap.get? b=some u->h'.get? b=some u):Inv X pins σ H { s with heap:=h',toks:=t' }:=I.un (Un.kept k) (I.hok.kept k)
theorem Inv.laid(I:Inv X pins σ H s)(k:∀b u,s.heap.get? b=some u->h'.get? b=some u)(hp:s.heap.objs.size<=a)(new:ObjOk X.prog X.w (upd H a o) h' a o) :
 Inv X pins σ (upd H a o) { s with heap:=h',toks:=t' }:=I.un (Un.laid k hp (I.hok.fresh hp)) (I.hok.laid k hp new)
theorem Inv.write(I:Inv X pins σ H s)(mu:Mut (H x))(he:e=x\/H e=some (.own x))(k:∀b u,b≠e->s.heap.get? b=some u->h'.get? b=some u)(heo:∃u,h'.get? e=some u)
 (new:ObjOk X.prog X.w (upd H x o) h' x o):Inv X pins σ (upd H x o) { s with heap:=h',toks:=t' }:=I.un (Un.write mu he k heo) (I.hok.write mu he k heo new)
theorem Inv.pins_of(I:Inv X pins σ H s)(h:∀p∈pins',s.heap.get? p.1=some p.2/\H p.1=none/\p.1≠X.env.locals/\p.1∉X.fs/\∀v,p.2.data≠.cell v):Inv X pins' σ H s :=
 ⟨I.ok,I.os,I.bare,I.base,I.loc,I.cell,I.free,I.freeC,fun p hp=>(T6.mp hp).elim (fun z=>I.pin p (U5 _ z)) (h p),I.hok,I.len⟩
theorem rA{N:List Str}(hN:N.Nodup){i j:Nat}{x:Str}(a:N[i]?=some x)(b:N[j]?=some x):i=j:=by
 obtain⟨h1,e1⟩:=Ry.mp a;obtain⟨h2,e2⟩:=Ry.mp b;exact(List.getElem_inj hN).mp (e1.trans e2.symm)
theorem nq(I:Inv X pins σ H s)(hN:X.N.Nodup)(hi:X.N[i]?=some x)(hx:Loc X.env.scope x)(r:RelV v u)
 (h:∀s',Inv X pins (σ.set i (some v)) H s'->(∃a,Tz a s.heap s'.heap/\(a=X.env.locals\/X.env.cells.lookup x=some a))->Q () s') (hf:X.fn x=true\/X.env.scope.names.lookup x=some .local:=by first | exact .inl rfl | exact .inr rfl | assumption):Rn M A (storeName X.env x u) Q E s:=by
 obtain⟨m,hn,hl⟩:=id I.loc
 have hcls:(X.env.scope.kind==.class||(X.env.scope.kind==.module&&X.env.locals !=X.env.globals))=false:=by rw[I.ok.kind];rfl
 have hiσ:i<σ.length:=by rw[I.len];exact(Ry.mp hi).1
 have cne:=I.cne
 have tracked:∀{a:Addr} {h':Rk},(∃o,s.heap.get? a=some o/\H a=none)->Tz a s.heap h'->HOk X.prog X.w H h':=fun{a h'} ha hs b ob e=>by
  obtain⟨_,_,hfree⟩:=ha
  refine(I.hok b ob e).stay (fun c w' hc q=>(hs.2 c ?_).trans q) (fun _ q=>q) fun _ _ q=>q
  rintro rfl
  rcases hc with rfl | hc
  ·rw[hfree]at e;cases e
  ·rw[hfree]at hc;cases hc
 rcases hx with hk | hk
 ·refine wpAny_storeName_local hk hn (fun h' hn' hs=>?_) hcls
  obtain⟨oL,_,_,hoL,_⟩:=id hn;refine h _ ⟨I.ok,I.os,I.bare,⟨fun b o e n hb hx=>?_,fun b o e n hb hx=>?_,I.base.free,fun b o e hx=>?_,I.base.tups,I.base.frzs,I.base.tbls⟩,⟨_,hn',fun j y v' e1 e2 e3=>?_⟩,fun y c e=>?_,I.free,I.freeC,fun p hp=>?_,tracked ⟨oL,hoL,I.free⟩ hs,by simpa using I.len⟩ ⟨_,hs,.inl rfl⟩
  ·exact(hs.2 b (Nat.ne_of_lt (Nat.lt_of_lt_of_le (Ro e) I.ok.above))).trans (I.base.keep b o e n hb hx)
  ·obtain⟨sl,e1⟩:=I.base.slot b o e n hb hx
   exact⟨sl,(hs.2 b (Nat.ne_of_lt (Nat.lt_of_lt_of_le (Ro e) I.ok.above))).trans e1⟩
  ·obtain⟨o',e1⟩:=I.base.there b o e hx
   exact⟨o',(hs.2 b (Nat.ne_of_lt (Nat.lt_of_lt_of_le (Ro e) I.ok.above))).trans e1⟩
  ·by_cases hj:j=i
   ·subst hj
    rw[hi]at e1;cases e1;rw[RX hiσ]at e2;cases e2;exact⟨u,r,.inl ⟨hk,by simp⟩⟩
   ·rw[S7 (T5 hj)]at e2
    obtain⟨u',r',q⟩:=hl j y v' e1 e2 e3;refine⟨u',r',?_⟩;rcases q with⟨k,e⟩ | ⟨k,c,e,z⟩
    ·refine .inl ⟨k,?_⟩
     have:y≠x:=fun e=>hj (rA hN e1 (e▸hi))
     simp[this,e]
    ·exact .inr ⟨k,c,e,z.sameBut hs (cne y c e)⟩
  ·obtain⟨w',z⟩:=I.cell y c e
   exact⟨w',z.sameBut hs (cne y c e)⟩
  ·obtain⟨e,n,ne,nf,d⟩:=I.pin p hp
   exact⟨(hs.2 p.1 ne).trans e,n,ne,nf,d⟩
 ·have hfn:X.fn x=true:=by
   rcases hf with z | z
   ·exact z
   ·rw[z]at hk;cases hk
  obtain⟨c,hc⟩:=I.ok.has x (.inl hk);obtain⟨w',z⟩:=I.cell x c hc;refine wpAny_storeName_cell I.ok.kind hk hc z (fun h' hc' hs=>?_);obtain⟨oc,hoc,hocd⟩:=id z;refine h { s with heap:=h' } ⟨I.ok,I.os,I.bare,⟨fun b o e n hb hx=>?_,fun b o e n hb hx=>?_,I.base.free,fun b o e hx=>?_,I.base.tups,I.base.frzs,I.base.tbls⟩,⟨m,hn.sameBut hs (T5 (cne x c hc)),fun j y v' e1 e2 e3=>?_⟩,fun y c' e=>?_,I.free,I.freeC,fun p hp=>?_,tracked ⟨oc,hoc,I.freeC x c hc⟩ hs,by simpa using I.len⟩ ⟨c,hs,.inr hc⟩
  ·exact(hs.2 b (Nat.ne_of_lt (Nat.lt_of_lt_of_le (Ro e) (I.ok.cab x c hfn hc)))).trans (I.base.keep b o e n hb hx)
  ·obtain⟨sl,e1⟩:=I.base.slot b o e n hb hx
   exact⟨sl,(hs.2 b (Nat.ne_of_lt (Nat.lt_of_lt_of_le (Ro e) (I.ok.cab x c hfn hc)))).trans e1⟩
  ·obtain⟨o',e1⟩:=I.base.there b o e hx
   exact⟨o',(hs.2 b (Nat.ne_of_lt (Nat.lt_of_lt_of_le (Ro e) (I.ok.cab x c hfn hc)))).trans e1⟩
  ·by_cases hj:j=i
   ·subst hj
    rw[hi]at e1;cases e1;rw[RX hiσ]at e2;cases e2;exact⟨u,r,.inr ⟨.inl hk,c,hc,hc'⟩⟩
   ·rw[S7 (T5 hj)]at e2
    obtain⟨u',r',q⟩:=hl j y v' e1 e2 e3;refine⟨u',r',?_⟩;rcases q with q | ⟨k,c',e,z'⟩
    ·exact .inl q
    ·refine .inr ⟨k,c',e,z'.sameBut hs ?_⟩
     rintro rfl
     exact hj (rA hN e1 (I.ok.inj _ _ _ e hc▸hi))
  ·by_cases hcc:c'=c
   ·subst hcc;exact⟨_,hc'⟩
   ·obtain⟨w2,z2⟩:=I.cell y c' e
    exact⟨w2,z2.sameBut hs hcc⟩
  ·obtain⟨e,n,ne,nf,d⟩:=I.pin p hp
   refine⟨(hs.2 p.1 ?_).trans e,n,ne,nf,d⟩;intro q;rw[q,hoc]at e;have q':oc=p.2:=T4 e;exact d w' (by rw[<-q'];exact hocd)
theorem tG(I:Inv X pins σ H s)(hN:X.N.Nodup)(hi:X.N[i]?=some x)(hx:Loc X.env.scope x)(r:RelV v u)
 (h:∀s',Inv X pins (σ.set i (some v)) H s'->Q () s') (hf:X.fn x=true\/X.env.scope.names.lookup x=some .local:=by first | exact .inl rfl | exact .inr rfl | assumption):Rn M A (storeName X.env x u) Q E s :=
 nq I hN hi hx r (fun s' I' _=>h s' I') hf
theorem Inv.call'(I:Inv X pins σ H s)(ho:s'.os=s.os)(u:Un (frs X.stack) ch H H' s.heap s'.heap)(hok:HOk X.prog X.w H' s'.heap)(hg:VJ s'.gens)
 (hch:∀b∈ch,(b∈X.ex\/X.s₀.heap.objs.size<=b)/\b≠X.env.locals/\(∀x c,X.env.cells.lookup x=some c->c≠b)/\∀p∈X.pn++pins,p.1≠b):Inv X pins σ H' s':=by
 obtain⟨h',g',d',t',o'⟩:=s';have e:o'=s.os:=ho;subst e;exact I.call (g':=g') (t':=t') (d':=d') u hok hg hch
end
abbrev XK:=Value->Option Addr->Hp->Prop
abbrev St:=List (Option V)
abbrev VK:=V->Hp->Prop
abbrev TE:=St->Hp->VK->Prop
abbrev TT:=St->Hp->(Bool->Hp->Prop)->Prop
abbrev TA:=St->Hp->(List V->Hp->Prop)->Prop
structure Ends where
 nx:St->Hp->Prop
 rt:VK
 bk:St->Hp->Prop:=fun _ _=>False
 ct:St->Hp->Prop:=fun _ _=>False
abbrev TS:=Ends->St->Hp->Prop
def EP(X:Cx)(pins:List (Addr×Obj))(σ:St)(Q:VK)(u:Value)(s':Shared):Prop:=∃v H',Inv X pins σ H' s'/\RelV v u/\Q v H'
def TP(X:Cx)(pins:List (Addr×Obj))(σ:St)(Q:Bool->Hp->Prop)(b:Bool)(s':Shared):Prop:=∃H',Inv X pins σ H' s'/\Q b H'
def AP(X:Cx)(pins:List (Addr×Obj))(σ:St)(Q:List V->Hp->Prop)(us:List Value)(s':Shared):Prop:=∃vs H',Inv X pins σ H' s'/\Vals vs us/\Q vs H'
def SP(X:Cx)(pins:List (Addr×Obj))(D:Ends)(f:Flow)(s':Shared):Prop :=
 match f with
 | .next=>∃σ' H',Inv X pins σ' H' s'/\D.nx σ' H'
 | .brk=>∃σ' H',Inv X pins σ' H' s'/\D.bk σ' H'
 | .cont=>∃σ' H',Inv X pins σ' H' s'/\D.ct σ' H'
 | .ret u=>∃v σ' H',Inv X pins σ' H' s'/\RelV v u/\D.rt v H'
def PE(X:Cx)(e:Expr)(t:TE):Prop :=
 ∀(pins:List (Addr×Obj)) (s:Shared) (σ:St) (H:Hp) (Q:VK),Inv X pins σ H s->t σ H Q->Rn (Rt X.prog X.w) X.A (Sv e X.env) (EP X pins σ Q) X.xe s
def PT(X:Cx)(e:Expr)(t:TT):Prop :=
 ∀(pins:List (Addr×Obj)) (s:Shared) (σ:St) (H:Hp) (Q:Bool->Hp->Prop),Inv X pins σ H s->t σ H Q->Rn (Rt X.prog X.w) X.A (isTrue e X.env (Sv e X.env)) (TP X pins σ Q) X.xe s
def PW(X:Cx)(e:Expr)(t:TT):Prop :=
 ∀(whole:Sem Value) (pins:List (Addr×Obj)) (s:Shared) (σ:St) (H:Hp) (Q:Bool->Hp->Prop),Inv X pins σ H s->t σ H Q->Rn (Rt X.prog X.w) X.A (isTrue e X.env whole) (TP X pins σ Q) X.xe s
theorem PW.pt(h:PW X e t):PT X e t:=h _
def PA(X:Cx)(es:List Expr)(t:TA):Prop :=
 ∀(pos:Pos) (pins:List (Addr×Obj)) (s:Shared) (σ:St) (H:Hp) (Q:List V->Hp->Prop),Inv X pins σ H s->t σ H Q->Rn (Rt X.prog X.w) X.A (spliced (SN pos (Rj es X.env))) (AP X pins σ Q) X.xe s
def PS(X:Cx)(st:Stmt)(t:TS):Prop :=
 ∀(pins:List (Addr×Obj)) (s:Shared) (σ:St) (H:Hp) (D:Ends),Inv X pins σ H s->t D σ H->Rn (Rt X.prog X.w) X.A (exec st X.env) (SP X pins D) X.xe s
def PSs(X:Cx)(st:List Stmt)(t:TS):Prop :=
 ∀(pins:List (Addr×Obj)) (s:Shared) (σ:St) (H:Hp) (D:Ends),Inv X pins σ H s->t D σ H->Rn (Rt X.prog X.w) X.A (execs st X.env) (SP X pins D) X.xe s
theorem thn(h:Rn M A t Q E s)(hQ:∀a s,Q a s->Q' a s):Rn M A t Q' E s:=T8 h hQ fun _ _ x=>x
end L2
namespace L2
open PySem PySem.Spec PyProof.Rows
section
variable{X:Cx}
def tVar(i:Nat):TE:=fun σ H Q=>∃v,σ[i]?=some (some v)/\Q v H
def tC(v:V):TE:=fun _ H Q=>Q v H
theorem ir(hN:X.N[i]?=some x)(hv:Vis X.env.scope x)(hd:(x==("__debug__":Str))=false:=by decide)(hcd:(x==("__classdict__":Str))=false:=by decide):PE X (.Name x pos) (tVar i):=by
 intro pins s σ H Q I h;obtain⟨v,e,h⟩:=h;obtain⟨m,hn,hl⟩:=I.loc;obtain⟨u,r,l⟩:=hl i x v hN e hv
 have fin:EP X pins σ Q u s:=⟨v,H,I,r,h⟩
 rcases l with⟨hk,hm⟩ | ⟨hk,c,hc,hcell⟩
 ·exact wpAny_Name (wpAny_loadName_local I.ok.kind hk hn hm fin) hd
 ·rcases hk with hk | hk
  ·exact wpAny_Name (wpAny_loadName_cell I.ok.kind hk hc hcell fin) hd
  ·exact wpAny_Name (wpAny_loadName_free I.ok.kind hk hc hcell fin hcd) hd
theorem Eb:PE X (.Constant (.int i) j pos) (tC (.int i)):=fun _ _ _ H _ I h=>wpAny_Constant_int ⟨.int i,H,I.tok _,⟨_,rfl⟩,h⟩
theorem Hw:PE X (.Constant (.bool b) j pos) (tC (.bl b)):=fun _ _ _ H _ I h=>Constant_bool ⟨.bl b,H,I,rfl,h⟩
theorem Cy:PE X (.Constant .none j pos) (tC .non):=fun _ _ _ H _ I h=>Constant_none ⟨.non,H,I,rfl,h⟩
theorem Di:PE X (.Constant (.str x) j pos) (tC (.str x)):=fun _ _ _ H _ I h=>Calls.Constant_str ⟨.str x,H,I.tok _,⟨_,rfl⟩,h⟩
def Gl(X:Cx)(x:Str):Prop:=X.env.kindOf x=some .globalImplicit
theorem eX(I:Inv X pins σ H s)(hg:Gl X x)(hm:X.mg x=some u)(h:Q u s)
 (hd:(x==("__debug__":Str))=false:=by decide):Rn (Rt X.prog X.w) X.A (Sv (.Name x pos) X.env) Q E s :=
 Calls.Name_function_global I.ok.kind hg (Calls.loadGlobal_global (by rw[I.ok.glob];exact I.mod.glob.keeps I.bk) hm h) hd
theorem mC(I:Inv X pins σ H s)(hg:Gl X x)(hm:X.mg x=none)(hv:U8 x=some u)(h:Q u s)
 (hn:x≠"__name__":=by decide) (hd:(x==("__debug__":Str))=false:=by decide):Rn (Rt X.prog X.w) X.A (Sv (.Name x pos) X.env) Q E s:=by
 obtain⟨mb,h1,h2⟩:=I.mod.blt;exact Calls.Name_function_global I.ok.kind hg (Calls.loadGlobal_builtin (by rw[I.ok.glob];exact I.mod.glob.keeps I.bk) hm (by rw[I.ok.blt];exact h1.keeps I.bk) ((h2 x hn).trans hv) h) hd
theorem yz(hg:Gl X x)(hm:X.mg x=some u)(r:RelV v u)(hd:(x==("__debug__":Str))=false:=by decide):PE X (.Name x pos) (tC v) :=
 fun _ _ _ H _ I h=>eX I hg hm ⟨v,H,I,r,h⟩ hd
theorem FW(hg:Gl X x)(hm:X.mg x=none)(hv:U8 x=some u)(r:RelV v u)(hn:x≠"__name__":=by decide)(hd:(x==("__debug__":Str))=false:=by decide):PE X (.Name x pos) (tC v) :=
 fun _ _ _ H _ I h=>mC I hg hm hv ⟨v,H,I,r,h⟩ hn hd
variable{a b:Expr}{ta tb:TE}{pos:Pos}
def PC(X:Cx)(op:CmpOp)(a b:Expr)(t:TE):Prop :=
 ∀(pins:List (Addr×Obj)) (s:Shared) (σ:St) (H:Hp) (Q:VK),Inv X pins σ H s->t σ H Q ->
  Rn (Rt X.prog X.w) X.A (Sv a X.env) (fun v s₁=>Rn (Rt X.prog X.w) X.A (Sv b X.env) (fun u s₂=>Rn (Rt X.prog X.w) X.A (TX op v u) (EP X pins σ Q) X.xe s₂) X.xe s₁) X.xe s
def tB(t:TE):TT:=fun σ H Q=>t σ H fun x H1=>∃c,x=.bl c/\Q c H1
theorem Eo(h:PC X op a b t)(h1:U9 op b=false:=by first | exact nobehind _ (by decide) (by decide) | rfl):PE X (.Compare a [op] [b] pos) t:=fun pins s σ H Q I hw=>wpAny_Compare1 (h pins s σ H Q I hw) h1
theorem Dc(h:PC X op a b t)(h1:U9 op b=false:=by first | exact nobehind _ (by decide) (by decide) | rfl):PT X (.Compare a [op] [b] pos) (tB t):=by
 intro pins s σ H Q I hw;refine wpAny_isTrue_Compare1 (thn (h pins s σ H _ I hw) fun v s1 h1=>thn h1 fun u s2 h2=>thn h2 fun c s3 ⟨x,H1,I1,r1,q1⟩=>?_) h1;obtain⟨d,rfl,q⟩:=q1;cases r1;exact Ue ⟨H1,I1,q⟩
variable{tA tB':TT}{rest:List Expr}
def tAnd(t u:TT):TT:=fun σ H Q=>t σ H fun c H1=>if c=true then u σ H1 Q else Q false H1
def tOr(t u:TT):TT:=fun σ H Q=>t σ H fun c H1=>if c=true then Q true H1 else u σ H1 Q
def tNot(t:TT):TT:=fun σ H Q=>t σ H fun c H1=>Q (!c) H1
theorem Hl(ha:PT X a tA):PW X (.BoolOp .And [a] pos) tA:=by
 intro wh pins s σ H Q I h;refine isTrue_and (thn (ha pins s σ H Q I h) fun c s1 e=>?_)
 cases c with
 | true=>exact isTrue_and_nil e
 | false=>exact e
theorem Mf(ha:PT X a tA):PW X (.BoolOp .Or [a] pos) tA:=by
 intro wh pins s σ H Q I h;refine isTrue_or (thn (ha pins s σ H Q I h) fun c s1 e=>?_)
 cases c with
 | false=>exact isTrue_or_nil e
 | true=>exact e
theorem JT(ha:PT X a tA)(hb:PW X (.BoolOp .And (b::rest) pos) tB'):PW X (.BoolOp .And (a::b::rest) pos) (tAnd tA tB'):=by
 intro wh pins s σ H Q I h;refine isTrue_and (thn (ha pins s σ H _ I h) fun c s1 ⟨H1,I1,q1⟩=>?_)
 cases c with
 | true=>exact hb wh pins s1 σ H1 Q I1 q1
 | false=>exact⟨H1,I1,q1⟩
theorem Ol(ha:PT X a tA)(hb:PW X (.BoolOp .Or (b::rest) pos) tB'):PW X (.BoolOp .Or (a::b::rest) pos) (tOr tA tB'):=by
 intro wh pins s σ H Q I h;refine isTrue_or (thn (ha pins s σ H _ I h) fun c s1 ⟨H1,I1,q1⟩=>?_)
 cases c with
 | true=>exact⟨H1,I1,q1⟩
 | false=>exact hb wh pins s1 σ H1 Q I1 q1
theorem Kc(ha:PT X a tA):PT X (.UnaryOp .Not a pos) (tNot tA):=by
 intro pins s σ H Q I h;exact isTrue_not (ha pins s σ H (fun c H1=>Q (!c) H1) I h)
def QF(ta tb:TE):TE:=fun σ H Q=>ta σ H fun x H1=>∃c,x=.bl c/\if c=true then tb σ H1 Q else Q (.bl false) H1
def tOrV(ta tb:TE):TE:=fun σ H Q=>ta σ H fun x H1=>∃c,x=.bl c/\if c=true then Q (.bl true) H1 else tb σ H1 Q
theorem NB(h:PE X a t):PE X (.BoolOp op [a] pos) t:=fun pins s σ H Q I hw=>BoolOp_one (h pins s σ H Q I hw)
theorem Kp(ha:PE X a ta)(hb:PE X (.BoolOp .And (b::rest) pos) tb):PE X (.BoolOp .And (a::b::rest) pos) (QF ta tb):=by
 intro pins s σ H Q I h;refine BoolOp_and (thn (ha pins s σ H _ I h) fun v s1 ⟨x,H1,I1,r1,q1⟩=>?_);obtain⟨c,rfl,q1⟩:=q1;cases r1;refine Ue ?_
 cases c with
 | true=>exact hb pins s1 σ H1 Q I1 q1
 | false=>exact⟨.bl false,H1,I1,rfl,q1⟩
theorem PN(ha:PE X a ta)(hb:PE X (.BoolOp .Or (b::rest) pos) tb):PE X (.BoolOp .Or (a::b::rest) pos) (tOrV ta tb):=by
 intro pins s σ H Q I h;refine BoolOp_or (thn (ha pins s σ H _ I h) fun v s1 ⟨x,H1,I1,r1,q1⟩=>?_);obtain⟨c,rfl,q1⟩:=q1;cases r1;refine Ue ?_
 cases c with
 | false=>exact hb pins s1 σ H1 Q I1 q1
 | true=>exact⟨.bl true,H1,I1,rfl,q1⟩
end
end L2
namespace L2
open PySem PySem.Spec PyProof.Rows
def SqL(K:Ra)(H:Hp)(a:Addr)(xs:List V):Prop :=
 Rd H a (.lst xs) \/
  ∃(o:Obj) (its:Array Value) (n:Nat),K.lookup a=some o/\o.cls=.type "list"/\o.dict=none/\o.data=.seq its n/\its.size<=sizeLine/\Vals xs its.toList
def SqT(K:Ra)(H:Hp)(a:Addr)(xs:List V):Prop :=
 Rd H a (.tup xs) \/
  ∃(o:Obj) (its:Array Value) (n:Nat),K.lookup a=some o/\o.cls=.type "tuple"/\o.data=.seq its n/\its.size<=sizeLine/\Vals xs its.toList
noncomputable def absV:Value->Option V
 | .none=>some .non
 | .bool b=>some (.bl b)
 | .int i _=>some (.int i)
 | .str x _=>some (.str x)
 | .bytes b _=>some (.byt b)
 | .float b _=>some (.flt b)
 | .ref a=>some (.ref a)
 | .type n=>some (.ty n)
 | _=>none
theorem RelV.abs(r:RelV x u):absV u=some x:=by
 cases x with
 | non=>cases r;rfl
 | bl _=>cases r;rfl
 | int _=>obtain⟨t,rfl⟩:=r;rfl
 | str _=>obtain⟨t,rfl⟩:=r;rfl
 | byt _=>obtain⟨t,rfl⟩:=r;rfl
 | flt _=>obtain⟨t,rfl⟩:=r;rfl
 | ref _=>cases r;rfl
 | ty _=>cases r;rfl
theorem RelV.inj(r:RelV x u)(q:RelV y u):x=y:=T4 (r.abs.symm.trans q.abs)
theorem Vals.inj:∀{xs ys:List V} {us:List Value},Vals xs us->Vals ys us->xs=ys
 | _,_,_,.nil,.nil=>rfl
 | _,_,_,.cons r t,.cons r' t'=>by rw[r.inj r',Vals.inj t t']
section
variable{X:Cx}{pins:List (Addr×Obj)}{σ:St}{H:Hp}{s:Shared}{a:Addr}{xs ys:List V}
theorem SqL.of{K:Ra}(h:H a=some (.lst xs)):SqL K H a xs:=.inl (.inl h)
theorem Inv.list(I:Inv X pins σ H s)(h:SqL X.K H a xs):∃its:List Value,Vals xs its/\PlainL s.heap a its.toArray/\xs.length<=sizeLine:=by
 rcases h with h | ⟨o,its,n,hk,hc,hd,hs,hz,r⟩
 ·obtain⟨z,its,n,r,e⟩:=h.ok I.hok
  exact⟨its,r,⟨_,n,e,rfl,rfl,rfl⟩,z⟩
 ·refine⟨its.toList,r,⟨o,n,I.kIn a o hk,hc,hd,by simpa using hs⟩,?_⟩
  have e:=r.length;simp only[Us]at e;omega
theorem Inv.tuple(I:Inv X pins σ H s)(h:SqT X.K H a xs):∃its:List Value,Vals xs its/\IsTup s.heap a its.toArray/\xs.length<=sizeLine:=by
 rcases h with h | ⟨o,its,n,hk,hc,hs,hz,r⟩
 ·obtain⟨z,its,r,p⟩:=h.ok I.hok
  exact⟨its,r,p,z⟩
 ·refine⟨its.toList,r,⟨o,I.kIn a o hk,hc,n,by simpa using hs⟩,?_⟩
  have e:=r.length;simp only[Us]at e;omega
theorem Inv.list_inj(I:Inv X pins σ H s)(h:SqL X.K H a xs)(h':SqL X.K H a ys):xs=ys:=by
 obtain⟨its,r,⟨o,n,e,_,_,d⟩,_⟩:=I.list h;obtain⟨its',r',⟨o',n',e',_,_,d'⟩,_⟩:=I.list h';rw[e]at e';cases e';rw[d]at d';injection d' with d1 _
 have:its=its':=by simpa using congrArg Array.toList d1
 subst this;exact r.inj r'
theorem Inv.tuple_inj(I:Inv X pins σ H s)(h:SqT X.K H a xs)(h':SqT X.K H a ys):xs=ys:=by
 obtain⟨its,r,⟨o,e,_,n,d⟩,_⟩:=I.tuple h;obtain⟨its',r',⟨o',e',_,n',d'⟩,_⟩:=I.tuple h';rw[e]at e';cases e';rw[d]at d';injection d' with d1 _
 have:its=its':=by simpa using congrArg Array.toList d1
 subst this;exact r.inj r'
end
noncomputable abbrev Cx.wish(X:Cx)(E:Value->Shared->Prop):Cx:={ X with xe:=E }
noncomputable abbrev Cx.nox(X:Cx):Cx:=X.wish fun _ _=>False
theorem Cx.Ok.wish{X:Cx}(ok:X.Ok)(E:Value->Shared->Prop):(X.wish E).Ok :=
 ⟨ok.mod,ok.kind,ok.glob,ok.blt,ok.above,ok.inj,ok.has,ok.cab,ok.hd,ok.frames,ok.stk,ok.exf,ok.bs,ok.bsz,ok.noex,ok.exfs,ok.funs,ok.frf⟩
theorem Cx.Ok.unwish{X:Cx}{E:Value->Shared->Prop}(ok:(X.wish E).Ok):X.Ok :=
 ⟨ok.mod,ok.kind,ok.glob,ok.blt,ok.above,ok.inj,ok.has,ok.cab,ok.hd,ok.frames,ok.stk,ok.exf,ok.bs,ok.bsz,ok.noex,ok.exfs,ok.funs,ok.frf⟩
section
variable{X:Cx}{pins:List (Addr×Obj)}{σ:St}{H:Hp}{s:Shared}{E:Value->Shared->Prop}
theorem Inv.wish(I:Inv X pins σ H s)(E:Value->Shared->Prop):Inv (X.wish E) pins σ H s:=⟨I.ok.wish E,I.os,I.bare,I.base,I.loc,I.cell,I.free,I.freeC,I.pin,I.hok,I.len⟩
theorem Inv.unwish(I:Inv (X.wish E) pins σ H s):Inv X pins σ H s:=⟨I.ok.unwish,I.os,I.bare,I.base,I.loc,I.cell,I.free,I.freeC,I.pin,I.hok,I.len⟩
theorem SP.unwish{D:Ends}{f:Flow}{s':Shared}(h:SP (X.wish E) pins D f s'):SP X pins D f s':=by
 cases f with
 | next=>obtain⟨σ',H',I,q⟩:=h;exact⟨σ',H',I.unwish,q⟩
 | brk=>obtain⟨σ',H',I,q⟩:=h;exact⟨σ',H',I.unwish,q⟩
 | cont=>obtain⟨σ',H',I,q⟩:=h;exact⟨σ',H',I.unwish,q⟩
 | ret u=>obtain⟨v,σ',H',I,r,q⟩:=h;exact⟨v,σ',H',I.unwish,r,q⟩
theorem PE.nox(h:PE X.nox e t):PE X e t:=fun pins s σ H Q I hw=>
 T8 (h pins s σ H Q (I.wish _) hw) (fun _ _ ⟨v,H',I',r,q⟩=>⟨v,H',I'.unwish,r,q⟩) fun _ _ z=>RC z
theorem PT.nox(h:PT X.nox e t):PT X e t:=fun pins s σ H Q I hw=>
 T8 (h pins s σ H Q (I.wish _) hw) (fun _ _ ⟨H',I',q⟩=>⟨H',I'.unwish,q⟩) fun _ _ z=>RC z
end
section
variable{X:Cx}{st:Stmt}{rest:List Stmt}{t u:TS}{e:Expr}{te:TE}{pos:Pos}
def Lf:TS:=fun D σ H=>D.nx σ H
def tSeq(t u:TS):TS:=fun D σ H=>t { D with nx:=u D } σ H
theorem wV:PSs X [] Lf:=fun _ _ σ H _ I h=>wpAny_execs_nil ⟨σ,H,I,h⟩
theorem Av(h1:PS X st t)(h2:PSs X rest u):PSs X (st::rest) (tSeq t u):=by
 intro pins s σ H D I h;refine wpAny_execs_cons (thn (h1 pins s σ H { D with nx:=u D } I h) fun f s1 q=>?_)
 cases f with
 | next=>
   obtain⟨σ',H',I',q⟩:=q;exact h2 pins s1 σ' H' D I' q
 | ret v=>exact q
 | brk=>exact q
 | cont=>exact q
def JQ:TS:=fun D σ H=>D.bk σ H
def Qi:TS:=fun D σ H=>D.ct σ H
theorem Ih:PS X (.Pass pos) Lf:=fun _ _ σ H _ I h=>wpAny_Pass ⟨σ,H,I,h⟩
theorem Ad:PS X (.Break pos) JQ:=fun _ _ σ H _ I h=>wpAny_Break ⟨σ,H,I,h⟩
theorem pU:PS X (.Continue pos) Qi:=fun _ _ σ H _ I h=>wpAny_Continue ⟨σ,H,I,h⟩
theorem Inv.quiet(I:Inv X pins σ H s):interactive X.env=false:=by simp[interactive,I.ok.kind]
def Qw(te:TE):TS:=fun D σ H=>te σ H fun _ H1=>D.nx σ H1
theorem jX(he:PE X e te)(hs:Vd e none pos.line X.env=pure false:=by rfl):PS X (.Expr e pos) (Qw te):=by
 intro pins s σ H D I h;exact wpAny_Expr_any (thn (he pins s σ H _ I h) fun v s1 ⟨x,H1,I1,r1,q1⟩=>⟨σ,H1,I1,q1⟩) I.quiet hs
def tRet(te:TE):TS:=fun D σ H=>te σ H D.rt
theorem Ej(he:PE X e te):PS X (.Return (some e) pos) (tRet te):=by
 intro pins s σ H D I h;exact wpAny_Return_some (thn (he pins s σ H _ I h) fun v s1 ⟨x,H1,I1,r1,q1⟩=>⟨x,σ,H1,I1,r1,q1⟩)
def QR:TS:=fun D _ H=>D.rt .non H
theorem Gf:PS X (.Return none pos) QR:=fun _ _ σ H _ I h=>wpAny_Return_none ⟨.non,σ,H,I,rfl,h⟩
def tIfS(c:TT)(t u:TS):TS:=fun D σ H=>c σ H fun b H1=>if b=true then t D σ H1 else u D σ H1
theorem Lr(hc:PT X c tc)(ha:PSs X a t)(hb:PSs X b u):PS X (.If c a b pos) (tIfS tc t u):=by
 intro pins s σ H D I h;refine wpAny_If (thn (hc pins s σ H _ I h) fun d s1 ⟨H1,I1,q1⟩=>?_)
 cases d with
 | true=>exact ha pins s1 σ H1 D I1 q1
 | false=>exact hb pins s1 σ H1 D I1 q1
end
abbrev TG:=V->St->Hp->(St->Hp->Prop)->Prop
abbrev TGs:=List V->St->Hp->(St->Hp->Prop)->Prop
def PG(X:Cx)(target:Expr)(t:TG):Prop :=
 ∀(pins:List (Addr×Obj)) (s:Shared) (σ:St) (H:Hp) (v:V) (u:Value) (Q:St->Hp->Prop),Inv X pins σ H s->RelV v u->t v σ H Q ->
  Rn (Rt X.prog X.w) X.A (Wa target X.env u) (fun _ s'=>∃σ' H',Inv X pins σ' H' s'/\Q σ' H') X.xe s
def PGs(X:Cx)(ts:List Expr)(t:TGs):Prop :=
 ∀(pins:List (Addr×Obj)) (s:Shared) (σ:St) (H:Hp) (vs:List V) (us:List Value) (Q:St->Hp->Prop),Inv X pins σ H s->Vals vs us->t vs σ H Q ->
  Rn (Rt X.prog X.w) X.A (assignInOrder ((Ti ts X.env).map (·.2)) us) (fun _ s'=>∃σ' H',Inv X pins σ' H' s'/\Q σ' H') X.xe s
abbrev TSet:=V->V->V->Hp->(Hp->Prop)->Prop
def PSet(X:Cx)(t:TSet):Prop :=
 ∀(pins:List (Addr×Obj)) (s:Shared) (σ:St) (H:Hp) (o i v:V) (ov iv u:Value) (Q:Hp->Prop),Inv X pins σ H s->RelV o ov->RelV i iv->RelV v u->t o i v H Q ->
  Rn (Rt X.prog X.w) X.A (Xo ov iv u) (fun _ s'=>∃H',Inv X pins σ H' s'/\Q H') X.xe s
section
variable{X:Cx}{pos:Pos}
def uA(i:Nat):TG:=fun v σ H Q=>Q (σ.set i (some v)) H
theorem lD(hN:X.N.Nodup)(hi:X.N[i]?=some x)(hx:Loc X.env.scope x)(hf:X.fn x=true\/X.env.scope.names.lookup x=some .local:=by first | exact .inl rfl | exact .inr rfl | assumption):PG X (.Name x pos) (uA i):=by
 intro pins s σ H v u Q I r h;exact wpAny_assign_Name (tG I hN hi hx r (fun s' I'=>⟨_,H,I',h⟩) hf)
def gNil:TGs:=fun vs σ H Q=>vs=[]/\Q σ H
def LK(t:TG)(u:TGs):TGs:=fun vs σ H Q=>∃v r,vs=v::r/\t v σ H fun σ' H'=>u r σ' H' Q
theorem xM:PGs X [] gNil:=by
 intro pins s σ H vs us Q I r h;obtain⟨e,h⟩:=h;subst e;cases r;exact assignInOrder_nil ⟨σ,H,I,h⟩
theorem qX(h1:PG X e t)(h2:PGs X es u)
 (hs:(Ti (e::es) X.env).map (·.2)=Wa e X.env::(Ti es X.env).map (·.2):=by rfl):PGs X (e::es) (LK t u):=by
 intro pins s σ H vs us Q I r h;obtain⟨v,vr,e1,h⟩:=h;subst e1
 cases r with
 | cons r rr=>
   rw[hs];refine assignInOrder_cons (thn (h1 pins s σ H _ _ _ I r h) fun _ s1 ⟨σ1,H1,I1,q1⟩=>?_);exact h2 pins s1 σ1 H1 _ _ Q I1 rr q1
def gTup(K:Ra)(n:Nat)(t:TGs):TG:=fun v σ H Q=>∃a xs,v=.ref a/\SqT K H a xs/\xs.length=n/\t xs σ H Q
theorem CJ(hc:X.calm=true)(h:PGs X es t)
 (hn:(Ti es X.env).length=n:=by rfl) (hst:(Ti es X.env).findIdx? (·.1)=none:=by rfl):PG X (.Tuple es k pos) (gTup X.K n t):=by
 intro pins s σ H v u Q I r hw;obtain⟨a,xs,e1,hq,hl,hw⟩:=hw;subst e1;cases r;obtain⟨its,rv,ht,hz⟩:=I.tuple hq
 refine assign_Tuple_tuple (I.ok.hd hc) ht (by simp[hn,<-hl,rv.length]) hst fun h' hx=>?_
 have I1:Inv X pins σ H { s with heap:=h' }:=I.kept (t':=s.toks) fun b o e=>hx b o (Nat.ne_of_lt (Ro e)) e
 exact h pins _ σ H xs _ Q I1 (by simpa using rv) hw
def gSub(to ti:TE)(t:TSet):TG:=fun v σ H Q=>to σ H fun o H1=>ti σ H1 fun i H2=>t o i v H2 fun H3=>Q σ H3
theorem Mr(ho:PE X o to)(hi:PE X i ti)(hs:PSet X t)
 (ha:∀v,Wa (.Subscript o i pos) X.env v=(do
  let ov <-U7 [v] (Sv o X.env)
  let iv <-U7 [v,ov] (Sv i X.env)
  V8 pos
  U7 [v,ov,iv] (Xo ov iv v)
  release [v,ov,iv] []):=by intro _;rfl):PG X (.Subscript o i pos) (gSub to ti t):=by
 intro pins s σ H v u Q I r h;rw[ha];refine R6 (U6 (thn (ho pins s σ H _ I h) fun ov s1 ⟨x,H1,I1,r1,q1⟩=>?_));refine R6 (U6 (thn (hi pins s1 σ H1 _ I1 q1) fun iv s2 ⟨y,H2,I2,r2,q2⟩=>?_));refine R6 (wpAny_standAt (R6 (U6 (thn (hs pins s2 σ H2 x y v ov iv u _ I2 r1 r2 r q2) fun _ s3 ⟨H3,I3,q3⟩=>?_))));exact wpAny_release ⟨σ,H3,I3,q3⟩
def tAsg(te:TE)(g:TG):TS:=fun D σ H=>te σ H fun x H1=>g x σ H1 D.nx
theorem Mh(he:PE X e te)(hg:PG X tg g)(hs:swapsWithSole [tg] e pos.line X.env=pure false:=by rfl)(hw:swappedStores [tg] e X.env=pure none:=by rfl)
 (h1:(Ti [tg] X.env).map (·.2)=[Wa tg X.env]:=by rfl):PS X (.Assign [tg] e pos) (tAsg te g):=by
 intro pins s σ H D I h;refine wpAny_Assign_stores (thn (he pins s σ H _ I h) fun v s1 ⟨x,H1,I1,r1,q1⟩=>?_) hs hw;rw[h1]
 exact thn (hg pins s1 σ H1 x v _ I1 r1 q1) fun _ s2 q=>q
theorem M4(hN:X.N.Nodup)(hi:X.N[i]?=some x)(hx:Loc X.env.scope x)(he:PE X e te)(hs:Vd e (some (.Name x pos')) pos.line X.env=pure false:=by rfl)(hf:X.fn x=true\/X.env.scope.names.lookup x=some .local:=by first | exact .inl rfl | exact .inr rfl | assumption) :
 PS X (.Assign [.Name x pos'] e pos) (tAsg te (uA i)):=by
 intro pins s σ H D I h;refine wpAny_Assign_Name (thn (he pins s σ H _ I h) fun v s1 ⟨y,H1,I1,r1,q1⟩=>?_) hs;exact tG I1 hN hi hx r1 (fun s2 I2=>⟨_,H1,I2,q1⟩) hf
end
section
variable{X:Cx}{pos:Pos}
end
structure It where
 go:Nat->Hp->Prop
 yld:Nat->Hp->V->Hp->Prop
 stop:Nat->Hp->Prop
def FpOk(X:Cx)(pins:List (Addr×Obj))(H:Hp)(b:Addr):Prop :=
 H b=none/\b≠X.env.locals/\b∉X.fs/\(b∈X.ex\/X.s₀.heap.objs.size<=b)/\(∀x c,X.env.cells.lookup x=some c->c≠b)/\∀p∈X.pn++pins,p.1≠b
theorem Inv.fpOk(I:Inv X pins σ H s)(hb:s.heap.objs.size<=b)(hn:H' b=none):FpOk X pins H' b:=by
 refine⟨hn,Nat.ne_of_gt (Nat.lt_of_lt_of_le I.lt hb),I.nofs hb,.inr (Nat.le_trans I.sz hb),fun x c e z=>?_,fun p hp z=>?_⟩
 ·obtain⟨v,q⟩:=I.cell x c e
  exact absurd (Nat.lt_of_lt_of_le q.lt (by rw[z];exact hb)) (Nat.lt_irrefl _)
 ·exact absurd (Nat.lt_of_lt_of_le (Ro (I.pin p hp).1) (by rw[z];exact hb)) (Nat.lt_irrefl _)
structure Turn(P:Rz)(w:RT)(K:Ra)(tg:Expr)(J:It)(fp:List Addr)(it:Addr)(tn:Nat->Rk->Prop):Prop where
 mem:it∈fp
 obj:∀i h,tn i h->∀b∈fp,∃o,h.get? b=some o/\∀v,o.data≠.cell v
 keep:∀i h h',tn i h->(∀b∈fp,∀o,h.get? b=some o->h'.get? b=some o)->tn i h'
 item:∀(X:Cx),X.prog=P->X.w=w->X.K=K->X.calm=true->∀(i:Nat) (pins:List (Addr×Obj)) (s:Shared) (σ:St) (H:Hp) (E:Value->Shared->Prop),Inv X pins σ H s->(∀b∈fp,FpOk X pins H b)->tn i s.heap->J.go i H ->
  Rn (Rt P w) X.A (Wj (.ref it)) (fun r s1=>∃u,r=some u /\
   Rn (Rt P w) X.A (Wu tg (.ref it) u) (fun _ s2=>∃x H',Inv X pins σ H' s2/\RelV x u/\J.yld i H x H'/\tn (i+1) s2.heap/\∀b∈fp,H' b=none) E s1) E s
 done:∀(X:Cx),X.prog=P->X.w=w->X.K=K->X.calm=true->∀(i:Nat) (pins:List (Addr×Obj)) (s:Shared) (σ:St) (H:Hp) (E:Value->Shared->Prop),Inv X pins σ H s->(∀b∈fp,FpOk X pins H b)->tn i s.heap->J.stop i H ->
  Rn (Rt P w) X.A (Wj (.ref it)) (fun r s1=>r=none/\Inv X pins σ H s1) E s
 self:∀(A:RV) (i:Nat) (s:Shared) (Q:Value->Shared->Prop) (E:Value->Shared->Prop),tn i s.heap->Q (.ref it) s->Rn (Rt P w) A (Xp (.ref it)) Q E s
abbrev TI:=St->Hp->(It->Hp->Prop)->Prop
def PIE(X:Cx)(pins:List (Addr×Obj))(σ:St)(tg:Expr)(R:It->Hp->Prop)(itv:Value)(s2:Shared):Prop :=
 ∃(it:Addr) (fp:List Addr) (tn:Nat->Rk->Prop) (J:It) (H':Hp),itv=.ref it/\Inv X pins σ H' s2/\Turn X.prog X.w X.K tg J fp it tn/\tn 0 s2.heap/\(∀b∈fp,FpOk X pins H' b)/\R J H'
def PI(X:Cx)(tg iter:Expr)(wi:TI):Prop :=
 ∀(pins:List (Addr×Obj)) (s:Shared) (σ:St) (H:Hp) (R:It->Hp->Prop),Inv X pins σ H s->wi σ H R ->
  Rn (Rt X.prog X.w) X.A (Sv iter X.env) (fun v s1=>Rn (Rt X.prog X.w) X.A (Xp v) (PIE X pins σ tg R) X.xe s1) X.xe s
theorem vK(ho:s.heap.get? it=some o)(hc:o.cls=.type n)(hd:o.data=.fields vs)
 (hn:["enumerate","zip","dict_itemiterator","dict_reverseitemiterator","odict_iterator","itertools.zip_longest","itertools.pairwise"].contains n=false) (hQ:Q () s):Rn M A (Wu tg (.ref it) u) Q E s:=by
 unfold Wu
 cases tg<;>first
  | exact Rc hQ
  | (cases u<;>first
   | exact Rc hQ
   | (refine R6 (wpAny_load ho ?_)
      rw[hc,hd];show Rn M A (if(["enumerate","zip","dict_itemiterator","dict_reverseitemiterator","odict_iterator","itertools.zip_longest","itertools.pairwise"].contains n&&vs[0]?==some (Tf _))=true then _ else _) Q E s;rw[if_neg (by intro h;rw[hn,Bool.false_and]at h;cases h)]
      exact Rc hQ))
noncomputable def Itl(K:Ra)(a:Addr):It :=
 ⟨fun i H=>∃xs x,SqL K H a xs/\xs[i]?=some x,fun i H x H'=>H'=H/\∀xs,SqL K H a xs->xs[i]?=some x,fun i H=>∃xs,SqL K H a xs/\xs.length<=i⟩
noncomputable def Itt(K:Ra)(a:Addr):It :=
 ⟨fun i H=>∃xs x,SqT K H a xs/\xs[i]?=some x,fun i H x H'=>H'=H/\∀xs,SqT K H a xs->xs[i]?=some x,fun i H=>∃xs,SqT K H a xs/\xs.length<=i⟩
noncomputable def Itr(lo:Int)(n:Nat):It:=⟨fun i _=>i<n,fun i H x H'=>H'=H/\x=.int (lo+i),fun i _=>n<=i⟩
theorem ym{P:Rz}{w:RT}{K:Ra}{tg:Expr}(a it:Addr):Turn P w K tg (Itl K a) [it] it (fun i h=>h.IsListIter it a i)where
 mem:=by simp
 obj:=fun i h st b hb=>by
  have e:b=it:=by simpa using hb
  subst e;obtain⟨o,e,c,d⟩:=st;exact⟨o,e,fun v z=>by rw[d]at z;cases z⟩
 keep:=fun i h h' st k=>st.at fun o e=>k it (by simp) o e
 item:=by
  intro X hP hw hK hc i pins s σ H E I hf st hg;subst hP hw hK;obtain⟨xs,x,hq,hx⟩:=hg;obtain⟨its,rv,p,hz⟩:=I.list hq;obtain⟨u,hu,ru⟩:=rv.get hx;obtain⟨f0,f1,f2,f3,f4,f5⟩:=hf it (by simp)
  refine wpAny_pyNext_list_item st p.isList (x:=u) (by simpa using hu) fun h' st' sb=>?_
  have I1:Inv X pins σ H { s with heap:=h' }:=I.turned (t':=s.toks) (fun b o hb e=>(sb.2 b hb).trans e) f0 f1 f3 f4 f5;obtain⟨o,e,c,d⟩:=id st';exact⟨u,rfl,vK (s:={ s with heap:=h' }) e c d (by decide) ⟨x,H,I1,ru,⟨rfl,fun ys hy=>by rw[I.list_inj hy hq];exact hx⟩,st',fun b hb=>(hf b hb).1⟩⟩
 done:=by
  intro X hP hw hK hc i pins s σ H E I hf st hg;subst hP hw hK;obtain⟨xs,hq,hx⟩:=hg;obtain⟨its,rv,p,hz⟩:=I.list hq;obtain⟨f0,f1,f2,f3,f4,f5⟩:=hf it (by simp);have hl:=rv.length
  exact wpAny_pyNext_list_end (I.ok.hd hc) st p.isList (by simp;omega) fun h' eb=>⟨rfl,I.turned (t':=s.toks) (fun b o hb e=>eb b o hb e) f0 f1 f3 f4 f5⟩
 self:=fun _ _ _ _ _ st h=>wpAny_pyIter_listiter st h
theorem uz{P:Rz}{w:RT}{K:Ra}{tg:Expr}(a it:Addr):Turn P w K tg (Itt K a) [it] it (fun i h=>h.IsTupleIter it a i)where
 mem:=by simp
 obj:=fun i h st b hb=>by
  have e:b=it:=by simpa using hb
  subst e;obtain⟨o,e,c,d⟩:=st;exact⟨o,e,fun v z=>by rw[d]at z;cases z⟩
 keep:=fun i h h' st k=>st.at fun o e=>k it (by simp) o e
 item:=by
  intro X hP hw hK hc i pins s σ H E I hf st hg;subst hP hw hK;obtain⟨xs,x,hq,hx⟩:=hg;obtain⟨its,rv,p,hz⟩:=I.tuple hq;obtain⟨u,hu,ru⟩:=rv.get hx;obtain⟨f0,f1,f2,f3,f4,f5⟩:=hf it (by simp)
  refine wpAny_pyNext_tuple_item st (show s.heap.IsTuple a its.toArray from p) (x:=u) (by simpa using hu) fun h' st' sb=>?_
  have I1:Inv X pins σ H { s with heap:=h' }:=I.turned (t':=s.toks) (fun b o hb e=>(sb.2 b hb).trans e) f0 f1 f3 f4 f5;obtain⟨o,e,c,d⟩:=id st';exact⟨u,rfl,vK (s:={ s with heap:=h' }) e c d (by decide) ⟨x,H,I1,ru,⟨rfl,fun ys hy=>by rw[I.tuple_inj hy hq];exact hx⟩,st',fun b hb=>(hf b hb).1⟩⟩
 done:=by
  intro X hP hw hK hc i pins s σ H E I hf st hg;subst hP hw hK;obtain⟨xs,hq,hx⟩:=hg;obtain⟨its,rv,p,hz⟩:=I.tuple hq;obtain⟨f0,f1,f2,f3,f4,f5⟩:=hf it (by simp);have hl:=rv.length
  exact wpAny_pyNext_tuple_end (I.ok.hd hc) st (show s.heap.IsTuple a its.toArray from p) (by simp;omega) fun h' eb=>⟨rfl,I.turned (t':=s.toks) (fun b o hb e=>eb b o hb e) f0 f1 f3 f4 f5⟩
 self:=fun _ _ _ _ _ st h=>wpAny_pyIter_tupleiter st h
theorem uE{P:Rz}{w:RT}{K:Ra}{tg:Expr}(it:Addr)(lo:Int)(n:Nat):Turn P w K tg (Itr lo n) [it] it (fun i h=>IsRangeIter h it (lo+(i:Nat)*1) ((n:Int)-(i:Nat)) 1)where
 mem:=by simp
 obj:=fun i h st b hb=>by
  have e:b=it:=by simpa using hb
  subst e
  exact⟨_,st,fun v z=>by
   have z':WW _=Wt.cell v:=z
   cases z'⟩
 keep:=fun i h h' st k=>k it (by simp) _ st
 item:=by
  intro X hP hw hK hc i pins s σ H E I hf st hg;subst hP hw hK;obtain⟨f0,f1,f2,f3,f4,f5⟩:=hf it (by simp);have W:=Walks.range (prog:=X.prog) (w:=X.w) (I.ok.hd hc) it lo 1 n
  refine W.item i s _ _ hg st fun v h' tk hv st' kk=>?_
  obtain⟨t,rfl⟩:=hv;have I1:Inv X pins σ H { s with heap:=h',toks:=tk }:=I.turned (fun b o hb e=>kk b o (by simpa using hb) e) f0 f1 f3 f4 f5;refine⟨_,rfl,vK (s:={ s with heap:=h',toks:=tk }) (n:="range_iterator") st' rfl rfl (by decide) ⟨.int (lo+i),H,I1,⟨t,?_⟩,⟨rfl,rfl⟩,st',fun b hb=>(hf b hb).1⟩⟩;rw[Int.mul_one]
 done:=by
  intro X hP hw hK hc i pins s σ H E I hf st hg;subst hP hw hK;obtain⟨f0,f1,f2,f3,f4,f5⟩:=hf it (by simp)
  exact wpAny_pyNext_range_end (I.ok.hd hc) st (by have:n<=i:=hg;omega) fun h' eb=>⟨rfl,I.turned (t':=s.toks) (fun b o hb e=>eb b o hb e) f0 f1 f3 f4 f5⟩
 self:=fun _ _ _ _ _ st h=>wpAny_pyIter_rangeiter st h
end L2
namespace L2
open PySem PySem.Spec PyProof.Rows
section
variable{X:Cx}{tg:Expr}
def Ou(K:Ra)(tl:TE):TI:=fun σ H R=>tl σ H fun x H1=>∃a,x=.ref a/\(∃xs,SqL K H1 a xs)/\R (Itl K a) H1
def iTup(K:Ra)(tl:TE):TI:=fun σ H R=>tl σ H fun x H1=>∃a,x=.ref a/\(∃xs,SqT K H1 a xs)/\R (Itt K a) H1
theorem Gq{l:Expr}{tl:TE}(hl:PE X l tl):PI X tg l (Ou X.K tl):=by
 intro pins s σ H R I h
 refine thn (hl pins s σ H _ I h) fun v s1 ⟨x,H1,I1,r1,q1⟩=>?_
 obtain⟨a,e,⟨xs,hq⟩,q⟩:=q1;subst e;cases r1;obtain⟨its,rv,p,hz⟩:=I1.list hq;refine Vw p.isList ?_;refine⟨s1.heap.objs.size,[s1.heap.objs.size],_,_,H1,rfl,I1.kept (t':=s1.toks) fun b o e=>R7 _ e,ym a _,⟨_,Rp _ rfl,rfl,rfl⟩,fun b hb=>?_,q⟩
 have e:b=s1.heap.objs.size:=by simpa using hb
 subst e;exact I1.fpOk (Nat.le_refl _) (I1.hok.fresh (Nat.le_refl _))
theorem JK{l:Expr}{tl:TE}(hl:PE X l tl):PI X tg l (iTup X.K tl):=by
 intro pins s σ H R I h
 refine thn (hl pins s σ H _ I h) fun v s1 ⟨x,H1,I1,r1,q1⟩=>?_
 obtain⟨a,e,⟨xs,hq⟩,q⟩:=q1;subst e;cases r1;obtain⟨its,rv,p,hz⟩:=I1.tuple hq;refine wpAny_pyIter_tuple (show s1.heap.IsTuple a its.toArray from p) ?_;refine⟨s1.heap.objs.size,[s1.heap.objs.size],_,_,H1,rfl,I1.kept (t':=s1.toks) fun b o e=>R7 _ e,uz a _,⟨_,Rp _ rfl,rfl,rfl⟩,fun b hb=>?_,q⟩
 have e:b=s1.heap.objs.size:=by simpa using hb
 subst e;exact I1.fpOk (Nat.le_refl _) (I1.hok.fresh (Nat.le_refl _))
theorem tU{pins:List (Addr×Obj)}{σ:St}{H:Hp}{s:Shared}{R:It->Hp->Prop}{E:Value->Shared->Prop}{lo hi:Int}{t u v:Tok}{tk:Nat}(I:Inv X pins σ H s)(h1:-(2 ^ 62)<=lo)(h2:lo<2 ^ 62)(h3:-(2 ^ 62)<=hi)(h4:hi<2 ^ 62)
 (q:R (Itr lo (hi-lo).toNat) H):Rn (Rt X.prog X.w) X.A (Xp (.ref s.heap.objs.size)) (PIE X pins σ tg R) E { s with heap:=s.heap.push { cls:=.type "range",data:=.fields #[.int lo t,.int hi u,.int 1 v] },toks:=tk }:=by
 refine wpAny_pyIter_range (IsRange.new ..) (small_one h1 h2 h3 h4) ?_
 have I1:Inv X pins σ H { s with heap:=s.heap.push { cls:=.type "range",data:=.fields #[.int lo t,.int hi u,.int 1 v] },toks:=tk }:=I.kept fun b o e=>R7 _ e
 refine⟨(s.heap.push { cls:=.type "range",data:=.fields #[.int lo t,.int hi u,.int 1 v] }).objs.size,[(s.heap.push { cls:=.type "range",data:=.fields #[.int lo t,.int hi u,.int 1 v] }).objs.size],_,_,H,rfl,
  I1.kept (t':=tk) fun b o e=>R7 _ e,uE _ lo (hi-lo).toNat,?_,fun b hb=>?_,q⟩
 ·have e1:lo+((0:Nat):Int)*1=lo:=by simp
  have e2:(((hi-lo).toNat:Nat):Int)-((0:Nat):Int)=Sw.Range.rangeSize lo hi 1:=by rw[rangeSize_one];split<;>omega
  show IsRangeIter _ _ (lo+((0:Nat):Int)*1) ((((hi-lo).toNat:Nat):Int)-((0:Nat):Int)) 1;rw[e1,e2];exact Rp _ rfl
 ·have e:b=(s.heap.push { cls:=.type "range",data:=.fields #[.int lo t,.int hi u,.int 1 v] }).objs.size:=by simpa using hb
  subst e;exact I1.fpOk (Nat.le_refl _) (I1.hok.fresh (Nat.le_refl _))
def Qc(ta:TA):TI:=fun σ H R=>ta σ H fun vs H1=>∃j:Int,vs=[.int j]/\-(2 ^ 62)<=j/\j<2 ^ 62/\R (Itr 0 j.toNat) H1
def Oj(ta:TA):TI:=fun σ H R=>ta σ H fun vs H1=>∃i j:Int,vs=[.int i,.int j]/\(-(2 ^ 62)<=i/\i<2 ^ 62/\-(2 ^ 62)<=j/\j<2 ^ 62)/\R (Itr i (j-i).toNat) H1
theorem vI{a:Expr}{ta:TA}{p pos:Pos}(hg:Gl X "range")(hm:X.mg "range"=none)(ha:PA X [a] ta)(hs:Rj [a] X.env=[(false,Sv a X.env)]:=by rfl):PI X tg (.Call (.Name "range" p) [a] [] pos) (Qc ta):=by
 intro pins s σ H R I h;refine Call_ (mC I hg hm boot_range (PyProof.Rows.callWith_type1 (thn (ha pos pins s σ H _ I h) fun us s1 ⟨vs,H1,I1,r1,q1⟩=>?_) hs rfl));obtain⟨j,e,q1,q2,q⟩:=q1;subst e
 cases r1 with
 | cons r rr=>
   cases rr;obtain⟨t,rfl⟩:=r;exact call_range_1 (tU I1 (by omega) (by omega) q1 q2 (by simpa using q))
theorem vO(hg:Gl X "range")(hm:X.mg "range"=none)(ha:PA X [a,b] ta)(hs:Rj [a,b] X.env=[(false,Sv a X.env),(false,Sv b X.env)]:=by rfl)(hs2:Rj [b] X.env=[(false,Sv b X.env)]:=by rfl) :
 PI X tg (.Call (.Name "range" p) [a,b] [] pos) (Oj ta):=by
 intro pins s σ H R I h;refine Call_ (mC I hg hm boot_range (PyProof.Rows.callWith_type1 (thn (ha pos pins s σ H _ I h) fun us s1 ⟨vs,H1,I1,r1,q1⟩=>?_) (by rw[hs,hs2]) (by rw[hs2];rfl)));obtain⟨i,j,e,⟨q1,q2,q3,q4⟩,q⟩:=q1;subst e
 cases r1 with
 | cons r rr=>
   cases rr with
   | cons r' rr=>
     cases rr;obtain⟨t,rfl⟩:=r;obtain⟨t',rfl⟩:=r';exact call_range_2 (tU I1 q1 q2 q3 q4 q)
def tFor(wi:TI)(g:TG)(tb:TS):TS:=fun D σ H=>wi σ H fun J H1=>∃W:Nat->Nat->St->Hp->Prop,(∃m,W 0 m σ H1)/\∀i m σ H,W i m σ H ->
 (J.stop i H/\D.nx σ H)\/(J.go i H/\∃N:St->Hp->Prop,(∀σ' H',N σ' H'->∃m',m'<m/\W (i+1) m' σ' H')/\∀x H',J.yld i H x H'->g x σ H' fun σ2 H2=>tb { D with nx:=N,ct:=N,bk:=D.nx } σ2 H2)
def nU(fp:List Addr)(h:Rk):List (Addr×Obj):=fp.filterMap fun b=>(h.get? b).map fun o=>(b,o)
theorem eF(hb:b∈fp)(e:h.get? b=some o):(b,o)∈nU fp h:=List.mem_filterMap.mpr ⟨b,hb,by rw[e];rfl⟩
theorem uO(hp:p∈nU fp h):p.1∈fp/\h.get? p.1=some p.2:=by
 obtain⟨b,hb,e⟩:=List.mem_filterMap.mp hp
 cases q:h.get? b with
 | none=>rw[q]at e;cases e
 | some o=>
   rw[q]at e;have e':(b,o)=p:=T4 e;subst e';exact⟨hb,q⟩
theorem Inv.pinned(I:Inv X pins σ H s)(hf:∀b∈fp,FpOk X pins H b)(ho:∀b∈fp,∃o,s.heap.get? b=some o/\∀v,o.data≠.cell v):Inv X (pins++nU fp s.heap) σ H s :=
 I.pins_of fun p hp=>(T6.mp hp).elim (fun z=>I.pin p (Su _ z)) fun z=>by
  obtain⟨hb,e⟩:=uO z;obtain⟨f0,f1,f2,_⟩:=hf p.1 hb;obtain⟨o,e',d⟩:=ho p.1 hb;rw[e]at e';cases e';exact⟨e,f0,f1,f2,d⟩
theorem Inv.unpinned(I:Inv X (pins++pl) σ H s):Inv X pins σ H s:=I.pins_of fun p hp=>I.pin p (Su _ (U5 _ hp))
theorem Oe(hp:Vt (Rt X.prog X.w) X.A X.env X.xe)(hc:X.calm=true)(hi:PI X tg iter wi)(hg:PG X tg g)(hb:PSs X body tb)
 (hs:∀x,TQ iter X.env x=pure x:=by intro _;rfl):PS X (.For tg iter body [] pos) (tFor wi g tb):=by
 intro pins s σ H D I h;refine wpAny_For (thn (hi pins s σ H _ I h) fun v s1 h1=>thn h1 fun itv s2 h2=>?_) hs;obtain⟨it,fp,tn,J,H2,e,I2,T,st2,f2,W,⟨m0,w0⟩,turn⟩:=h2;subst e
 have stat:∀{H':Hp},(∀b∈fp,H' b=none)->∀b∈fp,FpOk X pins H' b:=fun hn b hb=>⟨hn b hb,(f2 b hb).2⟩
 refine codeAny_forLoop_any (fun n s'=>∃i σ' H',Inv X pins σ' H' s'/\tn i s'.heap/\(∀b∈fp,H' b=none)/\W i n σ' H') ?_ m0 ⟨0,σ,H2,I2,st2,fun b hb=>(f2 b hb).1,w0⟩
 rintro n s3 ⟨i,σ3,H3,I3,st3,fr3,w3⟩
 rcases turn i n σ3 H3 w3 with⟨stop,qn⟩ | ⟨go,N,hN,step⟩
 ·refine W0 hp (thn (T.done X rfl rfl rfl hc i pins s3 σ3 H3 X.xe I3 (stat fr3) st3 stop) fun r s4 ⟨hr,I4⟩=>?_)
  subst hr;exact wpAny_execs_nil ⟨σ3,H3,I4,qn⟩
 ·refine W0 hp (thn (T.item X rfl rfl rfl hc i pins s3 σ3 H3 X.xe I3 (stat fr3) st3 go) fun r s4 ⟨u,hr,h4⟩=>?_)
  subst hr;refine W0 hp (thn h4 fun _ s5 ⟨x,H5,I5,r5,y5,st5,fr5⟩=>?_);have I5':=I5.pinned (stat fr5) (T.obj _ _ st5);refine W0 hp (thn (hg _ s5 σ3 H5 x u _ I5' r5 (step x H5 y5)) fun _ s6 ⟨σ6,H6,I6,q6⟩=>?_);refine W0 hp (thn (hb _ s6 σ6 H6 _ I6 q6) fun f s7 q7=>?_)
  have again:∀{σ7:St} {H7:Hp},Inv X (pins++nU fp s5.heap) σ7 H7 s7->N σ7 H7->∃m,m<n/\∃i σ' H',Inv X pins σ' H' s7/\tn i s7.heap/\(∀b∈fp,H' b=none)/\W i m σ' H':=fun{σ7 H7} I7 n7=>by
   obtain⟨m',hm,w7⟩:=hN σ7 H7 n7;refine⟨m',hm,i+1,σ7,H7,I7.unpinned,T.keep _ _ _ st5 fun b hb o e=>(I7.pin (b,o) (Su _ (Su _ (eF hb e)))).1,fun b hb=>?_,w7⟩;obtain⟨o,e,d⟩:=T.obj _ _ st5 b hb;exact(I7.pin (b,o) (Su _ (Su _ (eF hb e)))).2.1
  cases f with
  | next=>obtain⟨σ7,H7,I7,n7⟩:=q7;exact again I7 n7
  | cont=>obtain⟨σ7,H7,I7,n7⟩:=q7;exact again I7 n7
  | brk=>obtain⟨σ7,H7,I7,q7⟩:=q7;exact⟨σ7,H7,I7.unpinned,q7⟩
  | ret v=>obtain⟨x7,σ7,H7,I7,r7,q7⟩:=q7;exact⟨x7,σ7,H7,I7.unpinned,r7,q7⟩
end
end L2
namespace L2
open PySem PySem.Spec PyProof.Rows
abbrev R2:=V->V->Hp->VK->Prop
def OpR(X:Cx)(f:Value->Value->Sem Value)(r:R2):Prop :=
 ∀(pins:List (Addr×Obj)) (s:Shared) (σ:St) (H:Hp) (x y:V) (v u:Value) (Q:VK),Inv X pins σ H s->RelV x v->RelV y u->r x y H Q ->
  Rn (Rt X.prog X.w) X.A (f v u) (EP X pins σ Q) X.xe s
def UnR(X:Cx)(f:Value->Sem Value)(r:V->Hp->VK->Prop):Prop :=
 ∀(pins:List (Addr×Obj)) (s:Shared) (σ:St) (H:Hp) (x:V) (v:Value) (Q:VK),Inv X pins σ H s->RelV x v->r x H Q ->
  Rn (Rt X.prog X.w) X.A (f v) (EP X pins σ Q) X.xe s
def CallR(X:Cx)(f:Value)(r:List V->Hp->VK->Prop):Prop :=
 ∀(pins:List (Addr×Obj)) (s:Shared) (σ:St) (H:Hp) (xs:List V) (us:List Value) (Q:VK),Inv X pins σ H s->Vals xs us->r xs H Q ->
  Rn (Rt X.prog X.w) X.A (call f us) (EP X pins σ Q) X.xe s
def TruR(X:Cx)(r:V->Hp->(Bool->Hp->Prop)->Prop):Prop :=
 ∀(pins:List (Addr×Obj)) (s:Shared) (σ:St) (H:Hp) (x:V) (v:Value) (Q:Bool->Hp->Prop),Inv X pins σ H s->RelV x v->r x H Q ->
  Rn (Rt X.prog X.w) X.A (truthy v) (TP X pins σ Q) X.xe s
def tOp(r:R2)(ta tb:TE):TE:=fun σ H Q=>ta σ H fun x H1=>tb σ H1 fun y H2=>r x y H2 Q
def tUn(r:V->Hp->VK->Prop)(ta:TE):TE:=fun σ H Q=>ta σ H fun x H1=>r x H1 Q
def rI(C:Int->Int->Prop)(g:Int->Int->V):R2:=fun x y H Q=>∃i j,x=.int i/\y=.int j/\C i j/\Q (g i j) H
def rI0(g:Int->Int->V):R2:=fun x y H Q=>∃i j,x=.int i/\y=.int j/\Q (g i j) H
def rU(g:Int->V):V->Hp->VK->Prop:=fun x H Q=>∃i,x=.int i/\Q (g i) H
section
variable{X:Cx}{a b c:Expr}{ta tb tc:TE}{pos:Pos}
theorem binT(ha:PE X a ta)(hb:PE X b tb){pins:List (Addr×Obj)}{s:Shared}{σ:St}{H:Hp}{R:V->V->Hp->Prop}(I:Inv X pins σ H s)
 (h:ta σ H fun x H1=>tb σ H1 fun y H2=>R x y H2) {Q:Value->Shared->Prop} {f:Value->Value->Sem Value}
 (hf:∀v u s2 x y H2,Inv X pins σ H2 s2->RelV x v->RelV y u->R x y H2->Rn (Rt X.prog X.w) X.A (f v u) Q X.xe s2) :
 Rn (Rt X.prog X.w) X.A (Sv a X.env) (fun v s₁=>Rn (Rt X.prog X.w) X.A (Sv b X.env) (fun u s₂=>Rn (Rt X.prog X.w) X.A (f v u) Q X.xe s₂) X.xe s₁) X.xe s:=by
 refine thn (ha pins s σ H _ I h) fun v s1 ⟨x,H1,I1,r1,q1⟩=>?_
 refine thn (hb pins s1 σ H1 _ I1 q1) fun u s2 ⟨y,H2,I2,r2,q2⟩=>?_
 exact hf v u s2 x y H2 I2 r1 r2 q2
theorem Pq(ho:OpR X (Vm op) r)(ha:PE X a ta)(hb:PE X b tb):PE X (.BinOp a op b pos) (tOp r ta tb):=by
 intro pins s σ H Q I h;exact wpAny_BinOp (binT ha hb I h fun v u s2 x y H2 I2 rx ry q=>ho pins s2 σ H2 x y v u Q I2 rx ry q)
theorem R1(ho:UnR X (unaryOp op) r)(ha:PE X a ta):PE X (.UnaryOp op a pos) (tUn r ta):=by
 intro pins s σ H Q I h;exact UnaryOp_ (thn (ha pins s σ H _ I h) fun v s1 ⟨x,H1,I1,r1,q1⟩=>ho pins s1 σ H1 x v Q I1 r1 q1)
theorem opI{f:Value->Value->Sem Value}{C:Int->Int->Prop}{g:Int->Int->Int}
 (rule:∀(i j:Int) (t u:Tok) (s:Shared) (Q:Value->Shared->Prop) (E:Value->Shared->Prop),C i j->Q (.int (g i j) s.toks) { s with toks:=s.toks+1 }->Rn (Rt X.prog X.w) X.A (f (.int i t) (.int j u)) Q E s) :
 OpR X f (rI C fun i j=>.int (g i j)):=by
 intro pins s σ H x y v u Q I rx ry h;obtain⟨i,j,rfl,rfl,hc,q⟩:=h;obtain⟨t,rfl⟩:=rx;obtain⟨t',rfl⟩:=ry;exact rule i j t t' s _ _ hc ⟨.int (g i j),H,I.tok _,⟨_,rfl⟩,q⟩
theorem opI0{f:Value->Value->Sem Value}{g:Int->Int->Int}
 (rule:∀(i j:Int) (t u:Tok) (s:Shared) (Q:Value->Shared->Prop) (E:Value->Shared->Prop),Q (.int (g i j) s.toks) { s with toks:=s.toks+1 }->Rn (Rt X.prog X.w) X.A (f (.int i t) (.int j u)) Q E s) :
 OpR X f (rI0 fun i j=>.int (g i j)):=by
 intro pins s σ H x y v u Q I rx ry h;obtain⟨i,j,rfl,rfl,q⟩:=h;obtain⟨t,rfl⟩:=rx;obtain⟨t',rfl⟩:=ry;exact rule i j t t' s _ _ ⟨.int (g i j),H,I.tok _,⟨_,rfl⟩,q⟩
theorem opB0{f:Value->Value->Sem Value}{g:Int->Int->Bool}
 (rule:∀(i j:Int) (t u:Tok) (s:Shared) (Q:Value->Shared->Prop) (E:Value->Shared->Prop),Q (.bool (g i j)) s->Rn (Rt X.prog X.w) X.A (f (.int i t) (.int j u)) Q E s) :
 OpR X f (rI0 fun i j=>.bl (g i j)):=by
 intro pins s σ H x y v u Q I rx ry h;obtain⟨i,j,rfl,rfl,q⟩:=h;obtain⟨t,rfl⟩:=rx;obtain⟨t',rfl⟩:=ry;exact rule i j t t' s _ _ ⟨.bl (g i j),H,I,rfl,q⟩
def CPow(i j:Int):Prop:=0<=j/\j<=1000000/\i.natAbs<2 ^ 64
theorem JG:OpR X (Vm .Add) (rI0 fun i j=>.int (i+j)):=opI0 fun _ _ _ _ _ _ _ q=>add_int q
theorem JM:OpR X (Vm .Sub) (rI0 fun i j=>.int (i-j)):=opI0 fun _ _ _ _ _ _ _ q=>sub_int q
theorem J1:OpR X (Vm .Mod) (rI (fun _ j=>j≠0) fun i j=>.int (i.fmod j)):=opI fun _ _ _ _ _ _ _ hc q=>mod_int' hc q
theorem Kq:OpR X (Vm .Pow) (rI CPow fun i j=>.int (i ^ j.toNat)):=opI fun _ _ _ _ _ _ _ hc q=>pow_int_small hc.1 hc.2.1 hc.2.2 q
theorem unI{f:Value->Sem Value}{g:Int->Int}
 (rule:∀(i:Int) (t:Tok) (s:Shared) (Q:Value->Shared->Prop) (E:Value->Shared->Prop),Q (.int (g i) s.toks) { s with toks:=s.toks+1 }->Rn (Rt X.prog X.w) X.A (f (.int i t)) Q E s) :
 UnR X f (rU fun i=>.int (g i)):=by
 intro pins s σ H x v Q I rx h;obtain⟨i,rfl,q⟩:=h;obtain⟨t,rfl⟩:=rx;exact rule i t s _ _ ⟨.int (g i),H,I.tok _,⟨_,rfl⟩,q⟩
theorem JB:UnR X (unaryOp .USub) (rU fun i=>.int (-i)):=unI fun _ _ _ _ _ q=>neg_int q
end
noncomputable def scal:V->V->Bool
 | .non,.non=>true | .non,.int _=>true | .int _,.non=>true | .non,.bl _=>true | .bl _,.non=>true | .non,.str _=>true | .str _,.non=>true
 | .int _,.int _=>true | .bl _,.bl _=>true | .str _,.str _=>true | .byt _,.byt _=>true
 | .int _,.str _=>true | .str _,.int _=>true | .bl _,.str _=>true | .str _,.bl _=>true
 | _,_=>false
def rEq:R2:=fun x y H Q=>scal x y=true/\Q (.bl (decide (x=y))) H
def rNe:R2:=fun x y H Q=>scal x y=true/\Q (.bl (!decide (x=y))) H
theorem xq:decide (V.int i=V.int j)=(i==j):=by
 rw[Bool.eq_iff_iff];simp
theorem DW:decide (V.bl i=V.bl j)=(i==j):=by
 rw[Bool.eq_iff_iff];simp
theorem uT:decide (V.str i=V.str j)=(i==j):=by
 rw[Bool.eq_iff_iff];simp
theorem vV:decide (V.byt i=V.byt j)=(i.toList==j.toList):=by
 rw[Bool.eq_iff_iff];cases i;cases j;simp
section
variable{X:Cx}{a b c:Expr}{ta tb tc:TE}{pos:Pos}
theorem aV(I:Inv X pins σ H s)(q:Q (.bl k) H)(e:k=k'):EP X pins σ Q (.bool k') s:=by
 subst e;exact⟨.bl k,H,I,rfl,q⟩
theorem QT:OpR X (TX .Eq) rEq:=by
 intro pins s σ H x y v u Q I rx ry h;obtain⟨hs,q⟩:=h
 cases x with
 | non=>
   cases rx
   cases y with
   | non=>cases ry;exact PySem.EqNone.eq_none_none (aV I q (by simp))
   | bl j=>cases ry;exact PySem.EqNone.eq_none_bool (aV I q (by simp))
   | int j=>obtain⟨t',rfl⟩:=ry;exact PySem.EqNone.eq_none_int (aV I q (by simp))
   | str j=>obtain⟨t',rfl⟩:=ry;exact PySem.EqNone.eq_none_str (aV I q (by simp))
   | _=>exact absurd (show false=true from hs) Bool.false_ne_true
 | bl i=>
   cases rx
   cases y with
   | non=>cases ry;exact PySem.EqNone.eq_bool_none (aV I q (by simp))
   | bl j=>cases ry;exact eq_bool (aV I q DW)
   | str j=>obtain⟨t',rfl⟩:=ry;exact PySem.EqMixed.eq_bool_str (aV I q (by simp))
   | _=>exact absurd (show false=true from hs) Bool.false_ne_true
 | int i=>
   obtain⟨t,rfl⟩:=rx
   cases y with
   | non=>cases ry;exact PySem.EqNone.eq_int_none (aV I q (by simp))
   | int j=>obtain⟨t',rfl⟩:=ry;exact eq_int (aV I q xq)
   | str j=>obtain⟨t',rfl⟩:=ry;exact PySem.EqMixed.eq_int_str (aV I q (by simp))
   | _=>exact absurd (show false=true from hs) Bool.false_ne_true
 | str i=>
   obtain⟨t,rfl⟩:=rx
   cases y with
   | non=>cases ry;exact PySem.EqNone.eq_str_none (aV I q (by simp))
   | bl j=>cases ry;exact PySem.EqMixed.eq_str_bool (aV I q (by simp))
   | int j=>obtain⟨t',rfl⟩:=ry;exact PySem.EqMixed.eq_str_int (aV I q (by simp))
   | str j=>obtain⟨t',rfl⟩:=ry;exact eq_str (aV I q uT)
   | _=>exact absurd (show false=true from hs) Bool.false_ne_true
 | byt i=>
   obtain⟨t,rfl⟩:=rx
   cases y with
   | byt j=>obtain⟨t',rfl⟩:=ry;exact PySem.W.eq_bytes (aV I q vV)
   | _=>exact absurd (show false=true from hs) Bool.false_ne_true
 | _=>cases y<;>exact absurd (show false=true from hs) Bool.false_ne_true
theorem Qj:OpR X (TX .NotEq) rNe:=by
 intro pins s σ H x y v u Q I rx ry h;obtain⟨hs,q⟩:=h
 cases x with
 | non=>
   cases rx
   cases y with
   | non=>cases ry;exact PySem.EqNone.ne_none_none (aV I q (by simp))
   | bl j=>cases ry;exact PySem.EqNone.ne_none_bool (aV I q (by simp))
   | int j=>obtain⟨t',rfl⟩:=ry;exact PySem.EqNone.ne_none_int (aV I q (by simp))
   | str j=>obtain⟨t',rfl⟩:=ry;exact PySem.EqNone.ne_none_str (aV I q (by simp))
   | _=>exact absurd (show false=true from hs) Bool.false_ne_true
 | bl i=>
   cases rx
   cases y with
   | non=>cases ry;exact PySem.EqNone.ne_bool_none (aV I q (by simp))
   | bl j=>cases ry;exact ne_bool (aV I q (congrArg not DW))
   | str j=>obtain⟨t',rfl⟩:=ry;exact PySem.EqMixed.ne_bool_str (aV I q (by simp))
   | _=>exact absurd (show false=true from hs) Bool.false_ne_true
 | int i=>
   obtain⟨t,rfl⟩:=rx
   cases y with
   | non=>cases ry;exact PySem.EqNone.ne_int_none (aV I q (by simp))
   | int j=>obtain⟨t',rfl⟩:=ry;exact ne_int (aV I q (congrArg not xq))
   | str j=>obtain⟨t',rfl⟩:=ry;exact PySem.EqMixed.ne_int_str (aV I q (by simp))
   | _=>exact absurd (show false=true from hs) Bool.false_ne_true
 | str i=>
   obtain⟨t,rfl⟩:=rx
   cases y with
   | non=>cases ry;exact PySem.EqNone.ne_str_none (aV I q (by simp))
   | bl j=>cases ry;exact PySem.EqMixed.ne_str_bool (aV I q (by simp))
   | int j=>obtain⟨t',rfl⟩:=ry;exact PySem.EqMixed.ne_str_int (aV I q (by simp))
   | str j=>obtain⟨t',rfl⟩:=ry;exact ne_str (aV I q (congrArg not uT))
   | _=>exact absurd (show false=true from hs) Bool.false_ne_true
 | byt i=>
   obtain⟨t,rfl⟩:=rx
   cases y with
   | byt j=>obtain⟨t',rfl⟩:=ry;exact PySem.W.ne_bytes (aV I q (congrArg not vV))
   | _=>exact absurd (show false=true from hs) Bool.false_ne_true
 | _=>cases y<;>exact absurd (show false=true from hs) Bool.false_ne_true
theorem Ot:OpR X (TX .Lt) (rI0 fun i j=>.bl (decide (i<j))):=opB0 fun _ _ _ _ _ _ _ q=>lt_int q
theorem Qz:OpR X (TX .Gt) (rI0 fun i j=>.bl (decide (j<i))):=opB0 fun _ _ _ _ _ _ _ q=>gt_int q
theorem Pz:OpR X (TX .GtE) (rI0 fun i j=>.bl (decide (j<=i))):=opB0 fun _ _ _ _ _ _ _ q=>ge_int q
theorem nR:OpR X (TX .In) (fun x y H Q=>∃i j,x=.str i/\y=.str j/\Q (.bl (!(Uq j i 0 j.length 1).isEmpty)) H):=by
 intro pins s σ H x y v u Q I rx ry h;obtain⟨i,j,rfl,rfl,q⟩:=h;obtain⟨t,rfl⟩:=rx;obtain⟨t',rfl⟩:=ry;exact in_str (aV I q rfl)
theorem ig:OpR X (TX .NotIn) (fun x y H Q=>∃i j,x=.str i/\y=.str j/\Q (.bl (!(!(Uq j i 0 j.length 1).isEmpty))) H):=by
 intro pins s σ H x y v u Q I rx ry h;obtain⟨i,j,rfl,rfl,q⟩:=h;obtain⟨t,rfl⟩:=rx;obtain⟨t',rfl⟩:=ry;exact notIn_str (aV I q rfl)
theorem OpR.or(h:OpR X f r)(h':OpR X f r'):OpR X f (fun x y H Q=>r x y H Q\/r' x y H Q):=by
 intro pins s σ H x y v u Q I rx ry q;rcases q with q | q
 ·exact h pins s σ H x y v u Q I rx ry q
 ·exact h' pins s σ H x y v u Q I rx ry q
theorem j4(ho:OpR X (TX op) r)(ha:PE X a ta)(hb:PE X b tb)(hm:U9 op b=false):PE X (.Compare a [op] [b] pos) (tOp r ta tb):=by
 intro pins s σ H Q I h;exact wpAny_Compare1 (binT ha hb I h fun v u s2 x y H2 I2 rx ry q=>ho pins s2 σ H2 x y v u Q I2 rx ry q) hm
def Py(t:TE):TT:=fun σ H Q=>t σ H fun x H'=>∃k,x=.bl k/\Q k H'
theorem j8(ho:OpR X (TX op) r)(ha:PE X a ta)(hb:PE X b tb)(hm:U9 op b=false):PT X (.Compare a [op] [b] pos) (Py (tOp r ta tb)):=by
 intro pins s σ H Q I h
 refine wpAny_isTrue_Compare1 (thn (ha pins s σ H _ I h) fun v s1 ⟨x,H1,I1,r1,q1⟩=>thn (hb pins s1 σ H1 _ I1 q1) fun u s2 ⟨y,H2,I2,r2,q2⟩=>
  thn (ho pins s2 σ H2 x y v u _ I2 r1 r2 q2) fun c s3 ⟨z,H3,I3,r3,k,e,q3⟩=>?_) hm
 subst e;cases r3;exact Ue ⟨H3,I3,q3⟩
def TruV(K:Ra)(x:V)(H:Hp)(k:Bool):Prop :=
 match x with
 | .non=>k=false
 | .bl b=>k=b
 | .int i=>k=(i !=0)
 | .str y=>y.length<=sizeLine/\k=((y.length:Int) !=0)
 | .byt y=>y.size<=sizeLine/\k=((y.size:Int) !=0)
 | .ref p=>(∃xs,SqL K H p xs/\k=!xs.isEmpty)\/(∃xs,SqT K H p xs/\k=!xs.isEmpty)\/∃kvs ep,H p=some (.dK kvs ep)/\k=!kvs.isEmpty
 | _=>False
theorem uF(r:KV kvs vs):(!vs.isEmpty)=!kvs.isEmpty:=by
 cases r<;>rfl
theorem jP(r:Vals xs its):(!its.toArray.isEmpty)=!xs.isEmpty:=by
 cases r<;>simp
theorem j7:(sizeLine:Nat)<2 ^ 63:=by rw[T9];decide
theorem CN:TruR X (fun x H Q=>∃k,TruV X.K x H k/\Q k H):=by
 intro pins s σ H x v Q I rx h;obtain⟨k,e,q⟩:=h;have hl:=j7;have hs:sizeLine=16777216:=T9
 cases x with
 | non=>
   cases rx;have e':k=false:=e;subst e';exact truthy_none ⟨H,I,q⟩
 | bl b=>
   cases rx;have e':k=b:=e;subst e';exact Ue ⟨H,I,q⟩
 | int i=>
   obtain⟨t,rfl⟩:=rx;have e':k=(i !=0):=e;subst e';exact PySem.P.truthy_int ⟨H,I,q⟩
 | str y=>
   obtain⟨t,rfl⟩:=rx;obtain⟨hy,e'⟩:y.length<=sizeLine/\k=((y.length:Int) !=0):=e;subst e';exact PySem.P.truthy_str (by omega) ⟨H,I.tok _,q⟩
 | byt y=>
   obtain⟨t,rfl⟩:=rx;obtain⟨hy,e'⟩:y.size<=sizeLine/\k=((y.size:Int) !=0):=e;subst e';exact PySem.W.truthy_bytes (by omega) ⟨H,I.tok _,q⟩
 | ref p=>
   cases rx;have e':(∃xs,SqL X.K H p xs/\k=!xs.isEmpty)\/(∃xs,SqT X.K H p xs/\k=!xs.isEmpty)\/∃kvs ep,H p=some (.dK kvs ep)/\k=!kvs.isEmpty:=e;rcases e' with⟨xs,hx,e'⟩ | ⟨xs,hx,e'⟩ | ⟨kvs,ep,hx,e'⟩
   ·subst e'
    obtain⟨its,r,pl,hz⟩:=I.list hx;have hlen:=r.length;exact wpAny_truthy_list pl.isList (by simp only[Ru];omega) ⟨H,I.tok _,by rw[jP r];exact q⟩
   ·subst e'
    obtain⟨its,r,pl,hz⟩:=I.tuple hx;have hlen:=r.length;exact truthy_tuple pl (by simp only[Ru];omega) ⟨H,I.tok _,by rw[jP r];exact q⟩
   ·subst e'
    obtain⟨hz,hS,vs,r,m⟩:kvs.length<=sizeLine/\(p==Ux)=false/\∃vs,KV kvs vs/\s.heap.DictAt (bc X.prog X.w) p vs ep:=I.hok p _ hx;have m:=m.dictOf;have hlen:kvs.length=vs.length:=Ws r;exact wpAny_truthy_dict hS m (by omega) ⟨H,I.tok _,by rw[uF r];exact q⟩
 | _=>exact(show False from e).elim
theorem Bm(ha:PE X a ta)(he:∀whole,isTrue a X.env whole=(do let v <-whole;V8 a.pos;U7 [v] (truthy v))) :
 PT X a (fun σ H Q=>ta σ H fun x H'=>∃k,TruV X.K x H' k/\Q k H'):=by
 intro pins s σ H Q I h;exact isTrue_plain (thn (ha pins s σ H _ I h) fun v s1 ⟨x,H1,I1,r1,q1⟩=>CN pins s1 σ H1 x v Q I1 r1 q1) (he _)
theorem uG:OpR X (Vm .Add) (fun x y H Q=>∃i j,x=.str i/\y=.str j/\i.length+j.length<=sizeLine/\Q (.str (i++j)) H):=by
 intro pins s σ H x y v u Q I rx ry h;obtain⟨i,j,rfl,rfl,hz,q⟩:=h;obtain⟨t,rfl⟩:=rx;obtain⟨t',rfl⟩:=ry;exact add_str (fun t' tk=>⟨.str (i++j),H,I.tok _,⟨_,rfl⟩,q⟩) hz
theorem vals1(r:Vals [x] us):∃u,us=[u]/\RelV x u:=by
 cases r with
 | cons r1 r2=>cases r2;exact⟨_,rfl,r1⟩
theorem vals2(r:Vals [x,y] us):∃u w',us=[u,w']/\RelV x u/\RelV y w':=by
 cases r with
 | cons r1 r2=>
   cases r2 with
   | cons r3 r4=>cases r4;exact⟨_,_,rfl,r1,r3⟩
theorem zZ:CallR X (.builtin "abs") (fun xs H Q=>∃i,xs=[.int i]/\Q (.int (if i<0 then -i else i)) H):=by
 intro pins s σ H xs us Q I r h;obtain⟨i,rfl,q⟩:=h;obtain⟨u,rfl,t,rfl⟩:=vals1 r
 exact call_abs_int fun u tk=>⟨.int (if i<0 then -i else i),H,I.tok _,⟨_,rfl⟩,q⟩
theorem vG(hc:X.calm=true):CallR X (.builtin "min") (fun xs H Q=>∃i j,xs=[.int i,.int j]/\Q (.int (if j<i then j else i)) H):=by
 intro pins s σ H xs us Q I r h;obtain⟨i,j,rfl,q⟩:=h;obtain⟨u,w',rfl,⟨t,rfl⟩,⟨t',rfl⟩⟩:=vals2 r
 refine min_two_ints (I.ok.hd hc) fun h' tk k=>⟨_,H,I.kept k,?_,q⟩
 by_cases hj:j<i
 ·rw[if_pos hj,if_pos hj];exact⟨_,rfl⟩
 ·rw[if_neg hj,if_neg hj];exact⟨_,rfl⟩
end
end L2
namespace L2
open PySem PySem.Spec PyProof.Rows
structure ObjM(h:Rk)(x dx C:Addr)(mA:Str->Option Value):Prop where
 obj:h.get? x=some (Um C dx)
 ns:h.Ns1 dx mA
 ne:dx≠x
theorem yg{h:Rk}{dx:Addr}{mA:Str->Option Value}(n:h.Ns1 dx mA):∃od,h.get? dx=some od/\∀name,Wl name od=some (mA name):=by
 obtain⟨o,es,ep,ho,hd,hk,_,hm⟩:=n;refine⟨o,ho,fun name=>?_⟩;have e:=hm name;unfold nsFind findBy at e;rw[<-Array.find?_toList]at e;unfold Wl;rw[hd];dsimp only;split
 ·rename_i y q
  rw[q]at e;exact congrArg some e
 ·rename_i q
  rw[q]at e
  have a:es.toList.any (·.refKey)=false:=by
   rw[List.any_eq_false];intro y hy;obtain⟨z,t,hkey⟩:=hk y (Array.mem_toList_iff.mp hy);simp[DictEntry.refKey,hkey]
  have a':¬es.toList.any (·.refKey)=true:=by rw[a];exact Bool.false_ne_true
  rw[if_neg a'];exact congrArg some e
theorem ObjM.look(I:ObjM h x dx C mA):∃od,PySem.W.InstAt h x (Um C dx) C (some od)/\∀name,Wl name od=some (mA name) :=
 let⟨od,ho,hl⟩:=yg I.ns
 ⟨od,⟨I.obj,rfl,rfl,ho⟩,hl⟩
section
variable{prog:Rz}{w:RT}{A:RV}{E:Value->Shared->Prop}{s:Shared}{K:Ra}{x dx C f:Addr}{mA:Str->Option Value}{name:Str}{v:Value}
theorem Fb(X:K.In s.heap)(I:ObjM s.heap x dx C mA)(hg:V5 K C name=true)(hh:Vj K C=true)
 (ha:RP K (.ref C) name=some none) (hv:mA name=some v) (hv':W3 v=true) (h:Q v { s with toks:=s.toks+1 }) :
 Rn (Rt prog w) A (getAttr (.ref x) name expr) Q E s:=by
 obtain⟨od,J,hl⟩:=I.look;exact PySem.W.get_value X J (PySem.W.plainGet_of hg).1 (PySem.W.findObj_own hh ha rfl (by rw[hl,hv])) hv' h
theorem z9(X:K.In s.heap)(I:ObjM s.heap x dx C mA)(hg:V5 K C name=true)
 (hf:RP K (.ref C) name=some (some (.ref f))) (ht:Vi K (.ref f)=true) (hv:mA name=none) (h:Q (.ref f,[.ref x]) s) :
 Rn (Rt prog w) A (V6 (.ref x) name pl) Q E s:=by
 obtain⟨od,J,hl⟩:=I.look;exact PySem.W.method_fn X J (PySem.W.plainGet_of hg).1 (PySem.W.plainGet_of hg).2 hf (beq_iff_eq.mp ht) (by show(Wl name od).map (·.isSome)=some false;rw[hl,hv];rfl) h
theorem HF(X:K.In s.heap)(I:ObjM s.heap x dx C mA)
 (hs:RP K (.ref C) "__setattr__"=some (some (.builtin "object.__setattr__"))) (hp:VP K C=true) (ht:PySem.W.takerIn K C name=some none) (hh:Vj K C=true)
 (hw:WF mA ns) (hsz:ns.length<=sizeLine)
 (h:∀h',ObjM h' x dx C (fun y=>if y=name then some v else mA y)->Tz dx s.heap h'->Q () { s with heap:=h',toks:=s.toks+2 }) :
 Rn (Rt prog w) A (setAttr (.ref x) name v) Q E s:=by
 obtain⟨od,J,hl⟩:=I.look;refine PySem.W.set_plain X J hs (PySem.W.osa_open (s:={ s with toks:=s.toks+1 }) (r:=none) X J hp ht fun b=>?_);obtain⟨cd,hc,hd'⟩:=PySem.W.any_some hh;have hx:s.heap.get? x=some ⟨.ref C,some dx,.plain,#[]⟩:=I.obj;refine R6 (Rc (R6 (R6 (wpAny_loadPart hx (R6 (PySem.W.Looks.here (s:={ s with toks:=s.toks+1 }) (PySem.W.looks_clsIn X hc) ?_))))));rw[hd'];refine Rc (a:=some dx) (R6 (Rc (R6 ?_)))
 refine wpAny_nsSet1 (s:={ s with toks:=s.toks+1 }) I.ns fun h' hn2 hs2=>?_
 obtain⟨oD,esD,epD,hoD,hdD,hcD⟩:=hn2.count (WF.cons name v hw);refine R6 (wpAny_lookBehind hoD (by rw[hdD];exact pastItsLine_dict (Nat.le_trans hcD (by rw[Rv];omega))) ?_);exact Rc (h _ ⟨(hs2.2 _ (T5 I.ne)).trans I.obj,hn2,I.ne⟩ hs2)
theorem Bv{R:X6->Shared->Prop}{vs:List Value}{kw:List (Str×Value)}(X:K.In s.heap)(hm:Wb K C=true)
 (hi:RP K (.ref C) "__init__"=some (some (.ref f))) (hf:PySem.W.typeIn K (.ref f)=some (.type "function"))
 (h:Vx (Rt prog w) (A.under (.builtin "type.__call__" ⟨.ref C::vs,kw⟩)) (.call (.ref f) ⟨.ref (s.heap.objs.size+1)::vs,kw⟩) (PySem.W.InitBack (s.heap.objs.size+1) R)
  { s with heap:=(s.heap.push Tn).push (Um C s.heap.objs.size) }) :
 Vx (Rt prog w) A (.call (.ref C) ⟨vs,kw⟩) R s:=by
 obtain⟨hh,g,d,t,os⟩:=s;exact PySem.W.make_core (PySem.W.makes_of X hm) (PySem.W.looks_findIn X hi) (fun self=>PySem.W.bind_fn X self hf) (.inl rfl) h
end
noncomputable def putF(f:Str)(v:V):List (Str×V)->List (Str×V)
 | []=>[(f,v)]
 | (g,x)::r=>if g=f then(g,v)::r else(g,x)::putF f v r
theorem jl(f g:Str)(v:V):∀fs:List (Str×V),(putF f v fs).lookup g=if g=f then some v else fs.lookup g
 | []=>by
   show UJ g [(f,v)]=_
   by_cases h:g=f
   ·have hb:(g==f)=true:=beq_iff_eq.mpr h
    simp only[UJ,hb,if_pos h]
   ·have hb:(g==f)=false:=beq_eq_false_iff_ne.mpr h
    simp only[UJ,hb,if_neg h]
 | (k,x)::r=>by
   have ih:=jl f g v r;rw[show putF f v ((k,x)::r)=(if k=f then(k,v)::r else(k,x)::putF f v r)from rfl]
   by_cases hk:k=f
   ·rw[if_pos hk]
    by_cases h:g=k
    ·have hb:(g==k)=true:=beq_iff_eq.mpr h
     simp only[UJ,hb,if_pos (h.trans hk)]
    ·have hb:(g==k)=false:=beq_eq_false_iff_ne.mpr h
     simp only[UJ,hb,if_neg (fun e:g=f=>h (e.trans hk.symm))]
   ·rw[if_neg hk]
    by_cases h:g=k
    ·have hb:(g==k)=true:=beq_iff_eq.mpr h
     simp only[UJ,hb,if_neg (fun e:g=f=>hk (h.symm.trans e))]
    ·have hb:(g==k)=false:=beq_eq_false_iff_ne.mpr h
     simp only[UJ,hb];exact ih
theorem ji(f:Str)(v:V):∀fs:List (Str×V),f∈(putF f v fs).map (·.1)/\∀g,g∈fs.map (·.1)->g∈(putF f v fs).map (·.1)
 | []=>⟨by simp[putF],fun g h=>by simp at h⟩
 | (k,x)::r=>by
   obtain⟨i1,i2⟩:=ji f v r;rw[show putF f v ((k,x)::r)=(if k=f then(k,v)::r else(k,x)::putF f v r)from rfl]
   by_cases hk:k=f
   ·rw[if_pos hk]
    subst hk;exact⟨by simp,fun g h=>by simpa using h⟩
   ·rw[if_neg hk]
    refine⟨?_,fun g h=>?_⟩
    ·rw[R8]
     exact Rb _ i1
    ·rw[R8]at h ⊢
     rcases Rh.mp h with e | e
     ·exact Rh.mpr (.inl e)
     ·exact Rb _ (i2 g e)
theorem iQ(f:Str)(v:V):∀fs:List (Str×V),(putF f v fs).length<=fs.length+1
 | []=>by simp[putF]
 | (k,x)::r=>by
   have ih:=iQ f v r;rw[show putF f v ((k,x)::r)=(if k=f then(k,v)::r else(k,x)::putF f v r)from rfl]
   by_cases hk:k=f
   ·rw[if_pos hk,Rv,Rv];omega
   ·rw[if_neg hk,Rv,Rv];omega
theorem RelO.some_of(r:RelO (some v) o):∃u,o=some u/\RelV v u:=by
 cases o with
 | none=>exact(show False from r).elim
 | some u=>exact⟨u,rfl,r⟩
theorem RelO.none_of(r:RelO none o):o=none:=by
 cases o with
 | none=>rfl
 | some u=>exact(show False from r).elim
theorem vD(r:RelV v u):W3 u=true:=by
 cases v with
 | non=>cases (show u=Value.none from r);rfl
 | bl b=>cases (show u=Value.bool b from r);rfl
 | int i=>obtain⟨t,e⟩:=(show ∃t,u=Value.int i t from r);cases e;rfl
 | str x=>obtain⟨t,e⟩:=(show ∃t,u=Value.str x t from r);cases e;rfl
 | byt b=>obtain⟨t,e⟩:=(show ∃t,u=Value.bytes b t from r);cases e;rfl
 | flt b=>obtain⟨t,e⟩:=(show ∃t,u=Value.float b t from r);cases e;rfl
 | ref a=>cases (show u=Value.ref a from r);rfl
 | ty n=>cases (show u=Value.type n from r);rfl
section
variable{P:Rz}{w:RT}{H H':Hp}{h h':Rk}{a C dx:Addr}{fs fs':List (Str×V)}
theorem pA(hok:HOk P w H h)(e:H a=some (.ins C dx fs)):∃mA,ObjM h a dx C mA/\(∀f,RelO (fs.lookup f) (mA f))/\WF mA (fs.map (·.1))/\fs.length<=1000/\H dx=some (.own a):=by
 obtain⟨d,z,ne,ob,mA,n,r,q⟩:=(show ObjOk P w H h a (.ins C dx fs)from hok a _ e)
 exact⟨mA,⟨ob,n,ne⟩,r,q,z,d⟩
end
structure Cls(K:Ra)(C:Addr):Prop where
 pg:V5 K C Str.empty=true
 hd:Vj K C=true
 po:VP K C=true
 sa:RP K (.ref C) "__setattr__"=some (some (.builtin "object.__setattr__"))
theorem Cls.get{K:Ra}{C:Addr}(c:Cls K C)(f:Str):V5 K C f=true:=c.pg
def NoAttr(K:Ra)(C:Addr)(f:Str):Prop:=RP K (.ref C) f=some none
theorem NoAttr.taker{K:Ra}{C:Addr}{f:Str}(n:NoAttr K C f):PySem.W.takerIn K C f=some none:=by
 unfold PySem.W.takerIn;rw[show RP K (.ref C) f=some none from n]
 rfl
structure Con(K:Ra)(C:Addr)(f:Str)(v:V)(u:Value):Prop where
 at_:RP K (.ref C) f=some (some u)
 rel:RelV v u
 get:VN K u "__get__"=some none
 cp:PySem.W.copiedNames.contains f=false
structure Meth(K:Ra)(C:Addr)(m:Str)(f:Addr):Prop where
 at_:RP K (.ref C) m=some (some (.ref f))
 fn:Vi K (.ref f)=true
 kp:RL K (.ref f)=true
section
variable{X:Cx}{pins:List (Addr×Obj)}{σ:St}{H:Hp}{s:Shared}{a C dx:Addr}{fs:List (Str×V)}{f:Str}{v:V}{A:RV}{E:Value->Shared->Prop}
theorem u5(I:Inv X pins σ H s)(e:H a=some (.ins C dx fs))(c:Cls X.K C)(n:NoAttr X.K C f)(l:fs.lookup f=some v)
 (h:∀u s',Inv X pins σ H s'->RelV v u->Q u s'):Rn (Rt X.prog X.w) A (getAttr (.ref a) f b) Q E s:=by
 obtain⟨mA,O,r,_,_,_⟩:=pA I.hok e;obtain⟨u,hu,ru⟩:=RelO.some_of (v:=v) (o:=mA f) (by rw[<-l];exact r f);exact Fb I.kIn O (c.get f) c.hd n hu (vD ru) (h u _ (I.tok _) ru)
theorem gq(I:Inv X pins σ H s)(e:H a=some (.ins C dx fs))(c:Cls X.K C)(k:Meth X.K C m g)(l:fs.lookup m=none)
 (h:Q (.ref g,[.ref a]) s):Rn (Rt X.prog X.w) A (V6 (.ref a) m pl) Q E s:=by
 obtain⟨mA,O,r,_,_,_⟩:=pA I.hok e;have hn:mA m=none:=RelO.none_of (by rw[<-l];exact r m);exact z9 I.kIn O (c.get m) k.at_ k.fn hn h
theorem ue(I:Inv X pins σ H s)(e:H a=some (.ins C dx fs))(c:Cls X.K C)(n:NoAttr X.K C f)(hl:fs.length<1000)(ry:RelV y u)
 (h:∀s',Inv X pins σ (upd H a (.ins C dx (putF f y fs))) s'->Q () s'):Rn (Rt X.prog X.w) A (setAttr (.ref a) f u) Q E s:=by
 obtain⟨mA,O,r,wi,_,ho⟩:=pA I.hok e
 have hz:(fs.map (·.1)).length<=sizeLine:=by rw[Rw,T9];omega
 refine HF I.kIn O c.sa c.po n.taker c.hd wi hz fun h' O' sb=>h _ ?_
 have hd:∃o,h'.get? dx=some o:=let⟨o,_,_,e',_⟩:=O'.ns;⟨o,e'⟩
 refine I.write (x:=a) (e:=dx) (by rw[e];exact Ui) (.inr ho) (fun b q hb z=>(sb.2 b hb).trans z) hd ?_;refine⟨by rw[aR O.ne];exact ho,?_,O.ne,O'.obj,_,O'.ns,fun g=>?_,fun g hg=>?_⟩
 ·have:=iQ f y fs;omega
 ·show RelO ((putF f y fs).lookup g) (if g=f then some u else mA g)
  rw[jl]
  by_cases q:g=f
  ·rw[if_pos q,if_pos q];exact ry
  ·rw[if_neg q,if_neg q];exact r g
 ·by_cases q:g=f
  ·rw[q];exact(ji f y fs).1
  ·refine(ji f y fs).2 g (wi g fun z=>hg ?_)
   show(if g=f then some u else mA g)=none;rw[if_neg q];exact z
theorem Inv.made(I:Inv X pins σ H s):Inv X pins σ (upd (upd H s.heap.objs.size (.own (s.heap.objs.size+1))) (s.heap.objs.size+1) (.ins C s.heap.objs.size []))
 { s with heap:=(s.heap.push Tn).push (Um C s.heap.objs.size) }:=by
 have e1:(s.heap.push Tn).get? s.heap.objs.size=some Tn:=Rp s.heap rfl
 have e2:((s.heap.push Tn).push (Um C s.heap.objs.size)).get? (s.heap.objs.size+1)=some (Um C s.heap.objs.size):=by
  have:=Rp (s.heap.push Tn) (o:=Um C s.heap.objs.size) rfl
  rwa [Uw]at this
 have e3:(s.heap.push Tn).Ns s.heap.objs.size (fun _=>none):=⟨Tn,#[],_,e1,rfl,(fun e he=>absurd he (by simp)),fun _=>rfl⟩
 have I1:=I.laid (a:=s.heap.objs.size) (o:=.own (s.heap.objs.size+1)) (h':=s.heap.push Tn) (t':=s.toks) (fun b u q=>R7 _ q) (Nat.le_refl _) ⟨_,e1⟩;refine I1.laid (a:=s.heap.objs.size+1) (o:=.ins C s.heap.objs.size []) (t':=s.toks) (fun b u q=>R7 _ q) (Nat.le_of_eq (Uw _ _)) ?_;have ne:s.heap.objs.size≠s.heap.objs.size+1:=Nat.ne_of_lt (Nat.lt_succ_self _);refine⟨by rw[aR ne,aU],Nat.zero_le _,ne,e2,fun _=>none,(Rk.Ns1.of_empty e3).at fun o q=>R7 _ q,fun _=>Ui,fun y hy=>absurd rfl hy⟩
theorem Gr(hb:V7 e f env (Sv e env)=Sv e env)
 (h:Rn (Rt prog w) A (Sv e env) (fun o s₁=>Rn (Rt prog w) A (getAttr o f true) Q E s₁) E s):Rn (Rt prog w) A (Sv (.Attribute e f pos) env) Q E s :=
 Attribute_any_ h (by rw[arm_eval_Attribute,hb])
end
def tFld(K:Ra)(ta:TE)(f:Str):TE:=fun σ H Q=>ta σ H fun x H1=>∃a C dx fs v,x=.ref a/\H1 a=some (.ins C dx fs)/\Cls K C/\NoAttr K C f/\fs.lookup f=some v/\Q v H1
def sFld(K:Ra)(ta tv:TE)(f:Str):TS:=fun D σ H=>tv σ H fun y H1=>ta σ H1 fun x H2=>∃a C dx fs,x=.ref a/\H2 a=some (.ins C dx fs)/\Cls K C/\NoAttr K C f/\fs.length<1000 /\
 D.nx σ (upd H2 a (.ins C dx (putF f y fs)))
section
variable{X:Cx}{o e value:Expr}{f:Str}{pos pos' tpos:Pos}{ta tv:TE}
theorem Jz(he:PE X e ta)(hb:V7 e f X.env (Sv e X.env)=Sv e X.env):PE X (.Attribute e f pos) (tFld X.K ta f):=by
 intro pins s σ H Q I h;refine Gr hb (thn (he pins s σ H _ I h) fun u s1 ⟨x,H1,I1,rx,a,C,dx,fs,v,ex,ea,c,n,l,q⟩=>?_);subst ex;obtain rfl:u=Value.ref a:=rx
 exact u5 I1 ea c n l fun u' s2 I2 ru=>⟨v,H1,I2,ru,q⟩
theorem Kw(ha:PE X o ta)(hv:PE X value tv)(hs:Vd value (some (.Attribute o f pos')) pos.line X.env=pure false):PS X (.Assign [.Attribute o f pos'] value pos) (sFld X.K ta tv f):=by
 intro pins s σ H D I h;refine plainObj_wpAny_Assign_Attribute (thn (hv pins s σ H _ I h) fun u s1 ⟨y,H1,I1,ry,q⟩=>thn (ha pins s1 σ H1 _ I1 q) fun ov s2 ⟨x,H2,I2,rx,a,C,dx,fs,ex,ea,c,n,l,q2⟩=>?_) hs;subst ex;obtain rfl:ov=Value.ref a:=rx
 exact ue I2 ea c n l ry fun s3 I3=>⟨σ,_,I3,q2⟩
end
section
variable{X:Cx}{pins:List (Addr×Obj)}{σ:St}{H:Hp}{s:Shared}{A:RV}{E:Value->Shared->Prop}{Q:Value->Shared->Prop}{c:Value}{b:Bool}
inductive TyOf(K:Ra)(H:Hp):V->Value->Prop where
 | non:TyOf K H .non (.type "NoneType")
 | bl (x:Bool):TyOf K H (.bl x) (.type "bool")
 | int (i:Int):TyOf K H (.int i) (.type "int")
 | str (x:Str):TyOf K H (.str x) (.type "str")
 | flt (x:UInt64):TyOf K H (.flt x) (.type "float")
 | lst {a:Addr} {xs:List V} (e:H a=some (.lst xs)):TyOf K H (.ref a) (.type "list")
 | frz {a:Addr} {o:Obj} {xs:List V} (e:H a=some (.frz o (.lst xs))):TyOf K H (.ref a) (.type "list")
 | tup {a:Addr} {xs:List V} (e:H a=some (.tup xs)):TyOf K H (.ref a) (.type "tuple")
 | dK {a:Addr} {kvs:List (Key×V)} {ep:Nat} (e:H a=some (.dK kvs ep)):TyOf K H (.ref a) (.type "dict")
 | dT {a:Addr} {kvs:List (List Key×V)} (e:H a=some (.dT kvs)):TyOf K H (.ref a) (.type "dict")
 | ins {a C dx:Addr} {fs:List (Str×V)} (e:H a=some (.ins C dx fs)) (cl:Cls K C) (ha:RP K (.ref C) "__class__"=some (some (.builtin "object.__class__")))
  (hn:VN K (.builtin "object.__class__") "__get__"=some (some (.builtin "getset_descriptor.__get__"))) (htk:PySem.W.takesIn K (.builtin "object.__class__")=some true)
  (hm:PySem.W.mroIn K C (.type "object")=some true):TyOf K H (.ref a) (.ref C)
end
end L2
namespace L2
open PySem PySem.Spec PyProof.Rows
structure Room(k:Nat)(A:RV):Prop where
 hd:A.handled=none
 dp:A.depth+3*k+5<recursionLimit
 un:A.units+16*k+200<Wm
theorem Room.mono(r:Room k A)(h:j<=k):Room j A:=⟨r.hd,by have:=r.dp;omega,by have:=r.un;omega⟩
theorem Room.deeper(r:Room (k+1) A)(env:Env):Room k (A.deeper env) :=
 ⟨r.hd,by have:=r.dp;show A.depth+1+3*k+5<_;omega,by have:=r.un;show A.units+3+16*k+200<_;omega⟩
theorem uc{A:RV}{C:Addr}{us:List Value}{kw:List (Str×Value)}:(A.under (.builtin "type.__call__" ⟨.ref C::us,kw⟩)).depth=A.depth+1:=by
 first | rfl | simp[RV.under,Xh.weight,Xh.isCreation,Xh.isGuard,Xh.isCaller,Xh.frames,Xh.isFrame,guardIds]
theorem tV{A:RV}{C:Addr}{us:List Value}{kw:List (Str×Value)}:(A.under (.builtin "type.__call__" ⟨.ref C::us,kw⟩)).units=A.units+1:=by
 first | rfl | simp[RV.under,Xh.cUnits,Xh.frames,Xh.isFrame]
theorem Room.make(r:Room (k+1) A)(C:Addr)(us:List Value)(kw:List (Str×Value)):Room k (A.under (.builtin "type.__call__" ⟨.ref C::us,kw⟩)) :=
 ⟨r.hd,by have:=r.dp;rw[uc];omega,by have:=r.un;rw[tV];omega⟩
theorem Room.depth(r:Room k A):A.depth<recursionLimit:=by have:=r.dp;omega
theorem Room.units(r:Room k A):A.units+64<Wm:=by have:=r.un;omega
def tNil:TA:=fun _ H Q=>Q [] H
def O6(ta:TE)(tr:TA):TA:=fun σ H Q=>ta σ H fun x H1=>tr σ H1 fun xs H2=>Q (x::xs) H2
section
variable{X:Cx}{e:Expr}{es:List Expr}{te:TE}{t:TA}{pos:Pos}
theorem cP:PA X [] tNil:=fun _ _ _ _ H Q I h=>Calls.spliced_nil ⟨[],H,I,.nil,h⟩
theorem bD(ha:PE X e te)(hr:PA X es t)(hs:Rj (e::es) X.env=(false,Sv e X.env)::Rj es X.env:=by rfl):PA X (e::es) (O6 te t):=by
 intro pos pins s σ H Q I h;rw[hs];show Rn _ _ (spliced ((false,Sv e X.env)::SN pos (Rj es X.env))) _ _ s;refine Calls.spliced_cons (thn (ha pins s σ H _ I h) fun u s1 ⟨x,H1,I1,r1,q1⟩=>?_)
 exact thn (hr pos pins s1 σ H1 _ I1 q1) fun us s2 ⟨xs,H2,I2,r2,q2⟩=>⟨x::xs,H2,I2,.cons r1 r2,q2⟩
def tTup(t:TA):TE:=fun σ H Q=>t σ H fun xs H1=>xs.length<=sizeLine/\∀p,H1 p=none->Q (.ref p) (upd H1 p (.tup xs))
def tLst(t:TA):TE:=fun σ H Q=>t σ H fun xs H1=>xs.length<=sizeLine/\∀p,H1 p=none->Q (.ref p) (upd H1 p (.lst xs))
theorem Mq(h:PA X es t):PE X (.Tuple es x1 pos) (tTup t):=by
 intro pins s σ H Q I hq;refine wpAny_Tuple_spliced (thn (h pos pins s σ H _ I hq) fun us s1 ⟨xs,H1,I1,r,z,q⟩=>⟨by rw[<-r.length];exact z,?_⟩);have hf:H1 s1.heap.objs.size=none:=I1.hok.fresh (Nat.le_refl _);refine⟨.ref s1.heap.objs.size,upd H1 s1.heap.objs.size (.tup xs),I1.laid (t':=s1.toks) (fun b u e=>R7 _ e) (Nat.le_refl _) ?_,rfl,q _ hf⟩;exact⟨z,us,r,⟨_,Rp _ rfl,rfl,_,rfl⟩⟩
theorem N6(h:PA X es t):PE X (.List es pos) (tLst t):=by
 intro pins s σ H Q I hq;refine wpAny_List_spliced (thn (h pos pins s σ H _ I hq) fun us s1 ⟨xs,H1,I1,r,z,q⟩=>⟨by rw[<-r.length];exact z,?_⟩);have hf:H1 s1.heap.objs.size=none:=I1.hok.fresh (Nat.le_refl _);refine⟨.ref s1.heap.objs.size,upd H1 s1.heap.objs.size (.lst xs),I1.laid (t':=s1.toks) (fun b u e=>R7 _ e) (Nat.le_refl _) ?_,rfl,q _ hf⟩;exact⟨z,us,0,r,Rp _ rfl⟩
end
abbrev Sp:=List V->Hp->VK->XK->Prop
abbrev CXT:=List Env->Hp->Shared->XK->Value->Shared->Prop
structure Env0(P:Rz)(w:RT)(K:Ra)(mg:Str->Option Value)(base:Rk)(A:RV)(outer:List Env)(s:Shared)(H:Hp):Prop where
 frames:A.frames=some outer
 mod:Mod K mg base
 bs:∀b o,base.get? b=some o->s.heap.get? b=some o/\H b=none
 bsz:base.objs.size<=s.heap.objs.size
 funs:s.heap.FunFrames base outer
 frf:∀b∈frs outer,H b=none
 hok:HOk P w H s.heap
 bare:VJ s.gens
def CE(outer:List Env)(P:Rz)(w:RT)(H:Hp)(s:Shared)(Q:VK)(u:Value)(s':Shared):Prop :=
 ∃v H',s'.os=s.os/\VJ s'.gens/\Un (frs outer) [] H H' s.heap s'.heap/\HOk P w H' s'.heap/\RelV v u/\Q v H'
noncomputable def CR(CX:CXT)(outer:List Env)(P:Rz)(w:RT)(H:Hp)(s:Shared)(Q:VK)(E:XK)(r:X6)(s':Shared):Prop :=
 match r with
 | .ok (.ret u)=>CE outer P w H s Q u s'
 | .ok _=>False
 | .error e=>CX outer H s E e s'
structure FnOk(P:Rz)(w:RT)(K:Ra)(mg:Str->Option Value)(base:Rk)(CX:CXT)(k:Nat)(f:Addr)(fd:V0)(ps:List Str)(sp:Sp):Prop where
 len:∀vs H Q E,sp vs H Q E->vs.length=ps.length
 run:∀(A:RV) (outer:List Env) (s:Shared) (H:Hp) (args:Args) (us:List Value) (vs:List V) (Q:VK) (E:XK),Room k A->Env0 P w K mg base A outer s H->X4 s fd args (ps.zip us)->Vals vs us->sp vs H Q E ->
  Vx (Rt P w) A (.call (.ref f) args) (CR CX outer P w H s Q E) s
theorem Env0.make{P:Rz}{w:RT}{K:Ra}{mg:Str->Option Value}{base:Rk}{A:RV}{outer:List Env}{s:Shared}{H:Hp}(e:Env0 P w K mg base A outer s H)(C:Addr)(us:List Value)(kw:List (Str×Value)) :
 Env0 P w K mg base (A.under (.builtin "type.__call__" ⟨.ref C::us,kw⟩)) outer s H:=⟨by first | exact e.frames | (simpa[RV.under,Xh.envs,Xh.isFrame,pushEnvs]using e.frames),e.mod,e.bs,e.bsz,e.funs,e.frf,e.hok,e.bare⟩
section
variable{X:Cx}{pins:List (Addr×Obj)}{σ:St}{H:Hp}{s s':Shared}
theorem Inv.env0(I:Inv X pins σ H s):Env0 X.prog X.w X.K X.mg X.base X.A X.stack s H :=
 ⟨I.ok.frames,I.ok.mod,I.bs,Nat.le_trans I.ok.bsz I.sz,I.stack,I.stkFree,I.hok,I.bare⟩
theorem Inv.after(I:Inv X pins σ H s)(h:CE X.stack X.prog X.w H s Q u s'):EP X pins σ Q u s':=by
 obtain⟨v,H',os,bare,un,hok,r,q⟩:=h;obtain⟨hh,g,d,t,os'⟩:=s';obtain rfl:os'=s.os:=os;exact⟨v,H',I.call (h':=hh) (g':=g) (d':=d) (t':=t) (ch:=[]) un hok bare (fun b z=>absurd z (by simp)),r,q⟩
end
def JF(sp:Sp)(dvs:List V)(E:XK)(t:TA):TE:=fun σ H Q=>t σ H fun vs H1=>sp (vs++dvs) H1 Q E
def Cg(C:Addr)(m:Str)(sp:Sp)(dvs:List V)(E:XK)(ta:TE)(t:TA):TE:=fun σ H Q=>ta σ H fun x H1=>∃a dx fs,x=.ref a/\H1 a=some (.ins C dx fs)/\fs.lookup m=none /\
 t σ H1 fun vs H2=>sp (x::(vs++dvs)) H2 Q E
def QS(C:Addr)(sp:Sp)(dvs:List V)(E:XK)(t:TA):TE:=fun σ H Q=>t σ H fun vs H1=>∀x dx,H1 x=none->H1 dx=none->dx≠x ->
 sp (.ref x::(vs++dvs)) (upd (upd H1 dx (.own x)) x (.ins C dx [])) (fun v H2=>v=.non/\Q (.ref x) H2) E
def Binds(K:Ra)(fd:V0)(ps:List Str)(ds:List Value):Prop :=
 ∀(s:Shared) (us:List Value),K.In s.heap->(us++ds).length=ps.length->X4 s fd ⟨us,[]⟩ (ps.zip (us++ds))
theorem Binds.all{K:Ra}{fd:V0}{ps:List Str}(h:∀us:List Value,us.length=ps.length->bindArgs fd ⟨us,[]⟩=pure (ps.zip us)):Binds K fd ps []:=fun s us _ hl=>by
 rw[Sg]at hl ⊢;exact .of_eq (h us hl)
def gO(CX:CXT)(X:Cx)(E:XK):Prop:=∀(pins:List (Addr×Obj)) (σ:St) (H:Hp) (s:Shared) (e:Value) (s':Shared),Inv X pins σ H s->CX X.stack H s E e s'->X.xe e s'
section
variable{X:Cx}{CX:CXT}{k:Nat}{f C:Addr}{fd:V0}{ps:List Str}{sp:Sp}{dvs:List V}{ds:List Value}{E:XK}{x m:Str}{p pos apos:Pos}{e o:Expr}{es:List Expr}{ta:TE}{t:TA}
theorem rM(F:FnOk X.prog X.w X.K X.mg X.base CX k f fd ps sp)(hr:Room k X.A)(hb:Binds X.K fd ps ds)(hd:Vals dvs ds)(hx:gO CX X E)
 (I:Inv X pins σ H s) (r:Vals vs us) (h:sp (vs++dvs) H Q E):Rn (Rt X.prog X.w) X.A (call (.ref f) us) (EP X pins σ Q) X.xe s:=by
 have r2:Vals (vs++dvs) (us++ds):=r.append hd
 have hl:(us++ds).length=ps.length:=by rw[<-r2.length];exact F.len _ _ _ _ h
 refine WP (Uj (F.run X.A X.stack s H ⟨us,[]⟩ (us++ds) (vs++dvs) Q E hr I.env0 (hb s us I.kIn hl) r2 h) fun r s' hq=>?_)
 cases r with
 | error e=>exact hx pins σ H s e s' I hq
 | ok fl=>
   cases fl with
   | ret u=>exact I.after hq
   | next=>exact RC hq
   | brk=>exact RC hq
   | cont=>exact RC hq
theorem yJ(F:FnOk X.prog X.w X.K X.mg X.base CX k f fd ps sp)(hr:Room k X.A)(hg:Gl X x)(hm:X.mg x=some (.ref f))(hk:RL X.K (.ref f)=true)(hb:Binds X.K fd ps ds)(hd:Vals dvs ds)(hx:gO CX X E)
 (ha:PA X (e::es) t) (hdb:(x==("__debug__":Str))=false:=by decide) (he:Rj (e::es) X.env=(false,Sv e X.env)::Rj es X.env:=by rfl) (hpl:(SN pos (Rj es X.env)).any (·.1)=false:=by rfl) :
 PE X (.Call (.Name x p) (e::es) [] pos) (JF sp dvs E t):=by
 intro pins s σ H Q I h;refine Vp (eX I hg hm ?_ hdb);refine Uz (h₀:=X.base) I.ok.mod.kin hk (thn (ha pos pins s σ H _ I h) fun us s1 ⟨vs,H1,I1,r,q⟩=>⟨I1.kIn,?_⟩) he hpl;exact rM F hr hb hd hx I1 r q
theorem Ib(he:PE X o ta)(c:Cls X.K C)(hm:Meth X.K C m f)(F:FnOk X.prog X.w X.K X.mg X.base CX k f fd ps sp)(hr:Room k X.A)(hb:Binds X.K fd ps ds)(hd:Vals dvs ds)(hx:gO CX X E)(ha:PA X (e::es) t)
 (hst:Rj (e::es) X.env=(false,Sv e X.env)::Rj es X.env:=by rfl) (hpl:(SN pos (Rj es X.env)).any (·.1)=false:=by rfl)
 (ht:Sv (.Call (.Attribute o m apos) (e::es) [] pos) X.env=(do
  let ov <-Sv o X.env
  V8 apos.atName
  let(f,first) <-U7 [ov] (V6 ov m pl)
  VM pos f first (SN pos (Rj (e::es) X.env)) (UW pos (Tr [] X.env))):=by rfl) :
 PE X (.Call (.Attribute o m apos) (e::es) [] pos) (Cg C m sp dvs E ta t):=by
 intro pins s σ H Q I h;refine Vn (pl:=pl) (thn (he pins s σ H _ I h) fun u s1 ⟨x,H1,I1,rx,a,dx,fs,ex,ea,l,q⟩=>?_) ht;subst ex;obtain rfl:u=Value.ref a:=rx;refine gq I1 ea c hm l ?_;refine Uz (first:=[.ref a]) (h₀:=X.base) I.ok.mod.kin hm.kp (thn (ha pos pins s1 σ H1 _ I1 q) fun us s2 ⟨vs,H2,I2,r,q2⟩=>⟨I2.kIn,?_⟩) hst hpl;exact rM (us:=.ref a::us) (vs:=.ref a::vs) F hr hb hd hx I2 (.cons rfl r) q2
theorem zM(he:PE X o ta)(c:Cls X.K C)(hm:Meth X.K C m f)(F:FnOk X.prog X.w X.K X.mg X.base CX k f fd ps sp)(hr:Room k X.A)(hb:Binds X.K fd ps ds)(hd:Vals dvs ds)(hx:gO CX X E)
 (ht:Sv (.Call (.Attribute o m apos) [] [] pos) X.env=(do
  let ov <-Sv o X.env
  V8 apos.atName
  let(f,first) <-U7 [ov] (V6 ov m pl)
  VM pos f first (SN pos (Rj [] X.env)) (UW pos (Tr [] X.env))):=by rfl) :
 PE X (.Call (.Attribute o m apos) [] [] pos) (Cg C m sp dvs E ta tNil):=by
 intro pins s σ H Q I h;refine Vn (pl:=pl) (thn (he pins s σ H _ I h) fun u s1 ⟨x,H1,I1,rx,a,dx,fs,ex,ea,l,q⟩=>?_) ht;subst ex;obtain rfl:u=Value.ref a:=rx;refine gq I1 ea c hm l ?_;exact PySem.W.callWith_K0 (first:=[.ref a]) I1.kIn hm.kp (rM (us:=[.ref a]) (vs:=[.ref a]) F hr hb hd hx I1 (.cons rfl .nil) q)
structure Mk(K:Ra)(C f:Addr):Prop where
 makes:Wb K C=true
 init:RP K (.ref C) "__init__"=some (some (.ref f))
 fn:Vi K (.ref f)=true
 kp:RL K (.ref C)=true
theorem za(M:Mk X.K C f)(F:FnOk X.prog X.w X.K X.mg X.base CX k f fd ps sp)(hr:Room (k+1) X.A)(hb:Binds X.K fd ps ds)(hd:Vals dvs ds)
 (hx:gO CX X E) (I:Inv X pins σ H s) (r:Vals vs us)
 (h:∀x dx,H x=none->H dx=none->dx≠x->sp (.ref x::(vs++dvs)) (upd (upd H dx (.own x)) x (.ins C dx [])) (fun v H2=>v=.non/\Q (.ref x) H2) E) :
 Rn (Rt X.prog X.w) X.A (call (.ref C) us) (EP X pins σ Q) X.xe s:=by
 have hq:=h (s.heap.objs.size+1) s.heap.objs.size (I.hok.fresh (Nat.le_succ _)) (I.hok.fresh (Nat.le_refl _)) (Nat.ne_of_lt (Nat.lt_succ_self _));have I2:=Inv.made (C:=C) I;have r2:Vals (V.ref (s.heap.objs.size+1)::(vs++dvs)) (Value.ref (s.heap.objs.size+1)::(us++ds)):=.cons rfl (r.append hd)
 have hl:(Value.ref (s.heap.objs.size+1)::us++ds).length=ps.length:=by
  have e:=r2.length;rw[F.len _ _ _ _ hq]at e;exact e.symm
 refine WP (Bv (f:=f) I.kIn M.makes M.init (beq_iff_eq.mp M.fn) (Uj (F.run _ X.stack _ _ ⟨Value.ref (s.heap.objs.size+1)::us,[]⟩ (Value.ref (s.heap.objs.size+1)::(us++ds)) _ _ E (hr.make C us [])
  (I2.env0.make C us []) (hb _ (Value.ref (s.heap.objs.size+1)::us) I2.kIn hl) r2 hq) fun r s' hq'=>?_))
 cases r with
 | error e=>exact hx pins σ _ _ e s' I2 hq'
 | ok fl=>
   cases fl with
   | ret u=>
     obtain⟨v,H',I3,rv,ev,q3⟩:=I2.after hq';subst ev;exact⟨rv,⟨V.ref (s.heap.objs.size+1),H',I3,rfl,q3⟩⟩
   | next=>exact RC hq'
   | brk=>exact RC hq'
   | cont=>exact RC hq'
theorem Fp(M:Mk X.K C f)(F:FnOk X.prog X.w X.K X.mg X.base CX k f fd ps sp)(hr:Room (k+1) X.A)(hg:Gl X x)(hm:X.mg x=some (.ref C))(hb:Binds X.K fd ps ds)(hd:Vals dvs ds)(hx:gO CX X E)
 (ha:PA X (e::es) t) (hdb:(x==("__debug__":Str))=false:=by decide) (he:Rj (e::es) X.env=(false,Sv e X.env)::Rj es X.env:=by rfl) (hpl:(SN pos (Rj es X.env)).any (·.1)=false:=by rfl) :
 PE X (.Call (.Name x p) (e::es) [] pos) (QS C sp dvs E t):=by
 intro pins s σ H Q I h;refine Vp (eX I hg hm ?_ hdb);refine Uz (h₀:=X.base) I.ok.mod.kin M.kp (thn (ha pos pins s σ H _ I h) fun us s1 ⟨vs,H1,I1,r,q⟩=>⟨I1.kIn,?_⟩) he hpl;exact za M F hr hb hd hx I1 r q
end
section
variable{X:Cx}{CX:CXT}{k:Nat}{f C:Addr}{fd:V0}{ps ks:List Str}{sp:Sp}{E:XK}{x m:Str}{p pos apos kpos:Pos}{e o:Expr}{es:List Expr}{kws:List Wi}{te ta:TE}{t tk:TA}{nm:Option Str}
structure KBinds(K:Ra)(fd:V0)(ps ks:List Str)(g:List Value->List Value->List Value)(gV:List V->List V->List V):Prop where
 to:∀(s:Shared) (us ws:List Value),K.In s.heap->(g us ws).length=ps.length->X4 s fd ⟨us,ks.zip ws⟩ (ps.zip (g us ws))
 rel:∀{vs:List V} {us:List Value} {zs:List V} {ws:List Value},Vals vs us->Vals zs ws->Vals (gV vs zs) (g us ws)
variable{g:List Value->List Value->List Value}{gV:List V->List V->List V}
end
structure FnScope(N P:List Str)(sc:Scope):Prop where
 kind:sc.kind=.function
 co:sc.isCoroutine=false
 gen:sc.isGenerator=false
 nd:N.Nodup
 pre:N.take P.length=P
 par:∀x∈P,sc.names.lookup x=some .local\/sc.names.lookup x=some .cell
 nofree:∀y∈sc.names,y.2≠.free
theorem mX{kindOf:Str->Option Tg}{x:Str}:∀{binds:List (Str×Value)} {m:Str->Option Value},(∀v,(x,v)∉binds)->Xl kindOf binds m x=m x
 | [],_,_=>rfl
 | (n,v)::r,m,h=>by
   unfold Xl;rw[mX fun w hw=>h w (Rb _ hw)];split
   ·have:x≠n:=by rintro rfl;exact h v Rg
    simp[this]
   ·rfl
theorem ou{kindOf:Str->Option Tg}{x:Str}:∀{binds:List (Str×Value)} {m:Str->Option Value},(∀v,(x,v)∉binds)->Xm kindOf binds m x=m x
 | [],_,_=>rfl
 | (n,v)::r,m,h=>by
   unfold Xm;rw[ou fun w hw=>h w (Rb _ hw)];split
   ·rfl
   ·have:x≠n:=by rintro rfl;exact h v Rg
    simp[this]
theorem nT{kindOf:Str->Option Tg}{x:Str}{v:Value}:∀{P:List Str} {vs:List Value} {i:Nat} {m:Str->Option Value},P.Nodup->P[i]?=some x->vs[i]?=some v->kindOf x=some .local ->
 Xl kindOf (P.zip vs) m x=some v
 | [],_,_,_,_,h,_,_=>by simp at h
 | _::_,[],_,_,_,_,h,_=>by simp at h
 | p::P,w::vs,0,m,nd,h1,h2,hk=>by
   simp at h1 h2;subst h1;subst h2;show Xl kindOf ((p,w)::P.zip vs) m p=_;unfold Xl;rw[mX fun v hv=>(Sd.mp nd).1 (List.of_mem_zip hv).1,if_pos hk];simp
 | p::P,w::vs,i+1,m,nd,h1,h2,hk=>by
   show Xl kindOf ((p,w)::P.zip vs) m x=_;unfold Xl;exact nT (i:=i) (Sd.mp nd).2 (by simpa using h1) (by simpa using h2) hk
theorem o7{kindOf:Str->Option Tg}{x:Str}{v:Value}:∀{P:List Str} {vs:List Value} {i:Nat} {m:Str->Option Value},P.Nodup->P[i]?=some x->vs[i]?=some v->kindOf x≠some .local ->
 Xm kindOf (P.zip vs) m x=some v
 | [],_,_,_,_,h,_,_=>by simp at h
 | _::_,[],_,_,_,_,h,_=>by simp at h
 | p::P,w::vs,0,m,nd,h1,h2,hk=>by
   simp at h1 h2;subst h1;subst h2;show Xm kindOf ((p,w)::P.zip vs) m p=_;unfold Xm;rw[ou fun v hv=>(Sd.mp nd).1 (List.of_mem_zip hv).1,if_neg hk];simp
 | p::P,w::vs,i+1,m,nd,h1,h2,hk=>by
   show Xm kindOf ((p,w)::P.zip vs) m x=_;unfold Xm;exact o7 (i:=i) (Sd.mp nd).2 (by simpa using h1) (by simpa using h2) hk
noncomputable def start(N:List Str)(vs:List V):St:=vs.map some++RW (N.length-vs.length) none
noncomputable def cxOf(CX:CXT)(P:Rz)(w:RT)(K:Ra)(mg:Str->Option Value)(base:Rk)(N:List Str)(qual:Str)(scope:Scope)(f:Addr)(cd:Value)(A:RV)(outer:List Env)(s:Shared)(H:Hp)(E:XK):Cx where
 prog:=P
 w:=w
 K:=K
 mg:=mg
 base:=base
 A:=A.deeper (Wr qual scope s.heap.objs.size f cd)
 N:=N
 s₀:=s
 H₀:=H
 env:=Wr qual scope s.heap.objs.size f cd
 outer:=outer
 stack:=Wr qual scope s.heap.objs.size f cd::outer
 ex:=[]
 calm:=true
 fn:=fun _=>true
 pn:=[]
 xe:=fun e s'=>Rn (Rt P w) (A.deeper (Wr qual scope s.heap.objs.size f cd)) (leaving (Wr qual scope s.heap.objs.size f cd) e) (fun _ s''=>CX outer H s E e s'') (fun e' s''=>CX outer H s E e' s'') s'
theorem rC{sc:Scope}{n:Nat}{x:Str}(h:sc.names.lookup x=some .cell):∃c,(cellsFrom n sc.names []).lookup x=some c:=by
 have q:=PySem.W.cellsFrom_some sc.names n [] (.inl h);exact U4.mp q
theorem vM{CX:CXT}{P:Rz}{w:RT}{K:Ra}{mg:Str->Option Value}{base:Rk}{N ps:List Str}{qual:Str}{scope:Scope}{f:Addr}{cd:Value}{A:RV}{outer:List Env}{s s1:Shared}{H:Hp}{E:XK}{us:List Value}{vs:List V}
 (S:FnScope N ps scope) (hd:A.handled=none) (e0:Env0 P w K mg base A outer s H) (hl:vs.length=ps.length) (r:Vals vs us)
 (x:InCallC s s.heap.objs.size (Xl (Wr qual scope s.heap.objs.size f cd).kindOf (ps.zip us) fun _=>none) (cellsFrom (s.heap.objs.size+1) scope.names []) (Xm (Wr qual scope s.heap.objs.size f cd).kindOf (ps.zip us) fun _=>none) s1) :
 Inv (cxOf CX P w K mg base N qual scope f cd A outer s H E) [] (start N vs) H s1:=by
 have hpl:ps.length<=N.length:=by have:=congrArg T3 S.pre;rw[Vv]at this;omega
 obtain⟨h1,tk,rfl,hk⟩:=x.done
 have noA:∀b:Addr,b∉(cxOf CX P w K mg base N qual scope f cd A outer s H E).ex:=fun b z=>absurd (show b∈([]:List Addr)from z) (by simp)
 refine⟨⟨e0.mod,S.kind,rfl,rfl,Nat.le_refl _,fun y z c h1 h2=>?_,fun y hy=>?_,fun y c _ h=>?_,fun _=>hd,RV.frames_deeper e0.frames,.inr ⟨rfl,rfl⟩,fun b z=>absurd z (noA b),e0.bs,e0.bsz,fun b _ _=>noA b,fun b z=>absurd z (noA b),e0.funs,e0.frf⟩,
  rfl,e0.bare,Un.kept hk,⟨_,x.toInCall.ns,fun i y v h1 h2 h3=>?_⟩,fun y c h=>⟨_,x.cell y c h⟩,e0.hok.fresh (Nat.le_refl _),fun y c h=>?_,fun p hp=>absurd (show p∈([]:List (Addr×Obj))from hp) (by simp),e0.hok.kept hk,?_⟩
 ·exact name_of_addr x.apart (Tu h1) (Tu h2)
 ·have hy:scope.names.lookup y=some .cell\/scope.names.lookup y=some .free:=hy
  rcases hy with hy | hy
  ·exact rC hy
  ·exact absurd rfl (S.nofree _ (Tu hy))
 ·exact Nat.le_of_lt (x.above y c (Tu h))
 ·have hi:i<vs.length:=by
   unfold start at h2
   by_cases hi:i<vs.length
   ·exact hi
   ·rw[Sq (by simpa using hi)]at h2
    rw[Vk]at h2;split at h2<;>cases h2
  have ha:vs[i]?=some v:=by
   unfold start at h2;rw[Td (by simpa using hi),RK]at h2
   cases e:vs[i]? with
   | none=>rw[e]at h2;cases h2
   | some a=>rw[e]at h2;cases h2;rfl
  obtain⟨u,hu,rv⟩:=r.get ha
  have hp:ps[i]?=some y:=by
   rw[<-S.pre,List.getElem?_take_of_lt (by omega)];exact h1
  have ndP:ps.Nodup:=by rw[<-S.pre];exact S.nd.sublist (List.take_sublist _ _)
  refine⟨u,rv,?_⟩;rcases S.par y (Sx hp)with k | k
  ·exact .inl ⟨k,nT ndP hp hu k⟩
  ·obtain⟨c,e⟩:=rC (n:=s.heap.objs.size+1) k
   refine .inr ⟨.inl k,c,e,?_⟩;have q:=x.cell y c e;rw[o7 ndP hp hu (by show scope.names.lookup y≠_;rw[k];decide)]at q;exact q
 ·exact e0.hok.fresh (Nat.le_of_lt (x.above y c (Tu h)))
 ·unfold start
  show _=N.length;rw[Rx,Rw,U0];omega
theorem Jy{CX:CXT}{P:Rz}{w:RT}{K:Ra}{mg:Str->Option Value}{base:Rk}{k:Nat}{f:Addr}{name qual:Str}{params:Arguments}{body:List Stmt}{scope:Scope}{dV kV doc pm cdv ct oc:Value}{an od:Option Addr}
 {osl:Array (Option Value)} {N ps:List Str} {sp:Sp} (lk:K.lookup f=some ⟨oc,od,.func (Uc name qual params body scope dV kV doc pm an cdv ct),osl⟩) (hcd:V4 K cdv qual=true) (S:FnScope N ps scope)
 (len:∀vs H Q E,sp vs H Q E->vs.length=ps.length)
 (hbody:∀(A:RV) (outer:List Env) (s:Shared) (H:Hp) (vs:List V) (Q:VK) (E:XK),Room k (A.deeper (Wr qual scope s.heap.objs.size f cdv))->sp vs H Q E ->
  ∃t,PSs (cxOf CX P w K mg base N qual scope f cdv A outer s H E) body t/\t { nx:=fun _ H'=>Q .non H',rt:=Q } (start N vs) H) :
 FnOk P w K mg base CX (k+1) f (Uc name qual params body scope dV kV doc pm an cdv ct) ps sp:=by
 refine⟨len,fun A outer s H args us vs Q E hr e0 hb r hsp=>?_⟩;have hl:=len _ _ _ _ hsp
 have KX:K.In s.heap:=e0.mod.kin.keeps fun b o e=>(e0.bs b o e).1
 have lim:s.heap.NoLimit:=e0.mod.nolimit.keeps fun b o e=>(e0.bs b o e).1
 have hkind:∀y∈ps.zip us,scope.names.lookup y.1=some .local\/(scope.names.lookup y.1=some .cell/\((cellsFrom (s.heap.objs.size+1) scope.names []).lookup y.1).isSome=true):=fun⟨n,v⟩ hy=>by
  rcases S.par n (List.of_mem_zip hy).1 with q | q
  ·exact .inl q
  ·exact .inr ⟨q,PySem.W.cellsFrom_some _ _ _ (.inl q)⟩
 refine codeAny_call_function hr.depth (KX _ _ lk) rfl S.co S.gen rfl (PySem.W.codeRec_of KX hcd) (hb _ _ _ _ ?_)
 refine wpAny_newFunctionEnv_cells S.kind hkind fun env he s1 x=>?_
 subst he;refine⟨lim.keeps x.toInCall.keep,codeAny_func ?_⟩;obtain⟨t,ht,hq⟩:=hbody A outer s H vs Q E (hr.deeper _) hsp;have I:Inv (cxOf CX P w K mg base N qual scope f cdv A outer s H E) [] (start N vs) H s1:=vM S hr.hd e0 hl r x
 refine T8 (ht [] s1 (start N vs) H _ I hq) (fun fl s' hs=>?_) fun e s' hs=>hs
 have fin:∀{σ':St} {H':Hp} {v:V} {u:Value},Inv (cxOf CX P w K mg base N qual scope f cdv A outer s H E) [] σ' H' s'->RelV v u->Q v H'->CE outer P w H s Q u s' :=
  fun{σ' H' v u} J rv q=>⟨v,H',J.os,J.bare,J.base,J.hok,rv,q⟩
 cases fl with
 | ret u=>
   obtain⟨v,σ',H',J,rv,q⟩:=hs;exact fin J rv q
 | next=>
   obtain⟨σ',H',J,q⟩:=hs;exact fin (v:=V.non) (u:=Value.none) J rfl q
 | brk=>
   obtain⟨_,_,_,q⟩:=hs;exact RC q
 | cont=>
   obtain⟨_,_,_,q⟩:=hs;exact RC q
end L2
namespace L2
open PySem PySem.Spec PyProof.Rows
section
variable{X:Cx}{x:Str}{p pos:Pos}{e:Expr}{es:List Expr}{t:TA}{id T:String}{r:List V->Hp->VK->Prop}
def tCB(r:List V->Hp->VK->Prop)(t:TA):TE:=fun σ H Q=>t σ H fun vs H1=>r vs H1 Q
theorem g8(hc:CallR X (.builtin id) r)(hg:Gl X x)(hm:X.mg x=none)(hv:U8 x=some (.builtin id))(ha:PA X (e::es) t)(hn:x≠"__name__":=by decide)(hdb:(x==("__debug__":Str))=false:=by decide)
 (he:Rj (e::es) X.env=(false,Sv e X.env)::Rj es X.env:=by rfl) (hpl:(SN pos (Rj es X.env)).any (·.1)=false:=by rfl):PE X (.Call (.Name x p) (e::es) [] pos) (tCB r t):=by
 intro pins s σ H Q I h;refine Vp (mC I hg hm hv ?_ hn hdb);exact PyProof.Rows.callWith_builtin1 (thn (ha pos pins s σ H _ I h) fun us s1 ⟨vs,H1,I1,r1,q1⟩=>hc pins s1 σ H1 vs us Q I1 r1 q1) he hpl
theorem o8(hc:CallR X (.type T) r)(hg:Gl X x)(hm:X.mg x=none)(hv:U8 x=some (.type T))(ha:PA X (e::es) t)(hn:x≠"__name__":=by decide)(hdb:(x==("__debug__":Str))=false:=by decide)
 (he:Rj (e::es) X.env=(false,Sv e X.env)::Rj es X.env:=by rfl) (hpl:(SN pos (Rj es X.env)).any (·.1)=false:=by rfl):PE X (.Call (.Name x p) (e::es) [] pos) (tCB r t):=by
 intro pins s σ H Q I h;refine Vp (mC I hg hm hv ?_ hn hdb);exact PyProof.Rows.callWith_type1 (thn (ha pos pins s σ H _ I h) fun us s1 ⟨vs,H1,I1,r1,q1⟩=>hc pins s1 σ H1 vs us Q I1 r1 q1) he hpl
end
end L2
namespace L2
open PySem PySem.Spec PyProof.Rows
section
variable{κ:Type} [DecidableEq κ]
noncomputable def valV(kvs:List (κ×V))(k:κ):Option V:=(kvs.find? fun kv=>decide (kv.1=k)).map (·.2)
noncomputable def putK(kvs:List (κ×V))(k:κ)(v:V):List (κ×V) :=
 if(kvs.any fun kv=>decide (kv.1=k))=true then kvs.map (fun kv=>if kv.1=k then(kv.1,v)else kv)else kvs++[(k,v)]
def dN(kvs:List (κ×V))(k:κ):List (κ×V):=kvs.filter fun kv=>decide (kv.1≠k)
theorem kI{p:κ×V}{r:List (κ×V)}{k:κ}(e:p.1=k):valV (p::r) k=some p.2:=by simp[valV,Vf,e]
theorem lN{p:κ×V}{r:List (κ×V)}{k:κ}(e:¬p.1=k):valV (p::r) k=valV r k:=by simp[valV,Vf,e]
theorem lR(k:κ):∀kvs:List (κ×V),(kvs.any fun kv=>decide (kv.1=k))=(valV kvs k).isSome
 | []=>rfl
 | p::r=>by
   rw[S6]
   by_cases e:p.1=k
   ·simp only[kI e,decide_eq_true e,Bool.true_or,Option.isSome_some]
   ·rw[lN e,decide_eq_false e,Bool.false_or];exact lR k r
theorem jg(kvs:List (κ×V))(k:κ)(v:V):(putK kvs k v).length<=kvs.length+1:=by
 unfold putK;split
 ·rw[Rw];omega
 ·rw[Rx,Rv,Sy];omega
theorem Bu{kvs:List (κ×V)}{k:κ}(v:V)(h:valV kvs k=none):putK kvs k v=kvs++[(k,v)]:=by
 unfold putK;rw[lR,h];exact if_neg (by decide)
theorem RelO.isSome_eq(r:RelO o u):o.isSome=u.isSome:=by
 cases o with
 | none=>cases u with
   | none=>rfl
   | some _=>exact(show False from r).elim
 | some _=>cases u with
   | none=>exact(show False from r).elim
   | some _=>rfl
theorem KV.val(r:KV kvs vs)(k:κ):RelO (valV kvs k) (Wf vs k):=by
 unfold KV at r
 induction r with
 | nil=>exact Ui
 | @cons p q ps qs h t ih=>
   obtain⟨h1,h2⟩:=h
   by_cases e:p.1=k
   ·have e':q.1=k:=h1.symm.trans e
    have b:Wf (q::qs) k=some q.2:=by simp[Wf,Vf,e']
    rw[kI e,b];exact h2
   ·have e':¬q.1=k:=fun z=>e (h1.trans z)
    have b:Wf (q::qs) k=Wf qs k:=by simp[Wf,Vf,e']
    rw[lN e,b];exact ih
theorem KV.any(r:KV kvs vs)(k:κ):(kvs.any fun kv=>decide (kv.1=k))=vs.any fun kv=>decide (kv.1=k):=by
 unfold KV at r
 induction r with
 | nil=>rfl
 | cons h t ih=>rw[S6,S6,ih,h.1]
theorem KV.repl(r:KV kvs vs)(k:κ)(ry:RelV y u) :
 KV (kvs.map fun kv=>if kv.1=k then(kv.1,y)else kv) (vs.map fun kv=>if kv.1=k then(kv.1,u)else kv):=by
 unfold KV at r ⊢
 induction r with
 | nil=>exact .nil
 | @cons p q ps qs h t ih=>
   rw[R8,R8];refine .cons ?_ ih;obtain⟨h1,h2⟩:=h
   by_cases e:p.1=k
   ·rw[if_pos e,if_pos (h1.symm.trans e)];exact⟨h1,ry⟩
   ·rw[if_neg e,if_neg (fun z=>e (h1.trans z))];exact⟨h1,h2⟩
theorem KV.put(r:KV kvs vs)(k:κ)(ry:RelV y u):KV (putK kvs k y) (stored vs k u):=by
 unfold putK stored;rw[r.any k]
 by_cases e:(vs.any fun kv=>decide (kv.1=k))=true
 ·rw[if_pos e,if_pos e];exact r.repl k ry
 ·rw[if_neg e,if_neg e];exact Vr.snoc r ⟨rfl,ry⟩
theorem KV.drop(r:KV kvs vs)(k:κ):KV (dN kvs k) (without vs k):=by
 unfold KV at r ⊢;unfold dN without
 induction r with
 | nil=>exact .nil
 | @cons p q ps qs h t ih=>
   obtain⟨h1,h2⟩:=h;rw[Wc,Wc]
   by_cases e:p.1=k
   ·have a:¬decide (p.1≠k)=true:=by simp[e]
    have b:¬decide (q.1≠k)=true:=by simp[h1.symm.trans e]
    rw[if_neg a,if_neg b];exact ih
   ·have e':¬q.1=k:=fun z=>e (h1.trans z)
    have a:decide (p.1≠k)=true:=by simp[e]
    have b:decide (q.1≠k)=true:=by simp[e']
    rw[if_pos a,if_pos b];exact .cons ⟨h1,h2⟩ ih
theorem KV.keys{kvs:List (κ×V)}{vs:List (κ×Value)}(r:KV kvs vs):kvs.map (·.1)=vs.map (·.1):=by
 unfold KV at r
 induction r with
 | nil=>rfl
 | cons h t ih=>rw[R8,R8,ih,h.1]
theorem KV.length(r:KV kvs vs):kvs.length=vs.length:=Ws r
theorem Aj(kvs:List (κ×V))(k:κ):(dN kvs k).length<=kvs.length:=List.length_filter_le _ _
end
theorem qj(r:RelV (kV k) u):(bc P w).is k u=true:=by
 cases k with
 | inl i=>obtain⟨t,e⟩:=(show ∃t,u=Value.int i t from r);subst e;exact p7 P w i t
 | inr x=>obtain⟨t,e⟩:=(show ∃t,u=Value.str x t from r);subst e;exact qg P w x t
theorem n6:∀{ks:List Key} {us:List Value},Vals (ks.map kV) us->ItemsAre (bc P w) ks us
 | [],_,r=>by rw[RQ]at r;cases r;exact .nil
 | k::ks,_,r=>by
   rw[R8]at r
   cases r with
   | cons h t=>exact .cons (qj h) (n6 t)
abbrev KT(H:Hp):List (List Key×V)->List (List Key×Addr×Value)->Prop:=Vr fun p q=>p.1=q.1/\H q.2.1=some (.tup (p.1.map kV))/\RelV p.2 q.2.2
theorem KT.val(r:KT H kvs xs)(k:List Key):RelO (valV kvs k) ((Xd xs k).map (·.2)):=by
 induction r with
 | nil=>exact Ui
 | @cons p q ps qs h t ih=>
   obtain⟨h1,_,h2⟩:=h
   by_cases e:p.1=k
   ·have e':q.1=k:=h1.symm.trans e
    have b:Xd (q::qs) k=some q.2:=by simp[Xd,Vf,e']
    rw[kI e,b];exact h2
   ·have e':¬q.1=k:=fun z=>e (h1.trans z)
    have b:Xd (q::qs) k=Xd qs k:=by simp[Xd,Vf,e']
    rw[lN e,b];exact ih
theorem KT.repl(r:KT H kvs xs)(k:List Key)(ry:RelV y u) :
 KT H (kvs.map fun kv=>if kv.1=k then(kv.1,y)else kv) (xs.map (putAt k u)):=by
 induction r with
 | nil=>exact .nil
 | @cons p q ps qs h t ih=>
   rw[R8,R8];refine .cons ?_ ih;obtain⟨h1,h2,h3⟩:=h;unfold putAt
   by_cases e:p.1=k
   ·rw[if_pos e,if_pos (h1.symm.trans e)];exact⟨h1,h2,ry⟩
   ·rw[if_neg e,if_neg (fun z=>e (h1.trans z))];exact⟨h1,h2,h3⟩
theorem KT.put(r:KT H kvs xs)(k:List Key)(hb:H b=some (.tup (k.map kV)))(ry:RelV y u) :
 KT H (putK kvs k y) (storedH xs k b u):=by
 have e:(kvs.any fun kv=>decide (kv.1=k))=(Xd xs k).isSome:=by
  rw[lR,(r.val k).isSome_eq,Option.isSome_map]
 unfold putK storedH;rw[e]
 by_cases q:(Xd xs k).isSome=true
 ·rw[if_pos q,if_pos q];exact r.repl k ry
 ·rw[if_neg q,if_neg q];exact Vr.snoc r ⟨rfl,hb,ry⟩
theorem KT.keeps(r:KT H kvs xs)(ht:∀b ys,H b=some (.tup ys)->H' b=some (.tup ys)):KT H' kvs xs :=
 Paired.mapP r fun _ _ z=>⟨z.1,ht _ _ z.2.1,z.2.2⟩
section
variable{P:Rz}{w:RT}{H:Hp}{h:Rk}{a:Addr}
theorem Ku(ok:HOk P w H h)(e:Rd H a u):ObjOk P w H h a u:=e.ok ok
abbrev RdK(H:Hp)(a:Addr)(kvs:List (Key×V)):Prop:=∃ep,Rd H a (.dK kvs ep)
theorem lQ(ok:HOk P w H h)(e:RdK H a kvs):kvs.length<=sizeLine/\(a==Ux)=false/\∃vs,KV kvs vs/\h.DictOf (bc P w) a vs:=by
 obtain⟨ep,e⟩:=e
 obtain⟨h1,h2,vs,h3,h4⟩:=(show ObjOk P w H h a (.dK kvs ep)from Ku ok e)
 exact⟨h1,h2,vs,h3,h4.dictOf⟩
theorem HY(ok:HOk P w H h)(e:H a=some (.dK kvs ep)):kvs.length<=sizeLine/\(a==Ux)=false/\∃vs,KV kvs vs/\h.DictOf (bc P w) a vs:=lQ ok ⟨ep,.inl e⟩
theorem mJ(ok:HOk P w H h)(e:H a=some (.tup (ks.map kV))):(X5 (bc P w)).is h ks a:=by
 obtain⟨_,its,r,o,h1,h2,n,h3⟩:=(show ObjOk P w H h a (.tup (ks.map kV))from ok a _ e)
 exact⟨o,its.toArray,n,h1,h2,h3,by simpa using n6 r⟩
theorem u6(ok:HOk P w H h)(e:Rd H a (.dT kvs)):kvs.length<=sizeLine/\(a==Ux)=false /\
 ∃xs,KT H kvs xs/\h.DictOfH (X5 (bc P w)) a xs:=by
 obtain⟨z,y,xs,r,o,es,ep,h1,h2,h3,h4,h5⟩:=(show ObjOk P w H h a (.dT kvs)from Ku ok e)
 refine⟨z,y,xs,r,o,es,ep,h1,h2,h3,h4,fun x hx=>?_,h5⟩
 have all:∀{l:List (List Key×V)} {m:List (List Key×Addr×Value)},KT H l m->∀x∈m,(X5 (bc P w)).is h x.1 x.2.1:=by
  intro l m q
  induction q with
  | nil=>intro x hx;exact nomatch hx
  | @cons p q ps qs hq t ih=>
    intro x hx;rcases Rh.mp hx with e | hx
    ·subst e
     exact mJ ok (by rw[<-hq.1];exact hq.2.1)
    ·exact ih x hx
 exact all r x hx
theorem Ov(ok:HOk P w H h)(e:H a=some (.dT kvs)):kvs.length<=sizeLine/\(a==Ux)=false /\
 ∃xs,KT H kvs xs/\h.DictOfH (X5 (bc P w)) a xs:=u6 ok (.inl e)
end
def DGet(H:Hp)(a:Addr)(y:V)(r:Option V):Prop :=
 (∃kvs k,RdK H a kvs/\y=kV k/\r=valV kvs k)\/∃kvs k b,Rd H a (.dT kvs)/\y=.ref b/\H b=some (.tup (k.map kV))/\r=valV kvs k
def DPut(H:Hp)(a:Addr)(y v:V)(H':Hp):Prop :=
 (∃kvs k ep ep',H a=some (.dK kvs ep)/\y=kV k/\kvs.length<sizeLine/\H'=upd H a (.dK (putK kvs k v) ep')) \/
 ∃kvs k b,H a=some (.dT kvs)/\y=.ref b/\H b=some (.tup (k.map kV))/\kvs.length<sizeLine/\H'=upd H a (.dT (putK kvs k v))
theorem DGet.k{H:Hp}{a:Addr}{kvs:List (Key×V)}{k:Key}{ep:Nat}(e:H a=some (.dK kvs ep)):DGet H a (kV k) (valV kvs k):=.inl ⟨kvs,k,⟨ep,.inl e⟩,rfl,rfl⟩
theorem DPut.k{H:Hp}{a:Addr}{kvs:List (Key×V)}{k:Key}{v:V}{ep ep':Nat}(e:H a=some (.dK kvs ep))(hl:kvs.length<sizeLine):DPut H a (kV k) v (upd H a (.dK (putK kvs k v) ep')):=.inl ⟨kvs,k,ep,ep',e,rfl,hl,rfl⟩
section
variable{X:Cx}{pins:List (Addr×Obj)}{σ:St}{H:Hp}{s:Shared}{a:Addr}{y v:V}{u r:Value}{o:Option V}{A:RV}{E:Value->Shared->Prop}
theorem Inv.big(I:Inv X pins σ H s):Ux<s.heap.objs.size:=by
 have h:Sh<s.heap.objs.size:=(I.mod.glob.keeps I.bk).lt;exact Nat.lt_trans (by decide) h
theorem wu(hu:A.units+1<Wm)(I:Inv X pins σ H s)(g:DGet H a y (some v))(ry:RelV y u)(h:∀w' s',Inv X pins σ H s'->RelV v w'->Q w' s') :
 Rn (Rt X.prog X.w) A (Xc (.ref a) u) Q E s:=by
 rcases g with⟨kvs,k,e,ey,l⟩ | ⟨kvs,k,b,e,ey,eb,l⟩
 ·subst ey
  obtain⟨z,hd,vs,rel,dd⟩:=lQ I.hok e;obtain⟨w',hw,rw'⟩:=RelO.some_of (v:=v) (o:=Wf vs k) (by rw[l];exact rel.val k);exact wpAny_getItem_of (qj ry) dd.mapOf hw (h w' _ (I.tok _) rw')
 ·subst ey
  cases (show u=Value.ref b from ry);obtain⟨z,hd,xs,rel,dd⟩:=u6 I.hok e;obtain⟨w',hw,rw'⟩:=RelO.some_of (v:=v) (o:=(Xd xs k).map (·.2)) (by rw[l];exact rel.val k);obtain⟨p,hp,hp2⟩:=T7.mp hw;refine wpAny_getItem_heap (W9 hu) (mJ I.hok eb) dd hp ?_;rw[hp2];exact h w' _ (I.tok _) rw'
theorem d_in(hu:A.units+1<Wm)(I:Inv X pins σ H s)(g:DGet H a y o)(ry:RelV y u)(h:∀s',Inv X pins σ H s'->Q (.bool o.isSome) s') :
 Rn (Rt X.prog X.w) A (TX .In u (.ref a)) Q E s:=by
 rcases g with⟨kvs,k,e,ey,l⟩ | ⟨kvs,k,b,e,ey,eb,l⟩
 ·subst ey
  obtain⟨z,hd,vs,rel,dd⟩:=lQ I.hok e;refine wpAny_in_of (qj ry) hd dd.mapOf ?_;rw[<-(rel.val k).isSome_eq,<-l];exact h _ (I.tok _)
 ·subst ey
  cases (show u=Value.ref b from ry);obtain⟨z,hd,xs,rel,dd⟩:=u6 I.hok e;refine wpAny_in_heap (W9 hu) (mJ I.hok eb) hd dd ?_;have q:=(rel.val k).isSome_eq;rw[Option.isSome_map]at q;rw[<-q,<-l];exact h _ (I.tok _)
theorem FP(hu:A.units+1<Wm)(I:Inv X pins σ H s)(g:DGet H a y o)(ry:RelV y u)(h:∀s',Inv X pins σ H s'->Q (.bool (!o.isSome)) s') :
 Rn (Rt X.prog X.w) A (TX .NotIn u (.ref a)) Q E s:=by
 rcases g with⟨kvs,k,e,ey,l⟩ | ⟨kvs,k,b,e,ey,eb,l⟩
 ·subst ey
  obtain⟨z,hd,vs,rel,dd⟩:=lQ I.hok e;refine wpAny_notIn_of (qj ry) hd dd.mapOf ?_;rw[<-(rel.val k).isSome_eq,<-l];exact h _ (I.tok _)
 ·subst ey
  cases (show u=Value.ref b from ry);obtain⟨z,hd,xs,rel,dd⟩:=u6 I.hok e;refine wpAny_notIn_heap (W9 hu) (mJ I.hok eb) hd dd ?_;have q:=(rel.val k).isSome_eq;rw[Option.isSome_map]at q;rw[<-q,<-l];exact h _ (I.tok _)
theorem lJ(I:Inv X pins σ H s)(mu:Mut (H a))(hs:Tz a s.heap h')(he:∃q,h'.get? a=some q)(new:ObjOk X.prog X.w (upd H a ob) h' a ob) :
 Inv X pins σ (upd H a ob) { s with heap:=h',toks:=t' } :=
 I.write (x:=a) (e:=a) mu (.inl rfl) (fun b q hb z=>(hs.2 b hb).trans z) he new
theorem sU(z:kvs.length<=sizeLine)(hd:(a==Ux)=false)(rel:KV kvs vs)(dd:h'.DictAt (bc P w) a vs ep) :
 ObjOk P w H' h' a (.dK kvs ep):=⟨z,hd,vs,rel,dd⟩
theorem vm(hu:A.units+1<Wm)(I:Inv X pins σ H s)(g:∃H',DPut H a y v H')(ry:RelV y u)(rv:RelV v r)(h:∀H' s',DPut H a y v H'->Inv X pins σ H' s'->Q () s') :
 Rn (Rt X.prog X.w) A (Xo (.ref a) u r) Q E s:=by
 obtain⟨H',g⟩:=g;have gg:=g;rcases g with⟨kvs,k,ep,ep',e,ey,l,eH⟩ | ⟨kvs,k,b,e,ey,eb,l,eH⟩
 ·subst ey eH
  obtain⟨z,hd,vs,rel,dd⟩:=HY I.hok e
  have hz:vs.length<=sizeLine:=by rw[<-rel.length];exact z
  have hl:(putK kvs k v).length<=sizeLine:=by have:=jg kvs k v;omega
  refine wpAny_setItem_pairs (hsz:=hz) (qj ry) dd fun h' dd' hs=>?_
  have he:∃q,h'.get? a=some q:=let⟨q,_,_,hq,_⟩:=dd';⟨q,hq⟩
  obtain⟨ep2,dd'⟩:=dd'.dictAt;exact h _ _ (.inl ⟨kvs,k,ep,ep2,e,rfl,l,rfl⟩) (lJ I (by rw[e];exact Ui) hs he (sU hl hd (rel.put k rv) dd'))
 ·subst ey eH
  cases (show u=Value.ref b from ry);obtain⟨z,hd,xs,rel,dd⟩:=Ov I.hok e
  have hz:xs.length<=sizeLine:=by rw[<-Ws rel];exact z
  have hl:(putK kvs k v).length<=sizeLine:=by have:=jg kvs k v;omega
  refine wpAny_setItem_heap (hsz:=hz) (W9 hu) (mJ I.hok eb) dd fun h' dd' hs=>h _ _ gg ?_
  obtain⟨q,es,ep,hq,h2,h3,h4,_,h5⟩:=dd';refine lJ I (by rw[e];exact Ui) hs ⟨q,hq⟩ ⟨hl,hd,_,(rel.put k eb rv).keeps fun c ys ec=>?_,q,es,ep,hq,h2,h3,h4,h5⟩;rw[aR (QB ec e (fun z=>nomatch z))];exact ec
end
section
variable{X:Cx}{pins:List (Addr×Obj)}{σ:St}{H:Hp}{s:Shared}{a:Addr}{kvs:List (Key×V)}{k:Key}{u:Value}{A:RV}{E:Value->Shared->Prop}
theorem Pb(I:Inv X pins σ H s)(e:RdK H a kvs)(h:∀t s',Inv X pins σ H s'->Q (.int kvs.length t) s'):Rn (Rt X.prog X.w) A (call (.builtin "len") [.ref a]) Q E s:=by
 obtain⟨z,hd,vs,rel,dd⟩:=lQ I.hok e;refine call_len_dict hd dd (by rw[<-rel.length];rw[T9]at z;omega) ?_;rw[<-rel.length];exact h _ _ (I.tok _)
end
def NoSl(i:Expr):Prop:=∀ov iv,Xa i false ov iv=operate [ov,iv] (Xc ov iv)
theorem Ha{prog:Rz}{w:RT}{A:RV}{E:Value->Shared->Prop}{s:Shared}{env:Env}{value slice:Expr}{pos:Pos}{T id:String}{Q:Value->Shared->Prop}
 (hl:typeLookup (.type T) "__getitem__"=pure (some (.builtin id))) (hs:NoSl slice)
 (h:Rn (Rt prog w) A (Sv value env) (fun o s₁=>Rn (Rt prog w) A (Sv slice env) (fun i s₂=>s₂.TypeIs o T/\Rn (Rt prog w) A (Xc o i) Q E s₂) E s₁) E s) :
 Rn (Rt prog w) A (Sv (.Subscript value slice pos) env) Q E s:=by
 refine Subscript_ (T8 h (fun o s₁ h₁=>T8 h₁ (fun i s₂ h₂=>?_) fun _ _ x=>x) fun _ _ x=>x);obtain⟨hT,h₂⟩:=h₂;unfold subscriptTail;refine R6 ?_;rw[getitemInPython_of_ne hT.not_modules];refine R6 (wpAny_specialOf hT hl ?_)
 have fin:Rn (Rt prog w) A (Xa slice false o i) (fun r s₃=>Rn (Rt prog w) A (letTemporaryGo value o r >>= fun _=>pure r) Q E s₃) E s₂:=by
  rw[hs o i];exact wpAny_operating (T8 h₂ (fun r s₃ h₃=>R6 (wpAny_letTemporaryGo (Rc h₃))) fun _ _ x=>x)
 first
  | exact Rc (R6 fin)
  | exact R6 (Rc (R6 fin))
  | exact R6 fin
theorem pW(I:Inv X pins σ H s)(g:DGet H a y o):s.TypeIs (.ref a) "dict":=by
 rcases g with⟨kvs,k,e,_,_⟩ | ⟨kvs,k,b,e,_,_,_⟩
 ·obtain⟨_,_,vs,_,dd⟩:=lQ I.hok e
  exact dd.typeIs
 ·obtain⟨_,_,xs,_,dd⟩:=u6 I.hok e
  exact dd.typeIs
def Qq(td ty:TE):TE:=fun σ H Q=>td σ H fun x H1=>ty σ H1 fun y H2=>∃a v,x=.ref a/\DGet H2 a y (some v)/\Q v H2
def tDIn(ty td:TE):TE:=fun σ H Q=>ty σ H fun y H1=>td σ H1 fun x H2=>∃a o,x=.ref a/\DGet H2 a y o/\Q (.bl o.isSome) H2
def Ij(ty td:TE):TE:=fun σ H Q=>ty σ H fun y H1=>td σ H1 fun x H2=>∃a o,x=.ref a/\DGet H2 a y o/\Q (.bl (!o.isSome)) H2
def Q5(td ty tv:TE):TS:=fun D σ H=>tv σ H fun v H1=>td σ H1 fun x H2=>ty σ H2 fun y H3=>∃a,x=.ref a/\(∃H4,DPut H3 a y v H4)/\∀H4,DPut H3 a y v H4->D.nx σ H4
section
variable{X:Cx}{o i e value:Expr}{pos pos' tpos:Pos}{td ty tv:TE}
theorem Jp(hu:X.A.units+1<Wm)(ho:PE X o td)(hi:PE X i ty)(hs:NoSl i):PE X (.Subscript o i pos) (Qq td ty):=by
 intro pins s σ H Q I h;refine Ha PySem.F.slot_dict_getitem.lookup hs (thn (ho pins s σ H _ I h) fun u s1 ⟨x,H1,I1,rx,q1⟩=>thn (hi pins s1 σ H1 _ I1 q1) fun iv s2 ⟨y,H2,I2,ry,a,v,ex,g,q2⟩=>?_);subst ex;obtain rfl:u=Value.ref a:=rx;exact⟨pW I2 g,wu hu I2 g ry fun w' s3 I3 rw'=>⟨v,H2,I3,rw',q2⟩⟩
theorem Dy(hu:X.A.units+1<Wm)(hi:PE X i ty)(ho:PE X o td):PC X .In i o (tDIn ty td):=by
 intro pins s σ H Q I h
 refine thn (hi pins s σ H _ I h) fun iv s1 ⟨y,H1,I1,ry,q1⟩=>thn (ho pins s1 σ H1 _ I1 q1) fun u s2 ⟨x,H2,I2,rx,a,ov,ex,g,q2⟩=>?_
 subst ex;obtain rfl:u=Value.ref a:=rx
 exact d_in hu I2 g ry fun s3 I3=>⟨.bl ov.isSome,H2,I3,rfl,q2⟩
theorem mV(hu:X.A.units+1<Wm)(hi:PE X i ty)(ho:PE X o td):PC X .NotIn i o (Ij ty td):=by
 intro pins s σ H Q I h
 refine thn (hi pins s σ H _ I h) fun iv s1 ⟨y,H1,I1,ry,q1⟩=>thn (ho pins s1 σ H1 _ I1 q1) fun u s2 ⟨x,H2,I2,rx,a,ov,ex,g,q2⟩=>?_
 subst ex;obtain rfl:u=Value.ref a:=rx
 exact FP hu I2 g ry fun s3 I3=>⟨.bl (!ov.isSome),H2,I3,rfl,q2⟩
theorem Ff(hu:X.A.units+1<Wm)(ho:PE X o td)(hi:PE X i ty)(hv:PE X value tv)(hs:Vd value (some (.Subscript o i pos')) pos.line X.env=pure false) :
 PS X (.Assign [.Subscript o i pos'] value pos) (Q5 td ty tv):=by
 intro pins s σ H D I h;refine wpAny_Assign_Subscript (thn (hv pins s σ H _ I h) fun r s1 ⟨v,H1,I1,rv,q1⟩=>thn (ho pins s1 σ H1 _ I1 q1) fun u s2 ⟨x,H2,I2,rx,q2⟩=>thn (hi pins s2 σ H2 _ I2 q2) fun iv s3 ⟨y,H3,I3,ry,a,ex,g,q3⟩=>?_) hs;subst ex;obtain rfl:u=Value.ref a:=rx
 exact vm hu I3 g ry rv fun H4 s4 g4 I4=>⟨σ,H4,I4,q3 H4 g4⟩
end
theorem qN(h:Rk)(hb:Ux<h.objs.size):∃ep,ObjOk P w H (h.push { cls:=.type "dict",data:=.dict #[] }) h.objs.size (.dK [] ep):=by
 obtain⟨ep,x⟩:=(Rk.DictOf.new (knd:=bc P w) h).dictAt;exact⟨ep,Nat.zero_le _,beq_eq_false_iff_ne.mpr (T5 (Nat.ne_of_lt hb)),[],.nil,x⟩
def Ln:TE:=fun _ H Q=>∀p ep,H p=none->Q (.ref p) (upd H p (.dK [] ep))
section
variable{X:Cx}{pos:Pos}
theorem zb:PE X (.Dict [] [] pos) Ln:=fun pins s σ H Q I h=>by
 obtain⟨ep,ok⟩:=qN (P:=X.prog) (w:=X.w) (H:=upd H s.heap.objs.size (.dK [] 0)) s.heap I.big;have ok:ObjOk X.prog X.w (upd H s.heap.objs.size (.dK [] ep)) (s.heap.push { cls:=.type "dict",data:=.dict #[] }) s.heap.objs.size (.dK [] ep):=ok;exact wpAny_Dict_empty ⟨.ref s.heap.objs.size,_,I.laid (a:=s.heap.objs.size) (o:=.dK [] ep) (t':=s.toks) (fun _ _ q=>R7 _ q) (Nat.le_refl _) ok,rfl,h _ _ (I.hok.fresh (Nat.le_refl _))⟩
end
def rH:List (TE×TE)->St->Hp->(List (V×V)->Hp->Prop)->Prop
 | [],_,H,Q=>Q [] H
 | (tk,tv)::r,σ,H,Q=>tk σ H fun x H1=>tv σ H1 fun y H2=>rH r σ H2 fun ps H3=>Q ((x,y)::ps) H3
abbrev VV:List (V×V)->List (Value×Value)->Prop:=Vr fun p q=>RelV p.1 q.1/\RelV p.2 q.2
def PPs(X:Cx)(pos:Pos)(keys:List (Option Expr))(values:List Expr)(trs:List (TE×TE)):Prop :=
 ∀(pins:List (Addr×Obj)) (s:Shared) (σ:St) (H:Hp) (Q:List (V×V)->Hp->Prop),Inv X pins σ H s->rH trs σ H Q ->
  Rn (Rt X.prog X.w) X.A (evalPairs (pairTrees keys values X.env pos)) (fun vs s'=>∃ps H',Inv X pins σ H' s'/\VV ps vs/\Q ps H') X.xe s
theorem Hy:PPs X pos [] [] []:=fun pins s σ H Q I h=>pairTrees_nil_walk ⟨[],H,I,.nil,h⟩
theorem z6{X:Cx}{pos:Pos}{k v:Expr}{ks:List (Option Expr)}{vs:List Expr}{tk tv:TE}{trs:List (TE×TE)}(hk:PE X k tk)(hv:PE X v tv)(hr:PPs X pos ks vs trs) :
 PPs X pos (some k::ks) (v::vs) ((tk,tv)::trs):=fun pins s σ H Q I h=>
 pairTrees_cons_walk (thn (hk pins s σ H _ I h) fun u s1 ⟨x,H1,I1,rx,q1⟩=>thn (hv pins s1 σ H1 _ I1 q1) fun w2 s2 ⟨y,H2,I2,ry,q2⟩=>
  thn (hr pins s2 σ H2 _ I2 q2) fun ws s3 ⟨ps,H3,I3,rel,q3⟩=>⟨(x,y)::ps,H3,I3,.cons ⟨rx,ry⟩ rel,q3⟩)
def jF(kvs more:List (Key×V)):List (Key×V):=more.foldl (fun acc kv=>putK acc kv.1 kv.2) kvs
theorem KV.merge:∀{more:List (Key×V)} {rs:List (Key×Value)} {kvs:List (Key×V)} {vs:List (Key×Value)},KV more rs->KV kvs vs->KV (jF kvs more) (merged vs rs):=by
 intro more rs kvs vs r;unfold KV at r
 induction r generalizing kvs vs with
 | nil=>intro q;exact q
 | @cons p q ps qs h t ih=>
   intro r0
   have e:KV (putK kvs p.1 p.2) (stored vs q.1 q.2):=by
    have:=r0.put p.1 h.2;rw[<-h.1];exact this
   exact ih e
theorem jG:∀{kvs:List (Key×V)} {ws:List (Value×Value)},VV (kvs.map fun kv=>(kV kv.1,kv.2)) ws->∃rs,Carries (bc P w) ws rs/\KV kvs rs
 | [],_,r=>by rw[RQ]at r;cases r;exact⟨[],Ui,.nil⟩
 | p::kvs,_,r=>by
   rw[R8]at r
   cases r with
   | @cons a b as bs h t=>
     obtain⟨rs,c,q⟩:=jG (P:=P) (w:=w) t;obtain⟨b1,b2⟩:=b;exact⟨(p.1,b2)::rs,⟨qj h.1,rfl,c⟩,.cons ⟨rfl,h.2⟩ q⟩
structure M1(X:Cx)(o:Expr)(m:Str)(apos:Pos)(e:Expr)(cpos:Pos):Prop where
 base:V7 o m X.env (Sv o X.env)=Sv o X.env
 few:((SN cpos (Rj [e] X.env)).all (fun x=>!x.1)&&(UW cpos (Tr [] X.env)).all (fun x=>x.1.isSome)
  && decide (([e]:List Expr).length+([]:List Wi).length+(if([]:List Wi).isEmpty then 0 else 1)<30))=true
 line:(apos.endLine==cpos.line)=true
 trees:SN cpos (Rj [e] X.env)=[(false,Sv e X.env)]
structure M2(X:Cx)(o:Expr)(m:Str)(apos:Pos)(e f:Expr)(cpos:Pos):Prop where
 base:V7 o m X.env (Sv o X.env)=Sv o X.env
 few:((SN cpos (Rj [e,f] X.env)).all (fun x=>!x.1)&&(UW cpos (Tr [] X.env)).all (fun x=>x.1.isSome)
  && decide (([e,f]:List Expr).length+([]:List Wi).length+(if([]:List Wi).isEmpty then 0 else 1)<30))=true
 line:(apos.endLine==cpos.line)=true
 trees:SN cpos (Rj [e,f] X.env)=[(false,Sv e X.env),(false,Sv f X.env)]
def IsD(H:Hp)(a:Addr):Prop:=(∃kvs,RdK H a kvs)\/∃kvs,Rd H a (.dT kvs)
theorem N7(I:Inv X pins σ H s)(d:IsD H a) :
 s.TypeIs (.ref a) "dict"/\(∀b,Value.ref a=.ref b->∃ob,s.heap.get? b=some ob/\ob.dict=none)/\(a==Ux)=false:=by
 rcases d with⟨kvs,e⟩ | ⟨kvs,e⟩
 ·obtain⟨_,hd,vs,_,dd⟩:=lQ I.hok e
  refine⟨dd.typeIs,fun b q=>?_,hd⟩;cases q;obtain⟨ob,_,_,h1,h2,_⟩:=dd;exact⟨ob,h1,h2.2.1⟩
 ·obtain⟨_,hd,xs,_,dd⟩:=u6 I.hok e
  refine⟨dd.typeIs,fun b q=>?_,hd⟩;cases q;obtain⟨ob,_,_,h1,h2,_⟩:=dd;exact⟨ob,h1,h2.2.1⟩
section
variable{X:Cx}{pins:List (Addr×Obj)}{σ:St}{H:Hp}{s:Shared}{a:Addr}{y d:V}{u r:Value}{o:Option V}{A:RV}{E:Value->Shared->Prop}
end
section
variable{X:Cx}{o e f:Expr}{apos cpos:Pos}{td ty tx:TE}
end
section
variable{X:Cx}{pins:List (Addr×Obj)}{σ:St}{H:Hp}{s:Shared}{a:Addr}{kvs:List (Key×V)}{A:RV}{E:Value->Shared->Prop}
theorem zK(I:Inv X pins σ H s)(e:RdK H a kvs)(h:∀p ep s',H p=none->Inv X pins σ (upd H p (.dK kvs ep)) s'->Q (.ref p) s'):Rn (Rt X.prog X.w) A (call (.type "dict") [.ref a]) Q E s:=by
 obtain⟨z,hd,vs,rel,dd⟩:=lQ I.hok e
 refine kt_call_dict hd dd (by rw[<-rel.length];exact z) fun h' dd' hs=>?_
 obtain⟨ep,dd'⟩:=dd'.dictAt;refine h _ _ _ (I.hok.fresh (Nat.le_refl _)) (I.laid (a:=s.heap.objs.size) (o:=.dK kvs ep) (t':=s.toks) (fun b q hq=>?_) (Nat.le_refl _) (sU z (beq_eq_false_iff_ne.mpr (T5 (Nat.ne_of_lt I.big))) rel dd'));exact(hs.2 b (Nat.ne_of_lt (Ro hq))).trans (R7 _ hq)
end
section
variable{X:Cx}{pins:List (Addr×Obj)}{σ:St}{H:Hp}{s:Shared}{a:Addr}{y:V}{u:Value}{A:RV}{E:Value->Shared->Prop}
end
end L2
namespace HT
open PySem PyProof.Rows
section
open PySem.SeqAt
open PySem.AutoSeq1 (wpAny_loadPart')
open PySem.MeetsSeq PySem.MeetsSeq2 PySem.MeetsSeq3
end
section
variable{prog:Rz}{w:RT}{A:RV}{E:Value->Shared->Prop}{s:Shared}
noncomputable def sIx(n d:Nat):Option Int->Nat
 | none=>d
 | some v=>if v<0 then(v+(n:Int)).toNat else min v.toNat n
end
end HT
namespace L2
open PySem PySem.Spec PyProof.Rows
abbrev TO:=St->Hp->(Option Int->Hp->Prop)->Prop
def PO(X:Cx)(e:Option Expr)(t:TO):Prop :=
 ∀(pins:List (Addr×Obj)) (s:Shared) (σ:St) (H:Hp) (Q:Option Int->Hp->Prop),Inv X pins σ H s->t σ H Q ->
  Rn (Rt X.prog X.w) X.A (evalPart e X.env) (fun u s'=>∃o H',Inv X pins σ H' s'/\IsPart u o/\Q o H') X.xe s
def GP:TO:=fun _ H Q=>Q none H
def Qk(t:TE):TO:=fun σ H Q=>t σ H fun x H1=>∃i,x=.int i/\Q (some i) H1
theorem intsAre_of:∀{us:List Value},Vals (ns.map V.int) us->WM us ns:=by
 induction ns with
 | nil=>intro us r;rw[RQ]at r;cases r;exact .nil
 | cons n ns ih=>
   intro us r;rw[R8]at r
   cases r with
   | cons r1 r2=>
     obtain⟨t,e⟩:=r1;subst e;exact .cons n t (ih r2)
section
variable{X:Cx}{e:Expr}{te:TE}{lo hi:Option Expr}{tl th:TO}{pos p2:Pos}
theorem GX:PO X none GP:=by
 intro pins s σ H Q I h;rw[evalPart_none];exact Rc ⟨none,H,I,.none,h⟩
theorem Ie(h:PE X e te):PO X (some e) (Qk te):=by
 intro pins s σ H Q I hw;rw[evalPart_some]
 refine thn (h pins s σ H _ I hw) fun u s1 ⟨x,H1,I1,r1,q1⟩=>?_
 obtain⟨i,rfl,q⟩:=q1;obtain⟨t,rfl⟩:=r1;exact⟨some i,H1,I1,.int i t,q⟩
def SlR(X:Cx)(r:V->Option Int->Option Int->Hp->VK->Prop):Prop :=
 ∀(pins:List (Addr×Obj)) (s:Shared) (σ:St) (H:Hp) (x:V) (v vl vu:Value) (lo hi:Option Int) (sl:Addr) (Q:VK),Inv X pins σ H s->RelV x v->s.heap.IsSliceOf sl vl vu .none->IsPart vl lo->IsPart vu hi->r x lo hi H Q ->
  ∃T id,typeLookup (.type T) "__getitem__"=pure (some (.builtin id))/\s.TypeIs v T/\Rn (Rt X.prog X.w) X.A (Xc v (.ref sl)) (EP X pins σ Q) X.xe s
def tSl(r:V->Option Int->Option Int->Hp->VK->Prop)(te:TE)(tl th:TO):TE:=fun σ H Q=>te σ H fun x H1=>tl σ H1 fun l H2=>th σ H2 fun u H3=>r x l u H3 Q
theorem zu(hr:SlR X r)(he:PE X e te)(hl:PO X lo tl)(hu:PO X hi th):PE X (.Subscript e (.Slice lo hi none p2) pos) (tSl r te tl th):=by
 intro pins s σ H Q I h;refine Subscript_ (thn (he pins s σ H _ I h) fun v s1 ⟨x,H1,I1,r1,q1⟩=>?_);refine wpAny_Slice (thn (hl pins s1 σ H1 _ I1 q1) fun vl s2 ⟨l,H2,I2,pl,q2⟩=>thn (hu pins s2 σ H2 _ I2 q2) fun vu s3 ⟨u,H3,I3,pu,q3⟩=>?_);rw[evalPart_none];refine Rc ?_
 have I4:Inv X pins σ H3 { s3 with heap:=s3.heap.push { cls:=.type "slice",data:=.fields #[vl,vu,.none] } }:=I3.kept (t':=s3.toks) fun b ob q=>R7 _ q
 obtain⟨T,id,hT,ht,hg⟩:=hr pins { s3 with heap:=s3.heap.push { cls:=.type "slice",data:=.fields #[vl,vu,.none] } } σ H3 x v vl vu l u s3.heap.objs.size Q I4 r1 (Rk.IsSliceOf.new ..) pl pu q3;show Rn (Rt X.prog X.w) X.A (subscriptTail e (.Slice lo hi none p2) v (.ref s3.heap.objs.size)) (EP X pins σ Q) X.xe { s3 with heap:=s3.heap.push { cls:=.type "slice",data:=.fields #[vl,vu,.none] } };exact tail_any (ops:=[.ref s3.heap.objs.size,v]) ht hT hg (by with_unfolding_all rfl)
noncomputable def cutV(xs:List V)(lo hi:Option Int):List V:=(xs.drop (HT.sIx xs.length 0 lo)).take (HT.sIx xs.length xs.length hi-HT.sIx xs.length 0 lo)
theorem qm(xs:List V)(lo hi:Option Int):(cutV xs lo hi).length<=xs.length:=by
 unfold cutV;rw[Vv,List.length_drop];omega
end
end L2
namespace L2
open PySem PySem.Spec PyProof.Rows
noncomputable def ixN(n:Nat)(i:Int):Option Nat:=if 0<=i then(if i<n then some i.toNat else none)else if -(n:Int)<=i then some (i+n).toNat else none
noncomputable def atI{α:Type}(xs:List α)(i:Int):Option α:=(ixN xs.length i).bind fun j=>xs[j]?
theorem wW(h:ixN n i=some j):seqIndex? i n=some j/\j<n/\-(n:Int)<=i/\i<n:=by
 unfold ixN at h
 by_cases h0:0<=i
 ·rw[if_pos h0]at h
  by_cases h1:i<n
  ·rw[if_pos h1]at h
   have e:i.toNat=j:=T4 h;exact⟨by rw[seqIndex_of h0 h1,e],by omega,by omega,h1⟩
  ·rw[if_neg h1]at h;cases h
 ·rw[if_neg h0]at h
  by_cases h1:-(n:Int)<=i
  ·rw[if_pos h1]at h
   have e:(i+n).toNat=j:=T4 h;exact⟨by rw[seqIndex_neg (by omega) h1,e],by omega,h1,by omega⟩
  ·rw[if_neg h1]at h;cases h
theorem qJ(h:atI xs i=some v):∃j,seqIndex? i xs.length=some j/\xs[j]?=some v/\j<xs.length/\-(xs.length:Int)<=i/\i<xs.length:=by
 unfold atI at h
 cases e:ixN xs.length i with
 | none=>rw[e]at h;cases h
 | some j=>
   rw[e]at h;obtain⟨h1,h2,h3,h4⟩:=wW e;exact⟨j,h1,h,h2,h3,h4⟩
def yR(b:Expr):Prop:=∀o i,Xa b false o i=operate [o,i] (Xc o i)
def IxR(X:Cx)(r:R2):Prop :=
 ∀(value slice:Expr) (pins:List (Addr×Obj)) (s:Shared) (σ:St) (H:Hp) (x y:V) (v u:Value) (Q:VK),Inv X pins σ H s->RelV x v->RelV y u->r x y H Q ->
  Xa slice false v u=operate [v,u] (Xc v u)->Rn (Rt X.prog X.w) X.A (subscriptTail value slice v u) (EP X pins σ Q) X.xe s
def MtR(X:Cx)(id:String)(r:V->List V->Hp->VK->Prop):Prop :=
 ∀(pins:List (Addr×Obj)) (s:Shared) (σ:St) (H:Hp) (x:V) (xs:List V) (v:Value) (us:List Value) (Q:VK),Inv X pins σ H s->RelV x v->Vals xs us->r x xs H Q ->
  Rn (Rt X.prog X.w) X.A (call (.builtin id) (v::us)) (EP X pins σ Q) X.xe s
section
variable{X:Cx}{a b:Expr}{ta tb:TE}{pos:Pos}
theorem IxR.or(h:IxR X r)(h':IxR X r'):IxR X (fun x y H Q=>r x y H Q\/r' x y H Q):=by
 intro value slice pins s σ H x y v u Q I rx ry q hs;rcases q with q | q
 ·exact h value slice pins s σ H x y v u Q I rx ry q hs
 ·exact h' value slice pins s σ H x y v u Q I rx ry q hs
theorem Qd(hr:IxR X r)(ha:PE X a ta)(hb:PE X b tb)(hs:yR b):PE X (.Subscript a b pos) (tOp r ta tb):=by
 intro pins s σ H Q I h;exact Subscript_ (binT ha hb I h fun v u s2 x y H2 I2 rx ry q=>hr a b pins s2 σ H2 x y v u Q I2 rx ry q (hs _ _))
def rIxL(K:Ra):R2:=fun x y H Q=>∃p xs i v,x=.ref p/\y=.int i/\SqL K H p xs/\atI xs i=some v/\Q v H
def rIxT(K:Ra):R2:=fun x y H Q=>∃p xs i v,x=.ref p/\y=.int i/\SqT K H p xs/\atI xs i=some v/\Q v H
def rIxS:R2:=fun x y H Q=>∃z i c,x=.str z/\y=.int i/\z.length<=sizeLine/\atI z.cps.toList i=some c/\Q (.str ⟨#[c]⟩) H
theorem Iu:IxR X (rIxL X.K):=by
 intro value slice pins s σ H x y v u Q I rx ry h hs;obtain⟨p,xs,i,z,rfl,rfl,hq,he,q⟩:=h;cases rx;obtain⟨t,rfl⟩:=ry;obtain⟨its,r,pl,hz⟩:=I.list hq;obtain⟨j,h1,h2,h3,h4,h5⟩:=qJ he;obtain⟨w,ew,rw'⟩:=r.get h2;have hl:=r.length;have hn:=j7
 have fin:EP X pins σ Q w s:=⟨z,H,I,rw',q⟩
 by_cases h0:0<=i
 ·have hj:i.toNat=j:=by
   rw[seqIndex_of h0 h5]at h1;exact T4 h1
  exact item_listR pl.isList h0 (by omega) (by rw[hj];simpa using ew) fin hs
 ·have hj:(i+(its.toArray.size:Int)).toNat=j:=by
   rw[seqIndex_neg (by omega) h4]at h1;rw[Ru,<-hl];exact T4 h1
  exact subscriptTail_builtinR (x:=w) pl.isList.typeIs slot_list_getitem.lookup
   (wpAny_getItem_list_neg (Q:=fun r s'=>r=w/\EP X pins σ Q r s') pl.isList (by omega) (by rw[Ru]<;>omega) (by omega) (by rw[hj];simpa using ew) ⟨rfl,fin⟩) hs
theorem Ks:IxR X (rIxT X.K):=by
 intro value slice pins s σ H x y v u Q I rx ry h hs;obtain⟨p,xs,i,z,rfl,rfl,hq,he,q⟩:=h;cases rx;obtain⟨t,rfl⟩:=ry;obtain⟨its,r,pl,hz⟩:=I.tuple hq;obtain⟨j,h1,h2,h3,h4,h5⟩:=qJ he;obtain⟨w,ew,rw'⟩:=r.get h2;have hl:=r.length;have hn:=j7
 have fin:EP X pins σ Q w s:=⟨z,H,I,rw',q⟩
 exact subscriptTail_builtinR (x:=w) pl.typeIs slot_tuple_getitem.lookup
  (getItem_tuple (j:=j) (Q:=fun r s'=>r=w/\EP X pins σ Q r s') pl (by omega) (by omega) (by rw[Ru,<-hl];exact h1) (by simpa using ew) ⟨rfl,fin⟩) hs
theorem JN:IxR X rIxS:=by
 intro value slice pins s σ H x y v u Q I rx ry h hs;obtain⟨z,i,c,rfl,rfl,hz,he,q⟩:=h;obtain⟨t,rfl⟩:=rx;obtain⟨t',rfl⟩:=ry;obtain⟨j,h1,h2,h3,h4,h5⟩:=qJ he
 have hl:z.cps.toList.length=z.length:=by simp[Str.length]
 rw[hl]at h1 h4 h5;have hn:=j7
 exact tail_any (typeIs_str s z t) slot_str_getitem.lookup (getItem_str (c:=c) (by
  have e1:decide (i < -(2 ^ 63:Int))=false:=decide_eq_false (by omega);have e2:decide (i≥2 ^ 63)=false:=decide_eq_false (by omega)
  rw[e1,e2,Bool.or_false]) (by rw[h1];simpa using h2) ⟨.str ⟨#[c]⟩,H,I.tok _,⟨_,rfl⟩,q⟩) hs
theorem uh(its:List Value)(n j:Nat)(u:Value):VB (·.setIfInBounds j u) { cls:=.type "list",data:=.seq its.toArray n }={ cls:=.type "list",data:=.seq (its.set j u).toArray n }:=by
 simp[VB]
theorem Inv.lst(I:Inv X pins σ H s)(h:H p=some (.lst xs)) :
 ∃(its:List Value) (n:Nat),Vals xs its/\s.heap.get? p=some { cls:=.type "list",data:=.seq its.toArray n }/\xs.length<=sizeLine:=by
 obtain⟨z,its,n,r,e⟩:=I.hok p _ h;exact⟨its,n,r,e,z⟩
theorem Inv.lstUpd{pins:List (Addr×Obj)}{σ:St}{H:Hp}{s:Shared}{p:Addr}{xs ys:List V}{its its':List Value}{n n':Nat}{f:Obj->Obj}(I:Inv X pins σ H s)(h:H p=some (.lst xs))
 (ho:s.heap.get? p=some { cls:=.type "list",data:=.seq its.toArray n }) (hf:f { cls:=.type "list",data:=.seq its.toArray n }={ cls:=.type "list",data:=.seq its'.toArray n' }) (r:Vals ys its') (hz:ys.length<=sizeLine) (t:Nat) :
 Inv X pins σ (upd H p (.lst ys)) { s with heap:=s.heap.update p f,toks:=t }:=by
 have e:(s.heap.update p f).get? p=some { cls:=.type "list",data:=.seq its'.toArray n' }:=by
  rw[S5 f ho (by rw[hf]<;>rfl),hf]
 refine I.write (x:=p) (e:=p) (by rw[h];trivial) (.inl rfl) (fun b u hb q=>(RN _ _ (T5 hb)).trans q) ⟨_,e⟩ ?_;exact⟨hz,its',n',r,e⟩
def OD:V->V->V->Hp->(Hp->Prop)->Prop:=fun o i v H Q=>∃p xs k j,o=.ref p/\i=.int k/\H p=some (.lst xs)/\ixN xs.length k=some j/\Q (upd H p (.lst (xs.set j v)))
theorem set_list:PSet X OD:=by
 intro pins s σ H o i v ov iv u Q I ro ri rv h;obtain⟨p,xs,k,j,rfl,rfl,hp,hj,q⟩:=h;cases ro;obtain⟨t,rfl⟩:=ri;obtain⟨its,n,r,ho,hz⟩:=I.lst hp;obtain⟨h1,h2,h3,h4⟩:=wW hj;have hl:=r.length;have hn:=j7
 have I':Inv X pins σ (upd H p (.lst (xs.set j v))) { s with heap:=s.heap.update p (VB (·.setIfInBounds j u)) } :=
  I.lstUpd hp ho (uh its n j u) (r.set rv j) (by rw[List.length_set];exact hz) s.toks
 by_cases h0:0<=k
 ·have hk:k.toNat=j:=by
   rw[seqIndex_of h0 h4]at h1;exact T4 h1
  exact PySem.W.ki_setAt ho h0 (by omega) (by rw[Ru,<-hl];exact h4) (by rw[hk];exact⟨_,I',q⟩)
 ·have hk:(k+(its.toArray.size:Int)).toNat=j:=by
   rw[seqIndex_neg (by omega) h3]at h1;rw[Ru,<-hl];exact T4 h1
  exact PySem.W.ki_setBack ho (by omega) (by rw[Ru,<-hl];exact h3) (by omega) (by rw[hk];exact⟨_,I',q⟩)
theorem nO(lo hi:Option Int)(n:Nat):(VL lo hi none n).1=((HT.sIx n 0 lo:Nat):Int)/\(VL lo hi none n).2.1=((HT.sIx n n hi:Nat):Int)/\(VL lo hi none n).2.2=1:=by
 refine⟨?_,?_,rfl⟩
 ·cases lo with
  | none=>simp[VL,HT.sIx]
  | some i=>
    simp only[VL,HT.sIx,Option.getD_none,show(1:Int)>0 by decide,if_true]
    by_cases h:i<0
    ·simp only[h,if_true]<;>omega
    ·simp only[h,if_false]<;>omega
 ·cases hi with
  | none=>simp[VL,HT.sIx]
  | some i=>
    simp only[VL,HT.sIx,Option.getD_none,show(1:Int)>0 by decide,if_true]
    by_cases h:i<0
    ·simp only[h,if_true]<;>omega
    ·simp only[h,if_false]<;>omega
theorem jY(its:List Value)(lo hi:Option Int):slicePick its.toArray lo hi none=((its.drop (HT.sIx its.length 0 lo)).take (HT.sIx its.length its.length hi-HT.sIx its.length 0 lo)).toArray:=by
 obtain⟨h1,h2,h3⟩:=nO lo hi its.toArray.size;unfold slicePick;rw[h1,h2,h3];simp only[sliceRange_one,pick_run,Ru]<;>rfl
def rSlL(K:Ra):V->Option Int->Option Int->Hp->VK->Prop:=fun x lo hi H Q=>∃a xs,x=.ref a/\SqL K H a xs/\∀p,H p=none->Q (.ref p) (upd H p (.lst (cutV xs lo hi)))
theorem Hn:SlR X (rSlL X.K):=by
 intro pins s σ H x v vl vu lo hi sl Q I rx hs pl pu h;obtain⟨a,xs,rfl,hx,q⟩:=h;cases rx;obtain⟨its,r,ht,hz⟩:=I.list hx;have hlen:=r.length;refine⟨"list",_,slot_list_getitem.lookup,ht.isList.typeIs,?_⟩;refine wpAny_getItem_list_slice ht.isList hs pl pu .none (by simp) ?_ (by rw[Ru]<;>omega);rw[jY,<-hlen];refine⟨.ref s.heap.objs.size,_,I.laid (t':=s.toks) (o:=.lst (cutV xs lo hi)) (fun b ob q=>R7 _ q) (Nat.le_refl _) ?_,rfl,q _ (I.hok.fresh (Nat.le_refl _))⟩;exact⟨Nat.le_trans (qm xs lo hi) hz,_,0,(r.drop (HT.sIx xs.length 0 lo)).take (HT.sIx xs.length xs.length hi-HT.sIx xs.length 0 lo),Rp _ rfl⟩
noncomputable def jD:V->Bool
 | .non=>true
 | .bl _=>true
 | .int _=>true
 | .str _=>true
 | _=>false
noncomputable def eqV:V->V->Bool
 | .non,.non=>true
 | .bl a,.bl b=>a==b
 | .bl a,.int b=>(if a then 1 else 0)==b
 | .int a,.bl b=>a==(if b then 1 else 0)
 | .int a,.int b=>a==b
 | .str a,.str b=>a==b
 | _,_=>false
theorem LC(ry:RelV y u)(rx:RelV x v)(fy:jD y=true)(fx:jD x=true):SX A s u v (eqV y x):=by
 cases y with
 | non=>
   cases ry
   cases x with
   | non=>cases rx;exact SX.same _
   | bl b=>cases rx;exact SX.none_bool b
   | int b=>obtain⟨t,rfl⟩:=rx;exact SX.none_int b t
   | str b=>obtain⟨t,rfl⟩:=rx;exact SX.none_str b t
   | _=>exact absurd (show false=true from fx) Bool.false_ne_true
 | bl a=>
   cases ry
   cases x with
   | non=>cases rx;exact SX.bool_none a
   | bl b=>cases rx;exact SX.bool_bool a b
   | int b=>obtain⟨t,rfl⟩:=rx;exact SX.bool_int a b t
   | str b=>obtain⟨t,rfl⟩:=rx;exact SX.bool_str a b t
   | _=>exact absurd (show false=true from fx) Bool.false_ne_true
 | int a=>
   obtain⟨t',rfl⟩:=ry
   cases x with
   | non=>cases rx;exact SX.int_none a t'
   | bl b=>cases rx;exact SX.int_bool a t' b
   | int b=>obtain⟨t,rfl⟩:=rx;exact SX.int_int a t' b t
   | str b=>obtain⟨t,rfl⟩:=rx;exact SX.int_str a t' b t
   | _=>exact absurd (show false=true from fx) Bool.false_ne_true
 | str a=>
   obtain⟨t',rfl⟩:=ry
   cases x with
   | non=>cases rx;exact SX.str_none a t'
   | bl b=>cases rx;exact SX.str_bool a t' b
   | int b=>obtain⟨t,rfl⟩:=rx;exact SX.str_int a t' b t
   | str b=>obtain⟨t,rfl⟩:=rx;exact SX.str_str a t' b t
   | _=>exact absurd (show false=true from fx) Bool.false_ne_true
 | _=>exact absurd (show false=true from fy) Bool.false_ne_true
noncomputable def eqU(x:V)(u:Value):Bool:=match u with
 | .none=>eqV .non x
 | .bool b=>eqV (.bl b) x
 | .int i _=>eqV (.int i) x
 | .str z _=>eqV (.str z) x
 | _=>false
theorem Cz(r:RelV y u)(f:jD y=true):eqU x u=eqV y x:=by
 cases y with
 | non=>cases r;rfl
 | bl b=>cases r;rfl
 | int i=>obtain⟨t,rfl⟩:=r;rfl
 | str z=>obtain⟨t,rfl⟩:=r;rfl
 | _=>exact absurd (show false=true from f) Bool.false_ne_true
theorem iW:∀{xs:List V} {us:List Value},Vals xs us->xs.all jD=true->us.any (eqU x)=xs.any fun y=>eqV y x
 | _,_,.nil,_=>rfl
 | y::xs,u::us,.cons r t,f=>by
   rw[W7,Bool.and_eq_true]at f;rw[S6,S6,Cz r f.1,iW t f.2]
theorem fV(rx:RelV x v)(fx:jD x=true):∀{xs:List V} {us:List Value},Vals xs us->xs.all jD=true->∀u∈us,SX A s u v (eqU x u)
 | _,_,.nil,_=>fun u hu=>by cases hu
 | y::xs,u::us,.cons r t,f=>fun u' hu=>by
   rw[W7,Bool.and_eq_true]at f;rcases Rh.mp hu with rfl | hu
   ·rw[Cz r f.1];exact LC r rx f.1 fx
   ·exact fV rx fx t f.2 u' hu
noncomputable def inV(x:V)(xs:List V):Bool:=xs.any fun y=>eqV y x
def rIn(K:Ra)(neg:Bool):R2:=fun x y H Q=>∃p xs,y=.ref p/\(SqL K H p xs\/SqT K H p xs)/\jD x=true/\xs.all jD=true/\Q (.bl (if neg then !inV x xs else inV x xs)) H
theorem oJ:OpR X (TX .In) (rIn X.K false):=by
 intro pins s σ H x y v u Q I rx ry h;obtain⟨p,xs,rfl,hq,fx,fs,q⟩:=h;cases ry;rcases hq with hq | hq
 ·obtain⟨its,r,pl,hz⟩:=I.list hq
  refine SeqAt.in_listAt (eqU x) pl.isList (fun w hw=>fV rx fx r fs w (by simpa using hw)) ⟨.bl _,H,I,rfl,?_⟩;rw[show its.toArray.any (eqU x)=its.any (eqU x) by simp,iW r fs];exact q
 ·obtain⟨its,r,pl,hz⟩:=I.tuple hq
  refine SeqAt.in_tupleAt (eqU x) pl (fun w hw=>fV rx fx r fs w (by simpa using hw)) ⟨.bl _,H,I,rfl,?_⟩;rw[show its.toArray.any (eqU x)=its.any (eqU x) by simp,iW r fs];exact q
theorem gU:OpR X (TX .NotIn) (rIn X.K true):=by
 intro pins s σ H x y v u Q I rx ry h;obtain⟨p,xs,rfl,hq,fx,fs,q⟩:=h;cases ry;rcases hq with hq | hq
 ·obtain⟨its,r,pl,hz⟩:=I.list hq
  refine SeqAt.notIn_listAt (eqU x) pl.isList (fun w hw=>fV rx fx r fs w (by simpa using hw)) ⟨.bl _,H,I,rfl,?_⟩;rw[show its.toArray.any (eqU x)=its.any (eqU x) by simp,iW r fs];exact q
 ·obtain⟨its,r,pl,hz⟩:=I.tuple hq
  refine SeqAt.notIn_tupleAt (eqU x) pl (fun w hw=>fV rx fx r fs w (by simpa using hw)) ⟨.bl _,H,I,rfl,?_⟩;rw[show its.toArray.any (eqU x)=its.any (eqU x) by simp,iW r fs];exact q
theorem nM:CallR X (.builtin "len") (fun xs H Q=>∃p ys,xs=[.ref p]/\(SqL X.K H p ys\/SqT X.K H p ys)/\Q (.int ys.length) H):=by
 intro pins s σ H xs us Q I r h;obtain⟨p,ys,rfl,hq,q⟩:=h;obtain⟨u,rfl,rx⟩:=vals1 r;cases rx;have hn:=j7;rcases hq with hq | hq
 ·obtain⟨its,r',pl,hz⟩:=I.list hq
  have hlen:=r'.length;exact Calls.call_len_list pl.isList (by simp only[Ru]<;>omega) ⟨.int ys.length,H,I.tok _,⟨s.toks+1,by rw[Ru,hlen]⟩,q⟩
 ·obtain⟨its,r',pl,hz⟩:=I.tuple hq
  have hlen:=r'.length;exact len_tuple pl (by simp only[Ru]<;>omega) ⟨.int ys.length,H,I.tok _,⟨s.toks+1,by rw[Ru,hlen]⟩,q⟩
theorem mz:CallR X (.builtin "len") (fun xs H Q=>∃z,xs=[.str z]/\z.length<=sizeLine/\Q (.int z.length) H):=by
 intro pins s σ H xs us Q I r h;obtain⟨z,rfl,hz,q⟩:=h;obtain⟨u,rfl,t,rfl⟩:=vals1 r;have hn:=j7;exact len_str (by omega) ⟨.int z.length,H,I.tok _,⟨_,rfl⟩,q⟩
theorem CallR.or(h:CallR X f r)(h':CallR X f r'):CallR X f (fun xs H Q=>r xs H Q\/r' xs H Q):=by
 intro pins s σ H xs us Q I rs q;rcases q with q | q
 ·exact h pins s σ H xs us Q I rs q
 ·exact h' pins s σ H xs us Q I rs q
theorem lV:CallR X (.type "tuple") (fun xs H Q=>∃p ys,xs=[.ref p]/\((SqL X.K H p ys/\∀l,H l=none->Q (.ref l) (upd H l (.tup ys)))\/(SqT X.K H p ys/\Q (.ref p) H))):=by
 intro pins s σ H xs us Q I r h;obtain⟨p,ys,rfl,h⟩:=h;obtain⟨u,rfl,rx⟩:=vals1 r;cases rx;rcases h with⟨hq,q⟩ | ⟨hq,q⟩
 ·obtain⟨its,r',pl,hz⟩:=I.list hq
  have hlen:=r'.length;refine call_tuple_list pl.isList (fun h' kp=>?_) (by simp only[Ru]<;>omega);have I1:Inv X pins σ H { s with heap:=h' }:=I.kept (t':=s.toks) kp
  have I2:Inv X pins σ (upd H h'.objs.size (.tup ys)) { s with heap:=h'.push { cls:=.type "tuple",data:=.seq its.toArray } } :=
   I1.laid (t':=s.toks) (fun b o e=>R7 _ e) (Nat.le_refl _) (show ObjOk X.prog X.w _ _ _ (.tup ys)from⟨hz,its,r',IsTup.new _ _⟩)
  exact⟨.ref h'.objs.size,_,I2,rfl,q _ (I1.hok.fresh (Nat.le_refl _))⟩
 ·obtain⟨its,r',pl,hz⟩:=I.tuple hq
  exact call_tuple_same pl ⟨.ref p,H,I,rfl,q⟩
def tyV(K:Ra)(T:String)(x:V)(H:Hp):Prop:=match x with
 | .str _=>T="str"
 | .int _=>T="int"
 | .ref p=>(T="list"/\∃xs,SqL K H p xs)\/(T="tuple"/\∃o,K.lookup p=some o/\o.cls=.type "tuple"/\o.dict=none) \/
  (T="dict"/\((∃kvs ep,H p=some (.dK kvs ep))\/∃kvs,H p=some (.dT kvs)))\/(T="set"/\∃S n,H p=some (.set S n))
 | _=>False
theorem Mi{pins:List (Addr×Obj)}{σ:St}{H:Hp}{s:Shared}{T:String}{x:V}{v:Value}(I:Inv X pins σ H s)(r:RelV x v)(ty:tyV X.K T x H) :
 s.TypeIs v T/\∀a,v=.ref a->∃ob,s.heap.get? a=some ob/\ob.dict=none:=by
 cases x with
 | str z=>
   obtain⟨t,rfl⟩:=r;cases (show T="str" from ty);exact⟨typeIs_str s z t,fun _ e=>nomatch e⟩
 | int i=>
   obtain⟨t,rfl⟩:=r;cases (show T="int" from ty);exact⟨typeIs_int s i t,fun _ e=>nomatch e⟩
 | ref p=>
   cases r;rcases ty with⟨rfl,xs,hq⟩ | ⟨rfl,o,hk,hc,hd⟩ | ⟨rfl,hk⟩ | ⟨rfl,S,n,hk⟩
   ·obtain⟨its,_,pl,_⟩:=I.list hq
    refine⟨pl.isList.typeIs,fun a e=>?_⟩;cases e;obtain⟨o,n,e,c,hd,_⟩:=pl;exact⟨o,e,hd⟩
   ·refine⟨⟨o,I.kIn p o hk,hc⟩,fun a e=>?_⟩
    cases e;exact⟨o,I.kIn _ o hk,hd⟩
   ·have z:∃o,s.heap.get? p=some o/\o.ExactDict:=by
     rcases hk with⟨kvs,ep,hk⟩ | ⟨kvs,hk⟩
     ·obtain⟨_,_,_,_,o,_,e,ex,_⟩:=I.hok p _ hk
      exact⟨o,e,ex⟩
     ·obtain⟨_,_,_,_,o,_,_,e,ex,_⟩:=I.hok p _ hk
      exact⟨o,e,ex⟩
    obtain⟨o,e,ex⟩:=z;refine⟨⟨o,e,ex.1⟩,fun a e2=>?_⟩;cases e2;exact⟨o,e,ex.2.1⟩
   ·obtain⟨o,_,_,_,e,ex,_⟩:=I.hok p _ hk
    refine⟨⟨o,e,ex.1⟩,fun a e2=>?_⟩;cases e2;exact⟨o,e,ex.2.1⟩
 | _=>exact RC ty
def tBM(K:Ra)(T:String)(r:V->List V->Hp->VK->Prop)(to:TE)(t:TA):TE:=fun σ H Q=>to σ H fun x H1=>tyV K T x H1/\t σ H1 fun xs H2=>r x xs H2 Q
variable{o e:Expr}{es:List Expr}{to:TE}{t:TA}{name:Str}{apos cpos:Pos}{T id:String}{r:V->List V->Hp->VK->Prop}
theorem Fw(pa:PlainAttrs T)(slot:Slot T name id)(hty:typeOf (.builtin id)=pure (.type "method_descriptor"))(hm:MtR X id r)(ho:PE X o to)(ha:PA X (e::es) t)
 (hbase:V7 o name X.env (Sv o X.env)=Sv o X.env:=by rfl)
 (hfew:((SN cpos (Rj (e::es) X.env)).all (fun x=>!x.1)&&(UW cpos (Tr [] X.env)).all (fun x=>x.1.isSome)
  && decide ((e::es).length+([]:List Wi).length+(if([]:List Wi).isEmpty then 0 else 1)<30))=true:=by rfl)
 (hline:(apos.endLine==cpos.line)=true:=by rfl) (hs:Rj (e::es) X.env=(false,Sv e X.env)::Rj es X.env:=by rfl) (hplain:(SN cpos (Rj es X.env)).any (·.1)=false:=by rfl) :
 PE X (.Call (.Attribute o name apos) (e::es) [] cpos) (tBM X.K T r to t):=by
 intro pins s σ H Q I h;refine wpAny_Call_method_late hbase hfew hline rfl (thn (ho pins s σ H _ I h) fun v s1 ⟨x,H1,I1,r1,ty,q1⟩=>?_);obtain⟨h1,h2⟩:=Mi I1 r1 ty;refine⟨T,id,pa,slot,hty,h1,h2,?_⟩;have hA:=ha cpos pins s1 σ H1 _ I1 q1;rw[hs]at hA ⊢;refine Calls.callWith_builtin (by show(false||(SN cpos (Rj es X.env)).any (·.1))=false;rw[hplain]<;>rfl) (Calls.evalArgs_plain ?_)
 exact thn hA fun us s2 ⟨vs,H2,I2,r2,q2⟩=>hm pins s2 σ H2 x vs v us Q I2 r1 r2 q2
end
end L2
namespace L2
open PySem PySem.Spec PyProof.Rows
def MtM(X:Cx)(id:String)(r:V->List V->Hp->VK->Prop):Prop :=
 ∀(pins:List (Addr×Obj)) (s:Shared) (σ:St) (H:Hp) (x:V) (xs:List V) (v:Value) (us:List Value) (Q:VK),Inv X pins σ H s->RelV x v->Vals xs us->r x xs H Q ->
  Rn (Rt X.prog X.w) X.A (call (.builtin id) (v::us)) (EP X pins σ Q) X.xe s
theorem Vals.one:∀{x:V} {us:List Value},Vals [x] us->∃u,us=[u]/\RelV x u
 | _,_,.cons r .nil=>⟨_,rfl,r⟩
section
variable{X:Cx}{pins:List (Addr×Obj)}{σ:St}{H:Hp}{s:Shared}{l b:Addr}{xs ys zs:List V}
theorem Inv.lset{its its':List Value}{n:Nat}{f:Array Value->Array Value}{t':Nat}(I:Inv X pins σ H s)(hH:H l=some (.lst xs))
 (e:s.heap.get? l=some { cls:=.type "list",data:=.seq its.toArray n }) (hf:f its.toArray=its'.toArray) (hv:Vals ys its') (hz:ys.length<=sizeLine) :
 Inv X pins σ (upd H l (.lst ys)) { s with heap:=s.heap.update l (VB f),toks:=t' }:=by
 have q:=PySem.IsL.update e f;rw[hf]at q;refine I.write (x:=l) (e:=l) (by rw[hH];exact trivial) (.inl rfl) (fun b' u hb hu=>(RN s.heap (VB f) (T5 hb)).trans hu) ⟨_,q⟩ ?_;exact⟨hz,its',_,hv,q⟩
theorem Inv.lnew(I:Inv X pins σ H s)(hv:Vals ys its)(hz:ys.length<=sizeLine) :
 Inv X pins σ (upd H s.heap.objs.size (.lst ys)) { s with heap:=s.heap.push { cls:=.type "list",data:=.seq its.toArray },toks:=t' } :=
 I.laid (fun _ _ q=>R7 _ q) (Nat.le_refl _) ⟨hz,its,0,hv,Rp _ rfl⟩
theorem Inv.fresh(I:Inv X pins σ H s):H s.heap.objs.size=none:=I.hok.fresh (Nat.le_refl _)
theorem Inv.lstM(I:Inv X pins σ H s)(hH:H l=some (.lst xs)):xs.length<=sizeLine/\∃(its:List Value) (n:Nat),Vals xs its/\xs.length=its.length/\s.heap.get? l=some { cls:=.type "list",data:=.seq its.toArray n }:=by
 obtain⟨z,its,n,r,e⟩:=I.hok l _ hH;exact⟨z,its,n,r,r.length,e⟩
theorem zY(h:n<=sizeLine):Sw.List.listTooLong n=false:=by
 unfold Sw.List.listTooLong;exact decide_eq_false (by omega)
end
section
variable{X:Cx}
def HX:V->List V->Hp->VK->Prop:=fun x vs H Q=>∃l xs y,x=.ref l/\vs=[y]/\H l=some (.lst xs)/\xs.length<sizeLine/\Q .non (upd H l (.lst (xs++[y])))
theorem nA:MtM X "list.append" HX:=by
 intro pins s σ H x vs v us Q I rx rv h;obtain⟨l,xs,y,rfl,rfl,hH,hz,q⟩:=h;cases rx;obtain⟨u,rfl,ru⟩:=rv.one;obtain⟨z,its,n,r,hl,e⟩:=I.lstM hH;refine call_meets F.slot_list_append ⟨_,e,rfl⟩ F.entry_list_append (F.args_list_append_2 _ _) (PySem.list_append l its.toArray n u (by rw[Ru];omega)) ⟨e,?_⟩;refine⟨.non,_,I.lset (its':=its++[u]) hH e (by simp) (r.append (.cons ru .nil)) ?_,rfl,q⟩;rw[Rx,List.length_singleton];omega
def Ey:V->List V->Hp->VK->Prop:=fun x vs H Q=>∃l b xs zs,x=.ref l/\vs=[.ref b]/\H l=some (.lst xs)/\H b=some (.lst zs)/\xs.length+zs.length<=sizeLine/\Q .non (upd H l (.lst (xs++zs)))
theorem xX:MtM X "list.extend" Ey:=by
 intro pins s σ H x vs v us Q I rx rv h;obtain⟨l,b,xs,zs,rfl,rfl,hH,hB,hz,q⟩:=h;cases rx;obtain⟨u,rfl,ru⟩:=rv.one;cases ru;obtain⟨z,its,n,r,hl,e⟩:=I.lstM hH;obtain⟨z2,its2,n2,r2,hl2,e2⟩:=I.lstM hB
 have hsz:its.toArray.size+its2.toArray.size<=sizeLine:=by rw[Ru,Ru];omega
 have hlong:¬(!its.toArray.isEmpty&&Sw.List.listTooLong (its.toArray.size+its2.toArray.size))=true:=by
  rw[zY hsz,Bool.and_false];exact Bool.false_ne_true
 refine call_meets F.slot_list_extend ⟨_,e,rfl⟩ F.entry_list_extend (F.args_list_extend_2 _ _)
  (AutoSeq1.list_extend_list_list_0 l its.toArray n b its2.toArray n2 hlong (by rw[Ru];omega) (by omega)) ⟨e,e2,?_⟩
 refine⟨.non,_,I.lset (its':=its++its2) hH e (by simp) (r.append r2) ?_,rfl,q⟩;rw[Rx];omega
end
section
variable{prog:Rz}{w:RT}{A:RV}{E:Value->Shared->Prop}{s:Shared}
set_option maxRecDepth 100000 in
end
section
variable{X:Cx}
end
end L2
namespace Att
open PySem PySem.W PySem.Calls PyProof.Rows
theorem j9:∀(ns:List Int) (vs:List Value),WellAll P h vs (ns.map WData.int)->WM vs ns:=by
 intro ns
 induction ns with
 | nil=>
   intro vs w;rw[RQ]at w;cases w;exact .nil
 | cons n ns ih=>
   intro vs w;rw[R8]at w
   cases w with
   | cons a b=>
     cases a;exact .cons _ _ (ih _ b)
theorem wg{l:OpenLaw}{n:Nat}(hn:l.most=some n){P:Xe}{h:Rk}{args:List WData}{vals:List Value}
 (hpre:l.row.toRowW.claim.pre args=true) (hwl:WellAll P h vals args) :
 ∃a vs ns,vals=[Value.ref a]/\args=[WData.list (ns.map WData.int)]/\h.get? a=some { cls:=.type "list",data:=.seq vs.toArray }/\WM vs ns/\ns.length<=n:=by
 have hsh:WShape.hasAll [] args [.list .int]=true:=(pre_splitW hpre).1;have hc:l.pre.holds [] { args:=args }=true:=(pre_splitW hpre).2;obtain⟨d,r,rfl,h1,h2⟩:=hasAllW_cons hsh;obtain rfl:=hasAllW_nil h2;obtain⟨xs,rfl,h3⟩:=hasW_list h1;obtain⟨ns,rfl⟩:=items_int h3
 have hlen:ns.length<=n:=by
  unfold OpenLaw.pre at hc
  have h4:(WTm.not (.lt (.lit (.int (n:Int))) (.len (.arg 0)))).holds [] { args:=[.list (ns.map .int)] }=true:=by
   have h4:=(holds_andW hc).1;rw[hn]at h4;exact h4
  have h5:=condW_of h4 (w_not (w_lt w_lit (w_len_list (w_arg rfl))));rw[Rw]at h5
  refine Nat.le_of_not_lt fun q=>?_
  have q':(n:Int)<((ns.length:Nat):Int):=by omega
  first
   | (rw[decide_eq_true q']at h5;exact absurd h5 (by decide))
   | (simp at h5;omega)
 cases hwl with
 | cons w1 w2=>
   cases w2
   cases w1 with
   | list ho hall=>exact⟨_,_,ns,rfl,rfl,ho,j9 ns _ hall,hlen⟩
theorem yp(l:OpenLaw)(args:List WData):l.row.toRowW.claim.post args (.bool true) args=true :=
 postW_of (r:=l.row.toRowW) (X:=(true==true))
  (show WShape.has [] (.bool true) .bool=true by first | rfl | decide | simp[WShape.has,WShape.arms,WShape.armsAll])
  (show(WTm.eq .res (.lit (.bool true))).value [] { args:=args,res:=some (.bool true),after:=args }=some (.bool (true==true))from w_eq_bool (w_res rfl) w_lit) rfl
theorem attach_call{l:OpenLaw}{n:Nat}{q:Rz}{loose:List Str}{XP:(Str->Option Value)->Rk->Prop}{YP:RT->Rk->Prop}{d:DefRec}
 (hn:l.most=some n) (hdf:d.params.defaults=[])
 (call:∀(w:RT) (s₀ s₁:Shared) (mg mb:Str->Option Value) (fa:Addr) (o:Obj) (pm cd doc:Value) (a:Addr) (vs:List Value) (ns:List Int),
  Ground q loose [] XP w s₀ mg mb s₁.heap->YP w s₁.heap ->
  s₁.heap.get? fa=some o->o.data=.func (docDef d.name d.params d.body d.scope pm cd doc)->s₁.heap.CodeRec cd d.name->mg d.name=some (.ref fa) ->
  s₁.heap.get? a=some { cls:=.type "list",data:=.seq vs.toArray }->WM vs ns->ns.length<=n->s₁.gens=#[] ->
  Vx (Rt l.prog w) WL (.call (.ref fa) ⟨[.ref a],[]⟩) (fun r s'=>r=.ok (.ret (.bool true))/\OldK s₁.heap s'.heap/\s'.os=s₁.os/\VJ s'.gens) s₁) :
 WalkO q loose XP YP l.row.toRowW d [] (fun f vs=>PySem.call f vs):=by
 intro w s₀ s₁ mg mb G Y fa o pm cd doc dV kV ho hd hcd hD hmg hg args vals as hpre hlay hrd hwl hlo;obtain rfl:dV=.none:=Dflts.none hD hdf;obtain rfl:kV=.none:=Dflts.noKw hD;obtain⟨a,vs,ns,rfl,rfl,hobj,hints,hlen⟩:=wg hn hpre hwl;refine enter_call (Uj (call w s₀ s₁ mg mb fa o pm cd doc a vs ns G Y ho (fd_plain hd) hcd hmg hobj hints hlen hg) fun r s' hq=>?_);obtain⟨rfl,h2,h3,h4⟩:=hq;exact⟨.inl ⟨.bool true,.bool true,[],rfl,fun _=>rfl,.bool true,yp l _,fun _=>⟨List.Pairwise.nil,fun _ hm=>(nomatch hm)⟩⟩,h2,h3,h4⟩
section
variable{prog:Rz}{w:RT}{A:RV}{E:Value->Shared->Prop}{s:Shared}{K:Frag}
end
end Att
namespace L2
open PySem PySem.Spec PyProof.Rows
theorem oE:∀{vs:List Value} {ns:List Int},WM vs ns->Vals (ns.map V.int) vs
 | _,_,.nil=>.nil
 | _,_,.cons n t h=>.cons ⟨t,rfl⟩ (oE h)
def Only(H:Hp):Prop:=∀b,H b=none\/∃o xs,H b=some (.frz o (.lst xs))
theorem By{P:Rz}{w:RT}{K:Ra}{mg mb:Str->Option Value}{CX:CXT}{k:Nat}{fa a:Addr}{fd:V0}{x:Str}{sp:Sp}{s₁:Shared}{vs:List Value}{ns:List Int}
 (KX:K.In s₁.heap) (hns:s₁.heap.Ns Sh mg) (hb:s₁.heap.Ns builtinsNs mb) (hbb:∀x:Str,x≠"__name__"->mb x=U8 x) (hlim:s₁.heap.NoLimit) (hg:s₁.gens=#[])
 (ha:s₁.heap.get? a=some { cls:=.type "list",data:=.seq vs.toArray }) (hi:WM vs ns) (hl:ns.length<=sizeLine) (hr:Room k WL)
 (F:∀base:Rk,K.In base->base.Ns Sh mg->FnOk P w K mg base CX k fa fd [x] sp) (hbind:∀(s:Shared) (u:Value),X4 s fd ⟨[u],[]⟩ [(x,u)])
 (hsp:∀H:Hp,Only H->SqL K H a (ns.map V.int)->sp [.ref a] H (fun v _=>v=.bl true) fun _ _ _=>False)
 (hCX:∀H e s',CX [] H s₁ (fun _ _ _=>False) e s'->False) :
 Vx (Rt P w) WL (.call (.ref fa) ⟨[.ref a],[]⟩) (fun r s'=>r=.ok (.ret (.bool true))/\OldK s₁.heap s'.heap/\s'.os=s₁.os/\VJ s'.gens) s₁:=by
 have rv:=oE hi;have lenV:=hi.length
 have core:∀H:Hp,Only H->SqL K H a (ns.map V.int)->HOk P w H s₁.heap->(∀b,H b≠none->b=a)->(H a≠none->K.lookup a=none) ->
  Vx (Rt P w) WL (.call (.ref fa) ⟨[.ref a],[]⟩) (fun r s'=>r=.ok (.ret (.bool true))/\OldK s₁.heap s'.heap/\s'.os=s₁.os/\VJ s'.gens) s₁:=by
  intro H hO hS hok hA hK
  have cM:∀{b:Addr} {o:Obj},s₁.heap.get? b=some o->H b=none->(hidT s₁.heap H).get? b=some o:=fun e n=>zG e n
  have noA:∀{b:Addr} {o:Obj} {es:Array DictEntry} {ep:Nat},s₁.heap.get? b=some o->o.data=.dict es ep->H b=none:=fun{b o es ep} e d=>by
   cases q:H b with
   | none=>rfl
   | some u=>
     have e':b=a:=hA b (by rw[q];simp);subst e';rw[ha]at e;cases e;have d':Wt.seq vs.toArray _=Wt.dict es ep:=d;cases d'
  have nsK:∀{b:Addr} {m:Str->Option Value},s₁.heap.Ns b m->(hidT s₁.heap H).Ns b m:=fun{b m} ⟨o,es,ep,e,d,r⟩=>⟨o,es,ep,cM e (noA e d),d,r⟩
  have hKb:K.In (hidT s₁.heap H):=fun b o e=>cM (KX b o e) (by
   cases q:H b with
   | none=>rfl
   | some u=>
     have e':b=a:=hA b (by rw[q];simp);subst e'
     rw[hK (by rw[q];simp)]at e;cases e)
  have hM:Mod K mg (hidT s₁.heap H):=⟨hKb,nsK hns,⟨mb,nsK hb,hbb⟩,let⟨mc,h1,h2⟩:=hlim;⟨mc,nsK h1,h2⟩⟩
  have e0:Env0 P w K mg (hidT s₁.heap H) WL [] s₁ H:=⟨rfl,hM,fun b o e=>Hv e,Nat.le_of_eq (vP _ _),trivial,fun b hb=>absurd (show b∈([]:List Addr)from hb) (by simp),hok,.of_eq hg⟩
  refine Uj ((F _ hKb (nsK hns)).run WL [] s₁ H ⟨[.ref a],[]⟩ [.ref a] [.ref a] _ _ hr e0 (hbind s₁ (.ref a)) (.cons rfl .nil) (hsp H hO hS)) fun r s' h=>?_
  cases r with
  | error e=>exact(hCX H e s' h).elim
  | ok fl=>
    cases fl with
    | next=>exact RC h
    | brk=>exact RC h
    | cont=>exact RC h
    | ret u=>
      obtain⟨v,H',os,bare,un,hok',r',q⟩:=h;have q':v=.bl true:=q;subst q';obtain rfl:u=Value.bool true:=r';refine⟨rfl,OldK.of_keep fun b o e=>?_,os,bare⟩
      cases q:H b with
      | none=>exact un.keep b o e q (by intro z;exact absurd (show b∈([]:List Addr)from z) (by simp)) (by simp)
      | some u=>
        rcases hO b with z | ⟨ob,xs,z⟩
        ·rw[q]at z;cases z
        ·have z2:=un.frzs b ob _ z
         obtain⟨e1,_⟩:=hok b _ z;obtain⟨e2,_⟩:=hok' b _ z2;rw[e]at e1;cases e1;exact e2
 cases hk:K.lookup a with
 | some o=>
   have e:=KX a o hk;rw[ha]at e;cases e
   refine core (fun _=>none) (fun _=>.inl rfl) (.inr ⟨_,vs.toArray,_,hk,rfl,rfl,rfl,by rw[Ru,lenV];exact hl,by simpa using rv⟩) (fun b u z=>by have z':(none:Option HO)=some u:=z;cases z') (fun b z=>absurd rfl z) fun z=>absurd rfl z
 | none=>
   refine core (fun b=>if b=a then some (.frz { cls:=.type "list",data:=.seq vs.toArray } (.lst (ns.map V.int)))else none) (fun b=>?_) (.inl (.inr ⟨{ cls:=.type "list",data:=.seq vs.toArray },if_pos rfl⟩)) (fun b u z=>?_) (fun b z=>?_) fun _=>hk
   ·by_cases hb:b=a
    ·exact .inr ⟨_,_,if_pos hb⟩
    ·exact .inl (if_neg hb)
   ·by_cases hb:b=a
    ·have z':=(if_pos hb).symm.trans z
     cases z';subst hb;exact⟨ha,by rw[Rw];exact hl,vs,_,rv,ha⟩
    ·have z':=(if_neg hb).symm.trans z
     cases z'
   ·by_cases hb:b=a
    ·exact hb
    ·exact absurd (if_neg hb) z
end L2
namespace L2
open PySem PySem.Spec PyProof.Rows
theorem walk_of{l:PySem.W.OpenLaw}{n k:Nat}{q:Rz}{loose:List Str}{XP:(Str->Option Value)->Rk->Prop}{YP:RT->Rk->Prop}{d:DefRec}{K:Xe->Ra}{CX:RT->CXT}{sp:RT->Sp}{x:Str}
 (hn:l.most=some n) (hn2:n<=sizeLine) (hdf:d.params.defaults=[]) (hr:Room k WL)
 (hY:∀(w:RT) (h:Rk),YP w h->(K w.params).In h)
 (F:∀(w:RT) (mg:Str->Option Value) (fa:Addr) (h:Rk),(K w.params).In h->h.Ns Sh mg->mg d.name=some (.ref fa) ->
  ∃fd:V0,(∀(s:Shared) (u:Value),X4 s fd ⟨[u],[]⟩ [(x,u)]) /\
   ∀base:Rk,(K w.params).In base->base.Ns Sh mg->FnOk l.prog w (K w.params) mg base (CX w) k fa fd [x] (sp w))
 (hsp:∀(w:RT) (H:Hp) (a:Addr) (ns:List Int),ns.length<=n->Only H->SqL (K w.params) H a (ns.map V.int)->sp w [.ref a] H (fun v _=>v=.bl true) fun _ _ _=>False)
 (hCX:∀(w:RT) (H:Hp) (s:Shared) (e:Value) (s':Shared),CX w [] H s (fun _ _ _=>False) e s'->False) :
 PySem.W.WalkO q loose XP YP l.row.toRowW d [] (fun f vs=>PySem.call f vs):=by
 refine Att.attach_call hn hdf fun w s₀ s₁ mg mb fa o pm cd doc a vs ns G Y ho hd hcd hmg hobj hints hlen hg=>?_
 have KX:=hY w _ Y;obtain⟨fd,hb,hF⟩:=F w mg fa _ KX G.T.g hmg
 exact By KX G.T.g G.T.b G.T.builtins G.T.nolimit hg hobj hints (Nat.le_trans hlen hn2) hr hF hb (fun H hO hS=>hsp w H a ns hlen hO hS) fun H e s'=>hCX w H s₁ e s'
end L2
namespace L2
open PySem PySem.Spec PyProof.Rows
def bU(s:Stmt):Arguments:=match s with
 | .FunctionDef _ a _ _ _ _ _ _ _ _=>a
 | _=>{ posonlyargs:=[],args:=[],vararg:=none,kwonlyargs:=[],kw_defaults:=[],kwarg:=none,defaults:=[] }
noncomputable def bB(s:Stmt):List Stmt:=match s with
 | .FunctionDef _ _ b _ _ _ _ _ _ _=>b
 | _=>[]
noncomputable def aF(s:Stmt):Scope:=match s with
 | .FunctionDef _ _ _ _ _ _ sc _ _ _=>sc
 | _=>{ kind:=.function,names:=[],isGenerator:=false,isCoroutine:=false }
abbrev CX0:CXT:=fun _ _ _ _ _ _=>False
abbrev E0:XK:=fun _ _ _=>False
theorem uo:gO CX0 X E0:=fun _ _ _ _ _ _ _ h=>h.elim
structure Fun(K:Ra)(x qual:Str)(st:Stmt)(f:Addr)(fd:V0):Prop where
 ex:∃(oc:Value) (od:Option Addr) (kV doc pm:Value) (an:Option Addr) (cdv ct:Value) (osl:Array (Option Value)) (dV:Value),
  fd=Uc x qual (bU st) (bB st) (aF st) dV kV doc pm an cdv ct/\K.lookup f=some ⟨oc,od,.func fd,osl⟩/\V4 K cdv qual=true
 kp:RL K (.ref f)=true
section
variable{P:Rz}{w:RT}{K:Ra}{mg:Str->Option Value}{base:Rk}
theorem yO{x qual:Str}{st:Stmt}{f:Addr}{oc:Value}{od an:Option Addr}{osl:Array (Option Value)}{dV kV doc pm cdv ct:Value}(l:K.lookup f=some ⟨oc,od,.func (Uc x qual (bU st) (bB st) (aF st) dV kV doc pm an cdv ct),osl⟩)
 (c:V4 K cdv qual=true) (k:RL K (.ref f)=true):Fun K x qual st f (Uc x qual (bU st) (bB st) (aF st) dV kV doc pm an cdv ct):=⟨⟨oc,od,kV,doc,pm,an,cdv,ct,osl,dV,rfl,l,c⟩,k⟩
end
theorem xG(hr:Room k A):A.units+1<Wm:=Nat.lt_of_le_of_lt (Nat.add_le_add_left (by decide:1<=64) _) hr.units
section
variable{X:Cx}
theorem uQ:CallR X (.builtin "len") (fun xs H Q=>∃a kvs ep,xs=[V.ref a]/\H a=some (.dK kvs ep)/\Q (.int kvs.length) H):=by
 intro pins s σ H xs us Q I r h;obtain⟨a,kvs,ep,rfl,ha,q⟩:=h;obtain⟨u,rfl,ru⟩:=vals1 r;cases ru
 exact Pb I ⟨ep,.inl ha⟩ fun t s' I'=>⟨.int kvs.length,H,I',⟨t,rfl⟩,q⟩
end
def Same(H H':Hp):Prop:=∀b o,H b=some o->H' b=some o
theorem Same.refl(H:Hp):Same H H:=fun _ _ h=>h
theorem Same.trans(a:Same H H1)(b:Same H1 H2):Same H H2:=fun c o h=>b c o (a c o h)
theorem Same.free(e:Same H H')(h:H' l=Option.none):H l=Option.none:=by
 cases q:H l with
 | none=>rfl
 | some o=>
   rw[e l o q]at h;cases h
theorem Same.seq{K:Ra}{H H':Hp}{a:Addr}{xs:List V}(e:Same H H')(h:SqL K H a xs):SqL K H' a xs:=by
 rcases h with(h | ⟨o,h⟩) | h
 ·exact .inl (.inl (e _ _ h))
 ·exact .inl (.inr ⟨o,e _ _ h⟩)
 ·exact .inr h
section
variable{κ:Type} [DecidableEq κ]
theorem xH{p:κ×V}{r:List (κ×V)}{k:κ}(e:p.1=k):dN (p::r) k=dN r k:=by
 unfold dN;rw[Wc,if_neg (by simp[e])]
theorem wF{p:κ×V}{r:List (κ×V)}{k:κ}(e:¬p.1=k):dN (p::r) k=p::dN r k:=by
 unfold dN;rw[Wc,if_pos (by simp[e])]
end
end L2
namespace Z
inductive DK where
 | i (n:Int)
 | s (x:List Nat)
 deriving DecidableEq
inductive D where
 | non | bl (b:Bool) | int (i:Int) | str (s:List Nat)
 | tup (l:List D) | lst (l:List D) | dct (ks:List DK) (vs:List D) | obj (c:Nat) (ns:List (List Nat)) (vs:List D)
 | err (c:Nat)
inductive R(α:Type)where
 | ok (a:α)
 | exc (c:Nat)
 | stuck
theorem nope{α:Type}{t:α}{p:Prop}(h:(none:Option α)=some t):p:=nomatch h
theorem fB{α:Type}{t:α}{p:Prop}(h:(.stuck:R α)=.ok t):p:=nomatch h
namespace R
noncomputable def bind{α β:Type}(x:R α)(f:α->R β):R β:=match x with
 | .ok a=>f a
 | .exc c=>.exc c
 | .stuck=>.stuck
instance:Monad R where
 pure:=.ok
 bind:=R.bind
@[simp] theorem PJ(a:α)(f:α->R β):(R.ok a >>= f)=f a:=rfl
@[simp] theorem Oh(c:Nat)(f:α->R β):((R.exc c:R α) >>= f)=.exc c:=rfl
@[simp] theorem Jx(f:α->R β):((R.stuck:R α) >>= f)=.stuck:=rfl
@[simp] theorem QC(a:α):(pure a:R α)=.ok a:=rfl
noncomputable def of{α:Type}:Option α->R α
 | some a=>.ok a
 | none=>.stuck
noncomputable def chk(b:Bool){α:Type}(x:R α):R α:=if b then x else .stuck
end R
inductive Own where
 | sh | ow | me
 deriving DecidableEq
abbrev Slot:=Own×D
abbrev Dst:=List (Option Slot)
inductive O2 where
 | add | sub | mul | fdiv | mod | pow | eq | ne | lt | le | gt | ge | is | isnot | «in» | notin
 deriving DecidableEq
inductive Ty where
 | int | bool | str | tup | lst | dct | cls (c:Nat) | ocl (c:Nat) | valueError
 deriving DecidableEq
inductive B1 where
 | len | abs | tuple | list | dict | sorted | sortedSet | lenSet | all | any | str | max | min | sum | int
 deriving DecidableEq
inductive B2 where
 | max | min | divmod | maxd | mind
 deriving DecidableEq
inductive M1 where
 | get | join | startswith | endswith | zfill | lstrip | rstrip | strip | isdigit | isalpha | index | count | find
 deriving DecidableEq
mutual
inductive T where
 | var (i:Nat)
 | cst (d:D)
 | op2 (p:O2) (a b:T)
 | neg (a:T)
 | not (a:T)
 | and (a b:T)
 | or (a b:T)
 | ite (c a b:T)
 | tup (l:TL)
 | lst (l:TL)
 | dnew (ks:List DK) (vs:TL)
 | idx (a i:T)
 | kidx (ks:List DK) (vs:List D) (i:T)
 | kin (ks:List DK) (neg:Bool) (i:T)
 | slc (a:T) (lo hi:T)
 | call (f:Nat) (l:TL)
 | mk (c:Nat) (l:TL)
 | meth (m:List Nat) (o:T) (l:TL)
 | fld (o:T) (f:List Nat)
 | b1 (b:B1) (a:T)
 | b2 (b:B2) (a c:T)
 | m0 (m:M1) (o:T)
 | m1 (m:M1) (o a:T)
 | get2 (o a c:T)
 | isin (a:T) (ty:Ty)
 | fstr (l:TL)
 | comp (caps:List Nat) (m:Nat) (tg:Bool) (it:TI) (cond:T) (elt:T)
inductive TL where
 | nil
 | cons (t:T) (l:TL)
inductive TI where
 | val (t:T)
 | rng1 (t:T)
 | rng2 (a b:T)
 | rng3 (a b c:T)
 | zip (a b:T)
 | enum (a:T)
end
mutual
inductive S where
 | set (i:Nat) (e:T)
 | sett (is:List Nat) (e:T)
 | seti (i:Nat) (k e:T)
 | setf (i:Nat) (f:List Nat) (e:T)
 | setx (i f:Nat) (l:TL)
 | append (i:Nat) (e:T)
 | clear (i:Nat)
 | extend (i:Nat) (e:T)
 | update (i:Nat) (e:T)
 | pop1 (j:Option Nat) (i:Nat) (k:T)
 | pop2 (i:Nat) (k e:T)
 | ini (c:Nat) (l:TL)
 | ifs (c:T) (a b:SL)
 | ifq (c:T) (a b:SL)
 | for_ (tg:List Nat) (tup:Bool) (it:TI) (b:SL)
 | while_ (c:T) (b:SL)
 | ret (e:T)
 | retn
 | expr (e:T)
 | raise (c:Nat) (e:T)
 | try_ (b:SL) (c:Nat) (nm:Option Nat) (h:SL)
 | brk | cont | pass
inductive SL where
 | nil
 | cons (s:S) (l:SL)
end
mutual
noncomputable def D.imm:D->Bool
 | .non=>true
 | .bl _=>true
 | .int _=>true
 | .str _=>true
 | .tup l=>immL l
 | .lst _=>false
 | .dct _ _=>false
 | .obj _ _ _=>false
 | .err _=>false
noncomputable def immL:List D->Bool
 | []=>true
 | d::l=>d.imm&&immL l
end
noncomputable def look:List DK->List D->DK->Option D
 | k::ks,v::vs,x=>if k=x then some v else look ks vs x
 | _,_,_=>none
noncomputable def eqS:D->D->Option Bool
 | .non,.non=>some true
 | .non,.int _=>some false
 | .non,.bl _=>some false
 | .non,.str _=>some false
 | .int _,.non=>some false
 | .bl _,.non=>some false
 | .str _,.non=>some false
 | .int i,.int j=>some (decide (i=j))
 | .bl i,.bl j=>some (decide (i=j))
 | .str i,.str j=>some (decide (i=j))
 | .int _,.str _=>some false
 | .str _,.int _=>some false
 | .bl _,.str _=>some false
 | .str _,.bl _=>some false
 | _,_=>none
noncomputable def size(n:Nat):Bool:=decide (n<=16777216)
noncomputable def place(n:Nat)(i:Int):Option Nat:=if 0<=i then(if i<n then some i.toNat else none)else(if 0<=i+n then some (i+n).toNat else none)
noncomputable def clip(n:Nat)(i:Int):Nat:=if 0<=i then min i.toNat n else(i+n).toNat
def uC(n:Nat):Option Int->Nat
 | none=>0
 | some i=>clip n i
def jT(n:Nat):Option Int->Nat
 | none=>n
 | some i=>clip n i
noncomputable def cut{α:Type}(l:List α)(lo hi:Nat):List α:=(l.take hi).drop lo
noncomputable def keyOf:D->Option DK
 | .int i=>some (.i i)
 | .str x=>some (.s x)
 | _=>none
noncomputable def keyD:DK->D
 | .i n=>.int n
 | .s x=>.str x
noncomputable def putV:List DK->List D->DK->D->List D
 | k::ks,v::vs,x,y=>if k=x then y::vs else v::putV ks vs x y
 | _,_,_,y=>[y]
noncomputable def bL:List DK->DK->List DK
 | k::ks,x=>if k=x then k::ks else k::bL ks x
 | [],x=>[x]
def jy:List DK->List D->DK->List D
 | k::ks,v::vs,x=>if k=x then vs else v::jy ks vs x
 | _,vs,_=>vs
def cJ:List DK->DK->List DK
 | k::ks,x=>if k=x then ks else k::cJ ks x
 | [],_=>[]
noncomputable def ltS:List Nat->List Nat->Bool
 | [],[]=>false
 | [],_::_=>true
 | _::_,[]=>false
 | a::x,b::y=>if a<b then true else if b<a then false else ltS x y
noncomputable def insS(x:List Nat):List (List Nat)->List (List Nat)
 | []=>[x]
 | y::l=>if ltS x y then x::y::l else y::insS x l
noncomputable def eG:List (List Nat)->List (List Nat)
 | []=>[]
 | x::l=>insS x (eG l)
noncomputable def strsOf:List D->Option (List (List Nat))
 | []=>some []
 | .str x::l=>(strsOf l).map (x::·)
 | _::_=>none
noncomputable def intsOf:List D->Option (List Int)
 | []=>some []
 | .int x::l=>(intsOf l).map (x::·)
 | _::_=>none
def cN{α:Type} [DecidableEq α]:List α->List α
 | []=>[]
 | x::l=>if x∈l then cN l else x::cN l
noncomputable def truth:D->Option Bool
 | .non=>some false
 | .bl b=>some b
 | .int i=>some (decide (i≠0))
 | .str x=>some (!x.isEmpty)
 | .tup l=>some (!l.isEmpty)
 | .lst l=>some (!l.isEmpty)
 | .dct ks _=>some (!ks.isEmpty)
 | _=>none
noncomputable def bits(i:Int):Nat:=if i=0 then 0 else i.natAbs.log2+1
def dG(a b:Int):Bool:=decide (bits a<=64)||decide (bits b<=64)||decide (bits a+bits b<=134217728)
noncomputable def arith(p:O2)(a b:Int):R (Bool×D):=match p with
 | .add=>.ok (false,.int (a+b))
 | .sub=>.ok (false,.int (a-b))
 | .mul=>.chk (dG a b) (.ok (false,.int (a*b)))
 | .fdiv=>.chk (decide (b≠0)&&decide (b.natAbs.log2<9000)) (.ok (false,.int (a.fdiv b)))
 | .mod=>.chk (decide (b≠0)) (.ok (false,.int (a.fmod b)))
 | .pow=>.chk (decide (0<=b)&&decide (b<=64)&&decide (a.natAbs<18446744073709551616)) (.ok (false,.int (a ^ b.toNat)))
 | .lt=>.ok (false,.bl (decide (a<b)))
 | .le=>.ok (false,.bl (decide (a<=b)))
 | .gt=>.ok (false,.bl (decide (b<a)))
 | .ge=>.ok (false,.bl (decide (b<=a)))
 | _=>.stuck
def fu:D->Bool
 | .non=>true
 | .bl _=>true
 | .int _=>true
 | .str _=>true
 | _=>false
noncomputable def inS(x:D):List D->Option Bool
 | []=>some false
 | y::l=>match eqS y x,inS x l with
   | some s,some t=>some (s||t)
   | _,_=>none
noncomputable def isIn(a b:D):Option Bool:=match b with
 | .lst l=>if fu a then inS a l else none
 | .tup l=>if fu a then inS a l else none
 | .dct ks _=>(keyOf a).map fun k=>decide (k∈ks)
 | .str y=>match a with
   | .str [c]=>some (decide (c∈y))
   | _=>none
 | _=>none
noncomputable def eqA(a b:D):Option Bool:=eqS a b
noncomputable def o2(p:O2)(a b:D):R (Bool×D):=match p with
 | .eq=>.of ((eqA a b).map fun t=>(false,.bl t))
 | .ne=>.of ((eqA a b).map fun t=>(false,.bl !t))
 | .is=>match b with
   | .non=>match a with
     | .non=>.ok (false,.bl true)
     | _=>.ok (false,.bl false)
   | .bl y=>match a with
     | .bl x=>.ok (false,.bl (x==y))
     | _=>.stuck
   | _=>.stuck
 | .isnot=>match b with
   | .non=>match a with
     | .non=>.ok (false,.bl false)
     | _=>.ok (false,.bl true)
   | .bl y=>match a with
     | .bl x=>.ok (false,.bl (x !=y))
     | _=>.stuck
   | _=>.stuck
 | .in=>.of ((isIn a b).map fun t=>(false,.bl t))
 | .notin=>.of ((isIn a b).map fun t=>(false,.bl !t))
 | p=>match a,b with
   | .int i,.int j=>arith p i j
   | .str x,.str y=>match p with
     | .add=>.chk (size (x.length+y.length)) (.ok (false,.str (x++y)))
     | _=>.stuck
   | .lst x,.lst y=>match p with
     | .add=>.chk (size (x.length+y.length)) (.ok (true,.lst (x++y)))
     | _=>.stuck
   | _,_=>.stuck
noncomputable def idxD(a i:D):R (Bool×D):=match a,i with
 | .lst l,.int j=>.of ((place l.length j).bind fun n=>l[n]?.map fun d=>(false,d))
 | .tup l,.int j=>.of ((place l.length j).bind fun n=>l[n]?.map fun d=>(false,d))
 | .str x,.int j=>.of ((place x.length j).bind fun n=>x[n]?.map fun c=>(false,.str [c]))
 | .dct ks vs,k=>.of ((keyOf k).bind fun x=>(look ks vs x).map fun d=>(false,d))
 | _,_=>.stuck
noncomputable def slcD(a:D)(lo hi:Option Int):Option (Bool×D):=match a with
 | .lst l=>some (true,.lst (cut l (uC l.length lo) (jT l.length hi)))
 | _=>none
noncomputable def bnd(t:T)(d:D):Option (Option Int):=match t with
 | .cst .non=>some none
 | _=>match d with
   | .int i=>some (some i)
   | _=>none
noncomputable def fldD(ok:Nat->Bool)(o:D)(f:List Nat):R (Bool×D):=match o with
 | .obj c ns vs=>.chk (ok c) (.of ((look (ns.map .s) vs (.s f)).map fun d=>(false,d)))
 | _=>.stuck
def o9:D->Option (List D)
 | .lst l=>some l
 | .tup l=>some l
 | .dct ks _=>some (ks.map keyD)
 | .str x=>some (x.map fun c=>.str [c])
 | _=>none
def rZ:D->Option (List D)
 | .lst l=>some l
 | .dct ks _=>some (ks.map keyD)
 | _=>none
noncomputable def boolsOf:List D->Option (List Bool)
 | []=>some []
 | .bl b::l=>(boolsOf l).map (b::·)
 | _::_=>none
noncomputable def figs(n:Nat):List Nat:=(Nat.toDigits 10 n).map Char.toNat
def pF(i:Int):List Nat:=if i<0 then 45::figs i.natAbs else figs i.natAbs
noncomputable def ssD(l:List D):Option (Bool×D):=match strsOf l with
 | some x=>if l.length<4000/\(cN x).length<64 then some (true,.lst ((eG (cN x)).map .str))else none
 | none=>none
noncomputable def b1D(b:B1)(a:D):R (Bool×D):=match b with
 | .len=>match a with
   | .lst l=>.ok (false,.int l.length)
   | .tup l=>.ok (false,.int l.length)
   | .dct ks _=>.ok (false,.int ks.length)
   | .str x=>.ok (false,.int x.length)
   | _=>.stuck
 | .abs=>match a with
   | .int i=>.ok (false,.int (if i<0 then -i else i))
   | _=>.stuck
 | .tuple=>match a with
   | .lst l=>.ok (false,.tup l)
   | .tup l=>.ok (false,.tup l)
   | _=>.stuck
 | .list=>match a with
   | .lst l=>.ok (true,.lst l)
   | .tup l=>.ok (true,.lst l)
   | _=>.stuck
 | .dict=>match a with
   | .dct ks vs=>.ok (true,.dct ks vs)
   | _=>.stuck
 | .sorted=>.of ((rZ a).bind fun l=>(strsOf l).bind fun x=>if x.length<64 then some (true,.lst ((eG x).map .str))else none)
 | .sortedSet=>match a with
   | .lst l=>.of (ssD l)
   | _=>.stuck
 | .lenSet=>.of ((o9 a).bind fun l=>(strsOf l).map fun x=>(false,.int (cN x).length))
 | .all=>match a with
   | .lst l=>.of ((boolsOf l).map fun t=>(false,.bl (t.all id)))
   | _=>.stuck
 | .any=>match a with
   | .lst l=>.of ((boolsOf l).map fun t=>(false,.bl (t.any id)))
   | _=>.stuck
 | .str=>match a with
   | .int i=>.chk (decide (i.natAbs.log2<1920)&&size (pF i).length) (.ok (false,.str (pF i)))
   | _=>.stuck
 | .max=>match a with
   | .lst l=>.of ((intsOf l).bind fun x=>match x with
     | []=>none
     | y::r=>some (false,.int (r.foldl (fun m z=>if z>m then z else m) y)))
   | _=>.stuck
 | .min=>match a with
   | .lst l=>.of ((intsOf l).bind fun x=>match x with
     | []=>none
     | y::r=>some (false,.int (r.foldl (fun m z=>if z<m then z else m) y)))
   | _=>.stuck
 | .sum=>match a with
   | .lst l=>.of ((intsOf l).map fun x=>(false,.int x.sum))
   | _=>.stuck
 | .int=>match a with
   | .int i=>.ok (false,.int i)
   | .bl b=>.ok (false,.int (if b then 1 else 0))
   | _=>.stuck
def Kh:List Int->D
 | []=>.non
 | y::r=>.int (r.foldl (fun m z=>if z<m then z else m) y)
noncomputable def b2D(b:B2)(x y:D):R (Bool×D):=match x,y with
 | .int i,.int j=>match b with
   | .max=>.ok (false,.int (if j>i then j else i))
   | .min=>.ok (false,.int (if j<i then j else i))
   | .divmod=>.chk (decide (0<j)&&decide (j.natAbs.log2<9000)) (.ok (false,.tup [.int (i/j),.int (i % j)]))
   | .maxd=>.stuck
   | .mind=>.stuck
 | .lst l,.int j=>match b with
   | .maxd=>.of ((intsOf l).map fun r=>(false,.int (match r with
     | []=>j
     | y::r=>r.foldl (fun m z=>if z>m then z else m) y)))
   | _=>.stuck
 | .lst l,.non=>match b with
   | .mind=>.of ((intsOf l).map fun r=>(false,Kh r))
   | _=>.stuck
 | _,_=>.stuck
def jw(sep:List Nat):List (List Nat)->List Nat
 | []=>[]
 | [x]=>x
 | x::y::l=>x++sep++jw sep (y::l)
noncomputable def m1D(m:M1)(o a:D):R (Bool×D):=match m with
 | .get=>match o with
   | .dct ks vs=>.of ((keyOf a).map fun k=>(false,(look ks vs k).getD .non))
   | _=>.stuck
 | .join=>match o,a with
   | .str sep,.lst l=>.of ((strsOf l).bind fun x=>if size ((x.map T3).sum+x.length*sep.length)then some (false,.str (jw sep x))else none)
   | _,_=>.stuck
 | .startswith=>match o,a with
   | .str x,.str y=>.ok (false,.bl (y.isPrefixOf x))
   | _,_=>.stuck
 | .zfill=>match o,a with
   | .str x,.int n=>.chk (decide (0<=n)&&decide (n<=1000)&&!(x.head?==some 43)&&!(x.head?==some 45)) (.ok (false,.str (RW (n.toNat-x.length) 48++x)))
   | _,_=>.stuck
 | .lstrip=>match o,a with
   | .str x,.str [c]=>.ok (false,.str (x.dropWhile (·==c)))
   | _,_=>.stuck
 | _=>.stuck
def pR:List D->Option (List Nat)
 | []=>some []
 | [.str x,.int i]=>if i.natAbs.log2<1920 then some (x++pF i)else none
 | .str x::l=>(pR l).map (x++·)
 | _::_=>none
def Ow(o a c:D):R (Bool×D):=match o with
 | .dct ks vs=>.of ((keyOf a).map fun k=>(false,(look ks vs k).getD c))
 | _=>.stuck
structure Orc where
 fn:Nat->List D->R (Bool×D)
 ini:Nat->D->List D->R D
 meth:Nat->List Nat->Option Nat
 init:Nat->Option Nat
 sub:Nat->Nat->Bool
 w:Nat
noncomputable def isD(o:Orc)(ty:Ty)(d:D):Option Bool:=match ty with
 | .cls c'=>match d with
   | .err c=>if o.sub c c then some (o.sub c c')else none
   | _=>none
 | .ocl c'=>match d with
   | .obj c _ _=>if o.sub c c' then some true else none
   | _=>none
 | .valueError=>match d with
   | .err c=>if o.sub c c then some true else none
   | _=>none
 | ty=>match d with
   | .non=>some false
   | .bl _=>some (match ty with | .bool=>true | .int=>true | _=>false)
   | .int _=>some (match ty with | .int=>true | _=>false)
   | .str _=>some (match ty with | .str=>true | _=>false)
   | .tup _=>some (match ty with | .tup=>true | _=>false)
   | .lst _=>some (match ty with | .lst=>true | _=>false)
   | .dct _ _=>some (match ty with | .dct=>true | _=>false)
   | _=>none
def um(δ:Dst)(i:Nat):Option D:=match δ[i]? with
 | some (some (_,d))=>some d
 | _=>none
noncomputable def cA(δ:Dst):List Nat->Option (List D)
 | []=>some []
 | i::l=>(um δ i).bind fun d=>(cA δ l).map (d::·)
noncomputable def isOwn(δ:Dst)(i:Nat):Bool:=match δ[i]? with
 | some (some (.ow,_))=>true
 | some (some (.me,_))=>true
 | _=>false
noncomputable def lent(br:Bool)(r:Bool×D):R (Bool×D):=if br then(if r.2.imm then .ok r else .stuck)else .ok r
noncomputable def rngD(a b:Int):List D:=(RG (b-a).toNat).map fun(k:Nat)=>D.int (a+(k:Int))
def Pu(a b c:Int):List D:=(RG (if a<b then(b-a-1)/c+1 else 0).toNat).map fun(k:Nat)=>D.int (a+(k:Int)*c)
noncomputable def zipD:List D->List D->List D
 | x::l,y::r=>.tup [x,y]::zipD l r
 | _,_=>[]
def Ji(i:Nat):List D->List D
 | []=>[]
 | x::l=>.tup [.int (i:Int),x]::Ji (i+1) l
noncomputable def inR(i:Int):Bool:=decide (-1000000<=i)&&decide (i<=1000000)
def QX:D->D->D->R (List D)
 | .int i,.int j,.int k=>.chk (inR i&&inR j&&inR k&&decide (0<k)) (.ok (Pu i j k))
 | _,_,_=>.stuck
noncomputable def zipR:D->D->R (List D)
 | .tup l,.tup r=>.ok (zipD l r)
 | .lst l,.lst r=>.ok (zipD l r)
 | _,_=>.stuck
noncomputable def takes(m:Nat)(tg:Bool)(d:D):Option (List D):=if tg then(match d with
 | .tup l=>if l.length=m then some l else none
 | _=>none)else some [d]
noncomputable def bA(f:List D->R (Bool×D))(c:List D->R (Bool×D))(m:Nat)(tg:Bool):List D->R (List D)
 | []=>.ok []
 | d::l=>(R.of (takes m tg d)).bind fun x=>(c x).bind fun t=>(R.of (truth t.2)).bind fun b=>
   if b then(f x).bind fun y=>(bA f c m tg l).bind fun r=>.ok (y.2::r)else bA f c m tg l
noncomputable def bN:D->R (Bool×D)
 | .bl b=>.ok (false,.bl b)
 | _=>.stuck
noncomputable def aM(δ:Dst):T->Bool
 | .var i=>isOwn δ i
 | _=>false
mutual
noncomputable def ev(o:Orc)(δ:Dst)(lk:Bool):T->R (Bool×D)
 | .var i=>match δ[i]? with
   | some (some (.sh,d))=>.ok (false,d)
   | some (some (_,d))=>if lk then .ok (false,d)else .stuck
   | _=>.stuck
 | .cst d=>.ok (false,d)
 | .op2 p a b=>(ev o δ true a).bind fun x=>(ev o δ true b).bind fun y=>o2 p x.2 y.2
 | .neg a=>(ev o δ true a).bind fun x=>match x.2 with
   | .int i=>.ok (false,.int (-i))
   | _=>.stuck
 | .not a=>(ev o δ true a).bind fun x=>(R.of (truth x.2)).bind fun b=>.ok (false,.bl !b)
 | .and a b=>(ev o δ true a).bind fun x=>match x.2 with
   | .bl true=>(ev o δ true b).bind fun y=>bN y.2
   | .bl false=>.ok (false,.bl false)
   | _=>.stuck
 | .or a b=>(ev o δ true a).bind fun x=>match x.2 with
   | .bl true=>.ok (false,.bl true)
   | .bl false=>(ev o δ true b).bind fun y=>bN y.2
   | _=>.stuck
 | .ite c a b=>(ev o δ true c).bind fun x=>(R.of (truth x.2)).bind fun t=>if t then ev o δ lk a else ev o δ lk b
 | .tup l=>(evL o δ l).bind fun x=>.chk (!x.1&&size x.2.length) (.ok (false,.tup x.2))
 | .lst l=>(evL o δ l).bind fun x=>.chk (!x.1&&size x.2.length) (.ok (true,.lst x.2))
 | .dnew ks l=>(evL o δ l).bind fun x=>.chk (!x.1&&decide (ks.length=x.2.length)&&decide (ks.length<=1000)&&decide ks.Nodup) (.ok (true,.dct ks x.2))
 | .idx a i=>(ev o δ true a).bind fun x=>(ev o δ true i).bind fun y=>idxD x.2 y.2
 | .kidx ks vs i=>(ev o δ true i).bind fun y=>.of ((keyOf y.2).bind fun x=>(look ks vs x).map fun d=>(false,d))
 | .kin ks neg i=>(ev o δ true i).bind fun y=>.of ((keyOf y.2).map fun x=>(false,.bl (neg ^^ decide (x∈ks))))
 | .slc a lo hi=>(ev o δ true a).bind fun x=>(ev o δ true lo).bind fun y=>(ev o δ true hi).bind fun z=>.of ((bnd lo y.2).bind fun l=>(bnd hi z.2).bind fun h=>slcD x.2 l h)
 | .call f l=>(evL o δ l).bind fun x=>(o.fn f x.2).bind (lent x.1)
 | .mk c l=>(evL o δ l).bind fun x=>(R.of (o.init c)).bind fun f=>R.chk (!x.1) ((o.ini f (.obj c [] []) x.2).bind fun d=>.ok (true,d))
 | .meth m a l=>(ev o δ (aM δ a) a).bind fun x=>(evL o δ l).bind fun y=>match x.2 with
   | .obj c ns _=>R.chk (!ns.contains m) ((R.of (o.meth c m)).bind fun f=>(o.fn f (x.2::y.2)).bind (lent (aM δ a||y.1)))
   | _=>.stuck
 | .fld a f=>(ev o δ true a).bind fun x=>fldD (fun c=>(o.init c).isSome) x.2 f
 | .b1 b a=>(ev o δ true a).bind fun x=>b1D b x.2
 | .b2 b a c=>(ev o δ true a).bind fun x=>(ev o δ true c).bind fun y=>b2D b x.2 y.2
 | .m0 _ _=>.stuck
 | .m1 m a b=>(ev o δ true a).bind fun x=>(ev o δ true b).bind fun y=>m1D m x.2 y.2
 | .get2 a b c=>(ev o δ true a).bind fun x=>(ev o δ true b).bind fun y=>(ev o δ false c).bind fun z=>Ow x.2 y.2 z.2
 | .isin a ty=>(ev o δ true a).bind fun x=>.of ((isD o ty x.2).map fun t=>(false,.bl t))
 | .fstr l=>(evL o δ l).bind fun x=>.of ((pR x.2).bind fun t=>if size t.length then some (false,.str t)else none)
 | .comp caps m tg it c e=>(evI o δ true it).bind fun l=>(R.of (cA δ caps)).bind fun cs=>
   (bA (fun x=>ev o ((x++cs).map fun d=>some (.sh,d)) false e) (fun x=>ev o ((x++cs).map fun d=>some (.sh,d)) true c) m tg l).bind fun r=>
    R.chk (size r.length&&(immL r||caps.all fun i=>!isOwn δ i)) (.ok (true,.lst r))
noncomputable def evL(o:Orc)(δ:Dst):TL->R (Bool×List D)
 | .nil=>.ok (false,[])
 | .cons t l=>(ev o δ (aM δ t) t).bind fun x=>(evL o δ l).bind fun y=>.ok (aM δ t||y.1,x.2::y.2)
noncomputable def evI(o:Orc)(δ:Dst)(lk:Bool):TI->R (List D)
 | .val t=>(ev o δ lk t).bind fun x=>.of (o9 x.2)
 | .rng1 t=>(ev o δ true t).bind fun x=>match x.2 with
   | .int n=>.chk (inR n) (.ok (rngD 0 n))
   | _=>.stuck
 | .rng2 a b=>(ev o δ true a).bind fun x=>(ev o δ true b).bind fun y=>match x.2,y.2 with
   | .int i,.int j=>.chk (inR i&&inR j) (.ok (rngD i j))
   | _,_=>.stuck
 | .rng3 a b c=>(ev o δ true a).bind fun x=>(ev o δ true b).bind fun y=>(ev o δ true c).bind fun z=>QX x.2 y.2 z.2
 | .zip a b=>(ev o δ lk a).bind fun x=>(ev o δ lk b).bind fun y=>zipR x.2 y.2
 | .enum a=>(ev o δ lk a).bind fun x=>match x.2 with
   | .lst l=>.ok (Ji 0 l)
   | .dct ks _=>.ok (Ji 0 (ks.map keyD))
   | _=>.stuck
end
mutual
noncomputable def b7:T->List Nat
 | .var i=>[i]
 | .cst _=>[]
 | .op2 _ a b=>b7 a++b7 b
 | .neg a=>b7 a
 | .not a=>b7 a
 | .and a b=>b7 a++b7 b
 | .or a b=>b7 a++b7 b
 | .ite c a b=>b7 c++(b7 a++b7 b)
 | .tup l=>gM l
 | .lst l=>gM l
 | .dnew _ l=>gM l
 | .idx a i=>b7 a++b7 i
 | .kidx _ _ i=>b7 i
 | .kin _ _ i=>b7 i
 | .slc a lo hi=>b7 a++(b7 lo++b7 hi)
 | .call _ l=>gM l
 | .mk _ l=>gM l
 | .meth _ a l=>b7 a++gM l
 | .fld a _=>b7 a
 | .b1 _ a=>b7 a
 | .b2 _ a b=>b7 a++b7 b
 | .m0 _ a=>b7 a
 | .m1 _ a b=>b7 a++b7 b
 | .get2 a b c=>b7 a++(b7 b++b7 c)
 | .isin a _=>b7 a
 | .fstr l=>gM l
 | .comp caps _ _ it _ _=>caps++Nq it
noncomputable def gM:TL->List Nat
 | .nil=>[]
 | .cons t l=>b7 t++gM l
noncomputable def Nq:TI->List Nat
 | .val t=>b7 t
 | .rng1 t=>b7 t
 | .rng2 a b=>b7 a++b7 b
 | .rng3 a b c=>b7 a++(b7 b++b7 c)
 | .zip a b=>b7 a++b7 b
 | .enum a=>b7 a
end
noncomputable def share1(δ:Dst)(i:Nat):Dst:=match δ[i]? with
 | some (some (.ow,d))=>δ.set i (some (.sh,d))
 | _=>δ
def cT(δ:Dst):T->Dst
 | .var i=>share1 δ i
 | _=>δ
def bV(δ:Dst):TI->Dst
 | .val (.var i)=>share1 δ i
 | .enum (.var i)=>share1 δ i
 | .zip a b=>cT (cT δ a) b
 | _=>δ
noncomputable def share(δ:Dst)(is:List Nat):Dst:=is.foldl share1 δ
noncomputable def evF(o:Orc)(δ:Dst)(e:T):Dst×R (Bool×D):=match ev o δ false e with
 | .stuck=>(share δ (b7 e),ev o (share δ (b7 e)) false e)
 | r=>(δ,r)
inductive SO where
 | nx (δ:Dst)
 | rt (w:Bool) (d:D) (δ:Dst)
 | bk (δ:Dst)
 | ct (δ:Dst)
 | ex (c:Nat) (δ:Dst)
 | stuck
noncomputable def SO.of(δ:Dst){α:Type}(r:R α)(k:α->SO):SO:=match r with
 | .ok a=>k a
 | .exc _=>.stuck
 | .stuck=>.stuck
noncomputable def SO.ofX(δ:Dst){α:Type}(r:R α)(k:α->SO):SO:=match r with
 | .ok a=>k a
 | .exc c=>.ex c δ
 | .stuck=>.stuck
noncomputable def setSlot(δ:Dst)(i:Nat)(w:Bool)(d:D):Option Dst:=if i<δ.length then some (δ.set i (some (if w then .ow else .sh,d)))else none
noncomputable def aG(δ:Dst):List Nat->List D->Option Dst
 | [],[]=>some δ
 | i::is,d::ds=>(setSlot δ i false d).bind fun δ'=>aG δ' is ds
 | _,_=>none
noncomputable def ownD(δ:Dst)(i:Nat):Option (Own×D):=match δ[i]? with
 | some (some (.ow,d))=>some (.ow,d)
 | some (some (.me,d))=>some (.me,d)
 | _=>none
noncomputable def aA(x:Option SO):SO:=match x with
 | some r=>r
 | none=>.stuck
noncomputable def putItem(c k v:D):Option D:=match c,k with
 | .lst l,.int j=>(place l.length j).map fun n=>.lst (l.set n v)
 | .dct ks vs,k=>(keyOf k).bind fun x=>if ks.length<=100000 then some (.dct (bL ks x) (putV ks vs x v))else none
 | _,_=>none
noncomputable def cB(ok:Nat->Bool)(c:D)(f:List Nat)(v:D):Option D:=match c with
 | .obj c ns vs=>if ok c/\ns.length<900 then some (.obj c (bL (ns.map .s) (.s f) |>.map fun | .s x=>x | .i _=>[]) (putV (ns.map .s) vs (.s f) v))else none
 | _=>none
def yI:List DK->List D->List DK->List D->List DK×List D
 | ks,vs,k::ks',v::vs'=>yI (bL ks k) (putV ks vs k v) ks' vs'
 | ks,vs,_,_=>(ks,vs)
noncomputable def bG(body:Dst->SO)(tg:List Nat)(tup:Bool):List D->Dst->SO
 | [],δ=>.nx δ
 | d::l,δ=>match takes tg.length tup d with
   | none=>.stuck
   | some ds=>match aG δ tg ds with
     | none=>.stuck
     | some δ1=>match body δ1 with
       | .nx δ2=>bG body tg tup l δ2
       | .ct δ2=>bG body tg tup l δ2
       | .bk δ2=>.nx δ2
       | r=>r
def qb(c:Dst->R (Bool×D))(body:Dst->SO):Nat->Dst->SO
 | 0,_=>.stuck
 | n+1,δ=>SO.of δ ((c δ).bind fun x=>R.of (truth x.2)) fun b=>if b then(match body δ with
  | .nx δ2=>qb c body n δ2
  | .ct δ2=>qb c body n δ2
  | .bk δ2=>.nx δ2
  | r=>r)else .nx δ
mutual
noncomputable def evS(o:Orc):S->Dst->SO
 | .set i e,δ=>SO.of (evF o δ e).1 (evF o δ e).2 fun r=>aA ((setSlot (evF o δ e).1 i r.1 r.2).map .nx)
 | .sett is e,δ=>SO.of (evF o δ e).1 (evF o δ e).2 fun r=>aA ((takes is.length true r.2).bind fun ds=>(aG (evF o δ e).1 is ds).map .nx)
 | .seti i k e,δ=>SO.of (evF o δ e).1 (evF o δ e).2 fun r=>SO.of (evF o δ e).1 (ev o (evF o δ e).1 true k) fun y=>
  aA ((ownD (evF o δ e).1 i).bind fun c=>(putItem c.2 y.2 r.2).map fun c'=>.nx ((evF o δ e).1.set i (some (c.1,c'))))
 | .setf i f e,δ=>SO.of (evF o δ e).1 (evF o δ e).2 fun r=>aA ((ownD (evF o δ e).1 i).bind fun c=>(cB (fun c=>(o.init c).isSome) c.2 f r.2).map fun c'=>.nx ((evF o δ e).1.set i (some (c.1,c'))))
 | .append i e,δ=>SO.of (evF o δ e).1 (evF o δ e).2 fun r=>aA ((ownD (evF o δ e).1 i).bind fun c=>match c.2 with
  | .lst l=>if size (l.length+1)then some (.nx ((evF o δ e).1.set i (some (c.1,.lst (l++[r.2])))))else none
  | _=>none)
 | .setx i f l,δ=>SO.of δ (evL o δ l) fun x=>SO.ofX δ ((o.fn f x.2).bind (lent x.1)) fun r=>aA ((setSlot δ i r.1 r.2).map .nx)
 | .clear i,δ=>aA ((ownD δ i).bind fun c=>match c.2 with
  | .lst _=>some (.nx (δ.set i (some (c.1,.lst []))))
  | _=>none)
 | .extend i e,δ=>SO.of (evF o δ e).1 (evF o δ e).2 fun r=>aA ((ownD (evF o δ e).1 i).bind fun c=>match c.2,r.2 with
  | .lst l,.lst l'=>if size (l.length+l'.length)&&r.1 then some (.nx ((evF o δ e).1.set i (some (c.1,.lst (l++l')))))else none
  | _,_=>none)
 | .update i e,δ=>SO.of δ (ev o δ true e) fun r=>aA ((ownD δ i).bind fun c=>match c.2,r.2 with
  | .dct ks vs,.dct ks' vs'=>if decide (ks.length+ks'.length<=100000)&&(match e with | .var j=>j !=i | _=>true)then some (.nx (δ.set i (some (c.1,.dct (yI ks vs ks' vs').1 (yI ks vs ks' vs').2))))else none
  | _,_=>none)
 | .pop1 j i k,δ=>SO.of δ (ev o δ true k) fun y=>aA ((ownD δ i).bind fun c=>match c.2 with
  | .dct ks vs=>(keyOf y.2).bind fun x=>(look ks vs x).bind fun v=>(match j with
    | none=>some (SO.nx (δ.set i (some (c.1,.dct (cJ ks x) (jy ks vs x)))))
    | some j=>if i=j then none else(setSlot (δ.set i (some (c.1,.dct (cJ ks x) (jy ks vs x)))) j false v).map .nx)
  | _=>none)
 | .pop2 i k e,δ=>SO.of δ (ev o δ true k) fun y=>SO.of δ (ev o δ true e) fun _=>aA ((ownD δ i).bind fun c=>match c.2 with
  | .dct ks vs=>(keyOf y.2).bind fun x=>some (.nx (δ.set i (some (c.1,.dct (cJ ks x) (jy ks vs x)))))
  | _=>none)
 | .ini c l,δ=>SO.of δ ((evL o δ l).bind fun x=>(R.of (ownD δ 0)).bind fun q=>(R.of (o.init c)).bind fun f=>R.chk (!x.1) ((o.ini f q.2 x.2).bind fun d=>.ok (q.1,d))) fun r=>.nx (δ.set 0 (some r))
 | .ifs c a b,δ=>SO.of δ ((ev o δ true c).bind fun x=>R.of (truth x.2)) fun t=>if t then evSs o a δ else evSs o b δ
 | .ifq c a b,δ=>(fun δ1=>SO.of δ1 ((ev o δ1 true c).bind fun x=>R.of (truth x.2)) fun t=>if t then evSs o a δ1 else evSs o b δ1) (share δ (b7 c))
 | .for_ tg tup it b,δ=>(fun δ1=>SO.of δ1 (evI o δ1 false it) fun l=>bG (evSs o b) tg tup l δ1) (bV δ it)
 | .while_ c b,δ=>qb (fun δ=>ev o δ true c) (evSs o b) o.w δ
 | .ret e,δ=>match e with
   | .var i=>match δ[i]? with
     | some (some (.ow,d))=>.rt true d δ
     | some (some (.sh,d))=>.rt false d δ
     | _=>.stuck
   | e=>SO.of (evF o δ e).1 (evF o δ e).2 fun r=>.rt r.1 r.2 (evF o δ e).1
 | .retn,δ=>.rt false .non δ
 | .expr e,δ=>match e with
   | .call f l=>SO.of δ (evL o δ l) fun x=>SO.ofX δ ((o.fn f x.2).bind (lent x.1)) fun _=>.nx δ
   | .meth m a l=>SO.of δ (ev o δ (aM δ a) a) fun x=>SO.of δ (evL o δ l) fun y=>match x.2 with
     | .obj c ns _=>if ns.contains m then .stuck else SO.of δ (R.of (o.meth c m)) fun f=>SO.ofX δ ((o.fn f (x.2::y.2)).bind (lent (aM δ a||y.1))) fun _=>.nx δ
     | _=>.stuck
   | e=>SO.of δ (ev o δ true e) fun _=>.nx δ
 | .raise c e,δ=>SO.of δ (ev o δ true e) fun _=>.ex c δ
 | .try_ b c nm h,δ=>match evSs o b δ with
   | .ex c' δ1=>if o.sub c' c then(match nm with
     | none=>evSs o h δ1
     | some j=>aA ((setSlot δ1 j false (.err c')).map fun δ2=>match evSs o h δ2 with
       | .nx δ3=>.nx (δ3.set j none)
       | _=>.stuck))else .stuck
   | r=>r
 | .brk,δ=>.bk δ
 | .cont,δ=>.ct δ
 | .pass,δ=>.nx δ
noncomputable def evSs(o:Orc):SL->Dst->SO
 | .nil,δ=>.nx δ
 | .cons s l,δ=>match evS o s δ with
   | .nx δ1=>evSs o l δ1
   | r=>r
end
def mY:S:=.expr (.m0 .get (.cst .non))
def lq:SL:=.cons mY .nil
structure Fd where
 np:Nat
 ns:Nat
 body:SL
noncomputable def bf(o:Orc)(f:Fd)(args:List D):R (Bool×D):=if args.length=f.np then(match evSs o f.body (args.map (fun d=>some (Own.sh,d))++RW (f.ns-f.np) none)with
 | .rt w d _=>.ok (w,d)
 | .nx _=>.ok (false,.non)
 | .ex c _=>.exc c
 | _=>.stuck)else .stuck
noncomputable def selfOf(δ:Dst):R D:=match(δ[0]?:Option (Option Slot))with
 | some (some (.me,d))=>.ok d
 | _=>.stuck
noncomputable def cz(o:Orc)(f:Fd)(self:D)(args:List D):R D:=if args.length+1=f.np then(match evSs o f.body (some (Own.me,self)::(args.map (fun d=>some (Own.sh,d))++RW (f.ns-f.np) none))with
 | .rt _ .non δ=>selfOf δ
 | .nx δ=>selfOf δ
 | .ex c _=>.exc c
 | _=>.stuck)else .stuck
structure Prg where
 fns:List Fd
 meth:Nat->List Nat->Option Nat
 init:Nat->Option Nat
 sub:Nat->Nat->Bool
noncomputable def tabOf:List (Nat×List Nat×Nat)->Nat->List Nat->Option Nat
 | [],_,_=>none
 | (c',m',f)::l,c,m=>if c'=c/\m'=m then some f else tabOf l c m
def gJ:List (Nat×Nat)->Nat->Option Nat
 | [],_=>none
 | (c',f)::l,c=>if c'=c then some f else gJ l c
theorem nW:∀{l:List (Nat×List Nat×Nat)},tabOf l c m=some f->(c,m,f)∈l
 | [],h=>nomatch h
 | (c',m',f')::l,h=>by
   simp only[tabOf]at h;split at h
   ·rename_i z;cases h;rw[z.1,z.2];exact Rg
   ·exact Rb _ (nW h)
theorem eE:∀{l:List (Nat×Nat)},gJ l c=some f->(c,f)∈l
 | [],h=>nomatch h
 | (c',f')::l,h=>by
   simp only[gJ]at h;split at h
   ·rename_i z;cases h;rw[z];exact Rg
   ·exact Rb _ (eE h)
noncomputable def orc2(P:Prg)(w:Nat):Nat->Orc×Option Orc
 | 0=>(⟨fun _ _=>.stuck,fun _ _ _=>.stuck,P.meth,P.init,P.sub,w⟩,none)
 | n+1=>(⟨fun f a=>match P.fns[f]? with | some d=>bf (orc2 P w n).1 d a | none=>.stuck,fun f s a=>match(orc2 P w n).2 with | none=>.stuck | some o=>(match P.fns[f]? with | some d=>cz o d s a | none=>.stuck),P.meth,P.init,P.sub,w⟩,some (orc2 P w n).1)
noncomputable def orc(P:Prg)(w n:Nat):Orc:=(orc2 P w n).1
theorem aN(h:P.fns[f]?=some d):(orc P w (n+1)).fn f a=bf (orc P w n) d a:=by
 show(match P.fns[f]? with | some d=>bf (orc P w n) d a | none=>.stuck)=_;rw[h]
theorem fC(h:P.fns[f]?=some d):(orc P w (n+2)).ini f s a=cz (orc P w n) d s a:=by
 show(match P.fns[f]? with | some d=>cz (orc P w n) d s a | none=>.stuck)=_;rw[h]
end Z
open Z.T renaming var→XC,cst→XD,op2→XM,idx→XX,call→Y4,b1→Y9,tup→Yd,lst→Ye,meth→Yg,not→Yi,comp→Yj,fld→Ym,or→Yp,isin→Yq,and→Ys,neg→Yt,slc→Yv,mk→Yx,dnew→Yy,fstr→YC
open Z.TL renaming cons→XF,nil→XQ
open Z.D renaming int→XH,str→Y0,bl→Yb,non→Yw,tup→YB
open Z.SL renaming cons→XJ,nil→XN
open Z.R renaming of→XR,bind→XS,chk→Y5,ok→Yr
open Z.S renaming ret→Y6,ifs→Y7,set→Y8,for_→Yk,seti→Yo,setf→Yu,ini→Yz,expr→YD,raise→YF
open Z.TI renaming val→Yc,rng1→Yn
open Z.DK renaming s→Yh
namespace Z
open PySem PySem.Spec PyProof.Rows L2
noncomputable def strV(x:List Nat):Str:=⟨x.toArray⟩
noncomputable def keyV:DK->Key
 | .i n=>.inl n
 | .s x=>.inr (strV x)
theorem du(h:strV x=strV y):x=y:=by
 have:=congrArg (fun s:Str=>s.cps.toList) h;simpa[strV]using this
theorem dw(h:keyV x=keyV y):x=y:=by
 cases x<;>cases y<;>simp[keyV]at h
 ·rw[h]
 ·rw[du h]
abbrev IsK(H:Hp)(a:Addr)(kvs:List (Key×V)):Prop:=∃ep,H a=some (.dK kvs ep)
def KsOk(ks:List DK):Prop:=ks.Nodup/\∀x,Yh x∈ks->x.length<=16777216
structure Wd where
 K:Ra
 CT:Nat->Addr
def Q4(C a:Addr)(h:Rk):Prop:=∃o vs,h.get? a=some o/\(o.cls=.ref C/\o.dict=none)/\o.data=.fields vs
mutual
noncomputable def Rep(W:Wd)(G:Hp):D->V->Prop
 | .non,v=>v=.non
 | .bl b,v=>v=.bl b
 | .int i,v=>v=.int i
 | .str x,v=>v=.str (strV x)/\x.length<=16777216
 | .tup l,v=>∃a xs,v=.ref a/\SqT W.K G a xs/\Reps W G l xs
 | .lst l,v=>∃a xs,v=.ref a/\SqL W.K G a xs/\Reps W G l xs
 | .dct ks vs,v=>∃a kvs,v=.ref a/\IsK G a kvs/\kvs.map (·.1)=ks.map keyV/\KsOk ks/\Reps W G vs (kvs.map (·.2))
 | .obj c ns vs,v=>∃a dx fs,v=.ref a/\G a=some (.ins (W.CT c) dx fs)/\fs.map (·.1)=ns.map strV/\Reps W G vs (fs.map (·.2))
 | .err c,v=>∃a,v=.ref a/\G a=some (.ext (Q4 (W.CT c) a))
noncomputable def Reps(W:Wd)(G:Hp):List D->List V->Prop
 | [],[]=>True
 | d::l,v::vs=>Rep W G d v/\Reps W G l vs
 | _,_=>False
end
theorem bx{K:Ra}{H H':Hp}{a:Addr}{xs:List V}(e:Same H H')(h:SqT K H a xs):SqT K H' a xs:=by
 rcases h with(h | ⟨o,h⟩) | h
 ·exact .inl (.inl (e _ _ h))
 ·exact .inl (.inr ⟨o,e _ _ h⟩)
 ·exact .inr h
mutual
theorem Rep.mono(e:Same G G'):∀{d:D} {v:V},Rep W G d v->Rep W G' d v
 | .non,v,h=>by simpa only[Rep]using h
 | .bl b,v,h=>by simpa only[Rep]using h
 | .int i,v,h=>by simpa only[Rep]using h
 | .str x,v,h=>by simpa only[Rep]using h
 | .tup l,v,h=>by
   simp only[Rep]at h ⊢;obtain⟨a,xs,rfl,h1,h2⟩:=h;exact⟨a,xs,rfl,bx e h1,Reps.mono e h2⟩
 | .lst l,v,h=>by
   simp only[Rep]at h ⊢;obtain⟨a,xs,rfl,h1,h2⟩:=h;exact⟨a,xs,rfl,e.seq h1,Reps.mono e h2⟩
 | .dct ks vs,v,h=>by
   simp only[Rep]at h ⊢;obtain⟨a,kvs,rfl,h1,h2,h3,h4⟩:=h;exact⟨a,kvs,rfl,h1.imp fun _ z=>e _ _ z,h2,h3,Reps.mono e h4⟩
 | .obj c ns vs,v,h=>by
   simp only[Rep]at h ⊢;obtain⟨a,dx,fs,rfl,h1,h2,h3⟩:=h;exact⟨a,dx,fs,rfl,e _ _ h1,h2,Reps.mono e h3⟩
 | .err _,v,h=>by
   simp only[Rep]at h ⊢;obtain⟨a,rfl,h1⟩:=h;exact⟨a,rfl,e _ _ h1⟩
theorem Reps.mono(e:Same G G'):∀{l:List D} {vs:List V},Reps W G l vs->Reps W G' l vs
 | [],[],_=>by simp only[Reps]
 | [],_::_,h=>by simp only[Reps]at h
 | _::_,[],h=>by simp only[Reps]at h
 | d::l,v::vs,h=>by
   simp only[Reps]at h ⊢;exact⟨Rep.mono e h.1,Reps.mono e h.2⟩
end
theorem Reps.length:∀{l:List D} {vs:List V},Reps W G l vs->l.length=vs.length
 | [],[],_=>rfl
 | [],_::_,h=>by simp only[Reps]at h
 | _::_,[],h=>by simp only[Reps]at h
 | d::l,v::vs,h=>by
   simp only[Reps]at h;simp[Reps.length h.2]
theorem Reps.get:∀{l:List D} {vs:List V} {i:Nat} {d:D},Reps W G l vs->l[i]?=some d->∃v,vs[i]?=some v/\Rep W G d v
 | [],_,_,_,_,e=>by simp at e
 | _::_,[],_,_,h,_=>by simp only[Reps]at h
 | d::l,v::vs,0,_,h,e=>by
   simp only[Reps]at h;simp at e;subst e;exact⟨v,rfl,h.1⟩
 | d::l,v::vs,i+1,x,h,e=>by
   simp only[Reps]at h;obtain⟨u,h1,h2⟩:=Reps.get (i:=i) (d:=x) h.2 (by simpa using e);exact⟨u,by simpa using h1,h2⟩
theorem Reps.append:∀{l l':List D} {vs vs':List V},Reps W G l vs->Reps W G l' vs'->Reps W G (l++l') (vs++vs')
 | [],_,[],_,_,h=>h
 | [],_,_::_,_,h,_=>by simp only[Reps]at h
 | _::_,_,[],_,h,_=>by simp only[Reps]at h
 | d::l,l',v::vs,vs',h,h'=>by
   simp only[Reps]at h;simp only[V9,Reps];exact⟨h.1,Reps.append h.2 h'⟩
theorem Reps.set(r:Rep W G d v):∀{l:List D} {vs:List V} (i:Nat),Reps W G l vs->Reps W G (l.set i d) (vs.set i v)
 | [],[],_,h=>h
 | [],_::_,_,h=>by simp only[Reps]at h
 | _::_,[],_,h=>by simp only[Reps]at h
 | _::l,_::vs,0,h=>by
   simp only[Reps]at h;simp only[List.set_cons_zero,Reps];exact⟨r,h.2⟩
 | x::l,y::vs,i+1,h=>by
   simp only[Reps]at h;simp only[List.set_cons_succ,Reps];exact⟨h.1,Reps.set r i h.2⟩
theorem Reps.take:∀{l:List D} {vs:List V} (n:Nat),Reps W G l vs->Reps W G (l.take n) (vs.take n)
 | _,_,0,_=>by simp[Reps]
 | [],[],_+1,h=>h
 | [],_::_,_+1,h=>by simp only[Reps]at h
 | _::_,[],_+1,h=>by simp only[Reps]at h
 | d::l,v::vs,n+1,h=>by
   simp only[Reps]at h;simp only[List.take_succ_cons,Reps];exact⟨h.1,Reps.take n h.2⟩
theorem Reps.drop:∀{l:List D} {vs:List V} (n:Nat),Reps W G l vs->Reps W G (l.drop n) (vs.drop n)
 | _,_,0,h=>by simpa using h
 | [],[],_+1,h=>h
 | [],_::_,_+1,h=>by simp only[Reps]at h
 | _::_,[],_+1,h=>by simp only[Reps]at h
 | d::l,v::vs,n+1,h=>by
   simp only[Reps]at h;simp only[List.drop_succ_cons];exact Reps.drop n h.2
def vis(H:Hp)(P:Addr->Prop):Hp:=fun b=>open Classical in if P b then none else H b
theorem bF(h:vis H P b=some o):H b=some o/\¬P b:=by
 unfold vis at h;split at h
 ·cases h
 ·exact⟨h,by assumption⟩
theorem bK(h:H b=some o)(n:¬P b):vis H P b=some o:=by
 unfold vis;rw[if_neg n];exact h
theorem ao(e:Same H H'):Same (vis H P) (vis H' P):=fun b o h=>
 let⟨h1,h2⟩:=bF h
 bK (e b o h1) h2
theorem aH(e:∀b,P' b->P b):Same (vis H P) (vis H P'):=fun b o h=>
 let⟨h1,h2⟩:=bF h
 bK h1 fun z=>h2 (e b z)
theorem bH:Same (vis H P) H:=fun b o h=>(bF h).1
noncomputable def RepT(W:Wd)(H G:Hp):D->V->Prop
 | .lst l,v=>∃a xs,v=.ref a/\SqL W.K H a xs/\Reps W G l xs
 | .dct ks vs,v=>∃a kvs,v=.ref a/\IsK H a kvs/\kvs.map (·.1)=ks.map keyV/\KsOk ks/\Reps W G vs (kvs.map (·.2))
 | .obj c ns vs,v=>∃a dx fs,v=.ref a/\H a=some (.ins (W.CT c) dx fs)/\fs.map (·.1)=ns.map strV/\Reps W G vs (fs.map (·.2))
 | d,v=>Rep W G d v
def OwnAt(W:Wd)(H G:Hp)(a:Addr):D->Prop
 | .lst l=>∃xs,H a=some (.lst xs)/\Reps W G l xs
 | .dct ks vs=>∃kvs,IsK H a kvs/\kvs.map (·.1)=ks.map keyV/\KsOk ks/\Reps W G vs (kvs.map (·.2))
 | .obj c ns vs=>∃dx fs,H a=some (.ins (W.CT c) dx fs)/\fs.map (·.1)=ns.map strV/\Reps W G vs (fs.map (·.2))
 | _=>False
theorem RepT.mono(h:RepT W H G d v)(e:Same H H')(g:Same G G'):RepT W H' G' d v:=by
 cases d with
 | lst l=>
   obtain⟨a,xs,rfl,h1,h2⟩:=h;exact⟨a,xs,rfl,e.seq h1,h2.mono g⟩
 | dct ks vs=>
   obtain⟨a,kvs,rfl,h1,h2,h3,h4⟩:=h;exact⟨a,kvs,rfl,h1.imp fun _ z=>e _ _ z,h2,h3,h4.mono g⟩
 | obj c ns vs=>
   obtain⟨a,dx,fs,rfl,h1,h2,h3⟩:=h;exact⟨a,dx,fs,rfl,e _ _ h1,h2,h3.mono g⟩
 | non=>exact Rep.mono g h
 | bl b=>exact Rep.mono g h
 | int i=>exact Rep.mono g h
 | str x=>exact Rep.mono g h
 | tup l=>exact Rep.mono g h
 | err c=>exact Rep.mono g h
theorem Rep.top(h:Rep W G d v)(e:Same G H):RepT W H G d v:=by
 cases d with
 | lst l=>
   simp only[Rep]at h;obtain⟨a,xs,rfl,h1,h2⟩:=h;exact⟨a,xs,rfl,e.seq h1,h2⟩
 | dct ks vs=>
   simp only[Rep]at h;obtain⟨a,kvs,rfl,h1,h2⟩:=h;exact⟨a,kvs,rfl,h1.imp fun _ z=>e _ _ z,h2⟩
 | obj c ns vs=>
   simp only[Rep]at h;obtain⟨a,dx,fs,rfl,h1,h2⟩:=h;exact⟨a,dx,fs,rfl,e _ _ h1,h2⟩
 | non=>exact h
 | bl b=>exact h
 | int i=>exact h
 | str x=>exact h
 | tup l=>exact h
 | err c=>exact h
theorem OwnAt.mono(h:OwnAt W H G a d)(e:∀o,H a=some o->H' a=some o)(g:Same G G'):OwnAt W H' G' a d:=by
 cases d with
 | lst l=>
   obtain⟨xs,h1,h2⟩:=h;exact⟨xs,e _ h1,h2.mono g⟩
 | dct ks vs=>
   obtain⟨kvs,h1,h2,h3,h4⟩:=h;exact⟨kvs,h1.imp fun _ z=>e _ z,h2,h3,h4.mono g⟩
 | obj c ns vs=>
   obtain⟨dx,fs,h1,h2,h3⟩:=h;exact⟨dx,fs,e _ h1,h2,h3.mono g⟩
 | non=>exact h
 | bl b=>exact h
 | int i=>exact h
 | str x=>exact h
 | tup l=>exact h
 | err c=>exact h
theorem OwnAt.top(h:OwnAt W H G a d):RepT W H G d (.ref a):=by
 cases d with
 | lst l=>
   obtain⟨xs,h1,h2⟩:=h;exact⟨a,xs,rfl,.inl (.inl h1),h2⟩
 | dct ks vs=>
   obtain⟨kvs,h1,h2⟩:=h;exact⟨a,kvs,rfl,h1,h2⟩
 | obj c ns vs=>
   obtain⟨dx,fs,h1,h2⟩:=h;exact⟨a,dx,fs,rfl,h1,h2⟩
 | non=>exact RC h
 | bl b=>exact RC h
 | int i=>exact RC h
 | str x=>exact RC h
 | tup l=>exact RC h
 | err c=>exact RC h
theorem OwnAt.rep(h:OwnAt W H G a d)(e:∀o,H a=some o->G a=some o):Rep W G d (.ref a):=by
 cases d with
 | lst l=>
   obtain⟨xs,h1,h2⟩:=h;simp only[Rep];exact⟨a,xs,rfl,.inl (.inl (e _ h1)),h2⟩
 | dct ks vs=>
   obtain⟨kvs,h1,h2⟩:=h;simp only[Rep];exact⟨a,kvs,rfl,h1.imp fun _ z=>e _ z,h2⟩
 | obj c ns vs=>
   obtain⟨dx,fs,h1,h2⟩:=h;simp only[Rep];exact⟨a,dx,fs,rfl,e _ h1,h2⟩
 | non=>exact RC h
 | bl b=>exact RC h
 | int i=>exact RC h
 | str x=>exact RC h
 | tup l=>exact RC h
 | err c=>exact RC h
theorem OwnAt.some(h:OwnAt W H G a d):∃o,H a=some o/\(∀xs,o≠.tup xs)/\∀ob u,o≠.frz ob u:=by
 cases d with
 | lst l=>obtain⟨xs,h1,h2⟩:=h;exact⟨_,h1,(by intro _ z;cases z),(by intro _ _ z;cases z)⟩
 | dct ks vs=>obtain⟨kvs,⟨ep,h1⟩,h2⟩:=h;exact⟨_,h1,(by intro _ z;cases z),(by intro _ _ z;cases z)⟩
 | obj c ns vs=>obtain⟨dx,fs,h1,h2⟩:=h;exact⟨_,h1,(by intro _ z;cases z),(by intro _ _ z;cases z)⟩
 | non=>exact RC h
 | bl b=>exact RC h
 | int i=>exact RC h
 | str x=>exact RC h
 | tup l=>exact RC h
 | err c=>exact RC h
def eQ(σ:L2.St)(δ:Dst)(i:Nat)(a:Addr):Prop:=(∃w d,δ[i]?=some (some (w,d))/\w≠Own.sh)/\σ[i]?=some (some (.ref a))
def Hid(B:Addr->Prop)(σ:L2.St)(δ:Dst)(a:Addr):Prop:=B a\/∃i,eQ σ δ i a
def Soft(H:Hp)(P:Addr->Prop):Prop:=∀a,P a->∀o,H a=some o->(∀xs,o≠.tup xs)/\∀ob u,o≠.frz ob u
structure SR(X:Cx)(W:Wd)(me:Option Addr)(B:Addr->Prop)(H:Hp)(σ:L2.St)(δ:Dst):Prop where
 kf:W.K=X.K
 len:σ.length=δ.length
 sh:∀(i:Nat) (d:D),δ[i]?=some (some (Own.sh,d))->∃v,σ[i]?=some (some v)/\Rep W (vis H (Hid B σ δ)) d v
 ow:∀(i:Nat) (d:D),δ[i]?=some (some (Own.ow,d))->∃a,σ[i]?=some (some (V.ref a))/\OwnAt W H (vis H (Hid B σ δ)) a d/\X.H₀ a=none/\¬B a/\some a≠me
 mi:∀(i:Nat) (d:D),δ[i]?=some (some (Own.me,d))->i=0/\∃a,me=some a/\σ[i]?=some (some (V.ref a))/\OwnAt W H (vis H (Hid B σ δ)) a d/\¬B a
 apart:∀(i j:Nat) (a:Addr),eQ σ δ i a->eQ σ δ j a->i=j
 same:∀b o,X.H₀ b=some o->some b≠me->H b=some o
 soft:Soft H B
 gone:∀b,B b->∃o,H b=some o
 live:∀x,me=some x->∃o,H x=some o
theorem SR.mono(S:SR X W me B H σ δ)(e:Same H H'):SR X W me B H' σ δ where
 kf:=S.kf
 len:=S.len
 sh:=fun i d h=>let⟨v,h1,h2⟩:=S.sh i d h;⟨v,h1,h2.mono (ao e)⟩
 ow:=fun i d h=>let⟨a,h1,h2,h3⟩:=S.ow i d h;⟨a,h1,h2.mono (fun o q=>e a o q) (ao e),h3⟩
 mi:=fun i d h=>let⟨h0,a,h1,h2,h3,h4⟩:=S.mi i d h;⟨h0,a,h1,h2,h3.mono (fun o q=>e a o q) (ao e),h4⟩
 apart:=S.apart
 same:=fun b o h h'=>e b o (S.same b o h h')
 soft:=fun a ha o ho=>by
  obtain⟨o',ho'⟩:=S.gone a ha;have:=e a o' ho';rw[ho]at this;cases this;exact S.soft a ha _ ho'
 gone:=fun b hb=>let⟨o,h⟩:=S.gone b hb;⟨o,e b o h⟩
 live:=fun x hx=>let⟨o,h⟩:=S.live x hx;⟨o,e x o h⟩
theorem SR.softH(S:SR X W me B H σ δ):Soft H (Hid B σ δ):=fun a ha o ho=>by
 rcases ha with ha | ⟨i,⟨w,d,h1,h2⟩,h3⟩
 ·exact S.soft a ha o ho
 ·cases w with
  | sh=>exact absurd rfl h2
  | ow=>
    obtain⟨b,q1,q2,_⟩:=S.ow i d h1;rw[h3]at q1;cases q1;obtain⟨o',q3,q4⟩:=q2.some;rw[ho]at q3;cases q3;exact q4
  | me=>
    obtain⟨_,b,_,q1,q2,_⟩:=S.mi i d h1;rw[h3]at q1;cases q1;obtain⟨o',q3,q4⟩:=q2.some;rw[ho]at q3;cases q3;exact q4
theorem SR.hidH(S:SR X W me B H σ δ)(ha:Hid B σ δ a):∃o,H a=some o:=by
 rcases ha with ha | ⟨i,⟨w,d,h1,h2⟩,h3⟩
 ·exact S.gone a ha
 ·cases w with
  | sh=>exact absurd rfl h2
  | ow=>
    obtain⟨b,q1,q2,_⟩:=S.ow i d h1;rw[h3]at q1;cases q1;obtain⟨o',q3,q4⟩:=q2.some;exact⟨_,q3⟩
  | me=>
    obtain⟨_,b,_,q1,q2,_⟩:=S.mi i d h1;rw[h3]at q1;cases q1;obtain⟨o',q3,q4⟩:=q2.some;exact⟨_,q3⟩
mutual
theorem Rep.imm(S:Soft H P):∀{d:D} {v:V},d.imm=true->Rep W H d v->Rep W (vis H P) d v
 | .non,v,_,h=>by simpa only[Rep]using h
 | .bl b,v,_,h=>by simpa only[Rep]using h
 | .int i,v,_,h=>by simpa only[Rep]using h
 | .str x,v,_,h=>by simpa only[Rep]using h
 | .tup l,v,q,h=>by
   simp only[D.imm]at q;simp only[Rep]at h ⊢;obtain⟨a,xs,rfl,h1,h2⟩:=h;refine⟨a,xs,rfl,?_,Reps.imm S q h2⟩;rcases h1 with(h1 | ⟨o,h1⟩) | h1
   ·exact .inl (.inl (bK h1 fun z=>(S a z _ h1).1 _ rfl))
   ·exact .inl (.inr ⟨o,bK h1 fun z=>(S a z _ h1).2 _ _ rfl⟩)
   ·exact .inr h1
 | .lst l,v,q,h=>by simp[D.imm]at q
 | .dct ks vs,v,q,h=>by simp[D.imm]at q
 | .obj c ns vs,v,q,h=>by simp[D.imm]at q
 | .err _,v,q,h=>by simp[D.imm]at q
theorem Reps.imm(S:Soft H P):∀{l:List D} {vs:List V},immL l=true->Reps W H l vs->Reps W (vis H P) l vs
 | [],[],_,_=>by simp only[Reps]
 | [],_::_,_,h=>by simp only[Reps]at h
 | _::_,[],_,h=>by simp only[Reps]at h
 | d::l,v::vs,q,h=>by
   simp only[immL,Bool.and_eq_true]at q;simp only[Reps]at h ⊢;exact⟨Rep.imm S q.1 h.1,Reps.imm S q.2 h.2⟩
end
def Res(W:Wd)(P:Addr->Prop)(lk:Bool)(H H':Hp)(w:Bool)(d:D)(v:V):Prop :=
 if w=true then ∃a,v=.ref a/\H a=none/\OwnAt W H' (vis H' fun b=>P b\/b=a) a d
 else if lk=true then RepT W H' (vis H' P) d v else Rep W (vis H' P) d v
def EW(X:Cx)(W:Wd)(σ:L2.St)(H:Hp)(c:Nat):Prop:=False
noncomputable def tD(X:Cx)(W:Wd)(lk:Bool)(f:Dst->R (Bool×D)):TE:=fun σ H Q=>∃me B δ,SR X W me B H σ δ/\match f δ with
 | .ok r=>∀v H',Same H H'->Res W (Hid B σ δ) lk H H' r.1 r.2 v->Q v H'
 | .exc c=>EW X W σ H c
 | .stuck=>False
theorem PE.imp(h:PE X e t)(i:∀σ H Q,t' σ H Q->t σ H Q):PE X e t':=fun pins s σ H Q I hw=>h pins s σ H Q I (i σ H Q hw)
theorem PT.imp(h:PT X e t)(i:∀σ H Q,t' σ H Q->t σ H Q):PT X e t':=fun pins s σ H Q I hw=>h pins s σ H Q I (i σ H Q hw)
theorem PA.imp(h:PA X es t)(i:∀σ H Q,t' σ H Q->t σ H Q):PA X es t':=fun pos pins s σ H Q I hw=>h pos pins s σ H Q I (i σ H Q hw)
theorem PS.imp(h:PS X e t)(i:∀D σ H,t' D σ H->t D σ H):PS X e t':=fun pins s σ H D I hw=>h pins s σ H D I (i D σ H hw)
theorem EW.mono(h:EW X W σ H c)(e:Same H H'):EW X W σ H' c:=h.elim
theorem Same.upd(h:H p=none):Same H (upd H p o):=fun b u e=>by rw[aR (bJ e h)];exact e
theorem Res.look(h:Res W P lk H H' w d v):RepT W H' (vis H' P) d v:=by
 unfold Res at h;split at h
 ·obtain⟨a,rfl,_,h⟩:=h
  exact(h.mono (fun _ q=>q) (aH fun b z=>.inl z)).top
 ·split at h
  ·exact h
  ·exact h.top bH
theorem Res.keep(h:Res W P false H H' w d v)(hp:∀a,P a->∃o,H a=some o):Rep W (vis H' P) d v:=by
 unfold Res at h;split at h
 ·obtain⟨a,rfl,h0,h⟩:=h
  have na:¬P a:=fun z=>by
   obtain⟨o,q⟩:=hp a z;rw[h0]at q;cases q
  exact(h.mono (fun _ q=>q) (aH fun b z=>.inl z)).rep fun o q=>bK q na
 ·exact h
theorem Res.shared(h:Rep W (vis H' P) d v):Res W P lk H H' false d v:=by
 unfold Res;rw[if_neg (by simp)];split
 ·exact h.top bH
 ·exact h
end Z
namespace Z
open PySem PySem.Spec PyProof.Rows L2
section
variable{X:Cx}{W:Wd}{lk lk':Bool}{σ:L2.St}{H H1 H':Hp}{me:Option Addr}{B:Addr->Prop}{δ:Dst}{Q Q':VK}
def After(X:Cx)(W:Wd)(lk:Bool)(σ:L2.St)(H:Hp)(P:Addr->Prop)(r:R (Bool×D))(Q:VK):Prop:=match r with
 | .ok r=>∀v H',Same H H'->Res W P lk H H' r.1 r.2 v->Q v H'
 | .exc c=>EW X W σ H c
 | .stuck=>False
theorem tD_iff:tD X W lk f σ H Q↔∃me B δ,SR X W me B H σ δ/\After X W lk σ H (Hid B σ δ) (f δ) Q:=by
 unfold tD After;exact Iff.rfl
theorem Res.from(h:Res W P lk H1 H' w d v)(e:Same H H1):Res W P lk H H' w d v:=by
 unfold Res at h ⊢;split at h
 ·rename_i hw
  rw[if_pos hw];obtain⟨a,h1,h2,h3⟩:=h;exact⟨a,h1,e.free h2,h3⟩
 ·rename_i hw
  rw[if_neg hw];exact h
theorem After.mono(h:After X W lk σ H P r Q)(e:Same H H1):After X W lk σ H1 P r Q:=by
 unfold After at h ⊢
 cases r with
 | ok r=>exact fun v H' s q=>h v H' (e.trans s) (q.from e)
 | exc c=>exact h.mono e
 | stuck=>exact h
theorem tD.mono(h:tD X W lk f σ H Q)(k:∀v H',Q v H'->Q' v H'):tD X W lk f σ H Q':=by
 obtain⟨me,B,δ,S,h⟩:=tD_iff.mp h;refine tD_iff.mpr ⟨me,B,δ,S,?_⟩;unfold After at h ⊢
 cases e:f δ with
 | ok r=>rw[e]at h;exact fun v H' s q=>k _ _ (h v H' s q)
 | exc c=>rw[e]at h;exact h
 | stuck=>rw[e]at h;exact h
theorem part(S:SR X W me B H σ δ)(h:After X W lk σ H (Hid B σ δ) ((fa δ).bind g) Q) :
 tD X W lk' fa σ H fun v H1=>∃r,fa δ=.ok r/\SR X W me B H1 σ δ/\Same H H1/\RepT W H1 (vis H1 (Hid B σ δ)) r.2 v/\Res W (Hid B σ δ) lk' H H1 r.1 r.2 v/\After X W lk σ H1 (Hid B σ δ) (g r) Q:=by
 refine tD_iff.mpr ⟨me,B,δ,S,?_⟩
 cases e:fa δ with
 | ok r=>
   rw[e]at h;intro v H1 s q;exact⟨r,rfl,S.mono s,s,q.look,q,After.mono h s⟩
 | exc c=>rw[e]at h;exact h
 | stuck=>rw[e]at h;exact h
theorem Soft.mono(s:Soft H P)(g:∀a,P a->∃o,H a=some o)(e:Same H H1):Soft H1 P:=fun a ha o ho=>by
 obtain⟨o',h'⟩:=g a ha;have:=e a o' h';rw[ho]at this;cases this;exact s a ha _ h'
theorem SR.know(S:SR X W me B H σ δ):∀a,Hid B σ δ a->∃o,H a=some o:=fun _ h=>S.hidH h
def Sem2(W:Wd)(r:R2)(g:D->D->R (Bool×D)):Prop :=
 ∀(lk:Bool) (P:Addr->Prop) (H:Hp) (x y:V) (dx dy:D) (Q:VK) (w:Bool) (d:D),Soft H P->(∀a,P a->∃o,H a=some o)->RepT W H (vis H P) dx x->RepT W H (vis H P) dy y->g dx dy=.ok (w,d) ->
  (∀v H',Same H H'->Res W P lk H H' w d v->Q v H')->r x y H Q
def fP(g:D->D->R (Bool×D)):Prop:=∀x y c,g x y≠.exc c
theorem mR(hs:Sem2 W r g)(hn:fP g)
 (h:tD X W lk (fun δ=>(fa δ).bind fun x=>(fb δ).bind fun y=>g x.2 y.2) σ H Q):tOp r (tD X W true fa) (tD X W true fb) σ H Q:=by
 obtain⟨me,B,δ,S,h⟩:=tD_iff.mp h
 refine tD.mono (part S h) fun v H1 ⟨r1,e1,S1,s1,t1,_,h1⟩=>?_
 refine tD.mono (part (g:=fun y=>g r1.2 y.2) S1 h1) fun u H2 ⟨r2,e2,S2,s2,t2,_,h2⟩=>?_
 cases e:g r1.2 r2.2 with
 | ok r=>
   rw[e]at h2;exact hs lk (Hid B σ δ) H2 v u r1.2 r2.2 Q r.1 r.2 S2.softH S2.know (t1.mono s2 (ao s2)) t2 e h2
 | exc c=>exact absurd e (hn _ _ _)
 | stuck=>rw[e]at h2;exact h2.elim
variable{a b:Expr}{pos:Pos}{fa fb:Dst->R (Bool×D)}
theorem P0(ho:OpR X (Vm op) r)(hs:Sem2 W r g)(hn:fP g)(ha:PE X a (tD X W true fa))(hb:PE X b (tD X W true fb)) :
 PE X (.BinOp a op b pos) (tD X W lk fun δ=>(fa δ).bind fun x=>(fb δ).bind fun y=>g x.2 y.2) :=
 PE.imp (Pq ho ha hb) fun _ _ _ h=>mR hs hn h
theorem QW(ho:OpR X (TX op) r)(hs:Sem2 W r g)(hn:fP g)(ha:PE X a (tD X W true fa))(hb:PE X b (tD X W true fb))(hm:U9 op b=false) :
 PE X (.Compare a [op] [b] pos) (tD X W lk fun δ=>(fa δ).bind fun x=>(fb δ).bind fun y=>g x.2 y.2) :=
 PE.imp (j4 ho ha hb hm) fun _ _ _ h=>mR hs hn h
theorem QV(hN:X.N[i]?=some x)(hv:Vis X.env.scope x)(hd:(x==("__debug__":Str))=false)(hcd:(x==("__classdict__":Str))=false)(o:Orc):PE X (.Name x pos) (tD X W lk fun δ=>ev o δ lk (.var i)):=by
 refine PE.imp (ir hN hv hd hcd) fun σ H Q h=>?_
 obtain⟨me,B,δ,S,h⟩:=tD_iff.mp h;unfold After at h;simp only[ev]at h
 cases e:δ[i]? with
 | none=>simp only[e]at h
 | some q=>
   cases q with
   | none=>simp only[e]at h
   | some q=>
     obtain⟨w,d⟩:=q
     cases w with
     | sh=>
       simp only[e]at h;obtain⟨v,h1,h2⟩:=S.sh i d e;exact⟨v,h1,h v H (Same.refl H) (.shared h2)⟩
     | ow=>
       simp only[e]at h;obtain⟨a,h1,h2,_⟩:=S.ow i d e;refine⟨_,h1,?_⟩
       cases lk with
       | false=>exact h.elim
       | true=>exact h _ H (Same.refl H) h2.top
     | me=>
       simp only[e]at h;obtain⟨_,a,_,h1,h2,_⟩:=S.mi i d e;refine⟨_,h1,?_⟩
       cases lk with
       | false=>exact h.elim
       | true=>exact h _ H (Same.refl H) h2.top
theorem uD(he:PE X e (tC v))(hr:∀G,Rep W G d v)(o:Orc):PE X e (tD X W lk fun δ=>ev o δ lk (.cst d)):=by
 refine PE.imp he fun σ H Q h=>?_
 obtain⟨me,B,δ,S,h⟩:=tD_iff.mp h;unfold After at h;simp only[ev]at h;exact h v H (Same.refl H) (.shared (hr _))
theorem aQ(h:RepT W P G (.int i) x):x=.int i:=by simpa only[RepT,Rep]using h
theorem dB:Res W P lk H H' false (.int i) (.int i):=.shared (by simp only[Rep])
theorem cj:Res W P lk H H' false (.bl i) (.bl i):=.shared (by simp only[Rep])
theorem pI(h:i.length<=16777216):Res W P lk H H' false (.str i) (.str (strV i)):=.shared (by simp only[Rep];exact⟨trivial,h⟩)
theorem bu(h:RepT W P G (.str i) x):x=.str (strV i)/\i.length<=16777216:=by simpa only[RepT,Rep]using h
theorem FZ(i:Int):bits i=Sw.Int.intBits i:=by
 unfold bits Sw.Int.intBits
 by_cases h:i=0
 all_goals(simp[h])
theorem zP{a b:Int}(h:dG a b=true):Xz a b:=by
 unfold dG at h;simp only[Bool.or_eq_true,decide_eq_true_eq,FZ]at h;rcases h with(h | h) | h
 ·exact .of_left h
 ·exact .of_right h
 ·unfold Xz Sw.Int.intTooBig
  intro z;simp only[Bool.and_eq_true,decide_eq_true_eq]at z;have:bitsLine=134217728:=rfl;omega
theorem gW{α:Type}{b:Bool}{x:R α}{y:α}(h:Y5 b x=.ok y):b=true/\x=.ok y:=by
 unfold Y5 at h
 cases b with
 | true=>exact⟨rfl,by simpa using h⟩
 | false=>simp at h
theorem of_ok(h:XR x=.ok y):x=some y:=by
 cases x with
 | none=>simp[XR]at h
 | some z=>simp[XR]at h;rw[h]
theorem dZ:XR x≠.exc c:=by cases x<;>simp[XR]
theorem mD{α:Type}{b:Bool}{x:R α}{c:Nat}(h:x≠.exc c):Y5 b x≠.exc c:=by unfold Y5;cases b<;>simp[h]
theorem qy(p:O2)(a b:Int)(c:Nat):arith p a b≠.exc c:=by
 cases p<;>simp[arith,Y5]<;>split<;>simp
theorem lA(p:O2):fP (o2 p):=by
 intro x y c
 cases p<;>simp only[o2]<;>first
  | exact dZ
  | (split
     ·exact qy _ _ _ _
     ·first | exact mD (by simp) | simp
     ·first | exact mD (by simp) | simp
     ·simp)
  | (split
     ·split<;>simp
     ·split<;>simp
     ·simp)
theorem lH(h1:∀x y r,o2 p x y=.ok r->∃i j,x=.int i/\y=.int j/\arith p i j=.ok r)
 (h2:∀i j r,arith p i j=.ok r->C i j/\r.1=false/\∀G,Rep W G r.2 (g i j)):Sem2 W (rI C g) (o2 p):=by
 intro lk P H x y dx dy Q w d hS hK hx hy e k;obtain⟨i,j,rfl,rfl,e'⟩:=h1 _ _ _ e;obtain⟨hc,hw,hr⟩:=h2 _ _ _ e';have hw:w=false:=hw;subst hw;exact⟨i,j,aQ hx,aQ hy,hc,k _ H (Same.refl H) (.shared (hr _))⟩
theorem lz(h1:∀x y r,o2 p x y=.ok r->∃i j,x=.int i/\y=.int j/\arith p i j=.ok r)
 (h2:∀i j r,arith p i j=.ok r->r.1=false/\∀G,Rep W G r.2 (g i j)):Sem2 W (rI0 g) (o2 p):=by
 intro lk P H x y dx dy Q w d hS hK hx hy e k;obtain⟨i,j,rfl,rfl,e'⟩:=h1 _ _ _ e;obtain⟨hw,hr⟩:=h2 _ _ _ e';have hw:w=false:=hw;subst hw;exact⟨i,j,aQ hx,aQ hy,k _ H (Same.refl H) (.shared (hr _))⟩
theorem dm(hp:p=.sub\/p=.mul\/p=.fdiv\/p=.mod\/p=.pow\/p=.gt\/p=.ge):∀x y r,o2 p x y=.ok r->∃i j,x=.int i/\y=.int j/\arith p i j=.ok r:=by
 intro x y r h
 rcases hp with rfl | rfl | rfl | rfl | rfl | rfl | rfl<;>simp only[o2]at h<;>
  (split at h<;>first
   | exact⟨_,_,rfl,rfl,h⟩
   | cases h)
theorem Fq:Sem2 W (rI0 fun i j=>.int (i-j)) (o2 .sub):=lz (dm (by simp)) fun i j r h=>by
 simp only[arith]at h;cases h;exact⟨rfl,fun G=>by simp only[Rep]⟩
theorem Jb:Sem2 W (rI Xz fun i j=>.int (i*j)) (o2 .mul):=lH (dm (by simp)) fun i j r h=>by
 simp only[arith]at h;obtain⟨h1,h⟩:=gW h;cases h;exact⟨zP h1,rfl,fun G=>by simp only[Rep]⟩
theorem Je:OpR X (Vm .Mult) (rI Xz fun i j=>.int (i*j)):=opI fun _ _ _ _ _ _ _ hc q=>PyProof.Rows.mul_int q hc
def KH(_ j:Int):Prop:=j≠0/\j.natAbs.log2<9000
theorem Ao:Sem2 W (rI KH fun i j=>.int (i.fdiv j)) (o2 .fdiv):=lH (dm (by simp)) fun i j r h=>by
 simp only[arith]at h;obtain⟨h1,h⟩:=gW h;cases h;simp only[Bool.and_eq_true,decide_eq_true_eq]at h1;exact⟨h1,rfl,fun G=>by simp only[Rep]⟩
theorem Bg:OpR X (Vm .FloorDiv) (rI KH fun i j=>.int (i.fdiv j)):=opI fun _ _ _ _ _ _ _ hc q=>floordiv_int hc.1 q (.inl (PyProof.noPylong_of_log2 hc.2))
theorem Gz:Sem2 W (rI (fun _ j=>j≠0) fun i j=>.int (i.fmod j)) (o2 .mod):=lH (dm (by simp)) fun i j r h=>by
 simp only[arith]at h;obtain⟨h1,h⟩:=gW h;cases h;simp only[decide_eq_true_eq]at h1;exact⟨h1,rfl,fun G=>by simp only[Rep]⟩
theorem Jc:Sem2 W (rI CPow fun i j=>.int (i ^ j.toNat)) (o2 .pow):=lH (dm (by simp)) fun i j r h=>by
 simp only[arith]at h;obtain⟨h1,h⟩:=gW h;cases h;simp only[Bool.and_eq_true,decide_eq_true_eq]at h1;refine⟨⟨h1.1.1,by omega,by have:=h1.2;omega⟩,rfl,fun G=>by simp only[Rep]⟩
theorem Lx:Sem2 W (rI0 fun i j=>.bl (decide (j<i))) (o2 .gt):=lz (dm (by simp)) fun i j r h=>by
 simp only[arith]at h;cases h;exact⟨rfl,fun G=>by simp only[Rep]⟩
theorem Kr:Sem2 W (rI0 fun i j=>.bl (decide (j<=i))) (o2 .ge):=lz (dm (by simp)) fun i j r h=>by
 simp only[arith]at h;cases h;exact⟨rfl,fun G=>by simp only[Rep]⟩
theorem z8(b:Bool):truth (.bl b)=some b:=rfl
noncomputable def tT(X:Cx)(W:Wd)(f:Dst->R (Bool×D)):TT:=fun σ H Q=>∃me B δ,SR X W me B H σ δ/\match(f δ).bind (fun x=>XR (truth x.2))with
 | .ok b=>∀H',Same H H'->Q b H'
 | .exc c=>EW X W σ H c
 | .stuck=>False
theorem truV{H G:Hp}{d:D}{v:V}{b:Bool}(g:Same G H)(e:truth d=some b)(h:RepT W H G d v):TruV W.K v H b:=by
 cases d with
 | non=>simp only[RepT,Rep]at h;subst h;simp only[truth,Rf]at e;exact e.symm
 | bl x=>simp only[RepT,Rep]at h;subst h;simp only[truth,Rf]at e;exact e.symm
 | int i=>
   simp only[RepT,Rep]at h;subst h;simp only[truth,Rf]at e;show b=(i !=0);rw[<-e];by_cases hi:i=0<;>simp[hi]
 | str x=>
   obtain⟨rfl,hl⟩:=bu h;simp only[truth,Rf]at e;refine⟨by simpa[strV,Str.length,T9]using hl,?_⟩;rw[<-e];cases x<;>simp[strV,Str.length]<;>omega
 | tup l=>
   simp only[RepT,Rep]at h;obtain⟨a,xs,rfl,h1,h2⟩:=h;simp only[truth,Rf]at e;refine .inr (.inl ⟨xs,bx g h1,?_⟩);have:=h2.length;rw[<-e];cases l<;>cases xs<;>simp at this ⊢
 | lst l=>
   obtain⟨a,xs,rfl,h1,h2⟩:=h;simp only[truth,Rf]at e;refine .inl ⟨xs,h1,?_⟩;have:=h2.length;rw[<-e];cases l<;>cases xs<;>simp at this ⊢
 | dct ks vs=>
   obtain⟨a,kvs,rfl,⟨ep,h1⟩,h2,h3,h4⟩:=h;simp only[truth,Rf]at e;refine .inr (.inr ⟨kvs,ep,h1,?_⟩);have:=congrArg T3 h2;rw[<-e];cases ks<;>cases kvs<;>simp at this ⊢
 | obj c ns vs=>simp[truth]at e
 | err c=>simp[truth]at e
theorem K4(h:PE X e (tD X W true f))(he:∀whole,isTrue e X.env whole=(do let v <-whole;V8 e.pos;U7 [v] (truthy v))):PT X e (tT X W f):=by
 refine PT.imp (Bm h he) fun σ H Q h=>?_
 obtain⟨me,B,δ,S,h⟩:=h;refine tD_iff.mpr ⟨me,B,δ,S,?_⟩;unfold After
 cases e:f δ with
 | ok r=>
   simp only[e,XS]at h
   cases e2:truth r.2 with
   | none=>simp only[e2,XR]at h
   | some b=>
     simp only[e2,XR]at h;intro v H' s q;exact⟨b,S.kf▸truV bH e2 q.look,h H' s⟩
 | exc c=>simp only[e,XS]at h;exact h
 | stuck=>simp only[e,XS]at h
theorem Hs{f:Dst->R (Bool×D)}{σ:L2.St}{H:Hp}{Q:Bool->Hp->Prop}(hb:∀δ r,f δ=.ok r->∃b,r=(false,.bl b))(h:tT X W f σ H Q):tD X W true f σ H fun x H'=>∃k,x=.bl k/\Q k H':=by
 obtain⟨me,B,δ,S,h⟩:=h;refine tD_iff.mpr ⟨me,B,δ,S,?_⟩;unfold After
 cases e:f δ with
 | ok r=>
   obtain⟨b,rfl⟩:=hb δ r e;simp only[e,XS,truth,XR]at h;intro v H' s q;have:=q.look;simp only[RepT,Rep]at this;exact⟨b,this,h H' s⟩
 | exc c=>simp only[e,XS]at h;exact h
 | stuck=>simp only[e,XS]at h
theorem gk{x:R (Bool×D)}{g:Bool×D->R (Bool×D)}{r:Bool×D}(h:x.bind g=.ok r):∃y,x=.ok y/\g y=.ok r:=by
 cases x with
 | ok y=>exact⟨y,rfl,h⟩
 | exc c=>cases h
 | stuck=>cases h
theorem JS(ho:OpR X (TX op) r)(hs:Sem2 W r g)(hn:fP g)(hbl:∀x y r,g x y=.ok r->∃b,r=(false,.bl b))(ha:PE X a (tD X W true fa))(hb:PE X b (tD X W true fb))(hm:U9 op b=false) :
 PT X (.Compare a [op] [b] pos) (tT X W fun δ=>(fa δ).bind fun x=>(fb δ).bind fun y=>g x.2 y.2):=by
 refine PT.imp (j8 ho ha hb hm) fun σ H Q h=>?_
 refine mR (lk:=true) hs hn (Hs (fun δ r e=>?_) h);obtain⟨y,_,e⟩:=gk e;obtain⟨z,_,e⟩:=gk e;exact hbl _ _ _ e
theorem tT.mono{f:Dst->R (Bool×D)}{σ:L2.St}{H:Hp}{Q Q':Bool->Hp->Prop}(h:tT X W f σ H Q)(k:∀b H',Q b H'->Q' b H'):tT X W f σ H Q':=by
 obtain⟨me,B,δ,S,h⟩:=h;refine⟨me,B,δ,S,?_⟩
 cases e:(f δ).bind (fun x=>XR (truth x.2))with
 | ok b=>rw[e]at h;exact fun H' s=>k _ _ (h H' s)
 | exc c=>rw[e]at h;exact h
 | stuck=>rw[e]at h;exact h
theorem NK(ha:PT X a (tT X W fa)):PT X (.UnaryOp .Not a pos) (tT X W fun δ=>(fa δ).bind fun x=>(XR (truth x.2)).bind fun b=>.ok (false,.bl !b)):=by
 refine PT.imp (Kc ha) fun σ H Q h=>?_
 obtain⟨me,B,δ,S,h⟩:=h;refine⟨me,B,δ,S,?_⟩
 cases e:fa δ with
 | ok r=>
   simp only[e,XS]at h ⊢
   cases e2:truth r.2 with
   | none=>simp only[e2,XR]at h
   | some b=>
     simp only[e2,XR,z8]at h ⊢;exact h
 | exc c=>simp only[e,XS]at h ⊢;exact h
 | stuck=>simp only[e,XS]at h
theorem Qy(ha:PE X a (tD X W true f)):PE X (.UnaryOp .Not a pos) (tD X W lk fun δ=>(f δ).bind fun x=>(XR (truth x.2)).bind fun b=>.ok (false,.bl !b)):=by
 intro pins s σ H Q I h;obtain⟨me,B,δ,S,h⟩:=tD_iff.mp h;refine UnaryOp_ (thn (ha pins s σ H _ I (part S h)) fun v s1 ⟨x,H1,I1,r1,r,e,S1,s1',t1,_,h1⟩=>?_)
 cases e2:truth r.2 with
 | none=>simp only[e2,XR,XS,After]at h1
 | some b=>
   simp only[e2,XR,XS,After]at h1;refine not_of (thn (CN pins s1 σ H1 x v (fun k H'=>k=b/\H'=H1) I1 r1 ⟨b,S.kf▸truV bH e2 t1,rfl,rfl⟩) fun k s2 ⟨H2,I2,hk,hH⟩=>?_);subst hk hH;exact⟨.bl (!k),H2,I2,rfl,h1 _ H2 (Same.refl _) cj⟩
end
end Z
namespace Z
open PySem PySem.Spec PyProof.Rows L2
theorem jB(o:Obj)(f:Array Value->Array Value):(o.mapFields f).dict=o.dict:=by
 cases o with
 | mk c d dt sl=>cases dt<;>rfl
theorem Ci:∀{o:HO},ObjOk P w H h a o->∃ob,h.get? a=some ob
 | .lst _,x=>let⟨_,_,_,_,e⟩:=x;⟨_,e⟩
 | .tup _,x=>let⟨_,_,_,ob,e,_⟩:=x;⟨ob,e⟩
 | .dK _ _,x=>let⟨_,_,_,_,ob,_,e,_⟩:=x;⟨ob,e⟩
 | .dT _,x=>let⟨_,_,_,_,ob,_,_,e,_⟩:=x;⟨ob,e⟩
 | .set _ _,x=>let⟨ob,_,_,_,e,_⟩:=x;⟨ob,e⟩
 | .ins _ _ _,x=>let⟨_,_,_,e,_⟩:=x;⟨_,e⟩
 | .own _,x=>x
 | .xd _,x=>let⟨_,⟨ob,_,_,e,_⟩,_⟩:=x;⟨ob,e⟩
 | .rng _ _,x=>let⟨_,_,_,e⟩:=x;⟨_,e⟩
 | .frz _ _,x=>⟨_,x.1⟩
 | .tbl _,x=>⟨_,x⟩
 | .met _ _,x=>⟨_,x⟩
 | .ext _,x=>x.2.1
def ExcAt(h h0:Rk)(H':Hp)(a:Addr)(cls:Value)(tr:Bool):Prop:=∃oe vs,h.get? a=some oe/\(oe.cls=cls/\oe.dict=none)/\oe.data=.fields vs/\1<vs.size /\
 ((tr=false/\vs[1]?=some .none)\/∃T oT ts,vs[1]?=some (.ref T)/\T≠a/\h0.get? T=none/\H' T=none/\h.get? T=some oT/\oT.data=.fields ts/\3<ts.size)
structure Fly(X:Cx)(H:Hp)(s:Shared)(cls:Value)(a:Addr)(H':Hp)(s':Shared)(tr:Bool):Prop where
 os:s'.os=s.os
 bare:VJ s'.gens
 un:Un (frs X.stack) [] H H' s.heap s'.heap
 hok:HOk X.prog X.w H' s'.heap
 newE:s.heap.get? a=none
 freeE:H' a=none
 ff:s'.heap.FunFrames X.base X.stack
 fr:∀b∈frs X.stack,H' b=none
 exc:ExcAt s'.heap s.heap H' a cls tr
section
variable{X:Cx}{H H':Hp}{s s':Shared}{cls:Value}{a:Addr}{tr tr':Bool}{h':Rk}
theorem Fly.step(F:Fly X H s cls a H' s' tr)(T:Addr->Prop)(hT:∀b,T b->s.heap.get? b=none/\H' b=none)
 (keep:∀b o,b≠a->¬T b->b∉frs X.stack->s'.heap.get? b=some o->h'.get? b=some o) (slot:∀b o,b∈frs X.stack->s'.heap.get? b=some o->∃sl,h'.get? b=some { o with slots:=sl })
 (ex:ExcAt h' s.heap H' a cls tr'):Fly X H s cls a H' { s' with heap:=h' } tr':=by
 have old:∀b o,s.heap.get? b=some o->b≠a/\¬T b:=fun b o e=>⟨fun z=>(by rw[z,F.newE]at e;cases e),fun z=>(by rw[(hT b z).1]at e;cases e)⟩
 have all:∀b o,s.heap.get? b=some o->∀o',s'.heap.get? b=some o'->∃o'',h'.get? b=some o'':=fun b o e o' e'=>by
  by_cases hb:b∈frs X.stack
  ·obtain⟨sl,q⟩:=slot b o' hb e';exact⟨_,q⟩
  ·exact⟨_,keep b o' (old b o e).1 (old b o e).2 hb e'⟩
 refine⟨F.os,F.bare,⟨fun b o e n hb hx=>?_,fun b o e n hb hx=>?_,F.un.free,fun b o e hx=>?_,F.un.tups,F.un.frzs,F.un.tbls⟩,fun b o e=>?_,F.newE,F.freeE,?_,F.fr,ex⟩
 ·exact keep b o (old b o e).1 (old b o e).2 hb (F.un.keep b o e n hb hx)
 ·obtain⟨sl,q⟩:=F.un.slot b o e n hb hx
  obtain⟨sl',q'⟩:=slot b _ hb q;exact⟨sl',q'⟩
 ·obtain⟨o',q⟩:=F.un.there b o e hx
  exact all b o e o' q
 ·refine(F.hok b o e).stay (fun c u hc q=>keep c u ?_ ?_ ?_ q) (fun _ q=>q) fun _ _ q=>q
  ·intro z
   rcases hc with rfl | hc
   ·rw[z,F.freeE]at e;cases e
   ·rw[z,F.freeE]at hc;cases hc
  ·intro z
   have:=(hT c z).2;rcases hc with rfl | hc
   ·rw[this]at e;cases e
   ·rw[this]at hc;cases hc
  ·intro z
   have:=F.fr c z;rcases hc with rfl | hc
   ·rw[this]at e;cases e
   ·rw[this]at hc;cases hc
 ·have go:∀l:List Env,(∀b∈frs l,b∈frs X.stack)->s'.heap.FunFrames X.base l->h'.FunFrames X.base l:=by
   intro l
   induction l with
   | nil=>intro _ _;trivial
   | cons env r ih=>
     intro hs ⟨hk,⟨L,o,hf,hn,ho,hd⟩,hr⟩
     have e:frs (env::r)=L::frs r:=by unfold frs;rw[Va,hf]
     rw[e]at hs;obtain⟨sl,q⟩:=slot L o (hs L Rg) ho;exact⟨hk,⟨L,_,hf,hn,q,hd⟩,ih (fun b hb=>hs b (Rb _ hb)) hr⟩
  exact go X.stack (fun _ z=>z) F.ff
variable{M:Model}{E:Value->Shared->Prop}{Q:Unit->Shared->Prop}
structure Top(X:Cx)(L:Addr):Prop where
 stk:X.stack=X.env::X.outer
 fr:X.env.frame=some L
 frames:X.A.frames=some X.stack
theorem sr(hX:Top X L)(F:Fly X H s cls a H' s' tr)(he:s'.heap.get? a=some oe)(hc:oe.cls=cls/\oe.dict=none)(hd:oe.data=.fields vs)(hsz:1<vs.size)
 (hQ:∀h',Fly X H s cls a H' { s' with heap:=h' } true->Q () { s' with heap:=h' }) :
 Rn M X.A (do WD (.ref a) 1 (<-EntryCells.newEntry head (<-frameOf X.env) .none (Tf L) .none (<-entryPlaceOf L hn))) Q E s':=by
 have hfr:=hX.frames;rw[hX.stk]at hfr;have hff:=F.ff;rw[hX.stk]at hff
 have hmem:(X.env::X.outer).filterMap (·.frame)=frs X.stack:=by rw[hX.stk];rfl
 have haf:a∉frs X.stack:=fun z=>by
  obtain⟨_,o,ho,hnf⟩:=F.ff.mem z;rw[he]at ho;cases ho;exact hnf vs hd
 refine R6 (wpAny_frameOf_fun hfr hff hX.fr fun h1 hs1=>?_);rw[hmem]at hs1;refine R6 (wpAny_entryPlaceOf fun pl hpl=>?_);unfold EntryCells.newEntry newFields;refine R6 (Ut ?_ (hpl.sizeOk5 _ _ _ _ _))
 have he1:h1.get? a=some oe:=by rw[hs1.2.1 a haf];exact he
 generalize hnob:({ cls:=.type "traceback",dict:=none,data:=.fields ([head,.ref L,.none,Tf L,.none]++(if pl.isEmpty then RW 6 Value.none else pl)).toArray }:Obj)=nob
 have hnd:∃ts,nob.data=.fields ts/\3<ts.size:=by rw[<-hnob];exact⟨_,rfl,by simp⟩
 have hnew:s'.heap.get? h1.objs.size=none:=Rk.get?_none_of_le (by rw[hs1.1];exact Nat.le_refl _)
 have hTa:h1.objs.size≠a:=fun z=>by rw[z,he]at hnew;cases hnew
 have he2:(h1.push nob).get? a=some oe:=R7 _ he1;refine Uo he2 hd hsz (hQ _ (F.step (fun b=>b=h1.objs.size) (fun b z=>?_) (fun b o h1' h2 h3 q=>?_) (fun b o hb q=>?_) ?_))
 ·subst z
  refine⟨?_,F.hok.fresh (by rw[hs1.1];exact Nat.le_refl _)⟩
  cases e:s.heap.get? h1.objs.size with
  | none=>rfl
  | some o=>obtain⟨o',q⟩:=F.un.there _ o e (by simp);rw[hnew]at q;cases q
 ·rw[RN _ _ (T5 h1')]
  exact R7 _ (by rw[hs1.2.1 b h3];exact q)
 ·obtain⟨sl,q'⟩:=hs1.2.2 b o q
  have hba:b≠a:=fun z=>haf (z▸hb)
  exact⟨sl,by rw[RN _ _ (T5 hba)];exact R7 _ q'⟩
 ·obtain⟨ts,hts,h3⟩:=hnd
  have hd3:=Uk hd (·.setIfInBounds 1 (Value.ref h1.objs.size));refine⟨_,_,S5 _ he2 (U3 hd3),⟨by rw[Obj.cls_mapFields];exact hc.1,by rw[jB];exact hc.2⟩,hd3,by simpa using hsz,.inr ⟨h1.objs.size,nob,ts,by simp[hsz],hTa,?_,F.hok.fresh (by rw[hs1.1];exact Nat.le_refl _),?_,hts,h3⟩⟩
  ·cases e:s.heap.get? h1.objs.size with
   | none=>rfl
   | some o=>obtain⟨o',q⟩:=F.un.there _ o e (by simp);rw[hnew]at q;cases q
  ·rw[RN _ _ (T5 hTa)]
   exact Rp _ (by rw[<-hnob];rfl)
theorem pD(hX:Top X L)(F:Fly X H s cls a H' s' tr)(hQ:∀h',Fly X H s cls a H' { s' with heap:=h' } true->Q () { s' with heap:=h' }):Rn M X.A (Xk (.ref a) X.env) Q E s':=by
 obtain⟨oe,vs,he,hc,hd,hsz,hx⟩:=F.exc;unfold Xk;simp only[hX.fr];rcases hx with⟨_,h1⟩ | ⟨T,oT,ts,h1,hTa,hTn,hTf,hT,hTd,h3⟩
 ·refine R6 (Wz he hd h1 ?_)
  rw[if_neg (by decide)];exact sr hX F he hc hd hsz hQ
 ·have h3':ts[3]?=some ts[3]:=Rr h3
  refine R6 (Wz he hd h1 ?_);rw[if_pos (by simp:(Value.ref T !=Value.none)=true)];refine R6 (Wz hT hTd h3' ?_)
  by_cases hq:(ts[3]==Tf L)=true
  ·rw[if_pos hq]
   refine Rc ?_
   have F':Fly X H s cls a H' s' true:=⟨F.os,F.bare,F.un,F.hok,F.newE,F.freeE,F.ff,F.fr,oe,vs,he,hc,hd,hsz,.inr ⟨T,oT,ts,h1,hTa,hTn,hTf,hT,hTd,h3⟩⟩
   exact hQ s'.heap F'
  ·rw[if_neg hq]
   refine R6 (Uo hT hTd h3 ?_)
   have oth:∀b,b≠T->(s'.heap.update T (Tv (·.setIfInBounds 3 Value.none))).get? b=s'.heap.get? b:=fun b hb=>RN _ _ (T5 hb)
   have hTfr:T∉frs X.stack:=fun z=>by
    obtain⟨_,o,ho,hnf⟩:=F.ff.mem z;rw[hT]at ho;cases ho;exact hnf ts hTd
   have he':(s'.heap.update T (Tv (·.setIfInBounds 3 Value.none))).get? a=some oe:=by rw[oth a (T5 hTa)];exact he
   have F':Fly X H s cls a H' { s' with heap:=s'.heap.update T (Tv (·.setIfInBounds 3 Value.none)) } true:=by
    refine F.step (fun b=>b=T) (fun b z=>by subst z;exact⟨hTn,hTf⟩) (fun b o _ h2 _ q=>by rw[oth b h2];exact q) (fun b o hb q=>⟨o.slots,by rw[oth b (fun z=>hTfr (z▸hb))];exact q⟩) ?_;have hd3:=Uk hTd (·.setIfInBounds 3 Value.none);exact⟨oe,vs,he',hc,hd,hsz,.inr ⟨T,_,_,h1,hTa,hTn,hTf,S5 _ hT (U3 hd3),hd3,by simpa using h3⟩⟩
   exact sr hX F' he' hc hd hsz hQ
theorem fL(F:Fly X H s cls a H' s' true)(hQ:∀h',Fly X H s cls a H' { s' with heap:=h' } true->Q () { s' with heap:=h' }):Rn M X.A (setFlight (.ref a) f) Q E s':=by
 obtain⟨oe,vs,he,hc,hd,hsz,hx⟩:=F.exc;rcases hx with⟨h0,_⟩ | ⟨T,oT,ts,h1,hTa,hTn,hTf,hT,hTd,h3⟩
 ·cases h0
 ·unfold setFlight
  refine R6 (Wz he hd h1 ?_);rw[if_pos (by simp:(Value.ref T !=Value.none)=true)];refine Uo hT hTd h3 (hQ _ ?_);generalize (f.elim Value.none fun f=>Tf f)=z
  have oth:∀b,b≠T->(s'.heap.update T (Tv (·.setIfInBounds 3 z))).get? b=s'.heap.get? b:=fun b hb=>RN _ _ (T5 hb)
  have hTfr:T∉frs X.stack:=fun z=>by
   obtain⟨_,o,ho,hnf⟩:=F.ff.mem z;rw[hT]at ho;cases ho;exact hnf ts hTd
  refine F.step (fun b=>b=T) (fun b z=>by subst z;exact⟨hTn,hTf⟩) (fun b o _ h2 _ q=>by rw[oth b h2];exact q) (fun b o hb q=>⟨o.slots,by rw[oth b (fun z=>hTfr (z▸hb))];exact q⟩) ?_;have hd3:=Uk hTd (·.setIfInBounds 3 z);exact⟨oe,vs,by rw[oth a (T5 hTa)];exact he,hc,hd,hsz,.inr ⟨T,_,_,h1,hTa,hTn,hTf,S5 _ hT (U3 hd3),hd3,by simpa using h3⟩⟩
theorem Ig(F:Fly X H s cls a H' s' true)(hQ:∀h',Fly X H s cls a H' { s' with heap:=h' } true->P (.ref a) { s' with heap:=h' }):cameBackBy M X.A X.env P (.ref a) s':=by
 obtain⟨oe,vs,he,hc,hd,hsz,hx⟩:=F.exc;rcases hx with⟨h0,_⟩ | ⟨T,oT,ts,h1,hTa,hTn,hTf,hT,hTd,h3⟩
 ·cases h0
 ·unfold cameBackBy
  refine R6 (Wz he hd h1 ?_);rw[if_neg (by simp:¬(Value.ref T==Value.none)=true)];exact fL F hQ
theorem nu(hX:Top X L)(h1:∀e s',P e s'->∃H s cls a H' tr,e=.ref a/\Fly X H s cls a H' s' tr/\∀h',Fly X H s cls a H' { s' with heap:=h' } true->P e { s' with heap:=h' }):Vt M X.A X.env P:=by
 intro e s' hp;obtain⟨H,s,cls,a,H',tr,rfl,F,k⟩:=h1 e s' hp;unfold notedBy
 refine pD hX F fun h' F'=>?_
 exact Ig F' fun h'' F''=>k h'' F''
theorem uf(hX:Top X L)(F:Fly X H s cls a H' s' tr)(hQ:∀h',Fly X H s cls a H' { s' with heap:=h' } true->Q () { s' with heap:=h' }):Rn M X.A (leaving X.env (.ref a)) Q E s':=by
 unfold leaving;exact R6 (pD hX F fun h' F'=>fL F' hQ)
end
end Z
namespace Z
open PySem PySem.Spec PyProof.Rows L2
section
variable{X:Cx}{W:Wd}{σ:L2.St}{H H1:Hp}{me:Option Addr}{B:Addr->Prop}{δ:Dst}
theorem SR.weaken(hs:∀b,Hid B σ' δ' b->Hid B σ δ b)(h:Rep W (vis H (Hid B σ δ)) d v):Rep W (vis H (Hid B σ' δ')) d v:=h.mono (aH hs)
theorem dX:(share1 δ i)[j]?=if j=i then(match δ[i]? with | some (some (.ow,d))=>some (some (.sh,d)) | x=>x)else δ[j]?:=by
 unfold share1
 cases e:δ[i]? with
 | none=>
   by_cases hj:j=i
   ·subst hj;simp[e]
   ·simp[hj]
 | some q=>
   have hi:i<δ.length:=(Ry.mp e).1
   cases q with
   | none=>
     by_cases hj:j=i
     ·subst hj;simp[e]
     ·simp[hj]
   | some q=>
     obtain⟨w,d⟩:=q
     cases w with
     | ow=>
       by_cases hj:j=i
       ·subst hj;simp[hi]
       ·simp only[if_neg hj];rw[S7 (T5 hj)]
     | sh=>
       by_cases hj:j=i
       ·subst hj;simp[e]
       ·simp[hj]
     | me=>
       by_cases hj:j=i
       ·subst hj;simp[e]
       ·simp[hj]
theorem cC(h:eQ σ (share1 δ i) j a):eQ σ δ j a/\(j=i->∀d,δ[i]?≠some (some (.ow,d))):=by
 obtain⟨⟨w,d,h1,h2⟩,h3⟩:=h;rw[dX]at h1
 by_cases hj:j=i
 ·subst hj
  rw[if_pos rfl]at h1;split at h1
  ·cases h1;exact absurd rfl h2
  ·rename_i hne
   exact⟨⟨⟨w,d,h1,h2⟩,h3⟩,fun _ d' e=>hne d' e⟩
 ·rw[if_neg hj]at h1
  exact⟨⟨⟨w,d,h1,h2⟩,h3⟩,fun e=>absurd e hj⟩
theorem SR.share1(S:SR X W me B H σ δ)(i:Nat):SR X W me B H σ (share1 δ i):=by
 have sub:∀b,Hid B σ (Z.share1 δ i) b->Hid B σ δ b:=fun b hb=>by
  rcases hb with hb | ⟨j,hb⟩
  ·exact .inl hb
  ·exact .inr ⟨j,(cC hb).1⟩
 refine⟨S.kf,?_,fun j d h=>?_,fun j d h=>?_,fun j d h=>?_,fun j k a h1 h2=>S.apart j k a (cC h1).1 (cC h2).1,S.same,S.soft,S.gone,S.live⟩
 ·rw[S.len]
  unfold Z.share1;split<;>simp
 ·rw[dX]at h
  by_cases hj:j=i
  ·subst hj
   rw[if_pos rfl]at h;split at h
   ·rename_i d' e
    cases h;obtain⟨a,h1,h2,h3,h4,h5⟩:=S.ow j d e;refine⟨.ref a,h1,(h2.mono (fun _ q=>q) (aH sub)).rep fun o q=>bK q ?_⟩;intro z;rcases z with z | ⟨k,z⟩
    ·exact h4 z
    ·have hk:=cC z
     have:=S.apart k j a hk.1 ⟨⟨.ow,d,e,by decide⟩,h1⟩;subst this;exact hk.2 rfl d e
   ·obtain⟨v,h1,h2⟩:=S.sh j d h
    exact⟨v,h1,h2.mono (aH sub)⟩
  ·rw[if_neg hj]at h
   obtain⟨v,h1,h2⟩:=S.sh j d h;exact⟨v,h1,h2.mono (aH sub)⟩
 ·have h':δ[j]?=some (some (.ow,d)):=by
   rw[dX]at h
   by_cases hj:j=i
   ·subst hj
    rw[if_pos rfl]at h;split at h
    ·cases h
    ·exact h
   ·rw[if_neg hj]at h;exact h
  obtain⟨a,h1,h2,h3⟩:=S.ow j d h';exact⟨a,h1,h2.mono (fun _ q=>q) (aH sub),h3⟩
 ·have h':δ[j]?=some (some (.me,d)):=by
   rw[dX]at h
   by_cases hj:j=i
   ·subst hj
    rw[if_pos rfl]at h;split at h
    ·cases h
    ·exact h
   ·rw[if_neg hj]at h;exact h
  obtain⟨h0,a,h1,h2,h3,h4⟩:=S.mi j d h';exact⟨h0,a,h1,h2,h3.mono (fun _ q=>q) (aH sub),h4⟩
theorem SR.share(is:List Nat):∀{δ:Dst},SR X W me B H σ δ->SR X W me B H σ (share δ is):=by
 induction is with
 | nil=>intro δ S;exact S
 | cons i l ih=>intro δ S;exact ih (S.share1 i)
theorem SR.evF(S:SR X W me B H σ δ)(o:Orc)(t:T):SR X W me B H σ (Z.evF o δ t).1/\(Z.evF o δ t).2=ev o (Z.evF o δ t).1 false t:=by
 unfold Z.evF;split
 ·exact⟨S.share _,rfl⟩
 ·exact⟨S,rfl⟩
theorem SR.store(S:SR X W me B H σ δ)(s:Same H H1)(r:Res W (Hid B σ δ) false H H1 w d v)(hi:i<δ.length) :
 SR X W me B H1 (σ.set i (some v)) (δ.set i (some (if w then .ow else .sh,d)))/\Same (vis H (Hid B σ δ)) (vis H1 (Hid B (σ.set i (some v)) (δ.set i (some (if w then .ow else .sh,d))))):=by
 have hiσ:i<σ.length:=by rw[S.len];exact hi
 have S1:=S.mono s
 have sub:∀b,Hid B (σ.set i (some v)) (δ.set i (some (if w then .ow else .sh,d))) b->Hid B σ δ b\/(w=true/\v=.ref b):=fun b hb=>by
  rcases hb with hb | ⟨j,⟨w',d',h1,h2⟩,h3⟩
  ·exact .inl (.inl hb)
  ·by_cases hj:j=i
   ·subst hj
    rw[RX hi]at h1;rw[RX hiσ]at h3;cases h1;cases h3
    cases w with
    | true=>exact .inr ⟨rfl,rfl⟩
    | false=>exact absurd rfl h2
   ·rw[S7 (T5 hj)]at h1 h3
    exact .inl (.inr ⟨j,⟨w',d',h1,h2⟩,h3⟩)
 have new:∀b,w=true->v=.ref b->H b=none:=fun b hw hv=>by
  unfold Res at r;rw[if_pos hw]at r;obtain⟨a,e,h0,_⟩:=r;rw[hv]at e;cases e;exact h0
 have up:Same (vis H (Hid B σ δ)) (vis H1 (Hid B (σ.set i (some v)) (δ.set i (some (if w then .ow else .sh,d))))):=fun b o h=>by
  obtain⟨h1,h2⟩:=bF h
  refine bK (s b o h1) fun z=>?_
  rcases sub b z with z | ⟨z1,z2⟩
  ·exact h2 z
  ·rw[new b z1 z2]at h1;cases h1
 have old:∀j a,j≠i->eQ (σ.set i (some v)) (δ.set i (some (if w then .ow else .sh,d))) j a->eQ σ δ j a:=fun j a hj ⟨⟨w',d',h1,h2⟩,h3⟩=>by
  rw[S7 (T5 hj)]at h1 h3;exact⟨⟨w',d',h1,h2⟩,h3⟩
 have here:∀a,eQ (σ.set i (some v)) (δ.set i (some (if w then .ow else .sh,d))) i a->H a=none:=fun a ⟨⟨w',d',h1,h2⟩,h3⟩=>by
  rw[RX hi]at h1;rw[RX hiσ]at h3;cases h1;cases h3
  cases w with
  | true=>exact new _ rfl rfl
  | false=>exact absurd rfl h2
 refine⟨⟨S.kf,by simp[S.len],fun j d' h=>?_,fun j d' h=>?_,fun j d' h=>?_,fun j k a h1 h2=>?_,S1.same,S1.soft,S1.gone,S1.live⟩,up⟩
 ·by_cases hj:j=i
  ·subst hj
   rw[RX hi]at h
   cases w with
   | true=>cases h
   | false=>
     cases h;refine⟨v,by rw[RX hiσ],?_⟩
     have q:Rep W (vis H1 (Hid B σ δ)) d v:=by simpa[Res]using r
     refine q.mono (aH fun b hb=>?_);rcases sub b hb with z | ⟨z,_⟩
     ·exact z
     ·cases z
  ·rw[S7 (T5 hj)]at h
   obtain⟨u,h1,h2⟩:=S.sh j d' h;exact⟨u,by rw[S7 (T5 hj)];exact h1,h2.mono up⟩
 ·by_cases hj:j=i
  ·subst hj
   rw[RX hi]at h
   cases w with
   | false=>cases h
   | true=>
     cases h;have q:=r;unfold Res at q;rw[if_pos rfl]at q;obtain⟨a,rfl,h0,h1⟩:=q;refine⟨a,by rw[RX hiσ],h1.mono (fun _ q=>q) (aH fun b hb=>?_),?_,fun z=>?_,fun z=>?_⟩
     ·rcases sub b hb with z | ⟨_,z⟩
      ·exact .inl z
      ·cases z;exact .inr rfl
     ·cases e:X.H₀ a with
      | none=>rfl
      | some o=>
        by_cases hme:some a=me
        ·obtain⟨o',q⟩:=S.live a hme.symm
         rw[h0]at q;cases q
        ·rw[S.same a o e hme]at h0;cases h0
     ·obtain⟨o,q⟩:=S.gone a z
      rw[h0]at q;cases q
     ·obtain⟨o',q⟩:=S.live a z.symm
      rw[h0]at q;cases q
  ·rw[S7 (T5 hj)]at h
   obtain⟨a,h1,h2,h3⟩:=S.ow j d' h;exact⟨a,by rw[S7 (T5 hj)];exact h1,h2.mono (fun o q=>s a o q) up,h3⟩
 ·by_cases hj:j=i
  ·subst hj
   rw[RX hi]at h;cases w<;>cases h
  ·rw[S7 (T5 hj)]at h
   obtain⟨h0,a,h1,h2,h3,h4⟩:=S.mi j d' h;exact⟨h0,a,h1,by rw[S7 (T5 hj)];exact h2,h3.mono (fun o q=>s a o q) up,h4⟩
 ·by_cases hj:j=i
  ·by_cases hk:k=i
   ·rw[hj,hk]
   ·subst hj
    have q1:=here a h1;obtain⟨o,q2⟩:=S.hidH (.inr ⟨k,old k a hk h2⟩);rw[q1]at q2;cases q2
  ·by_cases hk:k=i
   ·subst hk
    have q1:=here a h2;obtain⟨o,q2⟩:=S.hidH (.inr ⟨j,old j a hj h1⟩);rw[q1]at q2;cases q2
   ·exact S.apart j k a (old j a hj h1) (old k a hk h2)
theorem gF(i:Nat):∀b,Hid B σ (Z.share1 δ i) b->Hid B σ δ b:=fun b hb=>by
 rcases hb with hb | ⟨j,hb⟩
 ·exact .inl hb
 ·exact .inr ⟨j,(cC hb).1⟩
theorem my(is:List Nat):∀{δ:Dst} (b:Addr),Hid B σ (Z.share δ is) b->Hid B σ δ b:=by
 induction is with
 | nil=>intro δ b h;exact h
 | cons i l ih=>intro δ b h;exact gF i b (ih b h)
theorem eZ(o:Orc)(t:T):∀b,Hid B σ (Z.evF o δ t).1 b->Hid B σ δ b:=fun b hb=>by
 unfold Z.evF at hb;split at hb
 ·exact my _ b hb
 ·exact hb
noncomputable def AfterS(X:Cx)(W:Wd)(me:Option Addr)(B:Addr->Prop)(G:Hp)(r:SO)(D:Ends):Prop:=match r with
 | .nx δ=>∀σ H,SR X W me B H σ δ->Same G (vis H (Hid B σ δ))->D.nx σ H
 | .bk δ=>∀σ H,SR X W me B H σ δ->Same G (vis H (Hid B σ δ))->D.bk σ H
 | .ct δ=>∀σ H,SR X W me B H σ δ->Same G (vis H (Hid B σ δ))->D.ct σ H
 | .rt w d δ=>∀v σ H,SR X W me B H σ δ->Same G (vis H (Hid B σ δ))->Res W B false X.H₀ H w d v->D.rt v H
 | .ex c δ=>∀pins σ H s,Inv X pins σ H s->SR X W me B H σ δ->Same G (vis H (Hid B σ δ))->∀a H' s' tr,Fly X H s (.ref (W.CT c)) a H' s' tr->Same H H'->X.xe (.ref a) s'
 | .stuck=>False
theorem AfterS.mono{G G':Hp}{r:SO}{D:Ends}(h:AfterS X W me B G r D)(e:Same G G'):AfterS X W me B G' r D:=by
 cases r with
 | nx δ=>exact fun σ H S s=>h σ H S (e.trans s)
 | bk δ=>exact fun σ H S s=>h σ H S (e.trans s)
 | ct δ=>exact fun σ H S s=>h σ H S (e.trans s)
 | rt w d δ=>exact fun v σ H S s=>h v σ H S (e.trans s)
 | ex c δ=>exact fun pins σ H s I S z=>h pins σ H s I S (e.trans z)
 | stuck=>exact h
def tS(X:Cx)(W:Wd)(g:Dst->SO):TS:=fun D σ H=>∃me B δ,SR X W me B H σ δ/\AfterS X W me B (vis H (Hid B σ δ)) (g δ) D
theorem PSs.imp(h:PSs X e t)(i:∀D σ H,t' D σ H->t D σ H):PSs X e t':=fun pins s σ H D I hw=>h pins s σ H D I (i D σ H hw)
theorem Eg(o:Orc):PSs X [] (tS X W (evSs o .nil)):=PSs.imp wV fun D σ H ⟨me,B,δ,S,h⟩=>by
 simp only[evSs,AfterS]at h;exact h σ H S (Same.refl _)
theorem vf{st:Stmt}{rest:List Stmt}{o:Orc}{s:S}{l:SL}(h1:PS X st (tS X W (evS o s)))(h2:PSs X rest (tS X W (evSs o l))):PSs X (st::rest) (tS X W (evSs o (.cons s l))):=by
 refine PSs.imp (Av h1 h2) fun D σ H ⟨me,B,δ,S,h⟩=>⟨me,B,δ,S,?_⟩
 simp only[evSs]at h
 cases e:evS o s δ with
 | nx δ1=>
   rw[e]at h
   exact fun σ' H' S' s'=>⟨me,B,δ1,S',AfterS.mono h s'⟩
 | rt w d δ1=>rw[e]at h;exact h
 | bk δ1=>rw[e]at h;exact h
 | ct δ1=>rw[e]at h;exact h
 | ex c δ1=>rw[e]at h;exact h
 | stuck=>rw[e]at h;exact h
theorem SO.of_ok{G:Hp}{α:Type}{δ:Dst}{r:R α}{k:α->SO}{D:Ends}(h:AfterS X W me B G (SO.of δ r k) D):∃a,r=.ok a/\AfterS X W me B G (k a) D:=by
 cases r with
 | ok a=>exact⟨a,rfl,h⟩
 | exc c=>exact h.elim
 | stuck=>exact h.elim
theorem bO{G:Hp}{x:Option SO}{D:Ends}(h:AfterS X W me B G (aA x) D):∃r,x=some r/\AfterS X W me B G r D:=by
 cases x with
 | some a=>exact⟨a,rfl,h⟩
 | none=>exact h.elim
theorem gr(h:setSlot δ i w d=some δ'):i<δ.length/\δ'=δ.set i (some (if w then .ow else .sh,d)):=by
 unfold setSlot at h;split at h
 ·exact⟨by assumption,(T4 h).symm⟩
 ·cases h
theorem Kl(hN:X.N.Nodup)(hi:X.N[i]?=some x)(hx:Loc X.env.scope x)(he:PE X e (tD X W false fun δ=>ev o δ false t))(hs:Vd e (some (.Name x pos')) pos.line X.env=pure false)
 (hf:X.fn x=true\/X.env.scope.names.lookup x=some .local):PS X (.Assign [.Name x pos'] e pos) (tS X W (evS o (.set i t))):=by
 refine PS.imp (M4 hN hi hx he hs hf) fun D σ H ⟨me,B,δ,S,h⟩=>?_
 simp only[evS]at h;obtain⟨S1,e1⟩:=S.evF o t;obtain⟨r,e2,h⟩:=SO.of_ok h;obtain⟨q,e3,h⟩:=bO h
 cases e4:setSlot (evF o δ t).1 i r.1 r.2 with
 | none=>rw[e4]at e3;cases e3
 | some δ'=>
   rw[e4]at e3;cases e3;obtain⟨h1,rfl⟩:=gr e4;refine tD_iff.mpr ⟨me,B,_,S1,?_⟩;rw[<-e1,e2];intro v H' s q;obtain⟨S2,s2⟩:=S1.store s q h1;exact h _ _ S2 ((aH (eZ o t)).trans s2)
theorem Oo(hc:PT X c (tT X W fun δ=>ev o δ true t))(ha:PSs X a (tS X W (evSs o sa)))(hb:PSs X b (tS X W (evSs o sb))) :
 PS X (.If c a b pos) (tS X W (evS o (.ifs t sa sb))):=by
 refine PS.imp (Lr hc ha hb) fun D σ H ⟨me,B,δ,S,h⟩=>?_
 simp only[evS]at h;obtain⟨k,e,h⟩:=SO.of_ok h;refine⟨me,B,δ,S,?_⟩;rw[e];intro H' s
 cases k with
 | true=>exact⟨me,B,δ,S.mono s,AfterS.mono h (ao s)⟩
 | false=>exact⟨me,B,δ,S.mono s,AfterS.mono h (ao s)⟩
theorem LQ(hc:PT X c (tT X W fun δ=>ev o δ true t))(ha:PSs X a (tS X W (evSs o sa)))(hb:PSs X b (tS X W (evSs o sb))):PS X (.If c a b pos) (tS X W (evS o (.ifq t sa sb))):=by
 refine PS.imp (Lr hc ha hb) fun D σ H ⟨me,B,δ,S,h⟩=>?_
 simp only[evS]at h;obtain⟨k,e,h⟩:=SO.of_ok h;have S1:=S.share (b7 t);refine⟨me,B,_,S1,?_⟩;rw[e];intro H' s;have s1:=(aH (H:=H) (my (B:=B) (σ:=σ) (δ:=δ) (b7 t))).trans (ao s)
 cases k with
 | true=>exact⟨me,B,_,S1.mono s,AfterS.mono h s1⟩
 | false=>exact⟨me,B,_,S1.mono s,AfterS.mono h s1⟩
theorem Dq(hv:∀i,t≠.var i)(he:PE X e (tD X W false fun δ=>ev o δ false t)):PS X (.Return (some e) pos) (tS X W (evS o (.ret t))):=by
 refine PS.imp (Ej he) fun D σ H ⟨me,B,δ,S,h⟩=>?_
 have h':AfterS X W me B (vis H (Hid B σ δ)) (SO.of (evF o δ t).1 (evF o δ t).2 fun r=>.rt r.1 r.2 (evF o δ t).1) D:=by
  cases t<;>first | exact h | exact absurd rfl (hv _)
 obtain⟨S1,e1⟩:=S.evF o t;obtain⟨r,e2,h⟩:=SO.of_ok h';refine tD_iff.mpr ⟨me,B,_,S1,?_⟩;rw[<-e1,e2];intro v H' s q;refine h v σ H' (S1.mono s) ((aH (eZ o t)).trans (ao s)) ?_;unfold Res at q ⊢
 by_cases hw:r.1=true
 ·rw[if_pos hw]at q ⊢
  obtain⟨a,rfl,h0,q⟩:=q;refine⟨a,rfl,?_,q.mono (fun _ z=>z) (aH fun b hb=>hb.imp .inl id)⟩
  cases e:X.H₀ a with
  | none=>rfl
  | some o'=>
    by_cases hme:some a=me
    ·obtain⟨o',q⟩:=S.live a hme.symm
     rw[h0]at q;cases q
    ·rw[S.same a o' e hme]at h0;cases h0
 ·rw[if_neg hw]at q ⊢
  simp only[Bool.false_eq_true,if_false]at q ⊢;exact q.mono (aH fun b hb=>.inl hb)
theorem Fy(hN:X.N[i]?=some x)(hv:Vis X.env.scope x)(hd:(x==("__debug__":Str))=false)(hcd:(x==("__classdict__":Str))=false):PS X (.Return (some (.Name x pos')) pos) (tS X W (evS o (.ret (.var i)))):=by
 refine PS.imp (Ej (ir hN hv hd hcd)) fun D σ H ⟨me,B,δ,S,h⟩=>?_
 simp only[evS]at h
 cases e:δ[i]? with
 | none=>simp only[e,AfterS]at h
 | some q=>
   cases q with
   | none=>simp only[e,AfterS]at h
   | some q=>
     obtain⟨w,d⟩:=q
     cases w with
     | sh=>
       simp only[e,AfterS]at h;obtain⟨v,h1,h2⟩:=S.sh i d e;exact⟨v,h1,h v σ H S (Same.refl _) (.shared (h2.mono (aH fun b hb=>.inl hb)))⟩
     | ow=>
       simp only[e,AfterS]at h;obtain⟨a,h1,h2,h3,h4⟩:=S.ow i d e;refine⟨_,h1,h _ σ H S (Same.refl _) ?_⟩;unfold Res;rw[if_pos rfl];refine⟨a,rfl,h3,h2.mono (fun _ z=>z) (aH fun b hb=>?_)⟩;rcases hb with hb | hb
       ·exact .inl hb
       ·rw[hb];exact .inr ⟨i,⟨.ow,d,e,by decide⟩,h1⟩
     | me=>simp only[e,AfterS]at h
end
end Z
namespace Z
open PySem PySem.Spec PyProof.Rows L2
section
variable{X:Cx}{W:Wd}{lk lk':Bool}{σ:L2.St}{H H1 H':Hp}{me:Option Addr}{B:Addr->Prop}{δ:Dst}{Q Q':VK}
theorem Ab{α:Type}{fa:Dst->R (Bool×D)}{g:Bool×D->R α}{C:R α->Hp->Prop}(S:SR X W me B H σ δ)(h:C ((fa δ).bind g) H)(mono:∀r H1,Same H H1->C r H->C r H1)(hx:∀c,C (.exc c) H->EW X W σ H c)(hs:¬C .stuck H) :
 tD X W lk' fa σ H fun v H1=>∃r,fa δ=.ok r/\SR X W me B H1 σ δ/\Same H H1/\RepT W H1 (vis H1 (Hid B σ δ)) r.2 v/\Res W (Hid B σ δ) lk' H H1 r.1 r.2 v/\C (g r) H1:=by
 refine tD_iff.mpr ⟨me,B,δ,S,?_⟩
 cases e:fa δ with
 | ok r=>
   rw[e]at h;intro v H1 s q;exact⟨r,rfl,S.mono s,s,q.look,q,mono _ _ s h⟩
 | exc c=>rw[e]at h;exact hx c h
 | stuck=>rw[e]at h;exact hs h
theorem PE.or(h:PE X e t)(h':PE X e t'):PE X e (fun σ H Q=>t σ H Q\/t' σ H Q):=by
 intro pins s σ H Q I q;rcases q with q | q
 ·exact h pins s σ H Q I q
 ·exact h' pins s σ H Q I q
def RepTs(W:Wd)(H G:Hp):List D->List V->Prop
 | [],[]=>True
 | d::l,v::vs=>RepT W H G d v/\RepTs W H G l vs
 | _,_=>False
theorem RepTs.length:∀{l:List D} {vs:List V},RepTs W H G l vs->l.length=vs.length
 | [],[],_=>rfl
 | [],_::_,h=>by simp only[RepTs]at h
 | _::_,[],h=>by simp only[RepTs]at h
 | d::l,v::vs,h=>by
   simp only[RepTs]at h;simp[RepTs.length h.2]
noncomputable def AfterL(X:Cx)(W:Wd)(σ:L2.St)(H:Hp)(P:Addr->Prop)(r:R (Bool×List D))(Q:List V->Hp->Prop):Prop:=match r with
 | .ok r=>∀vs H',Same H H'->RepTs W H' (vis H' P) r.2 vs->(r.1=false->Reps W (vis H' P) r.2 vs)->Q vs H'
 | .exc c=>EW X W σ H c
 | .stuck=>False
def tL(X:Cx)(W:Wd)(f:Dst->R (Bool×List D)):TA:=fun σ H Q=>∃me B δ,SR X W me B H σ δ/\AfterL X W σ H (Hid B σ δ) (f δ) Q
theorem AfterL.mono{P:Addr->Prop}{r:R (Bool×List D)}{Q:List V->Hp->Prop}(h:AfterL X W σ H P r Q)(e:Same H H1):AfterL X W σ H1 P r Q:=by
 unfold AfterL at h ⊢
 cases r with
 | ok r=>exact fun v H' s q=>h v H' (e.trans s) q
 | exc c=>exact h.mono e
 | stuck=>exact h
theorem tL.mono{f:Dst->R (Bool×List D)}{Q Q':List V->Hp->Prop}(h:tL X W f σ H Q)(k:∀v H',Q v H'->Q' v H'):tL X W f σ H Q':=by
 obtain⟨me,B,δ,S,h⟩:=h;refine⟨me,B,δ,S,?_⟩;unfold AfterL at h ⊢
 cases e:f δ with
 | ok r=>rw[e]at h;exact fun v H' s q q'=>k _ _ (h v H' s q q')
 | exc c=>rw[e]at h;exact h
 | stuck=>rw[e]at h;exact h
theorem jA{α:Type}{fa:Dst->R (Bool×List D)}{g:Bool×List D->R α}{C:R α->Hp->Prop}(S:SR X W me B H σ δ)(h:C ((fa δ).bind g) H)(mono:∀r H1,Same H H1->C r H->C r H1)(hx:∀c,C (.exc c) H->EW X W σ H c)(hs:¬C .stuck H) :
 tL X W fa σ H fun vs H1=>∃r,fa δ=.ok r/\SR X W me B H1 σ δ/\Same H H1/\RepTs W H1 (vis H1 (Hid B σ δ)) r.2 vs/\(r.1=false->Reps W (vis H1 (Hid B σ δ)) r.2 vs)/\C (g r) H1:=by
 refine⟨me,B,δ,S,?_⟩
 cases e:fa δ with
 | ok r=>
   rw[e]at h;intro vs H1 s q q';exact⟨r,rfl,S.mono s,s,q,q',mono _ _ s h⟩
 | exc c=>rw[e]at h;exact hx c h
 | stuck=>rw[e]at h;exact hs h
theorem Ml(o:Orc):PA X [] (tL X W fun δ=>evL o δ .nil):=PA.imp cP fun σ H Q ⟨me,B,δ,S,h⟩=>by
 simp only[evL,AfterL]at h
 exact h [] H (Same.refl H) (by simp only[RepTs]) fun _=>by simp only[Reps]
theorem Fe{e:Expr}{es:List Expr}{o:Orc}{t:T}{l:TL}(ha:∀lk,PE X e (tD X W lk fun δ=>ev o δ lk t))(hr:PA X es (tL X W fun δ=>evL o δ l))(hs:Rj (e::es) X.env=(false,Sv e X.env)::Rj es X.env) :
 PA X (e::es) (tL X W fun δ=>evL o δ (.cons t l)):=by
 refine PA.imp (bD (PE.or (ha true) (ha false)) hr hs) fun σ H Q ⟨me,B,δ,S,h⟩=>?_
 simp only[evL]at h
 have go:∀lk,aM δ t=lk->tD X W lk (fun δ=>ev o δ lk t) σ H fun x H1=>tL X W (fun δ=>evL o δ l) σ H1 fun xs H2=>Q (x::xs) H2:=by
  intro lk hlk;rw[hlk]at h
  refine tD.mono (Ab (fa:=fun δ=>ev o δ lk t) (C:=fun r H=>AfterL X W σ H (Hid B σ δ) r Q) S h (fun r H1 s q=>q.mono s) (fun c q=>q) (fun q=>q)) fun v H1 ⟨r1,e1,S1,s1,t1,q1,h1⟩=>?_
  refine tL.mono (jA (fa:=fun δ=>evL o δ l) (C:=fun r H=>AfterL X W σ H (Hid B σ δ) r Q) S1 h1 (fun r H1 s q=>q.mono s) (fun c q=>q) (fun q=>q)) fun vs H2 ⟨r2,e2,S2,s2,t2,q2,h2⟩=>?_
  refine h2 (v::vs) H2 (Same.refl _) ?_ fun hf=>?_
  ·simp only[RepTs]
   exact⟨t1.mono s2 (ao s2),t2⟩
  ·simp only[Bool.or_eq_false_iff]at hf
   simp only[Reps];refine⟨?_,q2 hf.2⟩;rw[hf.1]at q1;exact(q1.keep S.know).mono (ao s2)
 cases hlk:aM δ t with
 | true=>exact .inl (go true hlk)
 | false=>exact .inr (go false hlk)
def spFn(W:Wd)(g:List D->R (Bool×D))(np:Nat):Sp:=fun vs H Q _=>vs.length=np/\∃B ds,Soft H B/\(∀b,B b->∃o,H b=some o)/\Reps W (vis H B) ds vs/\∃r,g ds=.ok r/\∀v H',Same H H'->Res W B false H H' r.1 r.2 v->Q v H'
theorem RepTs.lend:∀{l:List D} {vs:List V} (us:List V),(∀v∈vs,v∈us)->RepTs W H (vis H P) l vs->Reps W (vis H fun b=>P b/\V.ref b∉us) l vs
 | [],[],_,_,_=>by simp only[Reps]
 | [],_::_,_,_,h=>by simp only[RepTs]at h
 | _::_,[],_,_,h=>by simp only[RepTs]at h
 | d::l,v::vs,us,hu,h=>by
   simp only[RepTs]at h;simp only[Reps];refine⟨?_,RepTs.lend us (fun v hv=>hu v (Rb _ hv)) h.2⟩
   have up:Same (vis H P) (vis H fun b=>P b/\V.ref b∉us):=aH fun b hb=>hb.1
   have hv:v∈us:=hu v Rg
   have see:∀a o,v=.ref a->H a=some o->vis H (fun b=>P b/\V.ref b∉us) a=some o:=fun a o e h=>bK h fun z=>z.2 (e▸hv)
   cases d with
   | lst l=>
     obtain⟨a,xs,rfl,h1,h2⟩:=h.1;simp only[Rep];refine⟨a,xs,rfl,?_,h2.mono up⟩;rcases h1 with(h1 | ⟨o,h1⟩) | h1
     ·exact .inl (.inl (see a _ rfl h1))
     ·exact .inl (.inr ⟨o,see a _ rfl h1⟩)
     ·exact .inr h1
   | dct ks vs=>
     obtain⟨a,kvs,rfl,h1,h2,h3,h4⟩:=h.1;simp only[Rep];exact⟨a,kvs,rfl,h1.imp fun _ z=>see a _ rfl z,h2,h3,h4.mono up⟩
   | obj c ns vs=>
     obtain⟨a,dx,fs,rfl,h1,h2,h3⟩:=h.1;simp only[Rep];exact⟨a,dx,fs,rfl,see a _ rfl h1,h2,h3.mono up⟩
   | non=>exact Rep.mono up h.1
   | bl b=>exact Rep.mono up h.1
   | int i=>exact Rep.mono up h.1
   | str x=>exact Rep.mono up h.1
   | tup l=>exact Rep.mono up h.1
   | err c=>exact Rep.mono up h.1
theorem OwnAt.notImm(h:OwnAt W H G a d):d.imm=false:=by
 cases d<;>first | rfl | exact h.elim
theorem zF{o:Orc}{f np:Nat}{vs:List V}{ds:List D}{br:Bool}{E:XK}(S:SR X W me B H σ δ)(hn:ds.length=np)(t:RepTs W H (vis H (Hid B σ δ)) ds vs)(q:br=false->Reps W (vis H (Hid B σ δ)) ds vs)
 (h:After X W lk σ H (Hid B σ δ) ((o.fn f ds).bind (lent br)) Q):spFn W (o.fn f) np vs H Q E:=by
 refine⟨by rw[<-t.length];exact hn,?_⟩
 cases e:o.fn f ds with
 | stuck=>rw[e]at h;exact h.elim
 | exc c=>rw[e]at h;exact h.elim
 | ok r=>
   rw[e]at h
   cases br with
   | false=>
     refine⟨Hid B σ δ,ds,S.softH,S.know,q rfl,r,e,fun v H' s z=>h v H' s ?_⟩;unfold Res at z ⊢
     by_cases hw:r.1=true
     ·rw[if_pos hw]at z ⊢;exact z
     ·rw[if_neg hw]at z ⊢
      simp only[Bool.false_eq_true,if_false]at z;split
      ·exact z.top bH
      ·exact z
   | true=>
     have h':After X W lk σ H (Hid B σ δ) (if r.2.imm then .ok r else .stuck) Q:=h
     by_cases him:r.2.imm=true
     ·rw[if_pos him]at h'
      refine⟨fun b=>Hid B σ δ b/\V.ref b∉vs,ds,fun a ha=>S.softH a ha.1,fun b hb=>S.know b hb.1,t.lend vs (fun v hv=>hv),r,e,fun v H' s z=>h' v H' s ?_⟩;unfold Res at z ⊢
      by_cases hw:r.1=true
      ·rw[if_pos hw]at z
       obtain⟨a,_,_,z⟩:=z;rw[z.notImm]at him;cases him
      ·rw[if_neg hw]at z ⊢
       simp only[Bool.false_eq_true,if_false]at z;have z':Rep W (vis H' (Hid B σ δ)) r.2 v:=(z.mono bH).imm (S.softH.mono S.know s) him;split
       ·exact z'.top bH
       ·exact z'
     ·rw[if_neg him]at h';exact h'.elim
theorem Cu{o:Orc}{f np k:Nat}{x:Str}{fa:Addr}{fd:V0}{ps:List Str}{e:Expr}{es:List Expr}{l:TL}{p pos:Pos}(hn:∀δ r,evL o δ l=.ok r->r.2.length=np)
 (F:FnOk X.prog X.w X.K X.mg X.base CX0 k fa fd ps (spFn W (o.fn f) np)) (hr:Room k X.A) (hg:Gl X x) (hm:X.mg x=some (.ref fa)) (hk:RL X.K (.ref fa)=true) (hb:Binds X.K fd ps [])
 (ha:PA X (e::es) (tL X W fun δ=>evL o δ l)) (hdb:(x==("__debug__":Str))=false) (he:Rj (e::es) X.env=(false,Sv e X.env)::Rj es X.env) (hpl:(SN pos (Rj es X.env)).any (·.1)=false) :
 PE X (.Call (.Name x p) (e::es) [] pos) (tD X W lk fun δ=>ev o δ lk (.call f l)):=by
 refine PE.imp (yJ F hr hg hm hk hb .nil uo ha hdb he hpl) fun σ H Q h=>?_
 obtain⟨me,B,δ,S,h⟩:=tD_iff.mp h;simp only[ev]at h
 refine tL.mono (jA (fa:=fun δ=>evL o δ l) (C:=fun r H=>After X W lk σ H (Hid B σ δ) r Q) S h (fun r H1 s q=>q.mono s) (fun c q=>q) (fun q=>q)) fun vs H1 ⟨r,e1,S1,s1,t1,q1,h1⟩=>?_
 rw[Sg];exact zF S1 (hn δ r e1) t1 q1 h1
variable{a b:Expr}{rest:List Expr}{pos:Pos}{fa fb:Dst->R (Bool×D)}
noncomputable def andD(x:D)(y:R (Bool×D)):R (Bool×D):=match x with
 | .bl true=>y.bind fun y=>bN y.2
 | .bl false=>.ok (false,.bl false)
 | _=>.stuck
noncomputable def orD(x:D)(y:R (Bool×D)):R (Bool×D):=match x with
 | .bl true=>.ok (false,.bl true)
 | .bl false=>y.bind fun y=>bN y.2
 | _=>.stuck
theorem Ar(h:bN d=.ok r):∃b,d=.bl b/\r=(false,.bl b):=by
 cases d<;>simp only[bN]at h<;>first | (cases h;exact⟨_,rfl,rfl⟩) | cases h
theorem qi(h:RepT W H G (.bl i) x):x=.bl i:=by simpa only[RepT,Rep]using h
theorem oU(S:SR X W me B H σ δ)(h:After X W lk σ H (Hid B σ δ) ((fb δ).bind fun y=>bN y.2) Q):tD X W true fb σ H Q:=by
 refine tD_iff.mpr ⟨me,B,δ,S,?_⟩
 cases e:fb δ with
 | ok r=>
   rw[e]at h;have h:After X W lk σ H (Hid B σ δ) (bN r.2) Q:=h
   cases e2:bN r.2 with
   | ok r'=>
     rw[e2]at h;obtain⟨b,e3,rfl⟩:=Ar e2;intro v H' s q;have q':=q.look;rw[e3]at q';rw[qi q'];exact h _ H' s cj
   | exc c=>rw[e2]at h;exact RC h
   | stuck=>rw[e2]at h;exact RC h
 | exc c=>rw[e]at h;exact h
 | stuck=>rw[e]at h;exact h
theorem Qt(ha:PE X a (tD X W true fa))(hb:PE X (.BoolOp .And (b::rest) pos) (tD X W true fb)):PE X (.BoolOp .And (a::b::rest) pos) (tD X W lk fun δ=>(fa δ).bind fun x=>andD x.2 (fb δ)):=by
 refine PE.imp (Kp ha hb) fun σ H Q h=>?_
 obtain⟨me,B,δ,S,h⟩:=tD_iff.mp h
 refine tD.mono (part S h) fun v H1 ⟨r,e,S1,s1,t1,_,h1⟩=>?_
 cases e2:r.2 with
 | bl c=>
   rw[e2]at t1 h1;refine⟨c,qi t1,?_⟩
   cases c with
   | true=>exact oU S1 h1
   | false=>exact h1 _ H1 (Same.refl _) cj
 | _=>rw[e2]at h1;exact h1.elim
theorem d_or(ha:PE X a (tD X W true fa))(hb:PE X (.BoolOp .Or (b::rest) pos) (tD X W true fb)):PE X (.BoolOp .Or (a::b::rest) pos) (tD X W lk fun δ=>(fa δ).bind fun x=>orD x.2 (fb δ)):=by
 refine PE.imp (PN ha hb) fun σ H Q h=>?_
 obtain⟨me,B,δ,S,h⟩:=tD_iff.mp h
 refine tD.mono (part S h) fun v H1 ⟨r,e,S1,s1,t1,_,h1⟩=>?_
 cases e2:r.2 with
 | bl c=>
   rw[e2]at t1 h1;refine⟨c,qi t1,?_⟩
   cases c with
   | false=>exact oU S1 h1
   | true=>exact h1 _ H1 (Same.refl _) cj
 | _=>rw[e2]at h1;exact h1.elim
theorem Ly(ha:PE X a (tD X W lk fa)):PE X (.BoolOp op [a] pos) (tD X W lk fa):=NB ha
theorem PW.imp(h:PW X e t)(i:∀σ H Q,t' σ H Q->t σ H Q):PW X e t':=fun w pins s σ H Q I hw=>h w pins s σ H Q I (i σ H Q hw)
theorem qC{d:D}{b:Bool}(h:(bN d).bind (fun x=>XR (truth x.2))=.ok b):truth d=some b:=by
 cases d<;>simp only[bN,XS,truth,XR]at h<;>first | (cases h;rfl) | cases h
theorem ql:(bN d).bind (fun x=>XR (truth x.2))≠.exc c:=by
 cases d<;>simp[bN,XS,truth,XR]
theorem jM{Q:Bool->Hp->Prop}(S:SR X W me B H σ δ)
 (h:match((fb δ).bind fun y=>bN y.2).bind (fun x=>XR (truth x.2))with | .ok b=>∀H',Same H H'->Q b H' | .exc c=>EW X W σ H c | .stuck=>False):tT X W fb σ H Q:=by
 refine⟨me,B,δ,S,?_⟩
 cases e:fb δ with
 | ok r=>
   rw[e]at h;have h:(match(bN r.2).bind (fun x=>XR (truth x.2))with | .ok b=>∀H',Same H H'->Q b H' | .exc c=>EW X W σ H c | .stuck=>False):=h;show(match XR (truth r.2)with | .ok b=>∀H',Same H H'->Q b H' | .exc c=>EW X W σ H c | .stuck=>False)
   cases e2:(bN r.2).bind (fun x=>XR (truth x.2))with
   | ok b=>rw[e2]at h;rw[qC e2];exact h
   | exc c=>exact absurd e2 ql
   | stuck=>rw[e2]at h;exact h.elim
 | exc c=>rw[e]at h;exact h
 | stuck=>rw[e]at h;exact h
theorem Nh(ha:PT X a (tT X W fa))(hb:PW X (.BoolOp .And (b::rest) pos) (tT X W fb)):PW X (.BoolOp .And (a::b::rest) pos) (tT X W fun δ=>(fa δ).bind fun x=>andD x.2 (fb δ)):=by
 refine PW.imp (JT ha hb) fun σ H Q ⟨me,B,δ,S,h⟩=>⟨me,B,δ,S,?_⟩
 dsimp only at h
 cases e:fa δ with
 | ok r=>
   rw[e]at h;have h:(match(andD r.2 (fb δ)).bind (fun x=>XR (truth x.2))with | .ok b=>∀H',Same H H'->Q b H' | .exc c=>EW X W σ H c | .stuck=>False):=h;show(match XR (truth r.2)with | .ok b=>∀H',Same H H'->if b=true then tT X W fb σ H' Q else Q false H' | .exc c=>EW X W σ H c | .stuck=>False)
   cases e2:r.2 with
   | bl c=>
     rw[e2]at h
     cases c with
     | true=>
       intro H' s;refine jM (S.mono s) ?_;have h:(match((fb δ).bind fun y=>bN y.2).bind (fun x=>XR (truth x.2))with | .ok b=>∀H',Same H H'->Q b H' | .exc c=>EW X W σ H c | .stuck=>False):=h
       cases e3:((fb δ).bind fun y=>bN y.2).bind (fun x=>XR (truth x.2))with
       | ok b=>rw[e3]at h;exact fun H2 s2=>h H2 (s.trans s2)
       | exc c=>rw[e3]at h;exact h.elim
       | stuck=>rw[e3]at h;exact h
     | false=>exact fun H' s=>h H' s
   | _=>rw[e2]at h;exact h.elim
 | exc c=>rw[e]at h;exact h
 | stuck=>rw[e]at h;exact h
theorem Qx(ha:PT X a (tT X W fa))(hb:PW X (.BoolOp .Or (b::rest) pos) (tT X W fb)):PW X (.BoolOp .Or (a::b::rest) pos) (tT X W fun δ=>(fa δ).bind fun x=>orD x.2 (fb δ)):=by
 refine PW.imp (Ol ha hb) fun σ H Q ⟨me,B,δ,S,h⟩=>⟨me,B,δ,S,?_⟩
 dsimp only at h
 cases e:fa δ with
 | ok r=>
   rw[e]at h;have h:(match(orD r.2 (fb δ)).bind (fun x=>XR (truth x.2))with | .ok b=>∀H',Same H H'->Q b H' | .exc c=>EW X W σ H c | .stuck=>False):=h;show(match XR (truth r.2)with | .ok b=>∀H',Same H H'->if b=true then Q true H' else tT X W fb σ H' Q | .exc c=>EW X W σ H c | .stuck=>False)
   cases e2:r.2 with
   | bl c=>
     rw[e2]at h
     cases c with
     | false=>
       intro H' s;refine jM (S.mono s) ?_;have h:(match((fb δ).bind fun y=>bN y.2).bind (fun x=>XR (truth x.2))with | .ok b=>∀H',Same H H'->Q b H' | .exc c=>EW X W σ H c | .stuck=>False):=h
       cases e3:((fb δ).bind fun y=>bN y.2).bind (fun x=>XR (truth x.2))with
       | ok b=>rw[e3]at h;exact fun H2 s2=>h H2 (s.trans s2)
       | exc c=>rw[e3]at h;exact h.elim
       | stuck=>rw[e3]at h;exact h
     | true=>exact fun H' s=>h H' s
   | _=>rw[e2]at h;exact h.elim
 | exc c=>rw[e]at h;exact h
 | stuck=>rw[e]at h;exact h
theorem DR(ha:PT X a (tT X W fa)):PW X (.BoolOp op [a] pos) (tT X W fa):=by
 cases op with
 | And=>exact Hl ha
 | Or=>exact Mf ha
end
end Z
namespace Z
open PySem PySem.Spec PyProof.Rows L2
section
variable{X:Cx}{W:Wd}{lk lk':Bool}{σ:L2.St}{H H1 H':Hp}{me:Option Addr}{B:Addr->Prop}{δ:Dst}{Q Q':VK}{a b:Expr}{pos p:Pos}{fa fb fc:Dst->R (Bool×D)}
def Sem1(W:Wd)(r:List V->Hp->VK->Prop)(g:D->R (Bool×D)):Prop :=
 ∀(lk:Bool) (P:Addr->Prop) (H:Hp) (x:V) (dx:D) (Q:VK) (w:Bool) (d:D),Soft H P->(∀a,P a->∃o,H a=some o)->RepT W H (vis H P) dx x->g dx=.ok (w,d) ->
  (∀v H',Same H H'->Res W P lk H H' w d v->Q v H')->r [x] H Q
def qT(g:D->R (Bool×D)):Prop:=∀x c,g x≠.exc c
theorem vU{r:List V->Hp->VK->Prop}{g:D->R (Bool×D)}(hs:Sem1 W r g)(hn:qT g){σ:L2.St}{H:Hp}{Q:VK}(h:tD X W lk (fun δ=>(fa δ).bind fun x=>g x.2) σ H Q) :
 tCB r (O6 (tD X W true fa) tNil) σ H Q:=by
 obtain⟨me,B,δ,S,h⟩:=tD_iff.mp h
 refine tD.mono (part S h) fun v H1 ⟨r1,e1,S1,s1,t1,_,h1⟩=>?_
 show r [v] H1 Q
 cases e:g r1.2 with
 | ok r'=>
   rw[e]at h1;exact hs lk (Hid B σ δ) H1 v r1.2 Q r'.1 r'.2 S1.softH S1.know t1 e h1
 | exc c=>exact absurd e (hn _ _)
 | stuck=>rw[e]at h1;exact h1.elim
theorem d_b1{id:String}{x:Str}{r:List V->Hp->VK->Prop}{g:D->R (Bool×D)}(hc:CallR X (.builtin id) r)(hs:Sem1 W r g)(hn:qT g)(hg:Gl X x)(hm:X.mg x=none)(hv:U8 x=some (.builtin id))(ha:PE X a (tD X W true fa))
 (hx:x≠"__name__") (hdb:(x==("__debug__":Str))=false) (he:Rj [a] X.env=[(false,Sv a X.env)]):PE X (.Call (.Name x p) [a] [] pos) (tD X W lk fun δ=>(fa δ).bind fun x=>g x.2) :=
 PE.imp (g8 hc hg hm hv (bD ha cP he) hx hdb he rfl) fun _ _ _ h=>vU hs hn h
theorem Qn{id:String}{x:Str}{r:List V->Hp->VK->Prop}{g:D->R (Bool×D)}(hc:CallR X (.type id) r)(hs:Sem1 W r g)(hn:qT g)(hg:Gl X x)(hm:X.mg x=none)(hv:U8 x=some (.type id))(ha:PE X a (tD X W true fa))
 (hx:x≠"__name__") (hdb:(x==("__debug__":Str))=false) (he:Rj [a] X.env=[(false,Sv a X.env)]):PE X (.Call (.Name x p) [a] [] pos) (tD X W lk fun δ=>(fa δ).bind fun x=>g x.2) :=
 PE.imp (o8 hc hg hm hv (bD ha cP he) hx hdb he rfl) fun _ _ _ h=>vU hs hn h
theorem iz(b:B1):qT (b1D b):=by
 intro x c
 cases b<;>simp only[b1D]<;>first
  | exact dZ
  | (cases x<;>simp[Y5]<;>first | exact dZ | (split<;>simp) | skip)
theorem Hx:Sem1 W (fun xs H Q=>∃i,xs=[.int i]/\Q (.int (if i<0 then -i else i)) H) (b1D .abs):=by
 intro lk P H x dx Q w d hS hK hx e k;cases dx<;>simp only[b1D]at e<;>cases e;exact⟨_,by rw[aQ hx],k _ H (Same.refl H) dB⟩
theorem Fx(hk:W.K=X.K):Sem1 W (fun xs H Q=>((∃p ys,xs=[.ref p]/\(SqL X.K H p ys\/SqT X.K H p ys)/\Q (.int ys.length) H)\/(∃z,xs=[.str z]/\z.length<=sizeLine/\Q (.int z.length) H))\/(∃a kvs ep,xs=[V.ref a]/\H a=some (.dK kvs ep)/\Q (.int kvs.length) H)) (b1D .len):=by
 intro lk P H x dx Q w d hS hK hx e k;cases dx<;>simp only[b1D]at e<;>cases e
 ·obtain⟨rfl,hl⟩:=bu hx
  rename_i s;refine .inl (.inr ⟨_,rfl,by simpa[strV,Str.length,T9]using hl,?_⟩)
  have e1:((strV s).length:Int)=(s.length:Int):=by simp[strV,Str.length]
  rw[e1];exact k _ H (Same.refl H) dB
 ·simp only[RepT,Rep]at hx
  obtain⟨a,xs,rfl,h1,h2⟩:=hx;refine .inl (.inl ⟨a,xs,rfl,.inr (hk▸bx bH h1),?_⟩);rw[<-h2.length];exact k _ H (Same.refl H) dB
 ·obtain⟨a,xs,rfl,h1,h2⟩:=hx
  refine .inl (.inl ⟨a,xs,rfl,.inl (hk▸h1),?_⟩);rw[<-h2.length];exact k _ H (Same.refl H) dB
 ·obtain⟨a,kvs,rfl,⟨ep,h1⟩,h2,h3,h4⟩:=hx
  refine .inr ⟨a,kvs,ep,rfl,h1,?_⟩;have:=congrArg T3 h2;simp only[Rw]at this;rw[this];exact k _ H (Same.refl H) dB
theorem iB{α:Type}{n:Nat}{i:Int}{j:Nat}(h:place n i=some j):ixN n i=some j:=by
 unfold place at h;unfold ixN
 by_cases h0:0<=i
 ·rw[if_pos h0]at h ⊢;exact h
 ·rw[if_neg h0]at h ⊢
  by_cases h1:0<=i+n
  ·rw[if_pos h1]at h;rw[if_pos (by omega)];exact h
  ·rw[if_neg h1]at h;cases h
theorem ut:fP idxD:=by
 intro x y c
 cases x<;>cases y<;>simp only[idxD]<;>first | exact dZ | simp
theorem di{α β:Type}{x:Option Nat}{f:Nat->Option α}{g:α->β}{y:β}(h:(x.bind fun n=>(f n).map g)=some y):∃n z,x=some n/\f n=some z/\g z=y:=by
 cases x with
 | none=>cases h
 | some n=>
   cases e:f n with
   | none=>simp[e]at h
   | some z=>simp[e]at h;exact⟨n,z,rfl,e,h⟩
def rIx(K:Ra):R2:=fun x y H Q=>(rIxL K x y H Q\/rIxT K x y H Q)\/rIxS x y H Q
theorem K8:IxR X (rIx X.K):=IxR.or (IxR.or Iu Ks) JN
def jL(a i:D):R (Bool×D):=match a with
 | .dct _ _=>.stuck
 | _=>idxD a i
theorem J5(hk:W.K=X.K):Sem2 W (rIx X.K) jL:=by
 intro lk P H x y dx dy Q w d hS hK hx hy e k
 cases dx<;>cases dy<;>first | exact nope e | exact fB e | simp only[jL,idxD]at e
 ·obtain⟨n,z,h1,h2,h3⟩:=di (of_ok e)
  cases h3;obtain⟨rfl,hl⟩:=bu hx;rename_i s j;refine .inr ⟨strV s,j,z,rfl,aQ hy,by simpa[strV,Str.length,T9]using hl,?_,?_⟩
  ·unfold atI
   rw[iB (α:=Nat) (n:=(strV s).cps.toList.length) (by simpa[strV]using h1)];simpa[strV]using h2
  ·exact k _ H (Same.refl H) (pI (i:=[z]) (by simp))
 ·obtain⟨n,z,h1,h2,h3⟩:=di (of_ok e)
  cases h3;simp only[RepT,Rep]at hx;obtain⟨a,xs,rfl,q1,q2⟩:=hx;obtain⟨v,e1,e2⟩:=q2.get h2;refine .inl (.inr ⟨a,xs,_,v,rfl,aQ hy,hk▸bx bH q1,?_,k v H (Same.refl H) (.shared e2)⟩);unfold atI;rw[iB (α:=V) (by rw[<-q2.length];exact h1)];exact e1
 ·obtain⟨n,z,h1,h2,h3⟩:=di (of_ok e)
  cases h3;obtain⟨a,xs,rfl,q1,q2⟩:=hx;obtain⟨v,e1,e2⟩:=q2.get h2;refine .inl (.inl ⟨a,xs,_,v,rfl,aQ hy,hk▸q1,?_,k v H (Same.refl H) (.shared e2)⟩);unfold atI;rw[iB (α:=V) (by rw[<-q2.length];exact h1)];exact e1
theorem vA(n:Nat)(d:Nat)(i:Int):HT.sIx n d (some i)=clip n i:=by
 unfold clip;show(if i<0 then(i+(n:Int)).toNat else min i.toNat n)=_
 by_cases h:0<=i
 ·rw[if_neg (by omega),if_pos h]
 ·rw[if_pos (by omega),if_neg h]
theorem M7{α:Type}(l:List α)(p q:Nat):cut l p q=(l.drop p).take (q-p):=by
 unfold cut;rw[List.drop_take]
def IsO(t:T)(e:Option Expr)(X:Cx)(W:Wd)(o:Orc):Prop:=(e=none/\t=.cst .non)\/∃e',e=some e'/\t≠.cst .non/\∀lk,PE X e' (tD X W lk fun δ=>ev o δ lk t)
def tO(X:Cx)(W:Wd)(o:Orc)(t:T):TO:=fun σ H C=>∃me B δ,SR X W me B H σ δ/\match(ev o δ true t).bind (fun y=>XR (bnd t y.2))with
 | .ok oi=>∀H',Same H H'->C oi H'
 | .exc c=>EW X W σ H c
 | .stuck=>False
theorem PO.imp{e:Option Expr}{t t':TO}(h:PO X e t)(i:∀σ H Q,t' σ H Q->t σ H Q):PO X e t':=fun pins s σ H Q I hw=>h pins s σ H Q I (i σ H Q hw)
theorem Ip{t:T}{d:D}{oi:Option Int}(ht:t≠.cst .non)(h:bnd t d=some oi):∃i,d=.int i/\oi=some i:=by
 unfold bnd at h;split at h
 ·exact absurd rfl ht
 ·cases d<;>simp at h
  exact⟨_,rfl,h.symm⟩
theorem d_po{t:T}{e:Option Expr}{o:Orc}(h:IsO t e X W o):PO X e (tO X W o t):=by
 rcases h with⟨rfl,rfl⟩ | ⟨e',rfl,ht,h⟩
 ·refine PO.imp GX fun σ H C ⟨me,B,δ,S,h⟩=>?_
  simp only[ev,XS,bnd,XR]at h;exact h H (Same.refl H)
 ·refine PO.imp (Ie (h true)) fun σ H C ⟨me,B,δ,S,h⟩=>?_
  refine tD_iff.mpr ⟨me,B,δ,S,?_⟩
  cases e:ev o δ true t with
  | ok r=>
    rw[e]at h;have h:(match XR (bnd t r.2)with | .ok oi=>∀H',Same H H'->C oi H' | .exc c=>EW X W σ H c | .stuck=>False):=h
    cases e2:bnd t r.2 with
    | none=>rw[e2]at h;exact h.elim
    | some oi=>
      rw[e2]at h;obtain⟨i,h1,rfl⟩:=Ip ht e2;intro v H' s q;have q':=q.look;rw[h1]at q';exact⟨i,aQ q',h H' s⟩
  | exc c=>rw[e]at h;exact h
  | stuck=>rw[e]at h;exact h
theorem tO.mono{o:Orc}{t:T}{C C':Option Int->Hp->Prop}(h:tO X W o t σ H C)(k:∀oi H',C oi H'->C' oi H'):tO X W o t σ H C':=by
 obtain⟨me,B,δ,S,h⟩:=h;refine⟨me,B,δ,S,?_⟩
 cases e:(ev o δ true t).bind (fun y=>XR (bnd t y.2))with
 | ok oi=>rw[e]at h;exact fun H' s=>k _ _ (h H' s)
 | exc c=>rw[e]at h;exact h
 | stuck=>rw[e]at h;exact h
theorem PQ{o:Orc}{t:T}{g:Bool×D->R (Bool×D)}{g':Option Int->R (Bool×D)}(hg:∀r,g r=(XR (bnd t r.2)).bind g')(S:SR X W me B H σ δ)(h:After X W lk σ H (Hid B σ δ) ((ev o δ true t).bind g) Q) :
 tO X W o t σ H fun oi H1=>SR X W me B H1 σ δ/\Same H H1/\After X W lk σ H1 (Hid B σ δ) (g' oi) Q:=by
 refine⟨me,B,δ,S,?_⟩
 cases e:ev o δ true t with
 | ok r=>
   rw[e]at h;have h:After X W lk σ H (Hid B σ δ) (g r) Q:=h;rw[hg]at h;show(match XR (bnd t r.2)with | .ok oi=>∀H',Same H H'->SR X W me B H' σ δ/\Same H H'/\After X W lk σ H' (Hid B σ δ) (g' oi) Q | .exc c=>EW X W σ H c | .stuck=>False)
   cases e2:bnd t r.2 with
   | none=>rw[e2]at h;exact h.elim
   | some oi=>rw[e2]at h;exact fun H' s=>⟨S.mono s,s,After.mono h s⟩
 | exc c=>rw[e]at h;exact h
 | stuck=>rw[e]at h;exact h
theorem Reps.cut{G:Hp}{l:List D}{vs:List V}(h:Reps W G l vs)(p q:Nat):Reps W G (cut l p q) (cut vs p q):=(h.take q).drop p
theorem jh{P:Addr->Prop}{q:Addr}{l:List D}{xs:List V}(hn:H q=none)(h:Reps W (vis H P) l xs)(hP:∀a,P a->∃o,H a=some o):Res W P lk H (upd H q (.lst xs)) true (.lst l) (.ref q):=by
 unfold Res;rw[if_pos rfl];refine⟨q,rfl,hn,xs,aU,h.mono fun b o e=>?_⟩;obtain⟨e1,e2⟩:=bF e;have hb:b≠q:=bJ e1 hn
 refine bK (by rw[aR hb];exact e1) fun z=>?_
 rcases z with z | z
 ·exact e2 z
 ·exact hb z
theorem rJ{P:Addr->Prop}{q:Addr}{l:List D}{xs:List V}(hn:H q=none)(h:Reps W (vis H P) l xs)(hP:∀a,P a->∃o,H a=some o):Res W P lk H (upd H q (.tup xs)) false (.tup l) (.ref q):=by
 refine .shared ?_;simp only[Rep]
 have nP:¬P q:=fun z=>by obtain⟨o,e⟩:=hP q z;rw[hn]at e;cases e
 refine⟨q,xs,rfl,.inl (.inl (bK aU nP)),h.mono fun b o e=>?_⟩;obtain⟨e1,e2⟩:=bF e;exact bK (by rw[aR (bJ e1 hn)];exact e1) e2
def SemS(W:Wd)(r:V->Option Int->Option Int->Hp->VK->Prop)(g:D->Option Int->Option Int->Option (Bool×D)):Prop :=
 ∀(lk:Bool) (P:Addr->Prop) (H:Hp) (x:V) (dx:D) (lo hi:Option Int) (Q:VK) (w:Bool) (d:D),Soft H P->(∀a,P a->∃o,H a=some o)->RepT W H (vis H P) dx x->g dx lo hi=some (w,d) ->
  (∀v H',Same H H'->Res W P lk H H' w d v->Q v H')->r x lo hi H Q
theorem Hk{α β:Type}(x:Option α)(f:α->Option β):XR (x.bind f)=(XR x).bind fun a=>XR (f a):=by cases x<;>rfl
theorem Oq{o:Orc}{tl th:T}{lo hi:Option Expr}{p2:Pos}{r:V->Option Int->Option Int->Hp->VK->Prop}{g:D->Option Int->Option Int->Option (Bool×D)}(hr:SlR X r)(hs:SemS W r g)(ha:PE X a (tD X W true fa))(hl:IsO tl lo X W o)(hh:IsO th hi X W o) :
 PE X (.Subscript a (.Slice lo hi none p2) pos) (tD X W lk fun δ=>(fa δ).bind fun x=>(ev o δ true tl).bind fun y=>(ev o δ true th).bind fun z=>.of ((bnd tl y.2).bind fun l=>(bnd th z.2).bind fun h=>g x.2 l h)):=by
 refine PE.imp (zu hr ha (d_po hl) (d_po hh)) fun σ H Q h=>?_
 obtain⟨me,B,δ,S,h⟩:=tD_iff.mp h
 refine tD.mono (part S h) fun v H1 ⟨r1,e1,S1,s1,t1,_,h1⟩=>?_
 refine⟨me,B,δ,S1,?_⟩
 cases e2:ev o δ true tl with
 | ok y=>
   rw[e2]at h1;have h1:After X W lk σ H1 (Hid B σ δ) ((ev o δ true th).bind fun z=>.of ((bnd tl y.2).bind fun l=>(bnd th z.2).bind fun h=>g r1.2 l h)) Q:=h1;show(match XR (bnd tl y.2)with | .ok oi=>∀H',Same H1 H'->tO X W o th σ H' fun u H3=>r v oi u H3 Q | .exc c=>EW X W σ H1 c | .stuck=>False)
   cases e3:bnd tl y.2 with
   | none=>
     rw[e3]at h1
     cases e4:ev o δ true th with
     | ok z=>rw[e4]at h1;exact h1.elim
     | exc c=>rw[e4]at h1;exact h1.elim
     | stuck=>rw[e4]at h1;exact h1.elim
   | some l=>
     rw[e3]at h1;intro H2 s2;have h2:After X W lk σ H2 (Hid B σ δ) ((ev o δ true th).bind fun z=>.of ((bnd th z.2).bind fun h=>g r1.2 l h)) Q:=After.mono h1 s2
     refine tO.mono (PQ (g':=fun h=>XR (g r1.2 l h)) (fun r=>Hk _ _) (S1.mono s2) h2) fun u H3 ⟨S3,s3,h3⟩=>?_
     cases e5:g r1.2 l u with
     | none=>rw[e5]at h3;exact h3.elim
     | some q=>
       rw[e5]at h3;exact hs lk (Hid B σ δ) H3 v r1.2 l u Q q.1 q.2 S3.softH S3.know (t1.mono (s2.trans s3) (ao (s2.trans s3))) e5 h3
 | exc c=>rw[e2]at h1;exact h1.elim
 | stuck=>rw[e2]at h1;exact h1.elim
theorem Ke:SlR X (rSlL X.K):=Hn
theorem Lh(n:Nat)(o:Option Int):HT.sIx n 0 o=uC n o:=by cases o with | none=>rfl | some i=>exact vA n 0 i
theorem Hj(n:Nat)(o:Option Int):HT.sIx n n o=jT n o:=by cases o with | none=>rfl | some i=>exact vA n n i
theorem Jf(xs:List V)(lo hi:Option Int):cutV xs lo hi=cut xs (uC xs.length lo) (jT xs.length hi):=by
 unfold cutV;rw[Lh,Hj,M7]
theorem Im(hk:W.K=X.K):SemS W (rSlL X.K) slcD:=by
 intro lk P H x dx lo hi Q w d hS hK hx e k
 cases dx<;>first | exact nope e | exact fB e | simp only[slcD]at e
 ·cases e
  obtain⟨a,xs,rfl,q1,q2⟩:=hx;refine⟨a,xs,rfl,hk▸q1,fun p hp=>?_⟩;rw[Jf,<-q2.length];exact k _ _ (Same.upd hp) (jh hp (q2.cut _ _) hK)
noncomputable def cH:Ty->Option String
 | .int=>some "int"
 | .bool=>some "bool"
 | .str=>some "str"
 | .tup=>some "tuple"
 | .lst=>some "list"
 | .dct=>some "dict"
 | _=>none
end
end Z
namespace Z
open PySem PySem.Spec PyProof.Rows L2
section
variable{X:Cx}{W:Wd}{lk lk':Bool}{σ:L2.St}{H H1 H':Hp}{me:Option Addr}{B:Addr->Prop}{δ:Dst}{Q Q':VK}{a b:Expr}{pos p:Pos}{fa fb fc:Dst->R (Bool×D)}
def TyS(K:Ra)(H:Hp)(x:V)(t:String):Prop:=match x with
 | .non=>t="NoneType"
 | .bl _=>t="bool"
 | .int _=>t="int"
 | .str _=>t="str"
 | .ref a=>(t="list"/\∃xs,SqL K H a xs)\/(t="tuple"/\∃xs,SqT K H a xs)\/(t="dict"/\∃kvs,IsK H a kvs)
 | _=>False
theorem Ez:CallR X (.builtin "isinstance") (fun xs H Q=>∃x T t b,xs=[x,.ty T]/\TyS X.K H x t/\PySem.W.kitOne X.K (.type t) (.type T)=some b/\Q (.bl b) H):=by
 intro pins s σ H xs us Q I r h;obtain⟨x,T,t,b,rfl,ty,e,q⟩:=h
 cases r with
 | cons rx r2=>
   cases r2 with
   | cons rT r3=>
     cases r3;cases (show _=Value.type T from rT)
     have fin:∀tk,EP X pins σ Q (.bool b) { s with toks:=tk }:=fun tk=>⟨.bl b,H,I.tok _,rfl,q⟩
     cases x with
     | non=>cases (show _=Value.none from rx);cases (show t="NoneType" from ty);exact UG PySem.W.kitx_none I.kIn Ui e (fun z=>nomatch z) fin
     | bl y=>cases (show _=Value.bool y from rx);cases (show t="bool" from ty);exact UG PySem.W.kitx_bool I.kIn Ui e (fun z=>nomatch z) fin
     | int i=>obtain⟨tk,q⟩:=(show ∃t,_=Value.int i t from rx);cases q;cases (show t="int" from ty);exact UG PySem.W.kitx_int I.kIn Ui e (fun z=>nomatch z) fin
     | str y=>obtain⟨tk,q⟩:=(show ∃t,_=Value.str y t from rx);cases q;cases (show t="str" from ty);exact UG PySem.W.kitx_str I.kIn Ui e (fun z=>nomatch z) fin
     | ref a=>
       cases (show _=Value.ref a from rx);rcases(show(t="list"/\∃xs,SqL X.K H a xs)\/(t="tuple"/\∃xs,SqT X.K H a xs)\/(t="dict"/\∃kvs,IsK H a kvs)from ty)with⟨rfl,xs,h⟩ | ⟨rfl,xs,h⟩ | ⟨rfl,kvs,ep,h⟩
       ·obtain⟨its,_,pl,_⟩:=I.list h
        obtain⟨o,ho,hc,_⟩:=pl.isList;exact UG PySem.W.kitx_list I.kIn ⟨o,ho,hc⟩ e (fun z=>nomatch z) fin
       ·obtain⟨its,_,pl,_⟩:=I.tuple h
        obtain⟨o,ho,hc,_⟩:=pl;exact UG PySem.W.kitx_tuple I.kIn ⟨o,ho,hc⟩ e (fun z=>nomatch z) fin
       ·obtain⟨_,_,vs,_,p⟩:=(show ObjOk X.prog X.w H s.heap a (.dK kvs ep)from I.hok a _ h)
        obtain⟨o,es,h1,h2,_⟩:=p;exact UG PySem.W.kitx_dict I.kIn ⟨o,h1,h2.1⟩ e (fun z=>nomatch z) fin
     | _=>exact(show False from ty).elim
noncomputable def subB(t T:String):Bool:=t==T||(t=="bool"&&T=="int")
theorem GK(K:Ra):∀t∈["NoneType","bool","int","str","list","tuple","dict"],∀T∈["int","bool","str","tuple","list","dict"],PySem.W.kitOne K (.type t) (.type T)=some (subB t T):=by
 intro t ht T hT;simp only[Rh,RZ,or_false]at ht hT;rcases ht with rfl | rfl | rfl | rfl | rfl | rfl | rfl<;>rcases hT with rfl | rfl | rfl | rfl | rfl | rfl<;>(with_unfolding_all rfl)
theorem Mt{ty:Ty}{T:String}(h:cH ty=some T):T∈["int","bool","str","tuple","list","dict"]:=by
 cases ty<;>simp[cH]at h<;>subst h<;>simp
theorem MT{o:Orc}{ty:Ty}{T:String}{d:D}{b:Bool}{v:V}(hk:W.K=X.K)(hT:cH ty=some T)(h:RepT W H (vis H B) d v)(e:isD o ty d=some b):∃t,TyS X.K H v t/\t∈["NoneType","bool","int","str","list","tuple","dict"]/\subB t T=b:=by
 cases d with
 | non=>
   simp only[RepT,Rep]at h;subst h;refine⟨"NoneType",rfl,by simp,?_⟩;cases ty<;>simp[cH]at hT<;>subst hT<;>simp[isD]at e<;>subst e<;>rfl
 | bl x=>
   simp only[RepT,Rep]at h;subst h;refine⟨"bool",rfl,by simp,?_⟩;cases ty<;>simp[cH]at hT<;>subst hT<;>simp[isD]at e<;>subst e<;>rfl
 | int x=>
   simp only[RepT,Rep]at h;subst h;refine⟨"int",rfl,by simp,?_⟩;cases ty<;>simp[cH]at hT<;>subst hT<;>simp[isD]at e<;>subst e<;>rfl
 | str x=>
   obtain⟨rfl,_⟩:=bu h;refine⟨"str",rfl,by simp,?_⟩;cases ty<;>simp[cH]at hT<;>subst hT<;>simp[isD]at e<;>subst e<;>rfl
 | tup l=>
   simp only[RepT,Rep]at h;obtain⟨a,xs,rfl,h1,h2⟩:=h;refine⟨"tuple",.inr (.inl ⟨rfl,xs,hk▸bx bH h1⟩),by simp,?_⟩;cases ty<;>simp[cH]at hT<;>subst hT<;>simp[isD]at e<;>subst e<;>rfl
 | lst l=>
   obtain⟨a,xs,rfl,h1,h2⟩:=h;refine⟨"list",.inl ⟨rfl,xs,hk▸h1⟩,by simp,?_⟩;cases ty<;>simp[cH]at hT<;>subst hT<;>simp[isD]at e<;>subst e<;>rfl
 | dct ks vs=>
   obtain⟨a,kvs,rfl,h1,h2⟩:=h;refine⟨"dict",.inr (.inr ⟨rfl,kvs,h1⟩),by simp,?_⟩;cases ty<;>simp[cH]at hT<;>subst hT<;>simp[isD]at e<;>subst e<;>rfl
 | obj c ns vs=>cases ty<;>simp[cH]at hT<;>simp[isD]at e
 | err c=>cases ty<;>simp[cH]at hT<;>simp[isD]at e
theorem JP{o:Orc}{ty:Ty}{T:String}{tn:Str}{p2:Pos}(hk:W.K=X.K)(hT:cH ty=some T)(hg:Gl X "isinstance")(hm:X.mg "isinstance"=none)(hg2:Gl X tn)(hm2:X.mg tn=none)(hv2:U8 tn=some (.type T))(hx2:tn≠"__name__")(hd2:(tn==("__debug__":Str))=false)
 (ha:PE X a (tD X W true fa)) (he:Rj [a,.Name tn p2] X.env=(false,Sv a X.env)::Rj [.Name tn p2] X.env) :
 PE X (.Call (.Name "isinstance" p) [a,.Name tn p2] [] pos) (tD X W lk fun δ=>(fa δ).bind fun x=>.of ((isD o ty x.2).map fun t=>(false,.bl t))):=by
 refine PE.imp (g8 Ez hg hm PyProof.Rows.boot_isinstance (bD ha (bD (FW (v:=.ty T) hg2 hm2 hv2 rfl hx2 hd2) cP) he) (by decide) (by decide) he rfl) fun σ H Q h=>?_
 obtain⟨me,B,δ,S,h⟩:=tD_iff.mp h
 refine tD.mono (part S h) fun v H1 ⟨r1,e1,S1,s1,t1,_,h1⟩=>?_
 cases e:isD o ty r1.2 with
 | none=>rw[e]at h1;exact h1.elim
 | some b=>
   rw[e]at h1;obtain⟨t,h2,h3,h4⟩:=MT hk hT t1 e;exact⟨v,T,t,b,rfl,h2,by rw[GK _ t h3 T (Mt hT),h4],h1 _ H1 (Same.refl _) cj⟩
def TgOk(X:Cx)(W:Wd)(tg:Expr)(is:List Nat)(tup:Bool)(g:TG):Prop:=PG X tg g /\
 ∀{me:Option Addr} {B:Addr->Prop} {σ:L2.St} {H:Hp} {δ δ1:Dst} {d:D} {ds:List D} {v:V} {C:L2.St->Hp->Prop},SR X W me B H σ δ->Rep W (vis H (Hid B σ δ)) d v->takes is.length tup d=some ds->aG δ is ds=some δ1 ->
  (∀σ1,SR X W me B H σ1 δ1->Same (vis H (Hid B σ δ)) (vis H (Hid B σ1 δ1))->C σ1 H)->g v σ H C
theorem wO(S:SR X W me B H σ δ)(r:Rep W (vis H (Hid B σ δ)) d v)(e:setSlot δ i false d=some δ1):SR X W me B H (σ.set i (some v)) δ1/\Same (vis H (Hid B σ δ)) (vis H (Hid B (σ.set i (some v)) δ1)):=by
 obtain⟨h1,rfl⟩:=gr e;exact S.store (w:=false) (Same.refl H) (.shared r) h1
theorem J7(hN:X.N.Nodup)(hi:X.N[i]?=some x)(hx:Loc X.env.scope x)(hf:X.fn x=true\/X.env.scope.names.lookup x=some .local):TgOk X W (.Name x pos) [i] false (uA i):=by
 refine⟨lD hN hi hx hf,fun{me B σ H δ δ1 d ds v C} S r e1 e2 k=>?_⟩;simp only[takes,Bool.false_eq_true,if_false,Rf]at e1;subst e1;simp only[aG]at e2
 cases e3:setSlot δ i false d with
 | none=>rw[e3]at e2;cases e2
 | some δ'=>
   rw[e3]at e2;cases e2;obtain⟨S1,s1⟩:=wO S r e3;exact k _ S1 s1
def eN:List Nat->TGs
 | []=>gNil
 | i::l=>LK (uA i) (eN l)
theorem eY:∀{is:List Nat} {ds:List D} {vs:List V} {σ:L2.St} {δ δ1:Dst},SR X W me B H σ δ->Reps W (vis H (Hid B σ δ)) ds vs->aG δ is ds=some δ1 ->
 (∀σ1,SR X W me B H σ1 δ1->Same (vis H (Hid B σ δ)) (vis H (Hid B σ1 δ1))->C σ1 H)->eN is vs σ H C
 | [],[],[],σ,δ,δ1,S,r,e,k=>by
   simp only[aG,Rf]at e;subst e;exact⟨rfl,k σ S (Same.refl _)⟩
 | [],[],_::_,_,_,_,_,r,_,_=>by simp only[Reps]at r
 | [],_::_,_,_,_,_,_,_,e,_=>by simp[aG]at e
 | _::_,[],_,_,_,_,_,_,e,_=>by simp[aG]at e
 | _::_,_::_,[],_,_,_,_,r,_,_=>by simp only[Reps]at r
 | i::is,d::ds,v::vs,σ,δ,δ1,S,r,e,k=>by
   simp only[Reps]at r;simp only[aG]at e
   cases e3:setSlot δ i false d with
   | none=>rw[e3]at e;cases e
   | some δ'=>
     rw[e3]at e;obtain⟨S1,s1⟩:=wO S r.1 e3;exact⟨v,vs,rfl,eY S1 (r.2.mono s1) e fun σ1 S2 s2=>k σ1 S2 (s1.trans s2)⟩
theorem O5(hk:W.K=X.K)(hc:X.calm=true)(h:PGs X es (eN is))(hn:(Ti es X.env).length=is.length)(hst:(Ti es X.env).findIdx? (·.1)=none):TgOk X W (.Tuple es kk pos) is true (gTup X.K is.length (eN is)):=by
 refine⟨CJ hc h hn hst,fun{me B σ H δ δ1 d ds v C} S r e1 e2 k=>?_⟩;simp only[takes,if_true]at e1
 cases d with
 | tup l=>
   simp only at e1;split at e1
   ·rename_i hl
    cases e1;simp only[Rep]at r;obtain⟨a,xs,rfl,r1,r2⟩:=r;exact⟨a,xs,rfl,hk▸bx bH r1,by rw[<-r2.length];exact hl,eY S r2 e2 k⟩
   ·cases e1
 | _=>simp at e1
theorem PI.or(h:PI X tg e t)(h':PI X tg e t'):PI X tg e (fun σ H R=>t σ H R\/t' σ H R):=by
 intro pins s σ H R I q;rcases q with q | q
 ·exact h pins s σ H R I q
 ·exact h' pins s σ H R I q
theorem PI.imp(h:PI X tg e t)(i:∀σ H R,t' σ H R->t σ H R):PI X tg e t':=fun pins s σ H R I hw=>h pins s σ H R I (i σ H R hw)
def cU(ds:List D)(n:Nat):Dst:=ds.map (fun d=>some (Own.sh,d))++RW n none
theorem cg{ds:List D}{n i:Nat}{w:Own}{d:D}(h:(cU ds n)[i]?=some (some (w,d))):w=.sh/\ds[i]?=some d:=by
 unfold cU at h
 by_cases hi:i<ds.length
 ·rw[Td (by simpa using hi),RK]at h
  cases e:ds[i]? with
  | none=>rw[e]at h;cases h
  | some x=>rw[e]at h;cases h;exact⟨rfl,rfl⟩
 ·rw[Sq (by simpa using hi),Vk]at h
  split at h<;>cases h
theorem iV{N:List Str}{vs:List V}{i:Nat}{v:V}(h:vs[i]?=some v):(L2.start N vs)[i]?=some (some v):=by
 unfold L2.start;have hi:i<vs.length:=(Ry.mp h).1;rw[Td (by simpa using hi),RK,h]
 rfl
theorem SR.start{N:List Str}{ds:List D}{vs:List V}(hk:W.K=X.K)(h0:X.H₀=H)(hb:Soft H B)(hg:∀b,B b->∃o,H b=some o)(hr:Reps W (vis H B) ds vs)(hl:vs.length<=N.length) :
 SR X W none B H (L2.start N vs) (cU ds (N.length-vs.length)):=by
 have hid:∀b,Hid B (L2.start N vs) (cU ds (N.length-vs.length)) b->B b:=fun b hb=>by
  rcases hb with hb | ⟨i,⟨w,d,h1,h2⟩,_⟩
  ·exact hb
  ·exact absurd (cg h1).1 h2
 refine⟨hk,?_,fun i d h=>?_,fun i d h=>?_,fun i d h=>?_,fun i j a h1 _=>?_,fun b o h _=>by rw[<-h0];exact h,hb,hg,fun x h=>nomatch h⟩
 ·unfold L2.start cU
  simp[hr.length]
 ·obtain⟨v,e1,e2⟩:=hr.get (cg h).2
  exact⟨v,iV e1,e2.mono (aH hid)⟩
 ·exact absurd (cg h).1 (by decide)
 ·exact absurd (cg h).1 (by decide)
 ·obtain⟨⟨w,d,h1,h2⟩,_⟩:=h1
  exact absurd (cg h1).1 h2
end
end Z
namespace Z
open PySem PySem.Spec PyProof.Rows L2
section
variable{X:Cx}{W:Wd}{me:Option Addr}{B:Addr->Prop}{H H':Hp}{σ:L2.St}{δ:Dst}{E:Value->Shared->Prop}{s s':Shared}{cls:Value}{a:Addr}{tr:Bool}
theorem SR.wish(S:SR X W me B H σ δ):SR (X.wish E) W me B H σ δ:=⟨S.kf,S.len,S.sh,S.ow,S.mi,S.apart,S.same,S.soft,S.gone,S.live⟩
theorem SR.unwish(S:SR (X.wish E) W me B H σ δ):SR X W me B H σ δ:=⟨S.kf,S.len,S.sh,S.ow,S.mi,S.apart,S.same,S.soft,S.gone,S.live⟩
theorem Fly.unwish(F:Fly (X.wish E) H s cls a H' s' tr):Fly X H s cls a H' s' tr:=⟨F.os,F.bare,F.un,F.hok,F.newE,F.freeE,F.ff,F.fr,F.exc⟩
theorem PE.lift(h:PE X.nox e (tD X.nox W lk f)):PE X e (tD X W lk f):=PE.imp (PE.nox h) fun σ H Q q=>by
 obtain⟨me,B,δ,S,q⟩:=tD_iff.mp q;exact tD_iff.mpr ⟨me,B,δ,S.wish,q⟩
theorem PT.lift(h:PT X.nox e (tT X.nox W f)):PT X e (tT X W f):=PT.imp (PT.nox h) fun σ H Q ⟨me,B,δ,S,q⟩=>⟨me,B,δ,S.wish,q⟩
theorem PS.lift{st:Stmt}{g:Dst->SO}(h:PS X.nox st (tS X.nox W g))(hn:∀δ c δ',g δ≠.ex c δ'):PS X st (tS X W g):=by
 intro pins s σ H D I ⟨me,B,δ,S,q⟩
 refine T8 (h pins s σ H D (I.wish _) ⟨me,B,δ,S.wish,?_⟩) (fun _ _ q=>q.unwish) fun _ _ z=>RC z
 cases e:g δ with
 | nx δ1=>rw[e]at q;exact fun σ H S z=>q σ H S.unwish z
 | bk δ1=>rw[e]at q;exact fun σ H S z=>q σ H S.unwish z
 | ct δ1=>rw[e]at q;exact fun σ H S z=>q σ H S.unwish z
 | rt w d δ1=>rw[e]at q;exact fun v σ H S z=>q v σ H S.unwish z
 | ex c δ1=>exact absurd e (hn δ c δ1)
 | stuck=>rw[e]at q;exact q
theorem PSs.unw{st:List Stmt}{t:TS}(h:PSs (X.wish E) st t)(k:∀e s,E e s->X.xe e s):PSs X st t:=fun pins s σ H D I hw=>
 T8 (h pins s σ H D (I.wish _) hw) (fun _ _ q=>q.unwish) fun e s' z=>k e s' z
end
def CXZ(P:Rz)(w:RT)(base:Rk)(W:Wd):CXT:=fun outer H s E e s'=>∃a c H',e=.ref a/\s'.os=s.os/\VJ s'.gens/\Un (frs outer) [] H H' s.heap s'.heap/\HOk P w H' s'.heap/\s.heap.get? a=none/\H' a=none /\
 ExcAt s'.heap s.heap H' a (.ref (W.CT c)) true/\Same H H'/\E (.ref (W.CT c)) (some a) H'
def spEx(W:Wd)(g:List D->R (Bool×D))(np:Nat):Sp:=fun vs H _ E=>vs.length=np/\∃B ds,Soft H B/\(∀b,B b->∃o,H b=some o)/\Reps W (vis H B) ds vs/\∃c,g ds=.exc c/\∀a H',Same H H'->E (.ref (W.CT c)) a H'
def spB(W:Wd)(g:List D->R (Bool×D))(np:Nat):Sp:=fun vs H Q E=>spFn W g np vs H Q E\/spEx W g np vs H Q E
section
variable{P:Rz}{w:RT}{K:Ra}{mg:Str->Option Value}{base:Rk}{k:Nat}{f:Addr}{fd:V0}{ps:List Str}{W:Wd}{g:List D->R (Bool×D)}{np:Nat}
theorem ok0(F:FnOk P w K mg base (CXZ P w base W) k f fd ps (spB W g np)):FnOk P w K mg base CX0 k f fd ps (spFn W g np):=by
 refine⟨fun vs H Q E q=>F.len vs H Q E (.inl q),fun A outer s H args us vs Q E hr he hb hv hs=>?_⟩
 refine Uj (F.run A outer s H args us vs Q E0 hr he hb hv (.inl hs)) fun r s' q=>?_
 cases r with
 | ok fl=>cases fl<;>exact q
 | error e=>obtain⟨_,_,_,_,_,_,_,_,_,_,_,_,z⟩:=q;exact z.elim
end
section
variable{X:Cx}{W:Wd}{pins:List (Addr×Obj)}{σ:L2.St}{H H':Hp}{s s':Shared}
theorem Fly.of(I:Inv X pins σ H s)(os:s'.os=s.os)(bare:VJ s'.gens)(un:Un (frs X.stack) [] H H' s.heap s'.heap)(hok:HOk X.prog X.w H' s'.heap)(n1:s.heap.get? a=none)(n2:H' a=none)(ex:ExcAt s'.heap s.heap H' a cls tr) :
 Fly X H s cls a H' s' tr:=by
 have fr0:=I.stkFree;have ff0:=I.stack;refine⟨os,bare,un,hok,n1,n2,?_,fun b hb=>?_,ex⟩
 ·have go:∀l:List Env,(∀b∈frs l,b∈frs X.stack)->s.heap.FunFrames X.base l->s'.heap.FunFrames X.base l:=by
   intro l
   induction l with
   | nil=>intro _ _;trivial
   | cons env r ih=>
     intro hs ⟨hk,⟨L,o,hf,hn,ho,hd⟩,hr⟩
     have e:frs (env::r)=L::frs r:=by unfold frs;rw[Va,hf]
     rw[e]at hs;obtain⟨sl,q⟩:=un.slot L o ho (fr0 L (hs L Rg)) (hs L Rg) (by simp);exact⟨hk,⟨L,_,hf,hn,q,hd⟩,ih (fun b hb=>hs b (Rb _ hb)) hr⟩
  exact go X.stack (fun _ z=>z) ff0
 ·obtain⟨_,o,ho,_⟩:=ff0.mem hb
  exact un.free b o ho (fr0 b hb) (by simp)
def XEf(X:Cx)(W:Wd)(E:XK):Value->Shared->Prop:=fun e s'=>∃pins σ H1 s1 c a H' tr,e=.ref a/\Inv X pins σ H1 s1/\Same X.H₀ H1/\Fly X H1 s1 (.ref (W.CT c)) a H' s' tr/\Same H1 H'/\∀a' H'',Same X.H₀ H''->E (.ref (W.CT c)) a' H''
end
section
variable{P:Rz}{w:RT}{K:Ra}{mg:Str->Option Value}{base:Rk}{x qual:Str}{st:Stmt}{f:Addr}{fd:V0}{N ps:List Str}{k:Nat}{o:Orc}{W:Wd}{np ns:Nat}{body:SL}
noncomputable abbrev cxB(P:Rz)(w:RT)(K:Ra)(mg:Str->Option Value)(base:Rk)(W:Wd)(N:List Str)(qual:Str)(st:Stmt)(f:Addr)(cdv:Value)(A:RV)(outer:List Env)(s:Shared)(H:Hp)(E:XK):Cx:=cxOf (CXZ P w base W) P w K mg base N qual (aF st) f cdv A outer s H E
noncomputable abbrev cxX(P:Rz)(w:RT)(K:Ra)(mg:Str->Option Value)(base:Rk)(W:Wd)(N:List Str)(qual:Str)(st:Stmt)(f:Addr)(cdv:Value)(A:RV)(outer:List Env)(s:Shared)(H:Hp)(E:XK):Cx:=(cxB P w K mg base W N qual st f cdv A outer s H E).wish (XEf (cxB P w K mg base W N qual st f cdv A outer s H E) W E)
theorem qW(h:XEf (cxB P w K mg base W N qual st f cdv A outer s H E) W E e s'):(cxB P w K mg base W N qual st f cdv A outer s H E).xe e s':=by
 obtain⟨pins,σ,H1,s1,c,a,H',tr,rfl,I,sm,F,sm',k⟩:=h
 have hX:Top (cxB P w K mg base W N qual st f cdv A outer s H E) s.heap.objs.size:=⟨rfl,rfl,I.ok.frames⟩
 refine uf (X:=cxB P w K mg base W N qual st f cdv A outer s H E) hX F fun h' F'=>?_
 have new:∀b,s1.heap.get? b=none->s.heap.get? b=none:=fun b hb=>by
  cases e:s.heap.get? b with
  | none=>rfl
  | some ob=>obtain⟨o',q⟩:=I.base.there b ob e (by exact RZ);rw[hb]at q;cases q
 have hfs:∀b o,s.heap.get? b=some o->b∉frs outer->b∉frs (cxB P w K mg base W N qual st f cdv A outer s H E).stack:=fun b ob e hb z=>by
  have z:b∈s.heap.objs.size::frs outer:=z;rcases Rh.mp z with z | z
  ·have:=Ro e;rw[z]at this;exact absurd this (Nat.lt_irrefl _)
  ·exact hb z
 have un:Un (frs outer) [] H H' s.heap h':=by
  refine⟨fun b ob e n hb hx=>?_,fun b ob e n hb hx=>?_,fun b ob e n hx=>?_,fun b ob e hx=>?_,fun b xs e=>F'.un.tups b xs (I.base.tups b xs e),fun b ob u e=>F'.un.frzs b ob u (I.base.frzs b ob u e),fun b pq e=>?_⟩
  ·exact F'.un.keep b ob (I.base.keep b ob e n hb hx) (I.base.free b ob e n hx) (hfs b ob e hb) hx
  ·obtain⟨sl,q⟩:=I.base.slot b ob e n hb hx
   obtain⟨sl',q'⟩:=F'.un.slot b _ q (I.base.free b ob e n hx) (show b∈s.heap.objs.size::frs outer from Rb _ hb) hx;exact⟨sl',q'⟩
  ·obtain⟨o',q⟩:=I.base.there b ob e hx
   exact F'.un.free b o' q (I.base.free b ob e n hx) hx
  ·obtain⟨o',q⟩:=I.base.there b ob e hx
   exact F'.un.there b o' q hx
  ·obtain⟨m1,q1⟩:=I.base.tbls b pq e
   obtain⟨m2,q2⟩:=F'.un.tbls b _ q1;exact⟨m1++m2,by rw[q2,Array.append_assoc]⟩
 obtain⟨oe,vs,x1,x2,x3,x4,x5⟩:=F'.exc;refine⟨a,c,H',rfl,F'.os.trans I.os,F'.bare,un,F'.hok,new a F'.newE,F'.freeE,⟨oe,vs,x1,x2,x3,x4,?_⟩,sm.trans sm',k (some a) H' (sm.trans sm')⟩;rcases x5 with⟨z,_⟩ | ⟨T,oT,ts,y1,y2,y3,y4⟩
 ·cases z
 ·exact .inr ⟨T,oT,ts,y1,y2,new T y3,y4⟩
theorem vd(F:Fun K x qual st f fd)(Sc:FnScope N ps (aF st))(hp:ps.length=np)(hn:N.length=ns)
 (hb:∀(cdv:Value) (A:RV) (outer:List Env) (s:Shared) (H:Hp) (E:XK),Room k (A.deeper (Wr qual (aF st) s.heap.objs.size f cdv)) ->
  PSs (cxX P w K mg base W N qual st f cdv A outer s H E) (bB st) (tS (cxX P w K mg base W N qual st f cdv A outer s H E) W (evSs o body))) (hk:W.K=K) :
 FnOk P w K mg base (CXZ P w base W) (k+1) f fd ps (spB W (bf o ⟨np,ns,body⟩) np):=by
 obtain⟨oc,od,kV,doc,pm,an,cdv,ct,osl,dV,rfl,lk,hcd⟩:=F.ex
 have hlen:∀vs H Q E,spB W (bf o ⟨np,ns,body⟩) np vs H Q E->vs.length=np:=fun vs H Q E q=>q.elim (·.1) (·.1)
 refine Jy lk hcd Sc (fun vs H Q E q=>by rw[hp];exact hlen vs H Q E q) fun A outer s H vs Q E hr hsp=>⟨tS (cxX P w K mg base W N qual st f cdv A outer s H E) W (evSs o body),PSs.unw (hb cdv A outer s H E hr) (fun e s' z=>qW z),?_⟩
 have hl:vs.length=np:=hlen vs H Q E hsp
 have hle:vs.length<=N.length:=by
  have:=congrArg T3 Sc.pre;rw[Vv]at this;omega
 have run:∀ds:List D,ds.length=vs.length->bf o ⟨np,ns,body⟩ ds=(match evSs o body (cU ds (N.length-vs.length))with | .rt w d _=>Yr (w,d) | .nx _=>.ok (false,.non) | .ex c _=>.exc c | _=>.stuck):=fun ds hd=>by
  unfold bf cU;rw[if_pos (by rw[hd];exact hl),hn,hl]
  try rfl
 have same:∀{σ':L2.St} {H':Hp} {δ':Dst} {B:Addr->Prop},SR (cxX P w K mg base W N qual st f cdv A outer s H E) W none B H' σ' δ'->Same H H':=fun S' b o h=>S'.same b o h (by simp)
 rcases hsp with⟨_,B,ds,b1,b2,b3,r,e,k1⟩ | ⟨_,B,ds,b1,b2,b3,c,e,k1⟩
 ·refine⟨none,B,_,SR.start (N:=N) (by exact hk) rfl b1 b2 b3 hle,?_⟩
  rw[run ds b3.length]at e
  cases e2:evSs o body (cU ds (N.length-vs.length))with
  | rt w d δ'=>
    rw[e2]at e;cases e
    exact fun v σ' H' S' _ q=>k1 v H' (same S') q
  | nx δ'=>
    rw[e2]at e;cases e
    exact fun σ' H' S' _=>k1 .non H' (same S') (.shared (by simp only[Rep]))
  | bk δ'=>rw[e2]at e;cases e
  | ct δ'=>rw[e2]at e;cases e
  | ex c δ'=>rw[e2]at e;cases e
  | stuck=>rw[e2]at e;cases e
 ·refine⟨none,B,_,SR.start (N:=N) (by exact hk) rfl b1 b2 b3 hle,?_⟩
  rw[run ds b3.length]at e
  cases e2:evSs o body (cU ds (N.length-vs.length))with
  | rt w d δ'=>rw[e2]at e;cases e
  | nx δ'=>rw[e2]at e;cases e
  | bk δ'=>rw[e2]at e;cases e
  | ct δ'=>rw[e2]at e;cases e
  | stuck=>rw[e2]at e;cases e
  | ex c' δ'=>
    rw[e2]at e;cases e;intro pins σ' H1 s1 I S _ a H' s' tr Fl sm;exact⟨pins,σ',H1,s1,c,a,H',tr,rfl,I.unwish,same S,Fl.unwish,sm,k1⟩
theorem wX:Vt (Rt P w) (cxX P w K mg base W N qual st f cdv A outer s H E).A (cxX P w K mg base W N qual st f cdv A outer s H E).env (cxX P w K mg base W N qual st f cdv A outer s H E).xe:=by
 intro e s' h;obtain⟨pins,σ,H1,s1,c,a,H',tr,rfl,I,sm,F,sm',k⟩:=id h
 have hX:Top (cxB P w K mg base W N qual st f cdv A outer s H E) s.heap.objs.size:=⟨rfl,rfl,I.ok.frames⟩
 refine nu (M:=Rt P w) (X:=cxB P w K mg base W N qual st f cdv A outer s H E) (P:=XEf (cxB P w K mg base W N qual st f cdv A outer s H E) W E) hX (fun e2 s2 h2=>?_) (.ref a) s' h;obtain⟨pins,σ,H1,s1,c,a,H',tr,rfl,I,sm,F,sm',k⟩:=h2;exact⟨H1,s1,_,a,H',tr,rfl,F,fun h' F'=>⟨pins,σ,H1,s1,c,a,H',true,rfl,I,sm,F',sm',k⟩⟩
end
section
variable{X:Cx}{W:Wd}{o:Orc}
theorem call_exc(hn:∀δ r,evL o δ l=.ok r->r.2.length=np)
 (F:FnOk X.prog X.w X.K X.mg X.base (CXZ X.prog X.w X.base W) k fa fd ps (spB W (o.fn f) np)) (hr:Room k X.A) (hg:Gl X x) (hm:X.mg x=some (.ref fa)) (hk:RL X.K (.ref fa)=true) (hb:Binds X.K fd ps [])
 (ha:PA X (e::es) (tL X W fun δ=>evL o δ l)) (hdb:(x==("__debug__":Str))=false) (he:Rj (e::es) X.env=(false,Sv e X.env)::Rj es X.env) (hpl:(SN cpos (Rj es X.env)).any (·.1)=false)
 (I:Inv X pins σ H s) (S:SR X W me B H σ δ) (e1:evL o δ l=.ok xs) (e2:o.fn f xs.2=.exc c) (h:AfterS X W me B (vis H (Hid B σ δ)) (.ex c δ) En):Rn (Rt X.prog X.w) X.A (Sv (.Call (.Name x p) (e::es) [] cpos) X.env) Q X.xe s:=by
 have hL:tL X W (fun δ=>evL o δ l) σ H fun vs H1=>SR X W me B H1 σ δ/\Same H H1/\RepTs W H1 (vis H1 (Hid B σ δ)) xs.2 vs/\vs.length=np:=by
  refine tL.mono (jA (fa:=fun δ=>evL o δ l) (g:=Yr) (C:=fun r _=>r=.ok xs) S (by rw[e1];rfl) (fun _ _ _ q=>q) (fun c q=>(nomatch q)) (fun q=>(nomatch q))) fun vs H1 ⟨r,e3,S1,s1,t1,q1,h1⟩=>?_
  rw[e1]at e3;cases e3;exact⟨S1,s1,t1,by rw[<-t1.length];exact hn δ xs e1⟩
 refine Vp (eX I hg hm ?_ hdb);refine Uz (h₀:=X.base) I.ok.mod.kin hk (thn (ha cpos pins s σ H _ I hL) fun us s1 ⟨vs,H1,I1,r,S1,q1,t1,hv⟩=>⟨I1.kIn,?_⟩) he hpl;have hsp:spB W (o.fn f) np vs H1 (fun _ _=>False) (fun cl _ H2=>cl=.ref (W.CT c)/\Same H1 H2):=.inr ⟨hv,fun b=>Hid B σ δ b/\V.ref b∉vs,xs.2,fun a ha=>S1.softH a ha.1,fun b hb=>S1.know b hb.1,t1.lend vs (fun v hv=>hv),c,e2,fun a H2 z=>⟨rfl,z⟩⟩;have r2:Vals (vs++[]) (us++[]):=r.append .nil
 have hlen:(us++[]).length=ps.length:=by rw[<-r2.length,Sg];exact F.len _ _ _ _ hsp
 refine WP (Uj (F.run X.A X.stack s1 H1 ⟨us,[]⟩ (us++[]) (vs++[]) _ _ hr I1.env0 (hb s1 us I1.kIn hlen) r2 (by rw[Sg];exact hsp)) fun r s' hq=>?_)
 cases r with
 | ok fl=>
   cases fl with
   | ret u=>obtain⟨_,_,_,_,_,_,_,z⟩:=hq;exact z.elim
   | next=>exact RC hq
   | brk=>exact RC hq
   | cont=>exact RC hq
 | error er=>
   obtain⟨a,c',H',rfl,x1,x2,x3,x4,x5,x6,x7,x8,x9,_⟩:=hq;rw[x9]at x7;exact h pins σ H1 s1 I1 S1 (ao q1) a H' s' true (Fly.of I1 x1 x2 x3 x4 x5 x6 x7) x8
theorem Bw(hn:∀δ r,evL o δ l=.ok r->r.2.length=np)
 (F:FnOk X.prog X.w X.K X.mg X.base (CXZ X.prog X.w X.base W) k fa fd ps (spB W (o.fn f) np)) (hr:Room k X.A) (hg:Gl X x) (hm:X.mg x=some (.ref fa)) (hk:RL X.K (.ref fa)=true) (hb:Binds X.K fd ps [])
 (ha:PA X (e::es) (tL X W fun δ=>evL o δ l)) (hdb:(x==("__debug__":Str))=false) (he:Rj (e::es) X.env=(false,Sv e X.env)::Rj es X.env) (hpl:(SN cpos (Rj es X.env)).any (·.1)=false)
 (hok:PE X (.Call (.Name x p) (e::es) [] cpos) (tD X W true fun δ=>ev o δ true (.call f l))):PS X (.Expr (.Call (.Name x p) (e::es) [] cpos) pos) (tS X W (evS o (.expr (.call f l)))):=by
 intro pins s σ H D I ⟨me,B,δ,S,h⟩;simp only[evS]at h;obtain⟨xs,e1,h⟩:=SO.of_ok h;refine wpAny_Expr_any ?_ I.quiet rfl
 cases e2:o.fn f xs.2 with
 | stuck=>rw[e2]at h;exact h.elim
 | ok r=>
   have er:ev o δ true (.call f l)=lent xs.1 r:=by simp only[ev,e1,XS,e2]
   rw[e2]at h
   cases e3:lent xs.1 r with
   | ok r'=>
     have h:AfterS X W me B (vis H (Hid B σ δ)) (SO.ofX δ (lent xs.1 r) fun _=>.nx δ) D:=h;rw[e3]at h
     refine thn (hok pins s σ H (fun v H1=>Same H H1) I (tD_iff.mpr ⟨me,B,δ,S,?_⟩)) fun v s1 ⟨y,H1,I1,_,q1⟩=>⟨σ,H1,I1,h _ _ (S.mono q1) (ao q1)⟩
     rw[er,e3]
     exact fun v H1 s1 _=>s1
   | exc c=>
     have h:AfterS X W me B (vis H (Hid B σ δ)) (SO.ofX δ (lent xs.1 r) fun _=>.nx δ) D:=h;unfold lent at e3;split at e3
     ·split at e3<;>cases e3
     ·cases e3
   | stuck=>
     have h:AfterS X W me B (vis H (Hid B σ δ)) (SO.ofX δ (lent xs.1 r) fun _=>.nx δ) D:=h;rw[e3]at h;exact h.elim
 | exc c=>
   rw[e2]at h;have h:AfterS X W me B (vis H (Hid B σ δ)) (.ex c δ) D:=h;exact call_exc hn F hr hg hm hk hb ha hdb he hpl I S e1 e2 h
end
end Z
namespace Z
open PySem PySem.Spec PyProof.Rows L2
variable{W:Wd}{X:Cx}
theorem iG:∀{ks:List DK} {vs:List D} {kvs:List (Key×V)} {x:DK} {d:D},kvs.map (·.1)=ks.map keyV->Reps W G vs (kvs.map (·.2))->look ks vs x=some d->∃v,valV kvs (keyV x)=some v/\Rep W G d v
 | [],_,_,_,_,_,_,h=>by simp[look]at h
 | _::_,[],_,_,_,_,_,h=>by simp[look]at h
 | k::ks,d'::vs,[],_,_,e,_,_=>by simp at e
 | k::ks,d'::vs,(k',v')::kvs,x,d,e,r,h=>by
   simp only[R8,Tq]at e;simp only[R8,Reps]at r;obtain⟨e1,e2⟩:=e;subst e1;simp only[look]at h
   by_cases hk:k=x
   ·subst hk
    rw[if_pos rfl]at h;cases h;exact⟨v',by simp[valV],r.1⟩
   ·rw[if_neg hk]at h
    obtain⟨v,h1,h2⟩:=iG e2 r.2 h;refine⟨v,?_,h2⟩
    have:¬keyV k=keyV x:=fun z=>hk (dw z)
    simp only[valV]at h1 ⊢;rw[List.find?_cons_of_neg (by simp[this])];exact h1
theorem iU:∀{ks:List DK} {vs:List D} {kvs:List (Key×V)} {x:DK},kvs.map (·.1)=ks.map keyV->Reps W G vs (kvs.map (·.2))->look ks vs x=none->valV kvs (keyV x)=none
 | [],_,[],_,_,_,_=>rfl
 | [],_,_::_,_,e,_,_=>by simp at e
 | _::_,_,[],_,e,_,_=>by simp at e
 | _::_,[],_::_,_,_,r,_=>by simp only[R8,Reps]at r
 | k::ks,d'::vs,(k',v')::kvs,x,e,r,h=>by
   simp only[R8,Tq]at e;simp only[R8,Reps]at r;obtain⟨e1,e2⟩:=e;subst e1;simp only[look]at h
   by_cases hk:k=x
   ·subst hk;rw[if_pos rfl]at h;cases h
   ·rw[if_neg hk]at h
    have:=iU e2 r.2 h
    have hne:¬keyV k=keyV x:=fun z=>hk (dw z)
    simp only[valV]at this ⊢;rw[List.find?_cons_of_neg (by simp[hne])];exact this
end Z
namespace Z
open PySem PySem.Spec PyProof.Rows L2
section
variable{X:Cx}{W:Wd}{lk lk':Bool}{σ:L2.St}{H H1 H':Hp}{me:Option Addr}{B:Addr->Prop}{δ:Dst}{Q Q':VK}{a b:Expr}{pos p:Pos}{fa fb fc:Dst->R (Bool×D)}
section
open PySem.SeqAt
open PySem.AutoSeq1 (wpAny_loadPart')
open MeetsSeq
theorem list_addW(l b:Addr)(items items2:Array Value)(n n2:Nat)(dd dd2:Option Addr)(sl sl2:Array (Option Value))(hc0:items.size+items2.size<=sizeLine) :
 Meets (Sw.«list.__add__» ⟨[.ref l,.ref b],[]⟩) (fun _ R s=>s.heap.get? l=some { cls:=.type "list",dict:=dd,data:=.seq items n,slots:=sl }/\s.heap.get? b=some { cls:=.type "list",dict:=dd2,data:=.seq items2 n2,slots:=sl2 } /\
  R (.ok (.ret (Value.ref s.heap.objs.size))) { s with heap:=s.heap.push { cls:=Value.type "list",data:=Wt.seq (items++items2) } }) :=
 .of_wp fun prog w A R s h=>by
  obtain⟨hp,g,d,tk,os⟩:=s;obtain⟨hl,hb,h⟩:=h;have f1:=PySem.AutoSeq1.idx_int;have f2:=PySem.AutoSeq1.sub_tuple_tuple;have f3:=PySem.AutoSeq1.sub_list_list;have f4:=PySem.AutoSeq1.sub_tuple_list;have f5:=PySem.AutoSeq1.sub_list_tuple
  wp_walk using W2 hl,W2 hb;exact⟨_,rfl,h⟩
end
def Lg(K:Ra):R2:=fun x y H Q=>∃l b xs zs,x=.ref l/\y=.ref b/\SqL K H l xs/\SqL K H b zs/\xs.length+zs.length<=sizeLine/\∀p,H p=none->Q (.ref p) (upd H p (.lst (xs++zs)))
theorem Gj:OpR X (Vm .Add) (Lg X.K):=by
 intro pins s σ H x y v u Q I rx ry h;obtain⟨l,b,xs,zs,rfl,rfl,hH,hB,hz,q⟩:=h;cases rx;cases ry;obtain⟨its,r,⟨⟨cls,dd,data,sl⟩,n,ho,hc,_,hd⟩,z⟩:=I.list hH;obtain⟨its2,r2,⟨⟨cls2,dd2,data2,sl2⟩,n2,ho2,hc2,_,hd2⟩,z2⟩:=I.list hB;simp only at hc hd hc2 hd2;subst hc hd hc2 hd2;have l1:=r.length;have l2:=r2.length
 have ea:its.toArray++its2.toArray=(its++its2).toArray:=by simp
 refine concat_meets ⟨_,ho,rfl⟩ ⟨_,ho2,rfl⟩ noFill_list_add seq_list_add PySem.F.slot_list_add PySem.F.entry_list_add (PySem.F.args_list_add_2 _ _) (list_addW l b its.toArray its2.toArray n n2 dd dd2 sl sl2 (by rw[Ru,Ru];omega)) ⟨ho,ho2,?_⟩;rw[ea];exact⟨.ref _,_,I.lnew (t':=s.toks) (r.append r2) (by rw[Rx];omega),rfl,q _ I.fresh⟩
def vC(K:Ra):R2:=fun x y H Q=>(rI0 (fun i j=>.int (i+j)) x y H Q\/(∃i j,x=.str i/\y=.str j/\i.length+j.length<=sizeLine/\Q (.str (i++j)) H))\/Lg K x y H Q
theorem vL:OpR X (Vm .Add) (vC X.K):=OpR.or (OpR.or JG uG) Gj
theorem fj(h:size n=true):n<=sizeLine:=by rw[T9];simpa[size]using h
theorem fD(x y:List Nat):strV x++strV y=strV (x++y):=by
 show(⟨(strV x).cps++(strV y).cps⟩:Str)=_;simp[strV]
theorem iC(x:List Nat):(strV x).length=x.length:=by simp[strV,Str.length]
theorem Gn(hk:W.K=X.K):Sem2 W (vC X.K) (o2 .add):=by
 intro lk P H x y dx dy Q w d hS hK hx hy e k
 cases dx<;>cases dy<;>first | exact nope e | exact fB e | simp only[o2]at e
 ·simp only[arith]at e
  cases e;exact .inl (.inl ⟨_,_,aQ hx,aQ hy,k _ H (Same.refl H) dB⟩)
 ·obtain⟨h1,e⟩:=gW e
  cases e;obtain⟨rfl,l1⟩:=bu hx;obtain⟨rfl,l2⟩:=bu hy;refine .inl (.inr ⟨_,_,rfl,rfl,by rw[iC,iC];exact fj h1,?_⟩);rw[fD];exact k _ H (Same.refl H) (pI (by rw[Rx];simpa[size]using h1))
 ·obtain⟨h1,e⟩:=gW e
  cases e;obtain⟨a,xs,rfl,q1,q2⟩:=hx;obtain⟨b,ys,rfl,p1,p2⟩:=hy;refine .inr ⟨a,b,xs,ys,rfl,rfl,hk▸q1,hk▸p1,by rw[<-q2.length,<-p2.length];exact fj h1,fun p hp=>?_⟩;exact k _ _ (Same.upd hp) (jh hp (q2.append p2) hK)
theorem v6(hx:RepT W H G dx x)(hy:RepT W H G dy y)(e:eqS dx dy=some t):scal x y=true/\decide (x=y)=t:=by
 cases dx<;>cases dy<;>first | exact nope e | exact fB e | simp only[eqS]at e
 all_goals simp only[Rf]at e
 all_goals (first | (have hx:=(bu hx).1) | (simp only[RepT,Rep]at hx))
 all_goals (first | (have hy:=(bu hy).1) | (simp only[RepT,Rep]at hy))
 all_goals subst hx
 all_goals subst hy
 all_goals (refine⟨rfl,?_⟩;rw[<-e])
 all_goals first
  | simp
  | skip
 all_goals exact⟨fun h=>du h,fun h=>by rw[h]⟩
theorem Lj:Sem2 W rEq (o2 .eq):=by
 intro lk P H x y dx dy Q w d hS hK hx hy e k;simp only[o2,eqA]at e
 cases e1:eqS dx dy with
 | none=>rw[e1]at e;cases e
 | some t=>
   rw[e1]at e;cases e;obtain⟨h1,h2⟩:=v6 hx hy e1;exact⟨h1,by rw[h2];exact k _ H (Same.refl H) cj⟩
theorem JZ:Sem2 W rNe (o2 .ne):=by
 intro lk P H x y dx dy Q w d hS hK hx hy e k;simp only[o2,eqA]at e
 cases e1:eqS dx dy with
 | none=>rw[e1]at e;cases e
 | some t=>
   rw[e1]at e;cases e;obtain⟨h1,h2⟩:=v6 hx hy e1;exact⟨h1,by rw[h2];exact k _ H (Same.refl H) cj⟩
def Do:R2:=rI0 (fun i j=>.bl (decide (i<j)))
theorem zQ:OpR X (TX .Lt) Do:=Ot
theorem Dv:∀x y:List Nat,ltS x y=decide (x<y)
 | [],[]=>by simp[ltS]
 | [],b::y=>by simp[ltS]
 | a::x,[]=>by simp[ltS]
 | a::x,b::y=>by
   simp only[ltS,Dv x y,List.cons_lt_cons_iff]
   by_cases h1:a<b
   ·simp[h1]
   ·by_cases h2:b<a
    ·have:a≠b:=by omega
     simp[h1,h2,this]
    ·have:a=b:=by omega
     simp[this]
theorem LR:Sem2 W Do (o2 .lt):=by
 intro lk P H x y dx dy Q w d hS hK hx hy e k
 cases dx<;>cases dy<;>first | exact nope e | exact fB e | simp only[o2]at e
 ·simp only[arith]at e
  cases e;exact⟨_,_,aQ hx,aQ hy,k _ H (Same.refl H) cj⟩
end
end Z
namespace L2
open PySem PySem.Spec PyProof.Rows
theorem jq{α β:Type}{f:α->β->Sem (ForInStep β)}(step:α->β->β):∀(l:List α) (c:β),(∀x∈l,∀c,f x c=pure (.yield (step x c)))->forIn l c f=pure (l.foldl (fun c x=>step x c) c)
 | [],c,_=>rfl
 | x::l,c,h=>by
   rw[List.forIn_cons,h x Rg,pure_bind]
   exact jq step l (step x c) fun y hy=>h y (Rb _ hy)
noncomputable def bR(env:Env)(x:Str×Tg)(c:List (Str×Addr)):List (Str×Addr):=if x.2=.free then(x.1,(env.cells.lookup x.1).getD 0)::c else c
def cZ(env:Env)(names:List (Str×Tg)):List (Str×Addr):=names.foldl (fun c x=>bR env x c) []
theorem uW{scope:Scope}{env:Env}(h:∀y∈scope.names,y.2=.free->∃c,env.cells.lookup y.1=some c):closureFor scope env=pure (cZ env scope.names):=by
 simp only[closureFor];rw[jq (bR env) scope.names [] (fun x hx c=>?_)]
 ·rfl
 ·obtain⟨n,kind⟩:=x
  by_cases hk:kind=.free
  ·subst hk
   obtain⟨a,e⟩:=h _ hx rfl;simp only at e;simp[bR,cellOf,e]
  ·have hb:(kind==TY)=false:=by simpa using hk
   simp[bR,hb,hk]
theorem sO:∀(names:List (Str×Tg)) (acc:List (Str×Addr)),p∈names.foldl (fun c x=>bR env x c) acc->p∈acc\/((p.1,TY)∈names/\p.2=(env.cells.lookup p.1).getD 0)
 | [],acc,h=>.inl h
 | (n,k)::r,acc,h=>by
   rcases sO r _ h with h | ⟨h1,h2⟩
   ·simp only[bR]at h
    split at h
    ·rename_i hk
     rcases Rh.mp h with e | h
     ·subst e
      exact .inr ⟨by subst hk;exact Rg,rfl⟩
     ·exact .inl h
    ·exact .inl h
   ·exact .inr ⟨Rb _ h1,h2⟩
theorem tH:∀(names:List (Str×Tg)) (acc:List (Str×Addr)),p∈acc->p∈names.foldl (fun c x=>bR env x c) acc
 | [],_,h=>h
 | (n,k)::r,acc,h=>by
   refine tH r _ ?_;simp only[bR];split
   ·exact Rb _ h
   ·exact h
theorem sH:∀(names:List (Str×Tg)) (acc:List (Str×Addr)),(x,TY)∈names->(x,(env.cells.lookup x).getD 0)∈names.foldl (fun c x=>bR env x c) acc
 | [],_,h=>by simp at h
 | (n,k)::r,acc,h=>by
   rcases Rh.mp h with e | h
   ·cases e
    refine tH r _ ?_;simp[bR]
   ·exact sH r _ h
theorem jQ:∀{l:List (Str×α)},(x,c)∈l->∃c',l.lookup x=some c'
 | [],h=>by simp at h
 | (y,d)::l,h=>by
   simp only[SQ]
   cases e:(x==y)with
   | true=>exact⟨d,rfl⟩
   | false=>
     rcases Rh.mp h with z | z
     ·cases z;simp at e
     ·exact jQ z
theorem dg(h:∀y∈names,y.2=.free->∃c,env.cells.lookup y.1=some c)(e:(cZ env names).lookup x=some c):env.cells.lookup x=some c:=by
 have hm:=Tu e;rcases sO names [] hm with z | ⟨h1,h2⟩
 ·simp at z
 ·obtain⟨a,e'⟩:=h _ h1 rfl
  simp only at e' h2;rw[e']at h2 ⊢;rw[h2];rfl
theorem sS(h:(x,TY)∈names):∃c,(cZ env names).lookup x=some c:=jQ (sH names [] h)
theorem eU:(WY scope env).names.lookup x=(scope.names.lookup x).map fun k=>if(k==.free&&env.scope.kind==.function&&env.kindOf x==some .cell)then .cell else k:=by
 show UJ x (scope.names.map fun(n,k)=>if(k==TY&&env.scope.kind==.function&&env.kindOf n==some .cell)then(n,Wn)else(n,k))=_
 induction scope.names with
 | nil=>rfl
 | cons p r ih=>
   obtain⟨n,k⟩:=p;rw[R8]
   by_cases hx:x=n
   ·subst hx
    by_cases hc:(k==TY&&env.scope.kind==.function&&env.kindOf x==some .cell)=true
    ·simp only[hc,if_true,SQ,beq_self_eq_true,RJ]
    ·simp only[hc,if_false,SQ,beq_self_eq_true,RJ,Bool.false_eq_true]
   ·have hb:(x==n)=false:=by simpa using hx
    have e:UJ x ((if(k==TY&&env.scope.kind==.function&&env.kindOf n==some .cell)=true then(n,Wn)else(n,k))::(r.map fun(n,k)=>if(k==TY&&env.scope.kind==.function&&env.kindOf n==some .cell)then(n,Wn)else(n,k))) =
     UJ x (r.map fun(n,k)=>if(k==TY&&env.scope.kind==.function&&env.kindOf n==some .cell)then(n,Wn)else(n,k)):=by
     split<;>simp only[SQ,hb]
    simp only[SQ,hb];exact e.trans ih
noncomputable def cxC(X:Cx)(scope:Scope)(N:List Str)(fp:List Addr)(pins:List (Addr×Obj))(s:Shared)(H:Hp):Cx :=
 { X with N:=N,s₀:=s,H₀:=H,env:=compEnvC scope (cZ X.env scope.names) s.heap.objs.size X.env,outer:=X.stack,ex:=fp,fn:=fun _=>false,pn:=X.pn++pins }
structure Blk(scope:Scope):Prop where
 kind:scope.kind=.function
 nocell:∀y∈scope.names,y.2≠.cell
 loc:∀y∈scope.names,y.2=.local->scope.names.lookup y.1=some .local
 fre:∀y∈scope.names,y.2=.free->scope.names.lookup y.1=some .free
section
variable{X:Cx}{pins:List (Addr×Obj)}{σ:St}{H:Hp}{s:Shared}{scope:Scope}{N:List Str}{fp:List Addr}
theorem BK(I:Inv X pins σ H s)(B:Blk scope)(hfr:∀y∈scope.names,y.2=.free->∃c,X.env.cells.lookup y.1=some c)(hf:∀b∈fp,FpOk X pins H b)(hob:∀b∈fp,∃o,s.heap.get? b=some o)
 (hns:∃m,h₁.Ns s.heap.objs.size m) (hkeep:∀b o,s.heap.get? b=some o->h₁.get? b=some o) (hl:σ'.length=N.length)
 (hσ:∀(i:Nat) (x:Str) (v:V),N[i]?=some x->σ'[i]?=some (some v)->scope.names.lookup x=some .free/\(X.env.scope.names.lookup x=some .cell\/X.env.scope.names.lookup x=some .free)/\∃j:Nat,X.N[j]?=some x/\σ[j]?=some (some v)) :
 Inv (cxC X scope N fp pins s H) [] σ' H { s with heap:=h₁,toks:=tk }:=by
 have lt:∀{b:Addr} {o:Obj},s.heap.get? b=some o->b≠s.heap.objs.size:=fun e=>Nat.ne_of_lt (Ro e)
 have kd:∀x,((WY scope X.env).names.lookup x=some .cell\/(WY scope X.env).names.lookup x=some .free)->(x,TY)∈scope.names:=fun x hx=>by
  rw[eU]at hx
  cases e:scope.names.lookup x with
  | none=>rw[e]at hx;simp at hx
  | some k=>
    have hm:=Tu e;rw[e]at hx;simp only[RJ,Rf]at hx
    cases k with
    | free=>exact hm
    | cell=>exact absurd rfl (B.nocell _ hm)
    | _=>simp at hx
 refine⟨⟨I.ok.mod,?_,I.ok.glob,I.ok.blt,Nat.le_refl _,fun x y c h1 h2=>I.ok.inj x y c (dg hfr h1) (dg hfr h2),fun x hx=>sS (kd x hx),fun x c h=>(nomatch h),I.ok.hd,I.ok.frames,.inl rfl,fun b hb=>⟨?_,fun x c e=>?_⟩,I.bs,Nat.le_trans I.ok.bsz I.sz,fun b o e hb=>?_,fun b hb z=>?_,I.stack,I.stkFree⟩,
  rfl,I.bare,Un.kept hkeep,?_,fun x c e=>?_,I.hok.fresh (Nat.le_refl _),fun x c e=>I.freeC x c (dg hfr e),fun p hp=>?_,I.hok.kept hkeep,hl⟩
 ·exact B.kind
 ·obtain⟨o,e⟩:=hob b hb
  exact lt e
 ·exact(hf b hb).2.2.2.2.1 x c (dg hfr e)
 ·rcases(hf b hb).2.2.2.1 with z | z
  ·exact I.ok.noex b o e z
  ·exact absurd (Nat.lt_of_lt_of_le (Ro (I.ok.bs b o e).1) z) (Nat.lt_irrefl _)
 ·obtain⟨_,f1,f2,_⟩:=hf b hb
  rcases Rh.mp (I.stkSub b z)with e | e
  ·exact f1 e
  ·exact f2 e
 ·obtain⟨m,hm⟩:=hns
  refine⟨m,hm,fun i x v h1 h2 h3=>?_⟩;obtain⟨k1,k2,j,j1,j2⟩:=hσ i x v h1 h2;obtain⟨m0,_,hl0⟩:=I.loc;obtain⟨u,r,q⟩:=hl0 j x v j1 j2 (k2.elim (fun z=>.inr (.inl z)) fun z=>.inr (.inr z));refine⟨u,r,.inr ⟨?_,?_⟩⟩
  ·show(WY scope X.env).names.lookup x=some .cell\/(WY scope X.env).names.lookup x=some .free
   rw[eU,k1];simp only[RJ,Rf];split
   ·exact .inl rfl
   ·exact .inr rfl
  ·rcases q with⟨q,_⟩ | ⟨_,c,e,z⟩
   ·have q:X.env.scope.names.lookup x=some .local:=q
    rcases k2 with k2 | k2<;>(rw[q]at k2;cases k2)
   ·obtain⟨c',e'⟩:=sS (env:=X.env) (Tu k1)
    have:=dg hfr e';rw[e]at this;cases this;obtain⟨o,ho,hd⟩:=z;exact⟨c,e',o,hkeep c o ho,hd⟩
 ·obtain⟨v,o,ho,hd⟩:=I.cell x c (dg hfr e)
  exact⟨v,o,hkeep c o ho,hd⟩
 ·have hp:p∈X.pn++pins:=by
   have hp:p∈(X.pn++pins)++[]:=hp
   rwa [Sg]at hp
  obtain⟨e,n,ne,nf,d⟩:=I.pin p hp;exact⟨hkeep _ _ e,n,lt e,fun z=>(Rh.mp (I.stkSub _ z)).elim ne nf,d⟩
theorem Cd(I:Inv X pins σ H s)(hf:∀b∈fp,FpOk X pins H b)(J:Inv (cxC X scope N fp pins s H) pins' σ' H' s')(sb:Tz s.heap.objs.size s'.heap h2):Inv X pins σ H' { s' with heap:=h2 }:=by
 have lt:∀{b:Addr} {o:Obj},s.heap.get? b=some o->b≠s.heap.objs.size:=fun e=>Nat.ne_of_lt (Ro e)
 have U:Un (frs X.stack) fp H H' s.heap s'.heap:=J.base
 have U2:Un (frs X.stack) fp H H' s.heap h2:=by
  refine⟨fun b o e n hb hx=>(sb.2 b (lt e)).trans (U.keep b o e n hb hx),fun b o e n hb hx=>?_,U.free,fun b o e hx=>?_,U.tups,U.frzs,U.tbls⟩
  ·obtain⟨sl,q⟩:=U.slot b o e n hb hx
   exact⟨sl,(sb.2 b (lt e)).trans q⟩
  ·obtain⟨o',q⟩:=U.there b o e hx
   exact⟨o',(sb.2 b (lt e)).trans q⟩
 have hC:H' s.heap.objs.size=none:=J.free
 have hok:HOk X.prog X.w H' h2:=fun b ob e=>(J.hok b ob e).stay (fun c u hc q=>(sb.2 c (fun z=>by
  subst z;rcases hc with z | z
  ·rw[<-z,hC]at e;cases e
  ·rw[hC]at z;cases z)).trans q) (fun _ q=>q) fun _ _ q=>q
 have os:s'.os=s.os:=J.os
 have e:({ s' with heap:=h2 }:Shared)={ s with heap:=h2,gens:=s'.gens,drawn:=s'.drawn,toks:=s'.toks }:=by
  cases s';cases s;simp only at os;subst os
  rfl
 rw[e]
 exact I.call U2 hok J.bare fun b hb=>⟨(hf b hb).2.2.2.1,(hf b hb).2.1,(hf b hb).2.2.2.2.1,(hf b hb).2.2.2.2.2⟩
noncomputable abbrev tests(ifs:List Expr)(env:Env):Sem Bool:=forIn ifs true fun c r=>if r=true then do let ok <-isTrue c env (Sv c env);pure (ForInStep.yield ok)else pure (ForInStep.yield r)
abbrev fH:Value->Shared->Prop:=fun _ _=>False
theorem never(h:Rn M A t Q fH s)(hQ:∀a s,Q a s->Q' a s):Rn M A t Q' E s:=T8 h hQ fun _ _ z=>z.elim
theorem vY{prog:Rz}{w:RT}{A:RV}{elt tg iter:Expr}{ifs:List Expr}{pos:Pos}{it acc:Value}{env:Env}{R:X6->Shared->Prop}(Iv:Nat->Shared->Prop)
 (turn:∀n s,Iv n s->Rn (Rt prog w) A (Wj it) (fun r s1=>match r with
  | none=>R (.ok .next) s1
  | some v=>Rn (Rt prog w) A (Wu tg it v) (fun _ s2=>Rn (Rt prog w) A (Wa tg env v) (fun _ s3=>Rn (Rt prog w) A (tests ifs env) (fun ok s4=>
   if ok=true then Rn (Rt prog w) A (Sv elt env) (fun x s5=>Rn (Rt prog w) A (call (.builtin "list.append") [acc,x]) (fun _ s6=>∃m,m<n/\Iv m s6) fH s5) fH s4
   else ∃m,m<n/\Iv m s4) fH s3) fH s2) fH s1) fH s)
 (n:Nat) (h:Iv n s):Vx (Rt prog w) A (.compLoop (.ListComp elt [⟨tg,iter,ifs,0⟩] scope pos) 0 it acc env) R s:=by
 refine codeAny_loop rfl Iv (fun n s hI=>?_) n h;show Rn _ A ((compTurn (.ListComp elt [⟨tg,iter,ifs,0⟩] scope pos) 0 it acc env).onRaise (fun e=>do Xk e env;theTreesLotGoes e)) _ _ s;refine wpAny_noted ?_;rw[compTurn_list];refine R6 (wpAny_standAt (R6 (never (turn n s hI) fun r s1 h1=>?_)))
 cases r with
 | none=>exact Rc h1
 | some v=>
   refine R6 (never h1 fun _ s2 h2=>R6 (never h2 fun _ s3 h3=>R6 (never h3 fun ok s4 h4=>?_)))
   cases ok with
   | false=>exact Rc ⟨rfl,h4⟩
   | true=>exact R6 (R6 (never h4 fun x s5 h5=>R6 (never h5 fun _ s6 h6=>Rc (Rc ⟨rfl,h6⟩))))
def dj(σ:St)(m:Nat)(caps:List Nat):St:=RW m none++caps.map fun i=>(σ[i]?).join
def BR(wi:TI)(m:Nat)(caps:List Nat)(g:TG)(tc:Hp->TT)(te:Hp->TE):TE:=fun σ H Q=>wi σ H fun J H1=>∀D,H1 D=none->∃W:Nat->Nat->List V->St->Hp->Prop,(∃k,W 0 k [] (dj σ m caps) (upd H1 D (.lst []))) /\
 ∀i k ys σ' H',W i k ys σ' H'->(J.stop i H'/\Q (.ref D) H')\/(J.go i H'/\∀x H2,J.yld i H' x H2->g x σ' H2 fun σ3 H3=>tc (upd H1 D (.lst [])) σ3 H3 fun b H4=>
  if b=true then te (upd H1 D (.lst [])) σ3 H4 fun y H5=>H5 D=some (.lst ys)/\ys.length<sizeLine/\∃k',k'<k/\W (i+1) k' (ys++[y]) σ3 (upd H5 D (.lst (ys++[y])))else ∃k',k'<k/\W (i+1) k' ys σ3 H4)
def PIf(X:Cx)(ifs:List Expr)(t:TT):Prop:=∀(pins:List (Addr×Obj)) (s:Shared) (σ:St) (H:Hp) (Q:Bool->Hp->Prop),Inv X pins σ H s->t σ H Q->Rn (Rt X.prog X.w) X.A (tests ifs X.env) (TP X pins σ Q) X.xe s
theorem HQ:PIf X [] (fun _ H Q=>Q true H):=fun pins s σ H Q I h=>Rc ⟨H,I,h⟩
theorem GZ(h:PT X c t):PIf X [c] t:=fun pins s σ H Q I q=>by
 unfold tests;simp only[List.forIn_cons,List.forIn_nil,if_true];exact R6 (R6 (thn (h pins s σ H Q I q) fun b s' hb=>Rc (Rc hb)))
theorem Ac{σ:St}{i:Nat}{v:V}(h:(σ[i]?).join=some v):σ[i]?=some (some v):=by
 cases e:σ[i]? with
 | none=>rw[e]at h;cases h
 | some o=>rw[e]at h;simp at h;rw[h]
theorem Hd(h:(dj σ m caps)[i]?=some (some v)):∃j k:Nat,i=m+j/\caps[j]?=some k/\σ[k]?=some (some v):=by
 unfold dj at h
 by_cases hi:i<m
 ·rw[Td (by simpa using hi),Vk]at h
  split at h<;>cases h
 ·rw[Sq (by simpa using hi),U0,RK]at h
  cases e:caps[i-m]? with
  | none=>rw[e]at h;cases h
  | some k=>
    rw[e]at h;exact⟨i-m,k,by omega,e,Ac (T4 h)⟩
structure Caps(X:Cx)(scope:Scope)(N:List Str)(m:Nat)(caps:List Nat):Prop where
 len:N.length=m+caps.length
 see:∀(j k:Nat) (x:Str),caps[j]?=some k->N[m+j]?=some x->X.N[k]?=some x/\scope.names.lookup x=some .free/\(X.env.scope.names.lookup x=some .cell\/X.env.scope.names.lookup x=some .free)
 fre:∀y∈scope.names,y.2=.free->X.env.scope.names.lookup y.1=some .cell\/X.env.scope.names.lookup y.1=some .free
section
variable{elt tg iter:Expr}{ifs:List Expr}{pos:Pos}{wi:TI}{m:Nat}{caps:List Nat}{g:TG}{tc:Hp->TT}{te:Hp->TE}
theorem oK(hx:X.xe=fH)(hc:X.calm=true)(B:Blk scope)(C:Caps X scope N m caps)(hi:PI X tg iter wi)
 (hg:∀fp pins s H,PG (cxC X scope N fp pins s H) tg g) (ht:∀fp pins s H,PIf (cxC X scope N fp pins s H) ifs (tc H)) (he:∀fp pins s H,PE (cxC X scope N fp pins s H) elt (te H))
 (hs:∀x,TQ iter X.env x=pure x) (I:Inv X pins σ H s) (h:BR wi m caps g tc te σ H Q)
 (fin:∀(Cx':Addr) (D:Addr) (H':Hp) (s':Shared),(∃mm,s'.heap.Ns Cx' mm)->(∀h2,Tz Cx' s'.heap h2->Inv X pins σ H' { s' with heap:=h2 })->FpOk X pins H' Cx'->Q (.ref D) H' ->
  compPost (Rt X.prog X.w) X.A X.xe use Q' (.ref D) Cx' (.ok .next) s') :
 Rn (Rt X.prog X.w) X.A (comprehension (.ListComp elt [⟨tg,iter,ifs,0⟩] scope pos) scope X.env (firstIterPos [⟨tg,iter,ifs,0⟩] pos) (newList []) false (Sv iter X.env) use) Q' X.xe s:=by
 have hfr:∀y∈scope.names,y.2=.free->∃c,X.env.cells.lookup y.1=some c:=fun y hy hk=>I.ok.has y.1 (C.fre y hy hk)
 refine wpAny_comprehension_free rfl hs (uW hfr) B.kind B.loc (thn (hi pins s σ H _ I h) fun v s1 h1=>thn h1 fun itv s2 h2=>?_);obtain⟨it,fp,tn,J,H2,rfl,I2,T,st2,f2,R⟩:=h2;refine Ut ?_;have hD:H2 s2.heap.objs.size=none:=I2.fresh;have I3:=I2.lnew (its:=[]) (ys:=[]) (t':=s2.toks) .nil (Nat.zero_le _)
 have keep2:∀b o,s2.heap.get? b=some o->(s2.heap.push { cls:=.type "list",data:=.seq ([]:List Value).toArray }).get? b=some o:=fun b o e=>R7 _ e
 have st3:=T.keep 0 _ _ st2 fun b _ o e=>keep2 b o e
 have nD:∀b∈fp,b≠s2.heap.objs.size:=fun b hb=>by
  obtain⟨o,e,_⟩:=T.obj 0 _ st2 b hb;exact Nat.ne_of_lt (Ro e)
 have f3:∀b∈fp,FpOk X pins (upd H2 s2.heap.objs.size (.lst [])) b:=fun b hb=>⟨by rw[aR (nD b hb)];exact(f2 b hb).1,(f2 b hb).2⟩
 obtain⟨W,⟨k0,w0⟩,turn⟩:=R _ hD;generalize hD':s2.heap.objs.size=D at *;have e3:({ s2 with heap:=s2.heap.push { cls:=.type "list",data:=.seq ([]:List Value).toArray } }:Shared)={ s2 with heap:=s2.heap.push { cls:=.type "list",data:=.seq ([]:List Value).toArray },toks:=s2.toks }:=rfl;generalize hs3:({ s2 with heap:=s2.heap.push { cls:=.type "list",data:=.seq ([]:List Value).toArray },toks:=s2.toks }:Shared)=s3 at *
 have st3':tn 0 s3.heap:=by rw[<-hs3];exact st3
 show Rn _ X.A (newFunctionEnv scope X.env.globals (cZ X.env scope.names) [] X.env.qual none .none (some X.env)) _ _ _;rw[e3];refine wpAny_newFunctionEnv B.nocell (by intro y hy;simp at hy) (fun h₁ hns hsb=>?_) B.kind
 have hkeep:∀b o,s3.heap.get? b=some o->h₁.get? b=some o:=fun b o e=>hsb.extBut b o (Nat.ne_of_lt (Ro e)) (R7 _ e)
 have hob:∀b∈fp,∃o,s3.heap.get? b=some o:=fun b hb=>let⟨o,e,_⟩:=T.obj 0 _ st3' b hb;⟨o,e⟩
 have IC:Inv (cxC X scope N fp pins s3 (upd H2 D (.lst []))) [] (dj σ m caps) (upd H2 D (.lst [])) { s3 with heap:=h₁,toks:=s3.toks+([]:List (Str×Value)).length }:=by
  refine BK I3 B hfr f3 hob ⟨_,hns⟩ hkeep ?_ fun i x v h1 h2=>?_
  ·unfold dj
   rw[Rx,U0,Rw,C.len]
  ·obtain⟨j,k,rfl,e1,e2⟩:=Hd h2
   obtain⟨q1,q2,q3⟩:=C.see j k x e1 h1;exact⟨q2,q3,k,q1,e2⟩
 have st4:tn 0 h₁:=T.keep 0 _ _ st3' fun b _ o e=>hkeep b o e
 have stat:∀{H':Hp},(∀b∈fp,H' b=none)->∀b∈fp,FpOk (cxC X scope N fp pins s3 (upd H2 D (.lst []))) [] H' b:=fun{H'} hn b hb=>by
  obtain⟨o,e⟩:=hob b hb;obtain⟨_,f1,f2,_,f4,f5⟩:=f3 b hb;refine⟨hn b hb,Nat.ne_of_lt (Ro e),fun z=>?_,.inl hb,fun x c q=>f4 x c (dg hfr q),fun p hp=>f5 p ?_⟩
  ·exact(Rh.mp (I3.stkSub b z)).elim f1 f2
  ·have hp:p∈(X.pn++pins)++[]:=hp
   rwa [Sg]at hp
 have Dfp:∀b∈fp,b≠D:=nD
 have loop:Vx (Rt X.prog X.w) X.A (.compLoop (.ListComp elt [⟨tg,iter,ifs,0⟩] scope pos) 0 (.ref it) (.ref D) (compEnvC scope (cZ X.env scope.names) s3.heap.objs.size X.env)) (compPost (Rt X.prog X.w) X.A X.xe use Q' (.ref D) s3.heap.objs.size) { s3 with heap:=h₁,toks:=s3.toks+([]:List (Str×Value)).length }:=by
  refine vY (fun n s'=>∃i ys σ' H',Inv (cxC X scope N fp pins s3 (upd H2 D (.lst []))) [] σ' H' s'/\tn i s'.heap/\(∀b∈fp,H' b=none)/\W i n ys σ' H') ?_ k0 ⟨0,[],_,_,IC,st4,fun b hb=>(f3 b hb).1,w0⟩
  rintro n s4 ⟨i,ys,σ4,H4,I4,st4,fr4,w4⟩
  rcases turn i n ys σ4 H4 w4 with⟨stop,qn⟩ | ⟨go,step⟩
  ·refine thn (T.done (cxC X scope N fp pins s3 (upd H2 D (.lst []))) rfl rfl rfl hc i [] s4 σ4 H4 fH I4 (stat fr4) st4 stop) fun r s5 ⟨hr,I5⟩=>?_
   subst hr;exact fin _ D H4 s5 (let⟨mm,hm,_⟩:=I5.loc;⟨mm,hm⟩) (fun h2 sb=>Cd I3 f3 I5 sb) (I3.fpOk (Nat.le_refl _) I5.free) qn
  ·refine thn (T.item (cxC X scope N fp pins s3 (upd H2 D (.lst []))) rfl rfl rfl hc i [] s4 σ4 H4 fH I4 (stat fr4) st4 go) fun r s5 ⟨u,hr,h5⟩=>?_
   subst hr
   refine thn h5 fun _ s6 ⟨x,H6,I6,r6,y6,st6,fr6⟩=>?_
   have I6':=I6.pinned (stat fr6) (T.obj _ _ st6)
   have xn:∀{α:Type} {t:Sem α} {Q1:α->Shared->Prop} {s:Shared},Rn (Rt X.prog X.w) X.A t Q1 X.xe s->Rn (Rt X.prog X.w) X.A t Q1 fH s:=fun h=>by rw[hx]at h;exact h
   refine thn (xn (hg fp pins s3 _ _ s6 σ4 H6 x u _ I6' r6 (step x H6 y6))) fun _ s7 ⟨σ7,H7,I7,q7⟩=>?_
   refine thn (xn (ht fp pins s3 _ _ s7 σ7 H7 _ I7 q7)) fun ok s8 ⟨H8,I8,q8⟩=>?_
   have again:∀{H9:Hp} {s9:Shared} {ys':List V},Inv (cxC X scope N fp pins s3 (upd H2 D (.lst []))) ([]++nU fp s6.heap) σ7 H9 s9->(∃k',k'<n/\W (i+1) k' ys' σ7 H9) ->
    ∃k',k'<n/\∃i ys σ' H',Inv (cxC X scope N fp pins s3 (upd H2 D (.lst []))) [] σ' H' s9/\tn i s9.heap/\(∀b∈fp,H' b=none)/\W i k' ys σ' H':=fun{H9 s9 ys'} I9 w9=>by
    obtain⟨k',hk',w9⟩:=w9;refine⟨k',hk',i+1,ys',σ7,H9,I9.unpinned,T.keep _ _ _ st6 fun b hb o e=>(I9.pin (b,o) (Su _ (Su _ (eF hb e)))).1,fun b hb=>?_,w9⟩;obtain⟨o,e,d⟩:=T.obj _ _ st6 b hb;exact(I9.pin (b,o) (Su _ (Su _ (eF hb e)))).2.1
   cases ok with
   | false=>exact again I8 q8
   | true=>
     refine thn (xn (he fp pins s3 _ _ s8 σ7 H8 _ I8 q8)) fun yv s9 ⟨y,H9,I9,r9,hD9,hz9,q9⟩=>?_
     refine thn (xn (nA (X:=cxC X scope N fp pins s3 (upd H2 D (.lst []))) _ s9 σ7 H9 (.ref D) [y] (.ref D) [yv] (fun _ H'=>H'=upd H9 D (.lst (ys++[y]))) I9 rfl (.cons r9 .nil) ⟨D,ys,y,rfl,rfl,hD9,hz9,rfl⟩)) fun _ s10 ⟨_,H10,I10,_,e10⟩=>?_
     subst e10;exact again I10 q9
 exact codeAny_compStart_list loop (T.self _ 0 _ _ _ st4 loop)
theorem Hc(hx:X.xe=fH)(hc:X.calm=true)(B:Blk scope)(C:Caps X scope N m caps)(hi:PI X tg iter wi)(hg:∀fp pins s H,PG (cxC X scope N fp pins s H) tg g)(ht:∀fp pins s H,PIf (cxC X scope N fp pins s H) ifs (tc H))(he:∀fp pins s H,PE (cxC X scope N fp pins s H) elt (te H))
 (hs:∀x,TQ iter X.env x=pure x):PE X (.ListComp elt [⟨tg,iter,ifs,0⟩] scope pos) (BR wi m caps g tc te):=by
 intro pins s σ H Q I h;rw[eval_ListComp]
 refine oK (use:=none) hx hc B C hi hg ht he hs I h fun C' D H' s' hn hb _ q=>?_
 obtain⟨mm,hm⟩:=hn;exact⟨mm,hm,fun h2 sb=>⟨.ref D,H',hb h2 sb,rfl,q⟩⟩
theorem uB(hx:X.xe=fH)(hc:X.calm=true)(B:Blk scope)(C:Caps X scope N m caps)(hi:PI X tg iter wi)(hg:∀fp pins s H,PG (cxC X scope N fp pins s H) tg g)(ht:∀fp pins s H,PIf (cxC X scope N fp pins s H) ifs (tc H))(he:∀fp pins s H,PE (cxC X scope N fp pins s H) elt (te H))
 (hs:∀x,TQ iter X.env x=pure x) (hN:X.N.Nodup) (hix:X.N[i]?=some x) (hl:X.env.scope.names.lookup x=some .local) (hsw:Vd (.ListComp elt [⟨tg,iter,ifs,0⟩] scope pos) (some (.Name x px)) spos.line X.env=pure true) :
 PS X (.Assign [.Name x px] (.ListComp elt [⟨tg,iter,ifs,0⟩] scope pos) spos) (fun D σ H=>BR wi m caps g tc te σ H fun v H'=>D.nx (σ.set i (some v)) H'):=by
 intro pins s σ H D I h;rw[exec_Assign_Name_used _ _ _ _ hsw];refine R6 (wpAny_standAt (R6 ?_));show Rn _ X.A (do let _ <-comprehension (.ListComp elt [⟨tg,iter,ifs,0⟩] scope pos) scope X.env (firstIterPos [⟨tg,iter,ifs,0⟩] pos) (newList []) false (Sv iter X.env) (some (Wa (.Name x px) X.env))) _ _ s;refine R6 (thn (oK (use:=some (Wa (.Name x px) X.env)) (Q:=fun v H'=>D.nx (σ.set i (some v)) H') (Q':=fun _ s'=>SP X pins D .next s') hx hc B C hi hg ht he hs I h fun C' Da H' s' hn hb hf q=>?_) fun _ s' hq=>Rc (Rc hq));obtain⟨mm,hm⟩:=hn;obtain⟨f0,f1,f2,f3,f4,f5⟩:=hf;have I':Inv X pins σ H' s':=hb s'.heap (Tz.refl _ _);show Rn _ X.A (Wa (.Name x px) X.env (.ref Da)) _ _ s';refine wpAny_assign_Name (nq I' hN hix (.inl hl) (v:=.ref Da) rfl (fun s'' I'' ⟨a,sb,ha⟩=>?_) (.inr hl))
 have hca:C'≠a:=by
  rcases ha with e | e
  ·rw[e];exact f1
  ·exact fun z=>f4 x a e z.symm
 refine⟨mm,hm.sameBut sb hca,fun h2 sb2=>⟨_,H',?_,q⟩⟩;have:=I''.turned (it:=C') (h':=h2) (t':=s''.toks) (fun b o hb e=>(sb2.2 b hb).trans e) f0 f1 f3 f4 f5;exact this
end
end
end L2
namespace Z
open PySem PySem.Spec PyProof.Rows L2
section
variable{X:Cx}{W:Wd}{lk lk':Bool}{σ:L2.St}{H H1 H':Hp}{me:Option Addr}{B:Addr->Prop}{δ:Dst}{Q Q':VK}{a b:Expr}{pos p:Pos}{o:Orc}
theorem cY(h:After X W lk σ H P (Y5 t x) Q):t=true/\After X W lk σ H P x Q:=by
 cases t with
 | true=>exact⟨rfl,h⟩
 | false=>exact h.elim
theorem Qa(ha:PA X es (tL X W fun δ=>evL o δ l)):PE X (.Tuple es x1 pos) (tD X W lk fun δ=>ev o δ lk (.tup l)):=by
 refine PE.imp (Mq ha) fun σ H Q h=>?_
 obtain⟨me,B,δ,S,h⟩:=tD_iff.mp h;simp only[ev]at h
 refine tL.mono (jA (fa:=fun δ=>evL o δ l) (C:=fun r H=>After X W lk σ H (Hid B σ δ) r Q) S h (fun r H1 s q=>q.mono s) (fun c q=>q) (fun q=>q)) fun vs H1 ⟨r,e1,S1,s1,t1,q1,h1⟩=>?_
 obtain⟨hc,h1⟩:=cY h1;simp only[Bool.and_eq_true,Bool.not_eq_true']at hc;have hr:=q1 hc.1;exact⟨by rw[<-hr.length];exact fj hc.2,fun p hp=>h1 _ _ (Same.upd hp) (rJ hp hr S1.know)⟩
theorem Qg(ha:PA X es (tL X W fun δ=>evL o δ l)):PE X (.List es pos) (tD X W lk fun δ=>ev o δ lk (.lst l)):=by
 refine PE.imp (N6 ha) fun σ H Q h=>?_
 obtain⟨me,B,δ,S,h⟩:=tD_iff.mp h;simp only[ev]at h
 refine tL.mono (jA (fa:=fun δ=>evL o δ l) (C:=fun r H=>After X W lk σ H (Hid B σ δ) r Q) S h (fun r H1 s q=>q.mono s) (fun c q=>q) (fun q=>q)) fun vs H1 ⟨r,e1,S1,s1,t1,q1,h1⟩=>?_
 obtain⟨hc,h1⟩:=cY h1;simp only[Bool.and_eq_true,Bool.not_eq_true']at hc;have hr:=q1 hc.1;exact⟨by rw[<-hr.length];exact fj hc.2,fun p hp=>h1 _ _ (Same.upd hp) (jh hp hr S1.know)⟩
theorem QG(ha:PE X a (tD X W true fun δ=>ev o δ true t)):PE X (.UnaryOp .USub a pos) (tD X W lk fun δ=>ev o δ lk (.neg t)):=by
 refine PE.imp (R1 JB ha) fun σ H Q h=>?_
 obtain⟨me,B,δ,S,h⟩:=tD_iff.mp h;simp only[ev]at h
 refine tD.mono (part (fa:=fun δ=>ev o δ true t) S h) fun v H1 ⟨r,e,S1,s1,t1,_,h1⟩=>?_
 cases e2:r.2 with
 | int i=>
   rw[e2]at t1 h1;exact⟨i,aQ t1,h1 _ H1 (Same.refl _) dB⟩
 | _=>rw[e2]at h1;exact h1.elim
theorem SR.plain(hk:W.K=X.K)(hl:σ.length=δ.length)(hsh:∀(i:Nat) (w:Own) (d:D),δ[i]?=some (some (w,d))->w=.sh/\∃v,σ[i]?=some (some v)/\Rep W (vis H B) d v)
 (same:∀b o,X.H₀ b=some o->some b≠me->H b=some o) (soft:Soft H B) (gone:∀b,B b->∃o,H b=some o) (live:∀x,me=some x->∃o,H x=some o):SR X W me B H σ δ:=by
 have hid:∀b,Hid B σ δ b->B b:=fun b hb=>by
  rcases hb with hb | ⟨i,⟨w,d,h1,h2⟩,_⟩
  ·exact hb
  ·exact absurd (hsh i w d h1).1 h2
 refine⟨hk,hl,fun i d h=>?_,fun i d h=>?_,fun i d h=>?_,fun i j a h1 _=>?_,same,soft,gone,live⟩
 ·obtain⟨_,v,e1,e2⟩:=hsh i _ d h
  exact⟨v,e1,e2.mono (aH hid)⟩
 ·exact absurd (hsh i _ d h).1 (by decide)
 ·exact absurd (hsh i _ d h).1 (by decide)
 ·obtain⟨⟨w,d,h1,h2⟩,_⟩:=h1
  exact absurd (hsh i w d h1).1 h2
theorem wj(hsh:∀(i:Nat) (w:Own) (d:D),δ[i]?=some (some (w,d))->w=.sh){b:Addr}:Hid B σ δ b↔B b:=by
 refine⟨fun hb=>?_,.inl⟩;rcases hb with hb | ⟨i,⟨w,d,h1,h2⟩,_⟩
 ·exact hb
 ·exact absurd (hsh i w d h1) h2
theorem jf(hsh:∀(i:Nat) (w:Own) (d:D),δ[i]?=some (some (w,d))->w=.sh):vis H (Hid B σ δ)=vis H B:=by
 have:Hid B σ δ=B:=funext fun b=>propext (wj hsh)
 rw[this]
theorem nQ(S:SR X W me B H σ δ):∀{caps:List Nat} {cs:List D},cA δ caps=some cs->∃vs:List V,caps.map (fun i=>(σ[i]?).join)=vs.map some/\RepTs W H (vis H (Hid B σ δ)) cs vs/\((caps.all fun i=>!isOwn δ i)=true->Reps W (vis H (Hid B σ δ)) cs vs)
 | [],cs,h=>by
   simp only[cA,Rf]at h;subst h;exact⟨[],rfl,by simp only[RepTs],fun _=>by simp only[Reps]⟩
 | i::caps,cs,h=>by
   simp only[cA]at h
   cases e:um δ i with
   | none=>rw[e]at h;cases h
   | some d=>
     rw[e]at h
     cases e2:cA δ caps with
     | none=>rw[e2]at h;cases h
     | some cs'=>
       rw[e2]at h;cases h;obtain⟨vs,h1,h2,h3⟩:=nQ S e2
       have key:∃v,σ[i]?=some (some v)/\RepT W H (vis H (Hid B σ δ)) d v/\(isOwn δ i=false->Rep W (vis H (Hid B σ δ)) d v):=by
        unfold um at e;split at e
        ·rename_i w d' ed
         cases e
         cases w with
         | sh=>obtain⟨v,q1,q2⟩:=S.sh i _ ed;exact⟨v,q1,q2.top bH,fun _=>q2⟩
         | ow=>obtain⟨a,q1,q2,_⟩:=S.ow i _ ed;exact⟨_,q1,q2.top,fun z=>by simp[isOwn,ed]at z⟩
         | me=>obtain⟨_,a,_,q1,q2,_⟩:=S.mi i _ ed;exact⟨_,q1,q2.top,fun z=>by simp[isOwn,ed]at z⟩
        ·cases e
       obtain⟨v,k1,k2,k3⟩:=key;refine⟨v::vs,by simp[k1,h1],?_,fun hall=>?_⟩
       ·simp only[RepTs];exact⟨k2,h2⟩
       ·simp only[W7,Bool.and_eq_true,Bool.not_eq_true']at hall
        simp only[Reps];exact⟨k3 hall.1,h3 hall.2⟩
structure Yields(J:It)(H2:Hp)(xs:List V):Prop where
 go:∀i H',Same H2 H'->i<xs.length->J.go i H'
 yld:∀i H' x H'',Same H2 H'->i<xs.length->J.yld i H' x H''->H''=H'/\xs[i]?=some x
 stop:∀H',Same H2 H'->J.stop xs.length H'
theorem pG{K:Ra}{H2:Hp}{c:Addr}{xs:List V}(h:SqL K H2 c xs):Yields (Itl K c) H2 xs where
 go:=fun i H' s hi=>⟨xs,xs[i],s.seq h,by simp[hi]⟩
 yld:=fun i H' x H'' s _ ⟨e,y⟩=>⟨e,y xs (s.seq h)⟩
 stop:=fun H' s=>⟨xs,s.seq h,Nat.le_refl _⟩
theorem u9{K:Ra}{H2:Hp}{c:Addr}{xs:List V}(h:SqT K H2 c xs):Yields (Itt K c) H2 xs where
 go:=fun i H' s hi=>⟨xs,xs[i],bx s h,by simp[hi]⟩
 yld:=fun i H' x H'' s _ ⟨e,y⟩=>⟨e,y xs (bx s h)⟩
 stop:=fun H' s=>⟨xs,bx s h,Nat.le_refl _⟩
theorem gQ(lo:Int)(n:Nat):Yields (Itr lo n) H2 ((RG n).map fun(k:Nat)=>V.int (lo+(k:Int)))where
 go:=fun i H' s hi=>by simpa[Itr]using hi
 yld:=fun i H' x H'' s hi ⟨e,y⟩=>by
  refine⟨e,?_⟩
  have hi:i<n:=by simpa using hi
  rw[RK,List.getElem?_range hi,y]
  rfl
 stop:=fun H' s=>by simp[Itr]
def Yl(W:Wd)(G0:Hp)(d:D)(x:V)(H' H'':Hp):Prop:=(H''=H'/\Rep W G0 d x)\/∃(p:Addr) (d1 d2:D) (v1 v2:V),d=.tup [d1,d2]/\x=.ref p/\H' p=none/\H''=upd H' p (.tup [v1,v2])/\Rep W G0 d1 v1/\Rep W G0 d2 v2
theorem Yl.rep(h:Yl W G0 d x H' H'')(g:Same G0 (vis H' P))(gone:∀b,P b->∃u,H' b=some u):Same H' H''/\Rep W (vis H'' P) d x:=by
 rcases h with⟨rfl,r⟩ | ⟨p,d1,d2,v1,v2,rfl,rfl,hp,rfl,r1,r2⟩
 ·exact⟨Same.refl _,r.mono g⟩
 ·refine⟨Same.upd hp,?_⟩
  have up:=g.trans (ao (P:=P) (Same.upd (o:=.tup [v1,v2]) hp));simp only[Rep];refine⟨p,[v1,v2],rfl,.inl (.inl (bK aU fun z=>?_)),?_⟩
  ·obtain⟨u,e⟩:=gone p z
   rw[hp]at e;cases e
  ·simp only[Reps]
   exact⟨r1.mono up,r2.mono up,trivial⟩
structure Ylds(W:Wd)(J:It)(G G0:Hp)(l:List D):Prop where
 go:∀i H',Same G H'->i<l.length->J.go i H'
 yld:∀i H' x H'' d,Same G H'->l[i]?=some d->J.yld i H' x H''->Yl W G0 d x H' H''
 stop:∀H',Same G H'->J.stop l.length H'
theorem Ylds.of(y:Yields J G xs)(r:Reps W G0 l xs):Ylds W J G G0 l where
 go:=fun i H' s hi=>y.go i H' s (by rw[<-r.length];exact hi)
 yld:=fun i H' x H'' d s e z=>by
  have hi:i<xs.length:=by rw[<-r.length];exact(Ry.mp e).1
  obtain⟨h1,h2⟩:=y.yld i H' x H'' s hi z;obtain⟨v,h3,h4⟩:=r.get e;rw[h2]at h3;cases h3;exact .inl ⟨h1,h4⟩
 stop:=fun H' s=>by rw[r.length];exact y.stop H' s
theorem SR.cx(S:SR X W me B H σ δ)(h1:X'.K=X.K)(h2:X'.H₀=X.H₀):SR X' W me B H σ δ :=
 ⟨by rw[h1];exact S.kf,S.len,S.sh,fun i d h=>let⟨a,q1,q2,q3,q4⟩:=S.ow i d h;⟨a,q1,q2,by rw[h2];exact q3,q4⟩,S.mi,S.apart,fun b o h=>S.same b o (by rw[<-h2];exact h),S.soft,S.gone,S.live⟩
theorem tD.cx(h1:X'.K=X.K)(h2:X'.H₀=X.H₀)(h:tD X W lk f σ H Q):tD X' W lk f σ H Q:=by
 obtain⟨me,B,δ,S,h⟩:=h;exact⟨me,B,δ,S.cx h1 h2,h⟩
theorem tT.cx(h1:X'.K=X.K)(h2:X'.H₀=X.H₀)(h:tT X W f σ H C):tT X' W f σ H C:=by
 obtain⟨me,B,δ,S,h⟩:=h;exact⟨me,B,δ,S.cx h1 h2,h⟩
def TgR(X:Cx)(W:Wd)(is:List Nat)(tup:Bool)(g:TG):Prop :=
 ∀{me:Option Addr} {B:Addr->Prop} {σ:L2.St} {H:Hp} {δ δ1:Dst} {d:D} {ds:List D} {v:V} {C:L2.St->Hp->Prop},SR X W me B H σ δ->Rep W (vis H (Hid B σ δ)) d v->takes is.length tup d=some ds->aG δ is ds=some δ1 ->
  (∀σ1,SR X W me B H σ1 δ1->Same (vis H (Hid B σ δ)) (vis H (Hid B σ1 δ1))->C σ1 H)->g v σ H C
theorem Az:TgR X W [i] false (uA i):=by
 intro me B σ H δ δ1 d ds v C S r e1 e2 k;simp only[takes,Bool.false_eq_true,if_false,Rf]at e1;subst e1;simp only[aG]at e2
 cases e3:setSlot δ i false d with
 | none=>rw[e3]at e2;cases e2
 | some δ'=>
   rw[e3]at e2;cases e2;obtain⟨S1,s1⟩:=wO S r e3;exact k _ S1 s1
theorem Js(hk:W.K=X.K):TgR X W is true (gTup X.K is.length (eN is)):=by
 intro me B σ H δ δ1 d ds v C S r e1 e2 k;simp only[takes,if_true]at e1
 cases d with
 | tup l=>
   simp only at e1;split at e1
   ·rename_i hl
    cases e1;simp only[Rep]at r;obtain⟨a,xs,rfl,r1,r2⟩:=r;exact⟨a,xs,rfl,hk▸bx bH r1,by rw[<-r2.length];exact hl,eY S r2 e2 k⟩
   ·cases e1
 | _=>simp at e1
noncomputable def bQ(l:List D):Dst:=l.map fun d=>some (Own.sh,d)
theorem nF{l:List D}{i:Nat}{w:Own}{d:D}(h:(bQ l)[i]?=some (some (w,d))):w=.sh/\l[i]?=some d:=by
 unfold bQ at h;rw[RK]at h
 cases e:l[i]? with
 | none=>rw[e]at h;cases h
 | some x=>rw[e]at h;cases h;exact⟨rfl,rfl⟩
theorem jo:∀(ds:List D) (pre post:Dst) (mid:Dst),mid.length=ds.length->aG (pre++mid++post) (List.range' pre.length ds.length) ds=some (pre++bQ ds++post)
 | [],pre,post,mid,h=>by
   have:mid=[]:=UL h;subst this;simp[aG,bQ]
 | d::ds,pre,post,[],h=>by simp at h
 | d::ds,pre,post,x::mid,h=>by
   simp only[Rv,Nat.add_right_cancel_iff]at h;rw[Rv,List.range'_succ];simp only[aG]
   have e1:setSlot (pre++x::mid++post) pre.length false d=some ((pre++[some (Own.sh,d)])++mid++post):=by
    unfold setSlot;rw[if_pos (by simp)];simp[List.set_append]
   rw[e1];simp only[Rq];have:=jo ds (pre++[some (Own.sh,d)]) post mid h;rw[Rx,List.length_singleton]at this;rw[this];simp[bQ]
theorem oN(ds:List D)(mid post:Dst)(h:mid.length=ds.length):aG (mid++post) (RG ds.length) ds=some (bQ ds++post):=by
 have:=jo ds [] post mid h;simpa[List.range_eq_range']using this
theorem wH(hm:tup=false->m=1)(h:takes m tup d=some ds):ds.length=m:=by
 unfold takes at h;split at h
 ·split at h
  ·split at h
   ·cases h;assumption
   ·cases h
  ·cases h
 ·rename_i ht
  cases h;rw[hm (by simpa using ht)];rfl
theorem mG{wi:L2.TI}{g:TG}{m:Nat}{caps:List Nat}{tup:Bool}{tc te:T}{it:TI}(hk:W.K=X.K)(hm:tup=false->m=1)
 (hwi:∀σ H (K:It->Hp->Prop),(∃me B δ l,SR X W me B H σ δ/\evI o δ true it=.ok l/\∀J H2,Same H H2->Ylds W J H2 (vis H2 (Hid B σ δ)) l->K J H2)->wi σ H K)
 (hg:∀H0,TgR { X with H₀:=H0 } W (RG m) tup g) (h:tD X W lk (fun δ=>ev o δ lk (.comp caps m tup it tc te)) σ H Q) :
 BR wi m caps g (fun H0=>tT { X with H₀:=H0 } W fun δ=>ev o δ true tc) (fun H0=>tD { X with H₀:=H0 } W false fun δ=>ev o δ false te) σ H Q:=by
 obtain⟨me,B,δ,S,h⟩:=tD_iff.mp h;simp only[ev]at h
 cases e1:evI o δ true it with
 | exc c=>rw[e1]at h;exact h.elim
 | stuck=>rw[e1]at h;exact h.elim
 | ok l=>
 rw[e1]at h
 cases e2:cA δ caps with
 | none=>rw[e2]at h;exact h.elim
 | some cs=>
 rw[e2]at h
 have h:After X W lk σ H (Hid B σ δ) ((bA (fun x=>ev o ((x++cs).map fun d=>some (.sh,d)) false te) (fun x=>ev o ((x++cs).map fun d=>some (.sh,d)) true tc) m tup l).bind fun r=>
  Y5 (size r.length&&(immL r||caps.all fun i=>!isOwn δ i)) (.ok (true,.lst r))) Q:=h
 refine hwi σ H _ ⟨me,B,δ,l,S,e1,fun J H2 s yl=>?_⟩;intro Da hD;obtain⟨vs,c1,c2,c3⟩:=nQ S e2;generalize hown:(caps.all fun i=>!isOwn δ i)=own at h c3;generalize hP:Hid B σ δ=P at *
 have softP:Soft H2 P:=by subst hP;exact S.softH.mono S.know s
 have goneP:∀b,P b->∃u,H2 b=some u:=fun b hb=>by
  subst hP;obtain⟨u,e⟩:=S.know b hb;exact⟨u,s b u e⟩
 let Bq:Addr->Prop:=fun b=>(P b/\(own=true\/V.ref b∉vs))\/b=Da
 have nD:∀{b:Addr} {u:HO},H2 b=some u->b≠Da:=fun e z=>by rw[z,hD]at e;cases e
 have upv:∀{H':Hp},Same H2 H'->Same (vis H2 Bq) (vis H' Bq):=fun s'=>ao s'
 have inP:Same (vis H2 P) (vis H2 Bq):=fun b u e=>by
  obtain⟨e1,e2⟩:=bF e
  refine bK e1 fun z=>?_
  rcases z with⟨z,_⟩ | z
  ·exact e2 z
  ·exact nD e1 z
 have capR:Reps W (vis H2 Bq) cs vs:=by
  cases own with
  | true=>exact((c3 rfl).mono (ao s)).mono inP
  | false=>
    have q:=c2.lend vs (fun v hv=>hv)
    refine(q.mono (ao s)).mono fun b u e=>?_
    obtain⟨e1,e2⟩:=bF e
    refine bK e1 fun z=>?_
    rcases z with⟨z1,z2⟩ | z
    ·rcases z2 with z2 | z2
     ·cases z2
     ·exact e2 ⟨z1,z2⟩
    ·exact nD e1 z
 let δ0:Dst:=RW m none++bQ cs
 have δ0sh:∀(i:Nat) (w:Own) (d:D),δ0[i]?=some (some (w,d))->w=.sh/\m<=i/\cs[i-m]?=some d:=fun i w d e=>by
  by_cases hi:i<m
  ·have e:(RW m none++bQ cs)[i]?=some (some (w,d)):=e
   rw[Td (by simpa using hi),Vk]at e;split at e<;>cases e
  ·have e:(RW m none++bQ cs)[i]?=some (some (w,d)):=e
   rw[Sq (by simpa using hi),U0]at e;obtain⟨e1,e2⟩:=nF e;exact⟨e1,by omega,e2⟩
 have softQ:∀{H':Hp} {ys:List V},Same H2 H'->H' Da=some (.lst ys)->Soft H' Bq:=fun{H' ys} s' hd b hb u e=>by
  rcases hb with⟨hb,_⟩ | hb
  ·obtain⟨u',e'⟩:=goneP b hb
   have:=s' b u' e';rw[e]at this;cases this;exact softP b hb u e'
  ·rw[hb,hd]at e;cases e
   exact⟨(by intro _ z;cases z),(by intro _ _ z;cases z)⟩
 have goneQ:∀{H':Hp} {ys:List V},Same H2 H'->H' Da=some (.lst ys)->∀b,Bq b->∃u,H' b=some u:=fun{H' ys} s' hd b hb=>by
  rcases hb with⟨hb,_⟩ | hb
  ·obtain⟨u',e'⟩:=goneP b hb
   exact⟨u',s' b u' e'⟩
  ·exact⟨_,by rw[hb];exact hd⟩
 let X0:Cx:={ X with H₀:=upd H2 Da (.lst []) }
 have mkS:∀{H':Hp} {σ':L2.St} {ys:List V},σ'.length=m+cs.length->(∀(j:Nat) (d:D),cs[j]?=some d->∃v,σ'[m+j]?=some (some v)/\Rep W (vis H' Bq) d v)->Same H2 H'->H' Da=some (.lst ys)->SR X0 W (some Da) Bq H' σ' δ0:=fun{H' σ' ys} hl hc s' hd=>by
  refine SR.plain hk (by rw[hl];simp[δ0,bQ]) (fun i w d e=>?_) (fun b u e hb=>?_) (softQ s' hd) (goneQ s' hd) (fun x hx=>by cases hx;exact⟨_,hd⟩)
  ·obtain⟨h1,h2,h3⟩:=δ0sh i w d e
   obtain⟨v,q1,q2⟩:=hc _ d h3;exact⟨h1,v,by rw[<-q1];congr 1;omega,q2⟩
  ·have hb':b≠Da:=fun z=>hb (by rw[z])
   have e:upd H2 Da (.lst []) b=some u:=e;rw[aR hb']at e;exact s' b u e
 generalize hT:((bA (fun x=>ev o ((x++cs).map fun d=>some (.sh,d)) false te) (fun x=>ev o ((x++cs).map fun d=>some (.sh,d)) true tc) m tup l).bind fun r=>
  Y5 (size r.length&&(immL r||own)) (Yr (true,D.lst r)))=Tt at h
 refine⟨fun i k ys σ' H'=>∃rs,i<=l.length/\k=l.length-i/\σ'.length=m+cs.length/\(∀(j:Nat) (d:D),cs[j]?=some d->∃v,σ'[m+j]?=some (some v)/\Rep W (vis H' Bq) d v)/\Same H2 H'/\H' Da=some (.lst ys)/\Reps W (vis H' Bq) rs ys /\
  ((bA (fun x=>ev o ((x++cs).map fun d=>some (.sh,d)) false te) (fun x=>ev o ((x++cs).map fun d=>some (.sh,d)) true tc) m tup (l.drop i)).bind fun r=>Y5 (size (rs++r).length&&(immL (rs++r)||own)) (Yr (true,D.lst (rs++r))))=Tt,⟨l.length,[],Nat.zero_le _,by simp,?_,?_,Same.upd hD,aU,by simp only[Reps],by simpa using hT⟩,?_⟩
 ·unfold dj
  rw[c1,Rx,U0,Rw,capR.length]
 ·intro j d e
  obtain⟨v,q1,q2⟩:=capR.get e;refine⟨v,?_,q2.mono (upv (Same.upd hD))⟩;unfold dj;rw[c1,Sq (by simp),U0,Nat.add_sub_cancel_left,RK,q1]
  rfl
 ·rintro i k ys σ' H' ⟨rs,hi,rfl,hl,hc,s',hd,hr,hTi⟩
  by_cases hlt:i<l.length
  ·
   refine .inr ⟨yl.go i H' s' (by omega),fun x H'' y=>?_⟩
   obtain⟨d,ed⟩:∃d,l[i]?=some d:=⟨_,Rm hlt⟩
   obtain⟨sy,rd⟩:=(yl.yld i H' x H'' d s' ed y).rep (inP.trans (upv s')) (goneQ s' hd)
   replace hc:∀(j:Nat) (d:D),cs[j]?=some d->∃v,σ'[m+j]?=some (some v)/\Rep W (vis H'' Bq) d v:=fun j d e=>
    let⟨v,q1,q2⟩:=hc j d e
    ⟨v,q1,q2.mono (ao sy)⟩
   replace hd:=sy Da _ hd
   replace hr:=hr.mono (ao (P:=Bq) sy)
   replace s':=s'.trans sy
   have hdr:l.drop i=d::l.drop (i+1):=by
    obtain⟨h1,h2⟩:=Ry.mp ed;rw[List.drop_eq_getElem_cons h1,h2]
   rw[hdr,bA]at hTi
   cases e3:takes m tup d with
   | none=>rw[e3]at hTi;subst hTi;exact h.elim
   | some ds=>
   rw[e3]at hTi;have lds:=wH hm e3;have S0:=mkS hl hc s' hd
   have hset:aG δ0 (RG m) ds=some (bQ ds++bQ cs):=by
    have:=oN ds (RW m none) (bQ cs) (by simp[lds]);rw[lds]at this;exact this
   have δ1sh:∀(i:Nat) (w:Own) (d:D),(bQ ds++bQ cs)[i]?=some (some (w,d))->w=.sh:=fun i w d e=>by
    have:bQ ds++bQ cs=bQ (ds++cs):=by simp[bQ]
    rw[this]at e;exact(nF e).1
   have hap:(bQ ds++bQ cs)=(ds++cs).map fun d=>some (Own.sh,d):=by simp[bQ]
   have vp0:vis H'' (Hid Bq σ' δ0)=vis H'' Bq:=jf fun i w d e=>(δ0sh i w d e).1
   refine hg (upd H2 Da (.lst [])) S0 (by rw[vp0];exact rd) (by rw[List.length_range];exact e3) hset fun σ1 S1 s1=>?_
   have capS:∀{H4:Hp},Same H'' H4->∀(j:Nat) (d:D),cs[j]?=some d->∃v,σ1[m+j]?=some (some v)/\Rep W (vis H4 Bq) d v:=fun{H4} s4 j d e=>by
    obtain⟨v,q1,q2⟩:=S1.sh (m+j) d (by
     rw[Sq (by simp[bQ,lds])]
     simp[bQ,lds,e])
    rw[jf δ1sh]at q2;exact⟨v,q1,q2.mono (ao s4)⟩
   have len1:σ1.length=m+cs.length:=by rw[S1.len];simp[bQ,lds]
   have hTi:((ev o ((ds++cs).map fun d=>some (.sh,d)) true tc).bind fun t=>(XR (truth t.2)).bind fun b=>if b then(ev o ((ds++cs).map fun d=>some (.sh,d)) false te).bind fun y=>(bA (fun x=>ev o ((x++cs).map fun d=>some (.sh,d)) false te) (fun x=>ev o ((x++cs).map fun d=>some (.sh,d)) true tc) m tup (l.drop (i+1))).bind fun r=>.ok (y.2::r)
    else bA (fun x=>ev o ((x++cs).map fun d=>some (.sh,d)) false te) (fun x=>ev o ((x++cs).map fun d=>some (.sh,d)) true tc) m tup (l.drop (i+1))).bind (fun r=>Y5 (size (rs++r).length&&(immL (rs++r)||own)) (Yr (true,D.lst (rs++r))))=Tt:=hTi
   refine⟨some Da,Bq,_,S1,?_⟩;show(match(ev o (bQ ds++bQ cs) true tc).bind (fun x=>XR (truth x.2))with | .ok b=>_ | .exc c=>_ | .stuck=>_);rw[hap]
   cases e4:ev o ((ds++cs).map fun d=>some (Own.sh,d)) true tc with
   | exc c=>rw[e4]at hTi;subst hTi;exact h.elim
   | stuck=>rw[e4]at hTi;subst hTi;exact h.elim
   | ok t=>
   rw[e4]at hTi;show(match XR (truth t.2)with | .ok b=>_ | .exc c=>_ | .stuck=>_)
   cases e5:truth t.2 with
   | none=>simp only[XS,e5,XR]at hTi;subst hTi;exact h.elim
   | some bb=>
   simp only[XS,e5,XR]at hTi;intro H4 s4;have hd4:H4 Da=some (.lst ys):=s4 Da _ hd
   cases bb with
   | false=>
     simp only[Bool.false_eq_true,if_false]at hTi ⊢;exact⟨l.length-(i+1),by omega,rs,by omega,rfl,len1,capS s4,s'.trans s4,hd4,hr.mono (ao s4),hTi⟩
   | true=>
     simp only[if_true]at hTi ⊢;refine tD_iff.mpr ⟨some Da,Bq,_,S1.mono s4,?_⟩;rw[hap]
     cases e6:ev o ((ds++cs).map fun d=>some (Own.sh,d)) false te with
     | exc c=>rw[e6]at hTi;subst hTi;exact h.elim
     | stuck=>rw[e6]at hTi;subst hTi;exact h.elim
     | ok y6=>
     rw[e6]at hTi
     cases e7:bA (fun x=>ev o ((x++cs).map fun d=>some (.sh,d)) false te) (fun x=>ev o ((x++cs).map fun d=>some (.sh,d)) true tc) m tup (l.drop (i+1))with
     | exc c=>simp only[e7]at hTi;subst hTi;exact h.elim
     | stuck=>simp only[e7]at hTi;subst hTi;exact h.elim
     | ok rr=>
     simp only[e7]at hTi;intro v H5 s5 q;rw[<-hap]at q;have q':=q.keep (S1.mono s4).know;rw[jf δ1sh]at q';have hd5:H5 Da=some (.lst ys):=s5 Da _ hd4
     have hsz:size (rs++y6.2::rr).length=true:=by
      subst hTi;have:=(cY h).1;simp only[Bool.and_eq_true]at this;exact this.1
     have hlen:ys.length<sizeLine:=by
      have:=fj hsz;rw[Rx,Rv,hr.length]at this;omega
     have up6:Same (vis H5 Bq) (vis (upd H5 Da (.lst (ys++[v]))) Bq):=fun b u e=>by
      obtain⟨z1,z2⟩:=bF e
      have hb:b≠Da:=fun z=>z2 (.inr z)
      exact bK (by rw[aR hb];exact z1) z2
     have s6:Same H2 (upd H5 Da (.lst (ys++[v]))):=fun b u e=>by
      rw[aR (nD e)];exact s5 b u (s4 b u (s' b u e))
     refine⟨hd5,hlen,l.length-(i+1),by omega,rs++[y6.2],by omega,rfl,len1,fun j d e=>?_,s6,aU,?_,?_⟩
     ·obtain⟨w,q1,q2⟩:=capS (s4.trans s5) j d e
      exact⟨w,q1,q2.mono up6⟩
     ·refine Reps.append ((hr.mono (ao (s4.trans s5))).mono up6) ?_
      simp only[Reps];exact⟨q'.mono up6,trivial⟩
     ·show Y5 _ _=_
      rw[<-hTi];simp only[XS,W5,List.singleton_append]
  ·
   have hil:i=l.length:=by omega
   subst hil;refine .inl ⟨yl.stop H' s',?_⟩;rw[List.drop_length,bA]at hTi;simp only[XS,Sg]at hTi;subst hTi;obtain⟨hc1,h⟩:=cY h;simp only[Bool.and_eq_true,Bool.or_eq_true]at hc1;refine h (.ref Da) H' (s.trans s') ?_;unfold Res;rw[if_pos rfl];refine⟨Da,rfl,s.free hD,ys,hd,?_⟩;rcases hc1.2 with him | ho
   ·refine(Reps.imm (H:=H') (P:=fun b=>P b\/b=Da) (fun b hb u e=>?_) him (hr.mono bH))
    rcases hb with hb | hb
    ·obtain⟨u',e'⟩:=goneP b hb
     have:=s' b u' e';rw[e]at this;cases this;exact softP b hb u e'
    ·rw[hb,hd]at e;cases e
     exact⟨(by intro _ z;cases z),(by intro _ _ z;cases z)⟩
   ·refine hr.mono (aH fun b hb=>?_)
    rcases hb with hb | hb
    ·exact .inl ⟨hb,.inl ho⟩
    ·exact .inr hb
end
end Z
namespace Z
open PySem PySem.Spec PyProof.Rows L2
theorem JL(h:kV k=kV k'):k=k':=by
 cases k<;>cases k'<;>simp[kV]at h<;>simp[h]
theorem Bx(e:H a=some (.dK kvs ep))(g:DPut H a (kV k) v H'):∃ep',H'=upd H a (.dK (putK kvs k v) ep'):=by
 rcases g with⟨kvs',k',e1,e2,h1,h2,_,h3⟩ | ⟨kvs',k',b,h1,h2,_⟩
 ·rw[e]at h1
  cases h1;rw[JL h2];exact⟨e2,h3⟩
 ·rw[e]at h1;cases h1
section
variable{X:Cx}{W:Wd}{lk lk':Bool}{σ:L2.St}{H H1 H':Hp}{me:Option Addr}{B:Addr->Prop}{δ:Dst}{Q Q':VK}{a b:Expr}{pos p pos':Pos}{o:Orc}
theorem get_set(hi:δ[i]?=some (some (w,d)))(h:(δ.set i (some (w,d')))[j]?=some (some (w',x))):(j=i/\w'=w/\x=d')\/(j≠i/\δ[j]?=some (some (w',x))):=by
 have hl:i<δ.length:=(Ry.mp hi).1
 by_cases hj:j=i
 ·subst hj
  rw[RX hl]at h;cases h;exact .inl ⟨rfl,rfl,rfl⟩
 ·rw[S7 (T5 hj)]at h
  exact .inr ⟨hj,h⟩
theorem cW(hi:δ[i]?=some (some (w,d))):eQ σ (δ.set i (some (w,d'))) j c↔eQ σ δ j c:=by
 have hl:i<δ.length:=(Ry.mp hi).1
 constructor
 ·rintro⟨⟨w',x,h1,h2⟩,h3⟩
  rcases get_set hi h1 with⟨rfl,rfl,rfl⟩ | ⟨_,h⟩
  ·exact⟨⟨_,_,hi,h2⟩,h3⟩
  ·exact⟨⟨w',x,h,h2⟩,h3⟩
 ·rintro⟨⟨w',x,h1,h2⟩,h3⟩
  by_cases hj:j=i
  ·subst hj
   rw[hi]at h1;cases h1;exact⟨⟨w,d',by rw[RX hl],h2⟩,h3⟩
  ·exact⟨⟨w',x,by rw[S7 (T5 hj)];exact h1,h2⟩,h3⟩
theorem dI(hi:δ[i]?=some (some (w,d))):Hid B σ (δ.set i (some (w,d')))=Hid B σ δ:=by
 funext c
 apply propext
 unfold Hid
 constructor
 ·rintro(h | ⟨j,h⟩)
  ·exact .inl h
  ·exact .inr ⟨j,(cW hi).mp h⟩
 ·rintro(h | ⟨j,h⟩)
  ·exact .inl h
  ·exact .inr ⟨j,(cW hi).mpr h⟩
theorem SR.own(S:SR X W me B H σ δ)(hi:ownD δ i=some (w,d)):δ[i]?=some (some (w,d))/\w≠.sh/\∃c,σ[i]?=some (some (V.ref c))/\OwnAt W H (vis H (Hid B σ δ)) c d/\¬B c/\(∀u,X.H₀ c=some u->some c=me):=by
 unfold ownD at hi;split at hi
 ·rename_i d' e
  cases hi;obtain⟨c,h1,h2,h3,h4,h5⟩:=S.ow i _ e;exact⟨e,by decide,c,h1,h2,h4,fun u z=>by rw[h3]at z;cases z⟩
 ·rename_i d' e
  cases hi;obtain⟨_,c,h0,h1,h2,h4⟩:=S.mi i _ e;exact⟨e,by decide,c,h1,h2,h4,fun u _=>h0.symm⟩
 ·cases hi
theorem SR.write(S:SR X W me B H σ δ)(hi:δ[i]?=some (some (w,d)))(hw:w≠.sh)(hc:σ[i]?=some (some (V.ref c)))(hB:¬B c)(hX:∀u,X.H₀ c=some u->some c=me)
 (new:OwnAt W (upd H c u) (vis H (Hid B σ δ)) c d'):SR X W me B (upd H c u) σ (δ.set i (some (w,d')))/\Same (vis H (Hid B σ δ)) (vis (upd H c u) (Hid B σ (δ.set i (some (w,d'))))):=by
 have hid:Hid B σ δ c:=.inr ⟨i,⟨w,d,hi,hw⟩,hc⟩
 have up:Same (vis H (Hid B σ δ)) (vis (upd H c u) (Hid B σ δ)):=fun b v e=>by
  obtain⟨e1,e2⟩:=bF e
  have hb:b≠c:=fun z=>e2 (z▸hid)
  exact bK (by rw[aR hb];exact e1) e2
 have other:∀{j:Nat} {x:Own} {y:D},j≠i->δ[j]?=some (some (x,y))->x≠.sh->∀{e:Addr},σ[j]?=some (some (V.ref e))->e≠c:=fun hj h1 h2 e h3 z=>by
  subst z;exact hj (S.apart _ _ _ ⟨⟨_,_,h1,h2⟩,h3⟩ ⟨⟨_,_,hi,hw⟩,hc⟩)
 refine⟨?_,by rw[dI hi];exact up⟩;refine⟨S.kf,by simp[S.len],fun j y h=>?_,fun j y h=>?_,fun j y h=>?_,fun j k e h1 h2=>S.apart j k e ((cW hi).mp h1) ((cW hi).mp h2),fun b v e hb=>?_,fun b hb v e=>?_,fun b hb=>?_,fun x hx=>?_⟩
 ·rw[dI hi]
  rcases get_set hi h with⟨_,rfl,_⟩ | ⟨_,h⟩
  ·exact absurd rfl hw
  ·obtain⟨v,h1,h2⟩:=S.sh j y h
   exact⟨v,h1,h2.mono up⟩
 ·rw[dI hi]
  rcases get_set hi h with⟨rfl,rfl,rfl⟩ | ⟨hj,h⟩
  ·obtain⟨e,h1,h2,h3,h4,h5⟩:=S.ow j d hi
   rw[hc]at h1;cases h1;exact⟨c,hc,new.mono (fun _ q=>q) up,h3,h4,h5⟩
  ·obtain⟨e,h1,h2,h3⟩:=S.ow j y h
   exact⟨e,h1,h2.mono (fun v q=>by rw[aR (other hj h (by decide) h1)];exact q) up,h3⟩
 ·rw[dI hi]
  rcases get_set hi h with⟨rfl,rfl,rfl⟩ | ⟨hj,h⟩
  ·obtain⟨h0,e,h1,h2,h3,h4⟩:=S.mi j d hi
   rw[hc]at h2;cases h2;exact⟨h0,c,h1,hc,new.mono (fun _ q=>q) up,h4⟩
  ·obtain⟨h0,e,h1,h2,h3,h4⟩:=S.mi j y h
   exact⟨h0,e,h1,h2,h3.mono (fun v q=>by rw[aR (other hj h (by decide) h2)];exact q) up,h4⟩
 ·have hbc:b≠c:=fun z=>hb (by subst z;exact hX v e)
  rw[aR hbc];exact S.same b v e hb
 ·have hbc:b≠c:=fun z=>hB (z▸hb)
  rw[aR hbc]at e;exact S.soft b hb v e
 ·have hbc:b≠c:=fun z=>hB (z▸hb)
  rw[aR hbc];exact S.gone b hb
 ·by_cases hxc:x=c
  ·subst hxc;exact⟨u,aU⟩
  ·rw[aR hxc];exact S.live x hx
theorem PS.or{st:Stmt}{t t':TS}(h:PS X st t)(h':PS X st t'):PS X st (fun D σ H=>t D σ H\/t' D σ H):=by
 intro pins s σ H D I q;rcases q with q | q
 ·exact h pins s σ H D I q
 ·exact h' pins s σ H D I q
theorem iK(h:keyOf d=some x)(r:RepT W H G d y):y=kV (keyV x):=by
 cases d<;>first | exact nope h | simp only[keyOf]at h
 ·cases h;exact aQ r
 ·cases h;exact(bu r).1
theorem GR(h:keyOf d=some x)(r:RepT W H G d y)(e:Yh z=x):z.length<=16777216:=by
 subst e
 cases d<;>simp only[keyOf]at h<;>first | (cases h;done) | skip
 cases h;exact(bu r).2
theorem J9{q:Key×V}{r:List (Key×V)}{k:Key}{v:V}(h:q.1≠k):putK (q::r) k v=q::putK r k v:=by
 unfold putK;rw[S6,decide_eq_false h,Bool.false_or];split
 ·rw[R8,if_neg h]
 ·rfl
theorem Ge{q:Key×V}{r:List (Key×V)}{k:Key}{v:V}(h:q.1=k)(hn:k∉r.map (·.1)):putK (q::r) k v=(q.1,v)::r:=by
 unfold putK;rw[S6,decide_eq_true h,Bool.true_or,if_pos rfl,R8,if_pos h]
 congr 1
 rw[List.map_congr_left (g:=id) (fun p hp=>?_),List.map_id]
 have:p.1≠k:=fun z=>hn (z▸TF hp)
 simp[this]
theorem zH{ks:List DK}{x:DK}:keyV x∈ks.map keyV↔x∈ks:=by
 constructor
 ·intro h
  obtain⟨y,hy,e⟩:=RB.mp h;rw[<-dw e];exact hy
 ·exact fun h=>TF h
theorem tM(rd:Rep W G d v):∀{ks:List DK} {vs:List D} {kvs:List (Key×V)},kvs.map (·.1)=ks.map keyV->ks.Nodup->Reps W G vs (kvs.map (·.2)) ->
 (putK kvs (keyV x) v).map (·.1)=(bL ks x).map keyV/\Reps W G (putV ks vs x d) ((putK kvs (keyV x) v).map (·.2))
 | [],[],[],_,_,_=>by
   refine⟨rfl,?_⟩;simp only[putV,putK,Wh,Bool.false_eq_true,if_false,List.nil_append,R8,RQ,Reps];exact⟨rd,trivial⟩
 | [],_::_,[],_,_,r=>by simp only[RQ,Reps]at r
 | [],_,_::_,e,_,_=>by simp at e
 | _::_,_,[],e,_,_=>by simp at e
 | _::_,[],_::_,_,_,r=>by simp only[R8,Reps]at r
 | k0::ks,d0::vs,q::kvs,e,nd,r=>by
   simp only[R8,Tq]at e;simp only[R8,Reps]at r;obtain⟨nd1,nd2⟩:=Sd.mp nd
   by_cases hx:k0=x
   ·subst hx
    rw[Ge e.1 (by rw[e.2,zH];exact nd1)];simp only[bL,putV,if_true,R8,e.1,e.2,Reps];exact⟨trivial,rd,r.2⟩
   ·have hk:q.1≠keyV x:=fun z=>hx (dw (e.1.symm.trans z))
    obtain⟨h1,h2⟩:=tM rd e.2 nd2 r.2;rw[J9 hk];simp only[bL,putV,if_neg hx,R8,e.1,Reps];exact⟨by rw[h1],r.1,h2⟩
theorem putKs_mem:∀{ks:List DK},y∈bL ks x↔y∈ks\/y=x
 | []=>by simp[bL]
 | k::ks=>by
   simp only[bL];split
   ·rename_i h
    subst h
    constructor
    ·exact .inl
    ·rintro(h | h)
     ·exact h
     ·rw[h];exact Rg
   ·rw[Rh,putKs_mem,Rh,or_assoc]
theorem jt:∀{ks:List DK},ks.Nodup->(bL ks x).Nodup
 | [],_=>by simp[bL]
 | k::ks,h=>by
   obtain⟨h1,h2⟩:=Sd.mp h;simp only[bL];split
   ·exact h
   ·rename_i hk
    refine Sd.mpr ⟨fun z=>?_,jt h2⟩;rcases putKs_mem.mp z with z | z
    ·exact h1 z
    ·exact hk z
theorem Ah:Vd e (some (.Subscript o' i' pp)) l env=pure false:=by
 cases e<;>rfl
theorem Jo(hk:W.K=X.K)(hu:X.A.units+1<Wm)(hv:PE X (.Name x p) (tVar i))(hK:PE X k (tD X W true fun δ=>ev o δ true tk))(he:PE X e (tD X W false fun δ=>ev o δ false te))
 (ha:∀v,Wa (.Subscript (.Name x p) k pos') X.env v=(do
  let ov <-U7 [v] (Sv (.Name x p) X.env)
  let iv <-U7 [v,ov] (Sv k X.env)
  V8 pos'
  U7 [v,ov,iv] (Xo ov iv v)
  release [v,ov,iv] []))
 (hs1:swapsWithSole [.Subscript (.Name x p) k pos'] e pos.line X.env=pure false) (hs2:swappedStores [.Subscript (.Name x p) k pos'] e X.env=pure none) (h1:(Ti [.Subscript (.Name x p) k pos'] X.env).map (·.2)=[Wa (.Subscript (.Name x p) k pos') X.env]) :
 PS X (.Assign [.Subscript (.Name x p) k pos'] e pos) (tS X W (evS o (.seti i tk te))):=by
 refine PS.imp (PS.or (Ff hu hv hK he Ah) (Mh he (Mr hv hK set_list ha) hs1 hs2 h1)) fun En σ H ⟨me,B,δ,S,h⟩=>?_
 simp only[evS]at h;obtain⟨S1,e1⟩:=S.evF o te;have sub1:=eZ (B:=B) (σ:=σ) (δ:=δ) o te;generalize (evF o δ te).1=δ1 at *;generalize (evF o δ te).2=r1 at *;obtain⟨r,e2,h⟩:=SO.of_ok h;obtain⟨y,e3,h⟩:=SO.of_ok h;obtain⟨q,e4,h⟩:=bO h
 cases e5:ownD δ1 i with
 | none=>rw[e5]at e4;cases e4
 | some c=>
 obtain⟨w,d⟩:=c;rw[e5]at e4;simp only[Rq]at e4
 cases e6:putItem d y.2 r.2 with
 | none=>rw[e6]at e4;cases e4
 | some d'=>
 rw[e6]at e4;cases e4
 have go:∀{K1:V->V->V->Hp->Prop},(∀(ad:Addr) (v u:V) (H2:Hp),SR X W me B H2 σ δ1->Same H H2->σ[i]?=some (some (V.ref ad))->Rep W (vis H2 (Hid B σ δ1)) r.2 v->RepT W H2 (vis H2 (Hid B σ δ1)) y.2 u->K1 (.ref ad) u v H2) ->
  tD X W false (fun δ=>ev o δ false te) σ H fun v H1=>tVar i σ H1 fun x H2=>tD X W true (fun δ=>ev o δ true tk) σ H2 fun u H3=>K1 x u v H3:=fun{K1} k1=>by
  refine tD_iff.mpr ⟨me,B,δ1,S1,?_⟩;rw[<-e1,e2];intro v H1 s1 q1;obtain⟨_,_,ad,o3,_⟩:=S1.own e5;refine⟨_,o3,tD_iff.mpr ⟨me,B,δ1,S1.mono s1,?_⟩⟩;rw[e3];intro u H2 s2 q2;exact k1 ad v u H2 ((S1.mono s1).mono s2) (s1.trans s2) o3 ((q1.keep S1.know).mono (ao s2)) q2.look
 have last:∀{ad:Addr} {v u:V} {H2:Hp} {ob:HO},SR X W me B H2 σ δ1->Same H H2->σ[i]?=some (some (V.ref ad))->OwnAt W (upd H2 ad ob) (vis H2 (Hid B σ δ1)) ad d'->En.nx σ (upd H2 ad ob):=fun{ad v u H2 ob} S2 s2 o3 new=>by
  obtain⟨o1,o2,ad',o3',o4,o5,o6⟩:=S2.own e5;rw[o3]at o3';cases o3';obtain⟨S3,s3⟩:=S2.write o1 o2 o3 o5 o6 new;exact h _ _ S3 (((aH sub1).trans (ao s2)).trans s3)
 cases d with
 | dct ks vs=>
   simp only[putItem]at e6
   cases e7:keyOf y.2 with
   | none=>rw[e7]at e6;cases e6
   | some kx=>
   rw[e7]at e6;simp only[Rq]at e6;split at e6
   ·rename_i hsz
    cases e6;refine .inl (go fun ad v u H2 S2 s2 o3 rv tu=>?_);obtain⟨_,_,ad',o3',o4,_⟩:=S2.own e5;rw[o3]at o3';cases o3';obtain⟨kvs,⟨ep,q1⟩,q2,q3,q4⟩:=o4
    have hl:kvs.length=ks.length:=by simpa using congrArg T3 q2
    refine⟨ad,rfl,⟨upd H2 ad (.dK (putK kvs (keyV kx) v) 0),?_⟩,fun H4 g4=>?_⟩
    ·rw[iK e7 tu]
     exact DPut.k q1 (by rw[hl,T9];omega)
    ·rw[iK e7 tu]at g4
     obtain⟨ep',rfl⟩:=Bx q1 g4;refine last (v:=v) (u:=u) S2 s2 o3 ?_;obtain⟨p1,p2⟩:=tM rv q2 q3.1 q4;exact⟨_,⟨ep',aU⟩,p1,⟨jt q3.1,fun z hz=>(putKs_mem.mp hz).elim (q3.2 z) fun hz=>GR e7 tu hz⟩,p2⟩
   ·cases e6
 | lst l=>
   cases e7:y.2 with
   | int j=>
     rw[e7]at e6;simp only[putItem]at e6
     cases e8:place l.length j with
     | none=>rw[e8]at e6;cases e6
     | some n=>
     rw[e8]at e6;cases e6;refine .inr (go fun ad v u H2 S2 s2 o3 rv tu=>?_);rw[e7]at tu;obtain⟨_,_,ad',o3',o4,_⟩:=S2.own e5;rw[o3]at o3';cases o3';obtain⟨xs,q1,q2⟩:=o4;refine⟨ad,xs,j,n,rfl,aQ tu,q1,iB (α:=V) (by rw[<-q2.length];exact e8),last (v:=v) (u:=u) S2 s2 o3 ⟨_,aU,q2.set rv n⟩⟩
   | _=>rw[e7]at e6;cases e6
 | _=>cases e6
end
end Z
namespace Z
open PySem PySem.Spec PyProof.Rows L2
section
variable{X:Cx}{W:Wd}{lk lk':Bool}{σ:L2.St}{H H1 H':Hp}{me:Option Addr}{B:Addr->Prop}{δ:Dst}{Q Q':VK}{a b:Expr}{pos p pos' apos cpos:Pos}{o:Orc}
noncomputable def az:Expr->Bool
 | .Starred _ _=>true
 | _=>false
theorem bI(h:az e=false):Rj (e::es) env=(false,Sv e env)::Rj es env:=by
 cases e<;>first | rfl | (simp[az]at h)
theorem few1(h:az e=false):((SN cpos (Rj [e] env)).all (fun x=>!x.1)&&(UW cpos (Tr [] env)).all (fun x=>x.1.isSome)
 && decide (([e]:List Expr).length+([]:List Wi).length+(if([]:List Wi).isEmpty then 0 else 1)<30))=true:=by
 rw[bI h];rfl
noncomputable def plainBase:Expr->Bool
 | .Call (.Name _ _) [] [] _=>false
 | _=>true
theorem cM(h:plainBase e=true):V7 e m env w=w:=by
 unfold V7;split
 ·simp[plainBase]at h
 ·rfl
theorem fZ:Vd (.Call f args kws pp) none l env=pure false:=rfl
theorem wD(hv:PE X (.Name x p) (tVar i))(he:PE X e (tD X W false fun δ=>ev o δ false te))(hst:az e=false)(hline:(apos.endLine==cpos.line)=true) :
 PS X (.Expr (.Call (.Attribute (.Name x p) "append" apos) [e] [] cpos) pos) (tS X W (evS o (.append i te))):=by
 refine PS.imp (jX (Fw PySem.F.plainAttrs_list PySem.F.slot_list_append PySem.F.type_list_append nA hv (bD he cP (bI hst)) (cM rfl) (few1 hst) hline (bI hst) rfl) fZ) fun En σ H ⟨me,B,δ,S,h⟩=>?_
 simp only[evS]at h;obtain⟨S1,e1⟩:=S.evF o te;have sub1:=eZ (B:=B) (σ:=σ) (δ:=δ) o te;generalize (evF o δ te).1=δ1 at *;generalize (evF o δ te).2=r1 at *;obtain⟨r,e2,h⟩:=SO.of_ok h;obtain⟨q,e4,h⟩:=bO h
 cases e5:ownD δ1 i with
 | none=>rw[e5]at e4;cases e4
 | some c=>
 obtain⟨w,d⟩:=c;rw[e5]at e4;simp only[Rq]at e4
 cases d with
 | lst l=>
   simp only at e4;split at e4
   ·rename_i hsz
    cases e4;obtain⟨_,_,ad,o3,⟨xs0,q0,_⟩,_⟩:=S1.own e5;refine⟨_,o3,.inl ⟨rfl,xs0,SqL.of q0⟩,tD_iff.mpr ⟨me,B,δ1,S1,?_⟩⟩;rw[<-e1,e2];intro v H1 s1 q1;obtain⟨o1,o2,ad',o3',⟨xs,q2,q3⟩,o5,o6⟩:=(S1.mono s1).own e5;rw[o3]at o3';cases o3';have hz:=fj hsz;have hl:=q3.length;refine⟨ad,xs,v,rfl,rfl,q2,by omega,?_⟩;have rv:=q1.keep S1.know;obtain⟨S3,s3⟩:=(S1.mono s1).write (u:=.lst (xs++[v])) (d':=.lst (l++[r.2])) o1 o2 o3 o5 o6 ⟨_,aU,q3.append (by simp only[Reps];exact⟨rv,trivial⟩)⟩;exact h _ _ S3 (((aH sub1).trans (ao s1)).trans s3)
   ·cases e4
 | _=>cases e4
theorem Fz:PS X (.Pass pos) (tS X W (evS o .pass)):=by
 refine PS.imp Ih fun En σ H ⟨me,B,δ,S,h⟩=>?_
 simp only[evS]at h;exact h _ _ S (Same.refl _)
theorem Oc:PS X (.Break pos) (tS X W (evS o .brk)):=by
 refine PS.imp Ad fun En σ H ⟨me,B,δ,S,h⟩=>?_
 simp only[evS]at h;exact h _ _ S (Same.refl _)
theorem Er:PS X (.Continue pos) (tS X W (evS o .cont)):=by
 refine PS.imp pU fun En σ H ⟨me,B,δ,S,h⟩=>?_
 simp only[evS]at h;exact h _ _ S (Same.refl _)
theorem Gy:PS X (.Return none pos) (tS X W (evS o .retn)):=by
 refine PS.imp Gf fun En σ H ⟨me,B,δ,S,h⟩=>?_
 simp only[evS]at h;refine h _ _ _ S (Same.refl _) ?_;exact .shared (by simp only[Rep])
theorem qP(lo:Int)(n:Nat):Reps W G ((RG n).map fun(k:Nat)=>XH (lo+(k:Int))) ((RG n).map fun(k:Nat)=>V.int (lo+(k:Int))):=by
 induction RG n with
 | nil=>simp only[RQ,Reps]
 | cons k l ih=>simp only[R8,Reps,Rep];exact⟨trivial,ih⟩
theorem wL(h:inR i=true):-1000000<=i/\i<=1000000:=by
 unfold inR at h;simpa using h
end
end Z
namespace Z
open PySem PySem.Spec PyProof.Rows L2
section
variable{X:Cx}{W:Wd}{o:Orc}{p pos apos cpos:Pos}
theorem vW(hv:PE X (.Name x p) (tVar i))(he:PE X e (tD X W false fun δ=>ev o δ false te))(hst:az e=false)(hline:(apos.endLine==cpos.line)=true) :
 PS X (.Expr (.Call (.Attribute (.Name x p) "extend" apos) [e] [] cpos) pos) (tS X W (evS o (.extend i te))):=by
 refine PS.imp (jX (Fw PySem.F.plainAttrs_list PySem.F.slot_list_extend PySem.F.type_list_extend xX hv (bD he cP (bI hst)) (cM rfl) (few1 hst) hline (bI hst) rfl) fZ) fun En σ H ⟨me,B,δ,S,h⟩=>?_
 simp only[evS]at h;obtain⟨S1,e1⟩:=S.evF o te;have sub1:=eZ (B:=B) (σ:=σ) (δ:=δ) o te;generalize (evF o δ te).1=δ1 at *;generalize (evF o δ te).2=r1 at *;obtain⟨⟨rw,rd⟩,e2,h0⟩:=SO.of_ok h;obtain⟨q,e4,h9⟩:=bO h0;clear h0 h
 cases e5:ownD δ1 i with
 | none=>rw[e5]at e4;cases e4
 | some c=>
 obtain⟨w,d⟩:=c;rw[e5]at e4;simp only[Rq]at e4
 cases d<;>first | exact nope e4 | skip
 rename_i l
 cases rd<;>first | exact nope e4 | skip
 rename_i l';simp only at e4;split at e4
 ·rename_i hc
  cases e4;obtain⟨hsz,hw⟩:=Bool.and_eq_true_iff.mp hc;have hw:rw=true:=hw;subst hw;obtain⟨_,_,ad,o3,⟨xs0,q0,_⟩,_⟩:=S1.own e5;refine⟨_,o3,.inl ⟨rfl,xs0,SqL.of q0⟩,tD_iff.mpr ⟨me,B,δ1,S1,?_⟩⟩;rw[<-e1,e2];intro v H1 s1 q1;obtain⟨o1,o2,ad',o3',⟨xs,q2,q3⟩,o5,o6⟩:=(S1.mono s1).own e5;rw[o3]at o3';cases o3';unfold Res at q1;rw[if_pos rfl]at q1;obtain⟨b,rfl,hb,zs,z1,z2⟩:=q1;have hz:=fj hsz;have hl:=q3.length;have hl':=z2.length;refine⟨ad,b,xs,zs,rfl,rfl,q2,z1,by omega,?_⟩
  have rv:Reps W (vis H1 (Hid B σ δ1)) l' zs:=z2.mono fun c oc ec=>by
   obtain⟨g1,g2⟩:=bF ec
   exact bK g1 fun z=>g2 (.inl z)
  obtain⟨S3,s3⟩:=(S1.mono s1).write (u:=.lst (xs++zs)) (d':=.lst (l++l')) o1 o2 o3 o5 o6 ⟨_,aU,q3.append rv⟩;exact h9 _ _ S3 (((aH sub1).trans (ao s1)).trans s3)
 ·cases e4
end
end Z
namespace Z
open PySem PySem.Spec PyProof.Rows L2
noncomputable def veB:List Value:=[.type "ValueError",.type "Exception",.type "BaseException",.type "object"]
structure XObj(h:Rk)(C:Addr)(bm:List Value):Prop where
 ob:∃N nm qn bs hd sn sb ab col dd k0 k1 k2 k3 k5 mN,h.get? C=some (excClassObj nm qn C N bs bm hd sn sb ab col dd k0 k1 k2 k3 k5 "ValueError.__new__")/\h.Ns N mN/\mN "__init__"=none
 tl:OwnTail h veB bm
noncomputable def xIn(K:Ra)(C:Addr):Option (List Value):=match K.lookup C with
 | some ⟨.type "type",_,.cls cd,sl⟩=>(match cd.mro,sl.toList with
   | .ref C'::bm,[_,_,_,_,some (.builtin n),_]=>if C'=C/\n="ValueError.__new__"/\cd.hasDel=false/\PySem.W.tailIn K veB bm=true/\PySem.W.nsOkIn K cd.ns=true/\VF K cd.ns "__init__"=some none then some bm else none
   | _,_=>none)
 | _=>none
theorem oW{K:Ra}{h:Rk}{C:Addr}{bm:List Value}(X:K.In h)(q:xIn K C=some bm):XObj h C bm:=by
 unfold xIn at q;split at q
 case h_2=>cases q
 case h_1 dd cd sl ho=>
 split at q
 case h_2=>cases q
 case h_1 C' bm' k0 k1 k2 k3 n k5 hm hs=>
 split at q
 case isFalse=>cases q
 case isTrue hc=>
 obtain⟨e1,e2,e3,e4,e5,e6⟩:=hc;cases q;subst e1 e2;refine⟨?_,PySem.W.tail_of_in X e4⟩
 have hsl:sl=#[k0,k1,k2,k3,some (.builtin "ValueError.__new__"),k5]:=by
  cases sl with
  | mk l=>simp only at hs;rw[hs]
 obtain⟨nm,bs,mro,N,qn,hd,sn,sb,ab,col,del⟩:=cd;simp only at hm e3 e5 e6;subst hm e3 hsl;exact⟨N,nm,qn,bs,hd,sn,sb,ab,col,dd,k0,k1,k2,k3,k5,_,X C' _ ho,.of_isNs (PySem.W.isNs_of_in X e5),PySem.W.nsMap_none_of_in X e5 e6⟩
section
variable{M:Model}{A:RV}{E:Value->Shared->Prop}{s:Shared}
theorem wQ(hP:XObj s.heap P bP)(hC:XObj s.heap C bC)(he:s.heap.get? e=some oe)(hcls:oe.cls=.ref C)(hsub:(Value.ref C::bC).contains (.ref P)=true)(hq:Q true s) :
 Rn M A (excMatches (.ref e) (.ref P)) Q E s:=by
 obtain⟨⟨N,nm,qn,bs,hd,sn,sb,ab,col,dd,k0,k1,k2,k3,k5,mN,oP,_,_⟩,tP⟩:=hP;obtain⟨⟨N',nm',qn',bs',hd',sn',sb',ab',col',dd',k0',k1',k2',k3',k5',mN',oC,_,_⟩,tC⟩:=hC
 have hb:(Value.ref P::bP).contains (.type "BaseException")=true:=by rw[List.contains_cons,tP.hasType (X:="BaseException") (b:=true) (by decide +kernel),Bool.or_true]
 obtain⟨hh,g,d,t,os⟩:=s;have ft:=tc_notTuple;unfold excMatches
 repeat (first
  | (with_reducible refine wpAny_loadPart_at he ?_;rw[hcls])
  | with_reducible refine wpAny_loadPart_at oP ?_
  | (with_reducible refine wpAny_isSubtype_exc oP ?_;rw[hb])
  | (with_reducible refine wpAny_isSubtype_exc oC ?_;rw[hsub])
  | wp_step)
 exact hq
end
section
variable{X:Cx}{W:Wd}{o:Orc}{me:Option Addr}{B:Addr->Prop}{H:Hp}{σ:L2.St}{δ:Dst}
theorem yZ(hc:X.calm=true)(hg:Gl X x)(hm:X.mg x=some (.ref (W.CT C)))(hx:xIn X.K (W.CT C)=some bm)(hdb:(x==("__debug__":Str))=false)
 (ha:PE X arg (tD X W true fun δ=>ev o δ true ta)) (hst:az arg=false):PS X (.Raise (some (.Call (.Name x np) [arg] [] cpos)) none pos) (tS X W (evS o (.raise C ta))):=by
 intro pins s σ H D I ⟨me,B,δ,S,h⟩;simp only[evS]at h;obtain⟨r,e1,h⟩:=SO.of_ok h;have XI:XObj X.base (W.CT C) bm:=oW I.ok.mod.kin hx
 have hB:veB.contains (.type "ValueError")=true:=by decide +kernel
 obtain⟨⟨N,nm,qn,bs,hd,sn,sb,ab,col,dd,k0,k1,k2,k3,k5,mN,oC,hN,hni⟩,tl⟩:=XI;have hbase:bm.contains (.type "BaseException")=true:=tl.hasType (by decide +kernel);have hse:Rj [arg] X.env=[(false,Sv arg X.env)]:=bI hst
 have bk:∀{s2:Shared} {H2:Hp},Inv X pins σ H2 s2->∀b ob,X.base.get? b=some ob->s2.heap.get? b=some ob:=fun I2 b ob e=>(I2.bs b ob e).1
 refine wpAny_Raise_call_subU (Bn:="ValueError") (B:="ValueError") (newId:="ValueError.__new__") (C:=W.CT C) (nm:=nm) (q:=qn) (N:=N) (bs:=bs) (bm:=bm) (hdct:=hd) (sn:=sn) (sub:=sb) (ab:=ab) (col:=col) (dd:=dd)
  (k0:=k0) (k1:=k1) (k2:=k2) (k3:=k3) (k5:=k5) F.excBase_ValueError hB F.excBase_ValueError (mN:=mN) hbase (I.ok.hd hc) (by rw[hse];rfl) hni (eX I hg hm ⟨rfl,?_⟩ hdb)
 rw[hse]
 have ht:tD X W true (fun δ=>ev o δ true ta) σ H fun _ H1=>Same H H1:=tD_iff.mpr ⟨me,B,δ,S,by rw[e1];exact fun _ H1 z _=>z⟩
 refine Calls.evalArgs_plain (Calls.spliced_cons (thn (ha pins s σ H _ I ht) fun v s1 ⟨y,H1,I1,_,q1⟩=>Calls.spliced_nil ?_));refine⟨rfl,by show 1<=sizeLine;decide,bk I1 _ _ oC,hN.keeps (bk I1),tl.keeps (bk I1),fun h' a mx=>?_⟩;obtain⟨t,ho,tn,ht'⟩:=mx.there
 have un:Un (frs X.stack) [] H1 H1 s1.heap h':=⟨fun b ob e _ _ _=>mx.keeps b ob e,fun b ob e _ _ _=>⟨ob.slots,mx.keeps b ob e⟩,fun _ _ _ n _=>n,fun b ob e _=>⟨ob,mx.keeps b ob e⟩,fun _ _ e=>e,fun _ _ _ e=>e,fun b pq e=>⟨#[],by rw[e];simp⟩⟩
 have hn:H1 a=none:=by
  cases q:H1 a with
  | none=>rfl
  | some u=>
    obtain⟨ob,e⟩:=Ci (I1.hok a u q);rw[mx.new]at e;cases e
 exact h pins σ H1 s1 I1 (S.mono q1) (ao q1) a H1 { s1 with heap:=h' } false (Fly.of I1 rfl I1.bare un (I1.hok.kept mx.keeps) mx.new hn ⟨_,_,ho,⟨rfl,rfl⟩,rfl,Nat.lt_of_sub_pos (by exact Nat.zero_lt_succ 4),.inl ⟨rfl,rfl⟩⟩) (Same.refl _)
noncomputable abbrev cxT(X:Cx)(pn:List (Addr×Obj))(E:Value->Shared->Prop):Cx:={ X with pn:=pn,xe:=E }
noncomputable abbrev cxM(X:Cx)(pn:List (Addr×Obj))(v:Value):Cx:={ X with A:=X.A.mark (some v),calm:=false,pn:=pn,xe:=fun _ _=>False }
theorem ok_T(ok:X.Ok):(cxT X pn E).Ok:=⟨ok.mod,ok.kind,ok.glob,ok.blt,ok.above,ok.inj,ok.has,ok.cab,ok.hd,ok.frames,ok.stk,ok.exf,ok.bs,ok.bsz,ok.noex,ok.exfs,ok.funs,ok.frf⟩
theorem QZ(ok:(cxT X pn E).Ok):X.Ok:=⟨ok.mod,ok.kind,ok.glob,ok.blt,ok.above,ok.inj,ok.has,ok.cab,ok.hd,ok.frames,ok.stk,ok.exf,ok.bs,ok.bsz,ok.noex,ok.exfs,ok.funs,ok.frf⟩
theorem ok_M(ok:X.Ok):(cxM X pn v).Ok:=⟨ok.mod,ok.kind,ok.glob,ok.blt,ok.above,ok.inj,ok.has,ok.cab,fun z=>(nomatch z),ok.frames,ok.stk,ok.exf,ok.bs,ok.bsz,ok.noex,ok.exfs,ok.funs,ok.frf⟩
section
variable{pins:List (Addr×Obj)}{s:Shared}{E:Value->Shared->Prop}{v:Value}
theorem JH(I:Inv X pins σ H s):Inv (cxT X (X.pn++pins) E) [] σ H s:=⟨ok_T I.ok,I.os,I.bare,I.base,I.loc,I.cell,I.free,I.freeC,fun p hp=>I.pin p (by simpa using hp),I.hok,I.len⟩
theorem gP(I:Inv (cxT X (X.pn++pins) E) ps σ H s):Inv X pins σ H s:=⟨QZ I.ok,I.os,I.bare,I.base,I.loc,I.cell,I.free,I.freeC,fun p hp=>I.pin p (U5 _ hp),I.hok,I.len⟩
theorem Nr(I:Inv X pins σ H s):Inv (cxM X (X.pn++pins) v) [] σ H s:=⟨ok_M I.ok,I.os,I.bare,I.base,I.loc,I.cell,I.free,I.freeC,fun p hp=>I.pin p (by simpa using hp),I.hok,I.len⟩
theorem rK(ok:X.Ok)(I:Inv (cxM X (X.pn++pins) v) [] σ H s):Inv X pins σ H s:=⟨ok,I.os,I.bare,I.base,I.loc,I.cell,I.free,I.freeC,fun p hp=>I.pin p (by simpa using hp),I.hok,I.len⟩
end
theorem SR.re(S:SR X W me B H σ δ)(hk:Y.K=X.K)(h0:Y.H₀=X.H₀):SR Y W me B H σ δ:=⟨by rw[hk];exact S.kf,S.len,S.sh,by rw[h0];exact S.ow,S.mi,S.apart,by rw[h0];exact S.same,S.soft,S.gone,S.live⟩
theorem Fly.re(F:Fly X H s cls a H' s' tr)(h1:Y.stack=X.stack)(h2:Y.prog=X.prog)(h3:Y.w=X.w)(h4:Y.base=X.base):Fly Y H s cls a H' s' tr :=
 ⟨F.os,F.bare,by rw[h1];exact F.un,by rw[h2,h3];exact F.hok,F.newE,F.freeE,by rw[h1,h4];exact F.ff,by rw[h1];exact F.fr,F.exc⟩
theorem Fly.here(I:Inv X pins σ H s)(F:Fly X H s cls a H' s' tr):Inv X pins σ H' s':=I.call' F.os F.un F.hok F.bare (fun b z=>absurd z (by simp))
end
end Z
namespace Z
open PySem PySem.Spec PyProof.Rows L2
section
variable{X:Cx}{W:Wd}{o:Orc}{me:Option Addr}{B:Addr->Prop}{H:Hp}{σ:L2.St}{δ:Dst}
theorem Hi{body:List Stmt}{cx:Str}{st:Stmt}{b:SL}{su:S}{c:Nat}{np hpos pos:Pos}(hnx:∀δ c δ',evS o su δ≠.ex c δ')
 (hst:X.stack=X.env::X.outer) (hfr:X.env.frame=some X.env.locals) (hg:Gl X cx) (hm:X.mg cx=some (.ref (W.CT c))) (hdb:(cx==("__debug__":Str))=false)
 (hx:∀c',o.sub c' c=true->∃bP bC,xIn X.K (W.CT c)=some bP/\xIn X.K (W.CT c')=some bC/\(Value.ref (W.CT c')::bC).contains (.ref (W.CT c))=true)
 (hb:∀pn E,Vt (Rt X.prog X.w) X.A X.env E->PSs (cxT X pn E) body (tS (cxT X pn E) W (evSs o b))) (hs:∀pn v,PS (cxM X pn v) st (tS (cxM X pn v) W (evS o su))) :
 PS X (.Try body [.ExceptHandler (some (.Name cx np)) none [st] hpos] [] [] pos) (tS X W (evS o (.try_ b c none (.cons su .nil)))):=by
 intro pins s σ H D I ⟨me,B,δ,S,h⟩
 have hX:Top X X.env.locals:=⟨hst,hfr,I.ok.frames⟩
 refine wpAny_Try_except ?_
 have S0:∀{E:Value->Shared->Prop},SR (cxT X (X.pn++pins) E) W me B H σ δ:=fun{E}=>S.re rfl rfl
 have thru:∀(r:SO),evSs o b δ=r->(∀c δ',r≠.ex c δ')->AfterS X W me B (vis H (Hid B σ δ)) r D->Rn (Rt X.prog X.w) X.A (execs body X.env) (fun f s₁=>match f with | .next=>Rn (Rt X.prog X.w) X.A (execs [] X.env) (SP X pins D) X.xe s₁ | f=>SP X pins D f s₁) (fun e s₁=>Rn (Rt X.prog X.w) X.A (Xk e X.env) (fun _ s₂=>Rn (Rt X.prog X.w) X.A (setFlight e none) (fun _ s₃=>Rn (Rt X.prog X.w) X.A (handleBy e X.env [.ExceptHandler (some (.Name cx np)) none [st] hpos]) (SP X pins D) X.xe s₃) X.xe s₂) X.xe s₁) s:=fun r er hne ha=>by
  refine T8 (hb (X.pn++pins) (fun _ _=>False) Vt.never [] s σ H D (JH I) ⟨me,B,δ,S0,?_⟩) (fun f s1 q=>?_) fun _ _ z=>z.elim
  ·rw[er]
   cases r with
   | nx δ1=>exact fun σ H S z=>ha σ H (S.re rfl rfl) z
   | bk δ1=>exact fun σ H S z=>ha σ H (S.re rfl rfl) z
   | ct δ1=>exact fun σ H S z=>ha σ H (S.re rfl rfl) z
   | rt w d δ1=>exact fun v σ H S z=>ha v σ H (S.re rfl rfl) z
   | ex c δ1=>exact absurd rfl (hne c δ1)
   | stuck=>exact ha
  ·cases f with
   | next=>obtain⟨σ',H',I',q⟩:=q;exact wV pins s1 σ' H' D (gP I') q
   | brk=>obtain⟨σ',H',I',q⟩:=q;exact⟨σ',H',gP I',q⟩
   | cont=>obtain⟨σ',H',I',q⟩:=q;exact⟨σ',H',gP I',q⟩
   | ret u=>obtain⟨v,σ',H',I',r,q⟩:=q;exact⟨v,σ',H',gP I',r,q⟩
 simp only[evS]at h
 cases er:evSs o b δ with
 | nx δ1=>rw[er]at h;exact thru _ er (fun _ _ z=>nomatch z) h
 | bk δ1=>rw[er]at h;exact thru _ er (fun _ _ z=>nomatch z) h
 | ct δ1=>rw[er]at h;exact thru _ er (fun _ _ z=>nomatch z) h
 | rt w d δ1=>rw[er]at h;exact thru _ er (fun _ _ z=>nomatch z) h
 | stuck=>rw[er]at h;exact h.elim
 | ex c' δ1=>
   rw[er]at h;simp only at h;split at h
   case isFalse=>exact h.elim
   case isTrue hsub=>
   obtain⟨bP,bC,xP,xC,hcon⟩:=hx c' hsub
   let XT:Value->Shared->Prop:=fun e s1=>∃σ1 H1 s0 a H' tr,e=.ref a/\Inv X pins σ1 H1 s0/\SR X W me B H1 σ1 δ1/\Same (vis H (Hid B σ δ)) (vis H1 (Hid B σ1 δ1))/\Fly X H1 s0 (.ref (W.CT c')) a H' s1 tr/\Same H1 H'
   have hpass:Vt (Rt X.prog X.w) X.A X.env XT:=nu hX fun e s1 ⟨σ1,H1,s0,a,H',tr,z,i1,i2,i3,i4,i5⟩=>⟨H1,s0,_,a,H',tr,z,i4,fun h' F'=>⟨σ1,H1,s0,a,H',true,z,i1,i2,i3,F',i5⟩⟩
   refine T8 (hb (X.pn++pins) XT hpass [] s σ H { D with nx:=fun _ _=>False } (JH I) ⟨me,B,δ,S0,?_⟩) (fun f s1 q=>?_) fun e s1 ⟨σ1,H1,s0,a,H',tr,z,I1,S1,sm1,F1,sm2⟩=>?_
   ·rw[er]
    exact fun ps σ1 H1 s0 I1 S1 sm a H' s' tr F sm'=>⟨σ1,H1,s0,a,H',tr,rfl,gP I1,S1.re rfl rfl,sm,F.re rfl rfl rfl rfl,sm'⟩
   ·cases f with
    | next=>obtain⟨σ',H',I',q⟩:=q;exact q.elim
    | brk=>obtain⟨σ',H',I',q⟩:=q;exact⟨σ',H',gP I',q⟩
    | cont=>obtain⟨σ',H',I',q⟩:=q;exact⟨σ',H',gP I',q⟩
    | ret u=>obtain⟨v,σ',H',I',r,q⟩:=q;exact⟨v,σ',H',gP I',r,q⟩
   subst z
   refine pD hX F1 fun h2 F2=>fL F2 fun h3 F3=>?_
   have J3:=F3.here I1;refine wpAny_handleBy_cons (codeAny_handlers_test ?_) (by intro q;cases q);refine eX (X:=cxM X (X.pn++pins) (.ref a)) (Nr J3) hg hm ?_ hdb;obtain⟨oe,vs,y1,y2,y3,_⟩:=F3.exc;refine wQ (oW J3.kIn xP) (oW J3.kIn xC) y1 y2.1 hcon ?_;refine codeAny_handlers_suite ?_
   refine fL (X:=cxM X (X.pn++pins) (.ref a)) (F3.re rfl rfl rfl rfl) fun h4 F4=>?_
   have F4':Fly X H1 s0 (.ref (W.CT c')) a H' { s1 with heap:=h4 } true:=F4.re rfl rfl rfl rfl;have J4:=F4'.here I1;have run:=vf (hs (X.pn++pins) (.ref a)) (Eg (X:=cxM X (X.pn++pins) (.ref a)) (W:=W) o);have h':=AfterS.mono h (sm1.trans (ao sm2))
   refine T8 (run [] _ σ1 H' D (Nr J4) ⟨me,B,δ1,(S1.mono sm2).re rfl rfl,?_⟩) (fun f s7 q=>?_) fun _ _ z=>RC z
   ·cases e3:evSs o (.cons su .nil) δ1 with
    | nx δ3=>rw[e3]at h';exact fun σ H S z=>h' σ H (S.re rfl rfl) z
    | bk δ3=>rw[e3]at h';exact fun σ H S z=>h' σ H (S.re rfl rfl) z
    | ct δ3=>rw[e3]at h';exact fun σ H S z=>h' σ H (S.re rfl rfl) z
    | rt w d δ3=>rw[e3]at h';exact fun v σ H S z=>h' v σ H (S.re rfl rfl) z
    | stuck=>rw[e3]at h';exact h'.elim
    | ex c2 δ3=>
      simp only[evSs]at e3
      cases e4:evS o su δ1 with
      | ex c3 δ4=>exact absurd e4 (hnx _ _ _)
      | nx _=>rw[e4]at e3;cases e3
      | bk _=>rw[e4]at e3;cases e3
      | ct _=>rw[e4]at e3;cases e3
      | rt _ _ _=>rw[e4]at e3;cases e3
      | stuck=>rw[e4]at e3;cases e3
   ·cases f with
    | next=>obtain⟨σ',H',I',q⟩:=q;exact⟨σ',H',rK I.ok I',q⟩
    | brk=>obtain⟨σ',H',I',q⟩:=q;exact⟨σ',H',rK I.ok I',q⟩
    | cont=>obtain⟨σ',H',I',q⟩:=q;exact⟨σ',H',rK I.ok I',q⟩
    | ret u=>obtain⟨v,σ',H',I',r,q⟩:=q;exact⟨v,σ',H',rK I.ok I',r,q⟩
end
end Z
namespace Z
open PySem PySem.Spec PyProof.Rows L2 PySem.W
structure XK1(K:Frag)(D:Addr):Prop where
 ga:findIn K (.ref D) "__getattribute__"=some (some (.builtin "BaseException.__getattribute__"))
 gt:findIn K (.ref D) "__getattr__"=some none
 fo:findObj K D none "__class__"=some (.bind (.builtin "getset_descriptor.__get__") (.builtin "object.__class__"))
 mo:mroIn K D (.type "object")=some true
 mb:mroIn K D (.type "BaseException")=some true
 cl:(clsIn K D).isSome=true
section
variable{prog:Rz}{w:RT}{A:RV}{E:Value->Shared->Prop}{s:Shared}{K:Frag}{x D:Addr}{ox:Obj}
noncomputable def xNot(K:Frag)(D C:Addr):Bool:=decide (D≠C)&&(clsIn K C).isSome&&typeIn K (.ref C)==some (.type "type")&&subIn K (.ref D) (.ref C)==some false
end
end Z
namespace Z
open PySem PySem.Spec PyProof.Rows L2
structure XFacts(K:Ra)(mg:Str->Option Value)(W:Wd)(sub:Nat->Nat->Bool)(cl:Str->Option Nat):Prop where
 gc:∀x c,cl x=some c->mg x=some (.ref (W.CT c))/\∃bm,xIn K (W.CT c)=some bm
 gx:∀c,sub c c=true->XK1 K (W.CT c)/\PySem.W.subIn K (.ref (W.CT c)) (.type "ValueError")=some true
 gp:∀x c c',cl x=some c'->sub c c=true->(if sub c c' then Uy K (.ref (W.CT c)) (W.CT c')else xNot K (W.CT c) (W.CT c'))=true
 gh:∀x c c',cl x=some c'->sub c c'=true->∃bC,xIn K (W.CT c)=some bC/\(Value.ref (W.CT c)::bC).contains (.ref (W.CT c'))=true
section
variable{X:Cx}{W:Wd}{lk:Bool}{o:Orc}{a:Expr}{fa:Dst->R (Bool×D)}{p pos:Pos}
theorem MK(hl:cs.length<=1000)(ha:∀lk,PE X a (tD X W lk fun δ=>ev o δ lk ta)) :
 PE X (.JoinedStr [.FormattedValue a (-1) none p1,.Constant (.str cs) k p2] pos) (tD X W lk fun δ=>ev o δ lk (.fstr (.cons ta (.cons (.cst (.str cs.cps.toList)) .nil)))):=by
 intro pins s σ H Q I h;obtain⟨me,B,δ,S,h⟩:=tD_iff.mp h
 have e0:ev o δ lk (.fstr (.cons ta (.cons (.cst (.str cs.cps.toList)) .nil)))=(ev o δ (aM δ ta) ta).bind fun x=>.of ((pR [x.2,.str cs.cps.toList]).bind fun t=>if size t.length then some (false,.str t)else none):=by
  have hc:aM δ (XD (.str cs.cps.toList))=false:=rfl;rw[ev,evL,evL,evL,hc];cases ev o δ (aM δ ta) ta<;>rfl
 rw[e0]at h
 cases e1:ev o δ (aM δ ta) ta with
 | stuck=>rw[e1]at h;exact h.elim
 | exc c=>rw[e1]at h;exact h.elim
 | ok r=>
 rw[e1]at h;have h:After X W lk σ H (Hid B σ δ) (.of ((pR [r.2,.str cs.cps.toList]).bind fun t=>if size t.length then some (false,.str t)else none)) Q:=h
 cases e2:r.2 with
 | str x=>
   rw[e2]at h;simp only[pR,RJ,Rq,Sg]at h
   cases e3:size (x++cs.cps.toList).length with
   | false=>rw[e3]at h;exact h.elim
   | true=>
   rw[e3]at h;have hz:(x++cs.cps.toList).length<=16777216:=of_decide_eq_true e3;have h:∀v H',Same H H'->Res W (Hid B σ δ) lk H H' false (.str (x++cs.cps.toList)) v->Q v H':=h
   have ht:tD X W (aM δ ta) (fun δ'=>ev o δ' (aM δ ta) ta) σ H fun v H1=>v=.str (strV x)/\Same H H1:=tD_iff.mpr ⟨me,B,δ,S,by
    show After X W (aM δ ta) σ H (Hid B σ δ) (ev o δ (aM δ ta) ta) _;rw[e1];intro v H1 z q;have q':=q.look;rw[e2]at q'
    exact⟨(bu q').1,z⟩⟩
   refine JoinedStr_many (joinParts_cons (FormattedValue_plain (thn (ha (aM δ ta) pins s σ H _ I ht) fun v s1 ⟨y,H1,I1,r1,q1,q2⟩=>?_)));subst q1;obtain⟨t,rfl⟩:=r1
   have l1:(strV x).length<=sizeLine:=by
    rw[T9];simp only[strV,Str.length,Ru];simp only[Rx]at hz;omega
   have hz2:x.length+cs.cps.size<=16777216:=by simpa using hz
   have s1':(Str.empty++strV x).length<=sizeLine:=by rw[strLen_append];simp only[Str.empty,Str.length,strV,T9,Array.size_empty,Ru,Sy];omega
   have s2':(Str.empty++strV x++cs).length<=sizeLine:=by rw[strLen_append,strLen_append];simp only[Str.empty,Str.length,strV,T9,Array.size_empty,Ru,Sy];omega
   have eo:Str.empty++strV x++cs=strV (x++cs.cps.toList):=by
    have e:(#[]++x.toArray)++cs.cps=(x++cs.cps.toList).toArray:=by simp
    exact congrArg Str.mk e
   refine formatField_str (fun t' tk=>⟨s1',joinParts_cons (Calls.Constant_str ⟨s2',joinParts_nil ?_ s2'⟩)⟩) l1;refine⟨.str (Str.empty++strV x++cs),H1,I1.tok _,⟨_,rfl⟩,h _ H1 q2 (.shared ?_)⟩;simp only[Rep];exact⟨by rw[eo],hz⟩
 | _=>rw[e2]at h;simp only[pR,Option.bind_none,XR]at h;exact h.elim
end
end Z
namespace Z
open PySem PySem.Spec PyProof.Rows L2
section
variable{X:Cx}{W:Wd}{lk:Bool}{o:Orc}{a:Expr}{fa:Dst->R (Bool×D)}{p pos:Pos}
theorem zA:CallR X (.builtin "isinstance") (fun xs H Q=>∃ad C dx fs C',xs=[.ref ad,.ref C']/\H ad=some (.ins C dx fs)/\Uy X.K (.ref C) C'=true/\Q (.bl true) H):=by
 intro pins s σ H xs us Q I r h;obtain⟨ad,C,dx,fs,C',rfl,h1,h2,q⟩:=h;obtain⟨u1,u2,rfl,r1,r2⟩:=vals2 r;cases r1;cases r2;obtain⟨_,_,_,e,_⟩:=I.hok ad _ h1;refine PySem.W.isi_call (t:=.ref C) I.kIn (fun M=>?_) h2 (by intro z;cases z) ⟨.bl true,H,I,rfl,q⟩;exact(PySem.W.Looks.ld e).andThen .now
theorem FN(hm2:X.mg cn=some (.ref (W.CT c')))(hin:∀c,o.sub c c'=true->Uy X.K (.ref (W.CT c)) (W.CT c')=true)(hg:Gl X "isinstance")(hm:X.mg "isinstance"=none)(hg2:Gl X cn)(hd2:(cn==("__debug__":Str))=false)
 (ha:PE X a (tD X W true fa)) (he:Rj [a,.Name cn p2] X.env=(false,Sv a X.env)::Rj [.Name cn p2] X.env) :
 PE X (.Call (.Name "isinstance" p) [a,.Name cn p2] [] pos) (tD X W lk fun δ=>(fa δ).bind fun x=>XR ((isD o (.ocl c') x.2).map fun t=>(false,.bl t))):=by
 refine PE.imp (g8 zA hg hm PyProof.Rows.boot_isinstance (bD ha (bD (yz (v:=.ref (W.CT c')) hg2 hm2 rfl hd2) cP) he) (by decide) (by decide) he rfl) fun σ H Q h=>?_
 obtain⟨me,B,δ,S,h⟩:=tD_iff.mp h
 refine tD.mono (part S h) fun v H1 ⟨r1,e1,S1,s1,t1,_,h1⟩=>?_
 cases e3:r1.2 with
 | obj c ns vs=>
   rw[e3]at h1 t1
   cases e4:o.sub c c' with
   | false=>
     simp only[isD,e4,Bool.false_eq_true,if_false,Option.map_none,XR]at h1;exact h1.elim
   | true=>
     simp only[isD,e4,if_true,RJ,XR]at h1;obtain⟨ad,dx,fs,rfl,z1,_,_⟩:=t1;exact⟨ad,W.CT c,dx,fs,W.CT c',rfl,z1,hin c e4,h1 _ H1 (Same.refl _) cj⟩
 | _=>rw[e3]at h1;exact h1.elim
end
end Z
namespace L2
open PySem PySem.Spec PyProof.Rows
section
variable{X:Cx}
theorem jU{ys:List Bool}:∀{us:List Value},Vals (ys.map V.bl) us->us=ys.map Value.bool:=by
 induction ys with
 | nil=>intro us h;cases h;rfl
 | cons y ys ih=>
   intro us h;rw[R8]at h
   cases h with
   | cons r t=>cases r;rw[ih t];rfl
theorem old_kept{s:Shared}{h':Rk}{ob:Obj}(hk:∀b x,b∉[s.heap.objs.size]->(s.heap.push ob).get? b=some x->h'.get? b=some x):∀b x,s.heap.get? b=some x->h'.get? b=some x :=
 fun b x e=>hk b x (fun z=>absurd (Ro e) (by rw[Vh.mp z];exact Nat.lt_irrefl _)) (R7 _ e)
theorem wU(hc:X.calm=true):CallR X (.builtin "all") (fun xs H Q=>∃(c:Addr) (bs:List Bool),xs=[.ref c]/\SqL X.K H c (bs.map V.bl)/\Q (.bl (bs.all id)) H):=by
 intro pins s σ H xs us Q I r h;obtain⟨c,bs,rfl,hq,q⟩:=h;obtain⟨u,rfl,rx⟩:=vals1 r;cases rx;obtain⟨its,rv,pl,hz⟩:=I.list hq;have eits:=jU rv;subst eits;have hl:s.heap.IsList c (bs.map Value.bool).toArray:=pl.isList
 have hlt:c<s.heap.objs.size:=by obtain⟨_,e,_⟩:=hl;exact Ro e
 refine call_all_walk (Vw hl ?_)
 refine⟨s.heap.objs.size,[s.heap.objs.size,c],[s.heap.objs.size],(bs.map Value.bool).toArray.size,_,_,fun i=>(bs[i]?).getD true,rfl,Walks.list (A:=X.A.in1) (I.ok.hd hc) _ c (Nat.ne_of_lt hlt) _,
  ⟨⟨_,Rp _ rfl,rfl,rfl⟩,hl.push _⟩,fun i v s' Q' E' hP hQ=>?_,fun h' tk hk=>?_⟩
 ·have hP:(bs.map Value.bool)[i]?=some v:=by simpa using hP
  rw[RK]at hP
  cases e:bs[i]? with
  | none=>rw[e]at hP;cases hP
  | some b=>
    rw[e]at hP;cases hP;simp only[e,Ug]at hQ;exact Ue hQ
 ·have e:((RG (bs.map Value.bool).toArray.size).all fun i=>(bs[i]?).getD true)=bs.all id:=by
   rw[Ru,Rw,Bool.eq_iff_iff,S8,S8]
   constructor
   ·intro h b hb
    obtain⟨i,hi,rfl⟩:=Uv hb;have:=h i (Tw.mpr hi);simpa[Rm hi]using this
   ·intro h i hi
    have hi:=Tw.mp hi;simpa[Rm hi]using h _ (Uh hi)
  rw[e];exact⟨.bl (bs.all id),H,I.kept (old_kept hk),rfl,q⟩
theorem yf(hc:X.calm=true):CallR X (.builtin "any") (fun xs H Q=>∃(c:Addr) (bs:List Bool),xs=[.ref c]/\SqL X.K H c (bs.map V.bl)/\Q (.bl (bs.any id)) H):=by
 intro pins s σ H xs us Q I r h;obtain⟨c,bs,rfl,hq,q⟩:=h;obtain⟨u,rfl,rx⟩:=vals1 r;cases rx;obtain⟨its,rv,pl,hz⟩:=I.list hq;have eits:=jU rv;subst eits;have hl:s.heap.IsList c (bs.map Value.bool).toArray:=pl.isList
 have hlt:c<s.heap.objs.size:=by obtain⟨_,e,_⟩:=hl;exact Ro e
 refine call_any_walk (Vw hl ?_)
 refine⟨s.heap.objs.size,[s.heap.objs.size,c],[s.heap.objs.size],(bs.map Value.bool).toArray.size,_,_,fun i=>(bs[i]?).getD false,rfl,Walks.list (A:=X.A.in1) (I.ok.hd hc) _ c (Nat.ne_of_lt hlt) _,
  ⟨⟨_,Rp _ rfl,rfl,rfl⟩,hl.push _⟩,fun i v s' Q' E' hP hQ=>?_,fun h' tk hk=>?_⟩
 ·have hP:(bs.map Value.bool)[i]?=some v:=by simpa using hP
  rw[RK]at hP
  cases e:bs[i]? with
  | none=>rw[e]at hP;cases hP
  | some b=>
    rw[e]at hP;cases hP;simp only[e,Ug]at hQ;exact Ue hQ
 ·have e:((RG (bs.map Value.bool).toArray.size).any fun i=>(bs[i]?).getD false)=bs.any id:=by
   rw[Ru,Rw,Bool.eq_iff_iff,List.any_eq_true,List.any_eq_true]
   constructor
   ·rintro⟨i,hi,h⟩
    have hi:=Tw.mp hi;exact⟨bs[i],Uh hi,by simpa[Rm hi]using h⟩
   ·rintro⟨b,hb,h⟩
    obtain⟨i,hi,rfl⟩:=Uv hb;exact⟨i,Tw.mpr hi,by simpa[Rm hi]using h⟩
  rw[e];exact⟨.bl (bs.any id),H,I.kept (old_kept hk),rfl,q⟩
theorem qx:CallR X (.type "dict") (fun xs H Q=>∃(c:Addr) (kvs:List (Key×V)),xs=[.ref c]/\(∃ep,H c=some (.dK kvs ep))/\∀l ep,H l=none->Q (.ref l) (upd H l (.dK kvs ep))):=by
 intro pins s σ H xs us Q I r h;obtain⟨c,kvs,rfl,hq,q⟩:=h;obtain⟨u,rfl,rx⟩:=vals1 r;cases rx
 exact zK I (hq.imp fun _ z=>.inl z) fun l ep s' hl I'=>⟨.ref l,_,I',rfl,q l ep hl⟩
section
variable{prog:Rz}{w:RT}{A:RV}{E:Value->Shared->Prop}{s:Shared}
theorem qH{T:String}{r d:Addr}{n:Nat}{P:Nat->Value->Prop}{OK:Rk->Prop}{Q:List Value->Shared->Prop}(K:PySem.W.KdlSrc prog w T r d n P OK)(hh:A.handled=none)(hok:OK s.heap)(hn:n<=sizeLine)
 (h:∀h' tk acc,(∀b o,s.heap.get? b=some o->h'.get? b=some o)->ItemsOf P acc n->Q acc.toList { s with heap:=h',toks:=tk }):Rn (Rt prog w) A (Xq (.ref r)) Q E s:=by
 have hlt:=K.there _ hok;unfold Xq;refine R6 (wpAny_runValue (Th PySem.F.entry_proto_collect ?_));rw[SJ PySem.F.plain_proto_collect _];show Rn _ A.in1 (newList [] >>= fun acc=>again (.builtin "list.__iadd__" ⟨[acc,.ref r],[]⟩)) _ _ s;refine R6 (Ut ?_);refine Rc ⟨Ul Vc _,Th PySem.F.entry_list_iadd ?_⟩;rw[SJ Vc _];show Rn _ A.in1 (Sw.List.listExtendWith (.ref s.heap.objs.size) (.ref r) (.ref s.heap.objs.size)) _ _ _;have hS0:(s.heap.push { cls:=.type "list",data:=.seq ([]:List Value).toArray }).get? s.heap.objs.size=some { cls:=.type "list",data:=.seq #[] 0 }:=Rp _ rfl
 have hok0:OK (s.heap.push { cls:=.type "list",data:=.seq ([]:List Value).toArray }):=K.keep _ _ hok fun b _ o e=>R7 _ e
 have fin:∀r' s',(∃h' tk acc c',r'=WN (Flow.ret (.ref s.heap.objs.size))/\s'=({ s with heap:=h',toks:=tk }:Shared)/\(∀b o,s.heap.get? b=some o->h'.get? b=some o)/\h'.get? s.heap.objs.size=some { cls:=.type "list",dict:=none,data:=.seq acc c',slots:=#[] }/\ItemsOf P acc n) ->
  (match r' with
   | WN (Flow.ret v)=>Rn (Rt prog w) A (match v with
     | Value.ref a=>(do
       let ob <-load a
       match ob.data with
       | Wt.seq xs _=>pure xs.toList
       | _=>Uu "internal:collect")
     | _=>Uu "internal:collect") Q E s'
   | WN _=>False
   | Except.error e=>E e s'):=by
  rintro r' s' ⟨h',tk,acc,c',rfl,rfl,hk,hS,hacc⟩
  show Rn _ A (load s.heap.objs.size >>= _) _ _ _;refine R6 (wpAny_load hS ?_);exact Rc (h h' tk acc hk hacc)
 refine T8 (PySem.W.kdl_extend (A:=A) (s:={ s with heap:=s.heap.push { cls:=.type "list",data:=.seq ([]:List Value).toArray } }) (R:=fun r' s'=>∃h' tk acc c',r'=WN (Flow.ret (.ref s.heap.objs.size))/\s'=({ s with heap:=h',toks:=tk }:Shared)/\(∀b o,s.heap.get? b=some o->h'.get? b=some o)/\h'.get? s.heap.objs.size=some { cls:=.type "list",dict:=none,data:=.seq acc c',slots:=#[] }/\ItemsOf P acc n)
  K hh hok0 s.heap.objs.size (Nat.ne_of_gt hlt.1) (Nat.ne_of_gt hlt.2) (.ref s.heap.objs.size) 0 hS0 (fun h' tk acc c' hk hS hacc=>⟨h',tk,acc,c',rfl,rfl,fun b o e=>hk b o (Nat.ne_of_lt (Ro e)) (R7 _ e),hS,hacc⟩) hn) (fun f s' hf=>?_) fun e s' he=>?_
 ·cases f with
  | done f=>exact fin _ _ hf
  | again c'=>exact⟨hf.1,Uj hf.2 fun r' s' q=>fin r' s' q⟩
 ·obtain⟨_,_,_,_,z,_⟩:=he
  cases z
theorem sorted_by(hO:κ.OneLt)
 (hc:∀E',Rn (Rt prog w) A.in1 (Xq x) (fun vs s1=>KeysOf κ (Xb vs)/\(∀v₁ v₂ rest,vs=v₁::v₂::rest->keyKind' (v₁::v₂::rest).toArray=pure oneType')/\vs.length<64 /\
  ∀(h':Rk) (st:SortSt),(∀b o,s1.heap.get? b=some o->h'.get? b=some o)->(Xn st).Perm (Xb vs)->SortedToK κ (Xn st) (Xb vs).size->(∃e,h'.get? s1.heap.objs.size=some (WR "list" ((Xn st).map (·.2)) e)) ->
   Q (.ref s1.heap.objs.size) { s1 with heap:=h' }) E' s):Rn (Rt prog w) A (call (.builtin "sorted") [x]) Q E s:=by
 refine Calls.call_function_entry kind_sorted plain_sorted entry_sorted (args_sorted1 _) ?_;unfold Sw.«sorted»;refine R6 (m:=checkCount "sorted" 1 1 _) (Rc ?_);refine R6 (T8 (hc _) (fun vs s1 h1=>?_) fun _ _ e=>e);obtain⟨h0,hkk,h64,hQ⟩:=h1;refine R6 (wpAny_newList ?_);have hoL:(s1.heap.push (WR "list" vs.toArray 0)).get? s1.heap.objs.size=some (WR "list" vs.toArray 0):=Rp _ rfl;refine R6 (U6 (VH slot_list_sort ⟨_,hoL,rfl⟩ entry_list_sort (list_sort_treeK hO hoL h0 hkk h64 fun st' a1 a2=>⟨_,rfl,?_⟩) (args_list_sort _)));refine Rc ⟨_,rfl,hQ _ st' (fun b o e=>?_) a1 a2 (sortedHeap_at hoL)⟩;have hlt:=Ro e;rw[sortedHeap_old (Nat.ne_of_lt hlt) (by rw[size_push'];exact Nat.lt_succ_of_lt hlt)];exact R7 _ e
end
theorem jb:∀{ss:List Str} {its:List Value},Vals (ss.map V.str) its->Xu its ss
 | [],its,h=>by cases h;exact .nil
 | x::ss,its,h=>by
   rw[R8]at h
   cases h with
   | cons r t=>
     obtain⟨tk,rfl⟩:=r;exact .cons x tk (jb t)
theorem iJ:∀{ss:List Str} {its:List Value},Xu its ss->Vals (ss.map V.str) its
 | _,_,.nil=>.nil
 | _,_,.cons x tk t=>by rw[R8];exact .cons ⟨tk,rfl⟩ (iJ t)
theorem v8{vs:List (Key×Value)}:∀{ss:List Str} {its:List Value},vs.map (·.1)=ss.map Vq->its.length=vs.length->(∀(i:Nat) v,its[i]?=some v->∃k x,vs[i]?=some (k,x)/\mQ k v=true)->Xu its ss:=by
 induction vs with
 | nil=>
   intro ss its e hl h
   cases ss with
   | nil=>
     have:its=[]:=UL hl;subst this;exact .nil
   | cons _ _=>simp at e
 | cons q vs ih=>
   intro ss its e hl h
   cases ss with
   | nil=>simp at e
   | cons x ss=>
     cases its with
     | nil=>simp at hl
     | cons v its=>
       simp only[R8,Tq]at e;obtain⟨k,y,e1,e2⟩:=h 0 v rfl;simp at e1
       have e3:k=Vq x:=by rw[<-e.1,e1]
       rw[e3]at e2;rcases aY e2 with⟨i,t,z,_⟩ | ⟨x',t,z,rfl⟩
       ·cases z
       ·cases z
        exact .cons x t (ih e.2 (by simpa using hl) fun i u hu=>by simpa using h (i+1) u (by simpa using hu))
theorem oR(hc:X.calm=true):CallR X (.builtin "sorted") (fun xs H Q=>∃(c:Addr) (ss:List Str),xs=[.ref c]/\(SqL X.K H c (ss.map V.str)\/∃kvs:List (Key×V),(∃ep,H c=some (.dK kvs ep))/\kvs.map (·.1)=ss.map Vq)/\ss.length<64 /\
 ∀(l:Addr) (ss':List Str),ss'.Perm ss->UT ss'=true->H l=none->Q (.ref l) (upd H l (.lst (ss'.map V.str)))):=by
 intro pins s σ H xs us Q I r h;obtain⟨c,ss,rfl,hq,h64,q⟩:=h;obtain⟨u,rfl,rx⟩:=vals1 r;cases rx
 have key:∀(vs:List Value) (s1:Shared),Inv X pins σ H s1->Xu vs ss->vs.length=ss.length->KeysOf PyProof.Rows.strKind (Xb vs)/\(∀v₁ v₂ rest,vs=v₁::v₂::rest->keyKind' (v₁::v₂::rest).toArray=pure oneType')/\vs.length<64 /\
  ∀(h':Rk) (st:SortSt),(∀b o,s1.heap.get? b=some o->h'.get? b=some o)->(Xn st).Perm (Xb vs)->SortedToK PyProof.Rows.strKind (Xn st) (Xb vs).size->(∃e,h'.get? s1.heap.objs.size=some (WR "list" ((Xn st).map (·.2)) e)) ->
   EP X pins σ Q (.ref s1.heap.objs.size) { s1 with heap:=h' }:=fun vs s1 I1 hS hlen=>by
  refine⟨hS.keysOf,fun v₁ v₂ rest e=>keyKind_strs (by rw[<-e];exact hS),by omega,fun h' st hk hp hs ho=>?_⟩;obtain⟨ss',a1,a2,a3⟩:=sorted_out_str hS hp hs;obtain⟨e,ho⟩:=ho;have hl:=a2.length_eq;refine⟨.ref s1.heap.objs.size,_,I1.laid (a:=s1.heap.objs.size) (o:=.lst (ss'.map V.str)) (t':=s1.toks) hk (Nat.le_refl _) ?_,rfl,q _ ss' a2 a3 I1.fresh⟩;refine⟨by rw[Rw,T9];omega,((Xn st).map (·.2)).toList,e,iJ a1,?_⟩;rw[ho]
 refine sorted_by PyProof.Rows.strKind_oneLt fun E'=>?_
 rcases hq with hq | ⟨kvs,hd,hks⟩
 ·obtain⟨its,rv,pl,hz⟩:=I.list hq
  have hS:=jb rv
  have hlen:its.length=ss.length:=by have:=rv.length;rw[Rw]at this;omega
  refine collect_list (vs:=its) pl.isList ?_ (by rw[hlen,T9];omega);refine key its _ (I.kept (t':=s.toks) fun b o e=>?_) hS hlen;rw[Te _ _ _ _ (Nat.ne_of_lt (Ro e))];exact R7 _ e
 ·obtain⟨z,lo,vs,rel,dd⟩:=lQ I.hok (hd.imp fun _ z=>.inl z)
  have hkeys:vs.map (·.1)=ss.map Vq:=by rw[<-hks];exact rel.keys.symm
  have hlen:vs.length=ss.length:=by simpa using congrArg T3 hkeys
  obtain⟨ep,dd⟩:=dd.dictAt
  refine qH (A:=X.A.in1) (PySem.W.kdl_dict (knd:=bc X.prog X.w) (kvs:=vs) (ep:=ep) lo) (I.ok.hd hc) dd (by rw[hlen,T9];omega) fun h' tk acc hk hacc=>?_
  have hal:acc.toList.length=vs.length:=by rw[Us];exact hacc.1
  exact key acc.toList _ (I.kept hk) (v8 hkeys hal fun i v e=>hacc.2 i v (by rw[<-Array.getElem?_toList];exact e)) (by omega)
end
end L2
namespace Z
open PySem PySem.Spec PyProof.Rows L2
section
variable{X:Cx}{W:Wd}{lk lk':Bool}{σ:L2.St}{H H1 H':Hp}{me:Option Addr}{B:Addr->Prop}{δ:Dst}{Q Q':VK}{a b c:Expr}{pos p pos' apos cpos:Pos}{o:Orc}{fa fb fc:Dst->R (Bool×D)}
theorem HD{T id:String}{name:Str}{r:V->List V->Hp->VK->Prop}{g:D->D->R (Bool×D)}(pa:PlainAttrs T)(slot:PySem.Slot T name id)(hty:typeOf (.builtin id)=pure (.type "method_descriptor"))(hm:MtR X id r)
 (hs:Sem2 W (fun x y H Q=>r x [y] H Q) g) (hn:fP g) (hk:∀dx,(∀dy,g dx dy=.stuck)\/∀(H G:Hp) (x:V),Same G H->RepT W H G dx x->tyV X.K T x H)
 (ha:PE X a (tD X W true fa)) (hb:PE X b (tD X W true fb)) (hbase:plainBase a=true) (hst:az b=false) (hline:(apos.endLine==cpos.line)=true) :
 PE X (.Call (.Attribute a name apos) [b] [] cpos) (tD X W lk fun δ=>(fa δ).bind fun x=>(fb δ).bind fun y=>g x.2 y.2):=by
 refine PE.imp (Fw pa slot hty hm ha (bD hb cP (bI hst)) (cM hbase) (few1 hst) hline (bI hst) rfl) fun σ H Q h=>?_
 obtain⟨me,B,δ,S,h⟩:=tD_iff.mp h
 refine tD.mono (part S h) fun v H1 ⟨r1,e1,S1,s1,t1,_,h1⟩=>?_
 rcases hk r1.2 with hk | hk
 ·refine absurd h1 fun h1=>?_
  cases e2:fb δ with
  | ok r2=>rw[e2]at h1;simp only[XS,hk]at h1;exact h1.elim
  | exc c=>rw[e2]at h1;exact h1.elim
  | stuck=>rw[e2]at h1;exact h1.elim
 ·refine⟨hk H1 _ v bH t1,?_⟩
  refine tD.mono (part (g:=fun y=>g r1.2 y.2) S1 h1) fun u H2 ⟨r2,e2,S2,s2,t2,_,h2⟩=>?_
  cases e:g r1.2 r2.2 with
  | ok r=>
    rw[e]at h2;exact hs lk (Hid B σ δ) H2 v u r1.2 r2.2 Q r.1 r.2 S2.softH S2.know (t1.mono s2 (ao s2)) t2 e h2
  | exc c=>exact absurd e (hn _ _ _)
  | stuck=>rw[e]at h2;exact h2.elim
theorem fX:∀{l:List D} {x:List (List Nat)} {vs:List V},strsOf l=some x->Reps W G l vs->vs=x.map fun y=>V.str (strV y)
 | [],x,vs,h,r=>by
   simp only[strsOf,Rf]at h;subst h
   cases vs with
   | nil=>rfl
   | cons _ _=>simp only[Reps]at r
 | d::l,x,[],h,r=>by simp only[Reps]at r
 | d::l,x,v::vs,h,r=>by
   cases d with
   | str y=>
     simp only[strsOf]at h
     cases e:strsOf l with
     | none=>rw[e]at h;cases h
     | some x'=>
       rw[e]at h;cases h;simp only[Reps,Rep]at r;rw[r.1.1,fX e r.2]
       rfl
   | _=>simp[strsOf]at h
def rJoin(K:Ra):V->List V->Hp->VK->Prop:=fun x vs H Q=>∃(z:Str) (c:Addr) (ys:List Str),x=.str z/\vs=[.ref c]/\SqL K H c (ys.map V.str)/\(ys.map (·.length)).sum+ys.length*z.length<=16777216/\Q (.str (We z ys)) H
theorem Gh:MtR X "str.join" (rJoin X.K):=by
 intro pins s σ H x vs v us Q I rx rv h;obtain⟨z,c,ys,rfl,rfl,hq,hz,q⟩:=h;obtain⟨t,rfl⟩:=rx;obtain⟨u,rfl,ru⟩:=rv.one;cases ru;obtain⟨its,r,pl,_⟩:=I.list hq
 refine PyProof.Rows.join_list pl.isList (by simpa using jb r) hz fun t' k=>?_
 exact⟨.str (We z ys),H,I.tok k,⟨t',rfl⟩,q⟩
theorem mW(sep:List Nat):∀x:List (List Nat),Str.join (strV sep) (x.map strV)=strV (jw sep x)
 | []=>rfl
 | [_]=>rfl
 | y::z::l=>by
   show strV y++strV sep++Str.join (strV sep) ((z::l).map strV)=_;rw[mW sep (z::l),fD,fD]
   rfl
theorem tW(sep:List Nat)(x:List (List Nat)):We (strV sep) (x.map strV)=strV (jw sep x):=by
 have e0:We (strV sep) (x.map strV)=Str.join (strV sep) (x.map strV):=PySem.StrLaws.glued_eq_join _ _;rw[e0,mW]
theorem nJ(sep:List Nat):∀x:List (List Nat),(jw sep x).length<=(x.map T3).sum+x.length*sep.length
 | []=>by simp[jw]
 | [y]=>by simp[jw]
 | y::z::l=>by
   have:=nJ sep (z::l);simp only[jw,Rx,R8,List.sum_cons,Rv]at this ⊢;rw[Nat.add_mul,Nat.one_mul];omega
theorem zO(hk:W.K=X.K):Sem2 W (fun x y H Q=>rJoin X.K x [y] H Q) (m1D .join):=by
 intro lk P H x y dx dy Q w d hS hK hx hy e k
 cases dx<;>cases dy<;>first | exact nope e | exact fB e | simp only[m1D]at e
 rename_i sep l
 cases e1:strsOf l with
 | none=>rw[e1]at e;cases e
 | some xs=>
   rw[e1]at e;simp only[Rq]at e;split at e
   ·rename_i hz
    cases e;obtain⟨rfl,hl⟩:=bu hx;obtain⟨c,vs,rfl,q1,q2⟩:=hy;have ev:=fX e1 q2;subst ev
    have hz':(xs.map T3).sum+xs.length*sep.length<=16777216:=by simpa[size]using hz
    refine⟨strV sep,c,xs.map strV,rfl,rfl,?_,?_,?_⟩
    ·rw[SM];exact hk▸q1
    ·rw[SM,Rw,iC]
     have:((fun z:Str=>z.length)∘strV)=T3:=funext fun z=>iC z
     rw[this];exact hz'
    ·rw[tW]
     exact k _ H (Same.refl H) (pI (Nat.le_trans (nJ sep xs) hz'))
   ·cases e
theorem uy:fP (m1D .join):=by
 intro x y c;show(match x,y with | .str sep,.lst l=>XR ((strsOf l).bind fun x=>if size ((x.map T3).sum+x.length*sep.length)then some (false,Y0 (jw sep x))else none) | _,_=>R.stuck)≠.exc c;split
 ·exact dZ
 ·intro z;cases z
theorem wK(dx:D):(∀dy,m1D .join dx dy=.stuck)\/∀(H G:Hp) (x:V),Same G H->RepT W H G dx x->tyV X.K "str" x H:=by
 cases dx with
 | str s=>exact .inr fun H G x _ h=>by rw[(bu h).1];rfl
 | _=>exact .inl fun dy=>by simp only[m1D]
theorem Oi(hb:plainBase ob=true)(h1:az e=false)(h2:az f=false)(hl:(apos.endLine==cpos.line)=true):M2 X ob m apos e f cpos:=by
 have e2:Rj [f] X.env=[(false,Sv f X.env)]:=bI h2
 have e1:Rj [e,f] X.env=[(false,Sv e X.env),(false,Sv f X.env)]:=by rw[bI h1,e2]
 refine⟨cM hb,?_,hl,?_⟩
 all_goals(rw[e1];rfl)
theorem lC(h:fu d=true)(r:RepT W H G d x):jD x=true:=by
 cases d with
 | str s=>rw[(bu r).1];rfl
 | non=>simp only[RepT,Rep]at r;subst r;rfl
 | bl b=>simp only[RepT,Rep]at r;subst r;rfl
 | int i=>simp only[RepT,Rep]at r;subst r;rfl
 | _=>simp[fu]at h
theorem zE(h:eqS y x=some t):fu y=true/\fu x=true:=by
 cases y<;>cases x<;>simp[eqS]at h<;>exact⟨rfl,rfl⟩
theorem Jv(h:eqS dy dx=some t)(ry:RepT W H G dy y)(rx:RepT W H G' dx x):eqV y x=t:=by
 cases dy<;>cases dx<;>first | exact nope h | exact fB h | simp only[eqS]at h
 all_goals simp only[Rf]at h
 all_goals (first | (have ry:=(bu ry).1) | (simp only[RepT,Rep]at ry))
 all_goals (first | (have rx:=(bu rx).1) | (simp only[RepT,Rep]at rx))
 all_goals subst ry
 all_goals subst rx
 all_goals (rw[<-h])
 all_goals first
  | rfl
  | simp[eqV]
 all_goals (rw[Bool.eq_iff_iff];simp only[beq_iff_eq,decide_eq_true_eq];exact⟨fun z=>du z,fun z=>by rw[z]⟩)
theorem vQ(rx:RepT W G G' dx x):∀{l:List D} {vs:List V} {t:Bool},inS dx l=some t->Reps W G l vs->vs.all jD=true/\inV x vs=t
 | [],[],t,h,_=>by
   simp only[inS,Rf]at h;subst h;exact⟨rfl,rfl⟩
 | [],_::_,_,_,r=>by simp only[Reps]at r
 | _::_,[],_,_,r=>by simp only[Reps]at r
 | d::l,v::vs,t,h,r=>by
   simp only[Reps]at r;simp only[inS]at h
   cases e1:eqS d dx with
   | none=>rw[e1]at h;cases h
   | some s1=>
     cases e2:inS dx l with
     | none=>rw[e1,e2]at h;cases h
     | some s2=>
       rw[e1,e2]at h;cases h;obtain⟨k1,k2⟩:=vQ rx e2 r.2;have rt:RepT W G G d v:=r.1.top (Same.refl _);refine⟨?_,?_⟩
       ·rw[W7,k1,Bool.and_true]
        exact lC (zE e1).1 rt
       ·show(eqV v x||inV x vs)=_
        rw[k2,Jv e1 rt rx]
theorem tQ(h:fu d=true)(r:RepT W H G d x):RepT W H' G' d x:=by
 cases d with
 | str s=>simpa only[RepT,Rep]using r
 | non=>simpa only[RepT,Rep]using r
 | bl b=>simpa only[RepT,Rep]using r
 | int i=>simpa only[RepT,Rep]using r
 | _=>simp[fu]at h
def lU(neg:Bool)(x y:D):R (Bool×D):=match y with
 | .lst l=>.of ((if fu x then inS x l else none).map fun t=>(false,.bl (if neg then !t else t)))
 | .tup l=>.of ((if fu x then inS x l else none).map fun t=>(false,.bl (if neg then !t else t)))
 | _=>.stuck
theorem uN(neg:Bool)(hk:W.K=X.K):Sem2 W (rIn X.K neg) (lU neg):=by
 intro lk P H x y dx dy Q w d hS hK hx hy e k
 cases dy<;>first | exact nope e | exact fB e | simp only[lU]at e
 ·rename_i l
  by_cases hf:fu dx=true
  ·rw[if_pos hf]at e
   cases e1:inS dx l with
   | none=>rw[e1]at e;cases e
   | some t=>
     rw[e1]at e;cases e;simp only[RepT,Rep]at hy;obtain⟨c,vs,rfl,q1,q2⟩:=hy;obtain⟨k1,k2⟩:=vQ (tQ (G':=H) hf hx) e1 q2;refine⟨c,vs,rfl,.inr (hk▸bx bH q1),lC hf hx,k1,?_⟩;rw[k2];exact k _ H (Same.refl H) cj
  ·rw[if_neg hf]at e;cases e
 ·rename_i l
  by_cases hf:fu dx=true
  ·rw[if_pos hf]at e
   cases e1:inS dx l with
   | none=>rw[e1]at e;cases e
   | some t=>
     rw[e1]at e;cases e;obtain⟨c,vs,rfl,q1,q2⟩:=hy;obtain⟨k1,k2⟩:=vQ (tQ (G':=H) hf hx) e1 q2;refine⟨c,vs,rfl,.inl (hk▸q1),lC hf hx,k1,?_⟩;rw[k2];exact k _ H (Same.refl H) cj
  ·rw[if_neg hf]at e;cases e
theorem fO:∀{ks:List DK} {vs:List D} {x:DK},ks.length=vs.length->((look ks vs x).isSome=decide (x∈ks))
 | [],[],_,_=>by simp[look]
 | [],_::_,_,h=>by simp at h
 | _::_,[],_,h=>by simp at h
 | k::ks,v::vs,x,h=>by
   simp only[look]
   by_cases hk:k=x
   ·subst hk;simp
   ·rw[if_neg hk,fO (by simpa using h)]
    simp[T5 hk]
theorem qz(neg:Bool):fP (lU neg):=by
 intro x y c
 cases y<;>simp only[lU]<;>first | exact dZ | (intro z;cases z)
noncomputable def opIn(neg:Bool):O2:=if neg then .notin else .in
theorem yX(neg:Bool)(x y:D)(h:∀ks vs,y≠.dct ks vs)(h':∀t,y≠.str t):o2 (opIn neg) x y=lU neg x y:=by
 cases neg<;>cases y<;>simp only[opIn,if_true,Bool.false_eq_true,if_false,o2,isIn,lU]<;>first | rfl | (exact absurd rfl (h _ _)) | (exact absurd rfl (h' _)) | skip
def rInS(neg:Bool):R2:=fun x y H Q=>∃i j,x=.str i/\y=.str j/\Q (.bl (if neg then !(!(Uq j i 0 j.length 1).isEmpty)else !(Uq j i 0 j.length 1).isEmpty)) H
theorem lu(neg:Bool)(hk:W.K=X.K)(h:tD X W lk (fun δ=>(fa δ).bind fun x=>(fb δ).bind fun y=>o2 (opIn neg) x.2 y.2) σ H Q) :
 tOp (rIn X.K neg) (tD X W true fa) (tD X W true fb) σ H Q\/(fun σ H Q=>tD X W true fa σ H fun y H1=>tD X W true fb σ H1 fun x H2=>∃a o,x=.ref a/\DGet H2 a y o/\Q (.bl (if neg then !o.isSome else o.isSome)) H2) σ H Q\/tOp (rInS neg) (tD X W true fa) (tD X W true fb) σ H Q:=by
 obtain⟨me,B,δ,S,h⟩:=tD_iff.mp h
 by_cases hs:∃r t,fb δ=.ok r/\r.2=.str t
 ·obtain⟨r,t,e,e2⟩:=hs
  refine .inr (.inr ?_)
  refine tD.mono (part S h) fun v H1 ⟨r1,e1,S1,s1,t1,_,h1⟩=>?_
  refine tD.mono (part (g:=fun y=>o2 (opIn neg) r1.2 y.2) S1 h1) fun u H2 ⟨r2,e3,S2,s2,t2,_,h2⟩=>?_
  have:r2=r:=by rw[e]at e3;cases e3;rfl
  subst this;rw[e2]at t2 h2
  have hc:∃c,r1.2=.str [c]:=by
   cases e4:r1.2 with
   | str z=>
     cases z with
     | nil=>rw[e4]at h2;cases neg<;>exact h2.elim
     | cons c z=>
       cases z with
       | nil=>exact⟨c,rfl⟩
       | cons _ _=>rw[e4]at h2;cases neg<;>exact h2.elim
   | _=>rw[e4]at h2;cases neg<;>exact h2.elim
  obtain⟨c,e4⟩:=hc;rw[e4]at h2;have t1:=t1.mono s2 (ao s2);rw[e4]at t1;simp only[RepT,Rep]at t1 t2;refine⟨strV [c],strV t,t1.1,t2.1,?_⟩
  have ef:(!(Uq (strV t) (strV [c]) 0 (strV t).length 1).isEmpty)=decide (c∈t):=by
   rw[show strV [c]=⟨#[c]⟩from rfl,PySem.StrLaws.found_one];rfl
  rw[ef]
  have h2:After X W lk σ H2 (Hid B σ δ) (.ok (false,.bl (if neg then !decide (c∈t)else decide (c∈t)))) Q:=by
   cases neg<;>exact h2
  exact h2 _ H2 (Same.refl _) cj
 by_cases hd:∃r ks vs,fb δ=.ok r/\r.2=.dct ks vs
 ·obtain⟨r,ks,vs,e,e2⟩:=hd
  refine .inr (.inl ?_)
  refine tD.mono (part S h) fun v H1 ⟨r1,e1,S1,s1,t1,_,h1⟩=>?_
  refine tD.mono (part (g:=fun y=>o2 (opIn neg) r1.2 y.2) S1 h1) fun u H2 ⟨r2,e3,S2,s2,t2,_,h2⟩=>?_
  have:r2=r:=by rw[e]at e3;cases e3;rfl
  subst this;rw[e2]at t2 h2;obtain⟨ad,kvs,rfl,q1,q2,q3,q4⟩:=t2
  cases e4:keyOf r1.2 with
  | none=>
    refine absurd h2 fun h2=>?_
    cases neg<;>simp only[opIn,if_true,Bool.false_eq_true,if_false,o2,isIn,e4]at h2<;>exact h2.elim
  | some kx=>
    have h2:After X W lk σ H2 (Hid B σ δ) (.ok (false,.bl (if neg then !decide (kx∈ks)else decide (kx∈ks)))) Q:=by
     cases neg<;>simpa only[opIn,if_true,Bool.false_eq_true,if_false,o2,isIn,e4,RJ,XR]using h2
    have hl:ks.length=vs.length:=by
     have h1:=congrArg T3 q2;simp only[Rw]at h1;have h3:=q4.length;simp only[Rw]at h3;omega
    have hv:(valV kvs (keyV kx)).isSome=decide (kx∈ks):=by
     rw[<-fO (x:=kx) hl]
     cases e5:look ks vs kx with
     | some d=>obtain⟨w,p1,_⟩:=iG q2 q4 e5;rw[p1];rfl
     | none=>rw[iU q2 q4 e5];rfl
    refine⟨ad,valV kvs (keyV kx),rfl,?_,?_⟩
    ·rw[iK e4 (t1.mono s2 (ao s2))]
     obtain⟨ep,q1⟩:=q1;exact DGet.k q1
    ·rw[hv]
     exact h2 _ H2 (Same.refl _) cj
 ·refine .inl (mR (lk:=lk) (uN neg hk) (qz neg) ?_)
  refine tD_iff.mpr ⟨me,B,δ,S,?_⟩
  have e:((fa δ).bind fun x=>(fb δ).bind fun y=>lU neg x.2 y.2)=((fa δ).bind fun x=>(fb δ).bind fun y=>o2 (opIn neg) x.2 y.2):=by
   congr 1
   funext x
   cases e3:fb δ with
   | ok r=>
     show lU neg x.2 r.2=o2 (opIn neg) x.2 r.2;rw[yX neg x.2 r.2 (fun ks vs z=>hd ⟨r,ks,vs,e3,z⟩) fun t z=>hs ⟨r,t,e3,z⟩]
   | exc c=>rfl
   | stuck=>rfl
  show After X W lk σ H (Hid B σ δ) ((fa δ).bind fun x=>(fb δ).bind fun y=>lU neg x.2 y.2) Q;rw[e];exact h
theorem PT.or(h:PT X e t)(h':PT X e t'):PT X e (fun σ H Q=>t σ H Q\/t' σ H Q):=by
 intro pins s σ H Q I q;rcases q with q | q
 ·exact h pins s σ H Q I q
 ·exact h' pins s σ H Q I q
theorem Lp(neg:Bool):∀x y r,o2 (opIn neg) x y=.ok r->∃b,r=(false,.bl b):=by
 intro x y r h
 cases neg with
 | false=>
   simp only[opIn,Bool.false_eq_true,if_false,o2]at h
   cases e:isIn x y with
   | none=>rw[e]at h;cases h
   | some b=>rw[e]at h;cases h;exact⟨_,rfl⟩
 | true=>
   simp only[opIn,if_true,o2]at h
   cases e:isIn x y with
   | none=>rw[e]at h;cases h
   | some b=>rw[e]at h;cases h;exact⟨_,rfl⟩
theorem d_in(hk:W.K=X.K)(hu:X.A.units+1<Wm)(ha:PE X a (tD X W true fa))(hb:PE X b (tD X W true fb))(hm:U9 .In b=false) :
 (∀lk,PE X (.Compare a [.In] [b] pos) (tD X W lk fun δ=>(fa δ).bind fun x=>(fb δ).bind fun y=>o2 .in x.2 y.2))/\PT X (.Compare a [.In] [b] pos) (tT X W fun δ=>(fa δ).bind fun x=>(fb δ).bind fun y=>o2 .in x.2 y.2):=by
 refine⟨fun lk=>PE.imp (PE.or (j4 oJ ha hb hm) (PE.or (Eo (Dy hu ha hb) hm) (j4 nR ha hb hm))) fun σ H Q h=>lu false hk h,PT.imp (PT.or (j8 oJ ha hb hm) (PT.or (Dc (Dy hu ha hb) hm) (j8 nR ha hb hm))) fun σ H Q h=>?_⟩
 exact lu (lk:=true) false hk (Hs (fun δ r e=>by
  obtain⟨y,_,e⟩:=gk e;obtain⟨z,_,e⟩:=gk e
  exact Lp false _ _ _ e) h)
theorem G8(hk:W.K=X.K)(hu:X.A.units+1<Wm)(ha:PE X a (tD X W true fa))(hb:PE X b (tD X W true fb))(hm:U9 .NotIn b=false) :
 (∀lk,PE X (.Compare a [.NotIn] [b] pos) (tD X W lk fun δ=>(fa δ).bind fun x=>(fb δ).bind fun y=>o2 .notin x.2 y.2))/\PT X (.Compare a [.NotIn] [b] pos) (tT X W fun δ=>(fa δ).bind fun x=>(fb δ).bind fun y=>o2 .notin x.2 y.2):=by
 refine⟨fun lk=>PE.imp (PE.or (j4 gU ha hb hm) (PE.or (Eo (mV hu ha hb) hm) (j4 ig ha hb hm))) fun σ H Q h=>lu true hk h,PT.imp (PT.or (j8 gU ha hb hm) (PT.or (Dc (mV hu ha hb) hm) (j8 ig ha hb hm))) fun σ H Q h=>?_⟩
 exact lu (lk:=true) true hk (Hs (fun δ r e=>by
  obtain⟨y,_,e⟩:=gk e;obtain⟨z,_,e⟩:=gk e
  exact Lp true _ _ _ e) h)
end
end Z
namespace Z
open PySem PySem.Spec PyProof.Rows L2
section
variable{X:Cx}{W:Wd}
end
end Z
namespace Z
open PySem PySem.Spec PyProof.Rows L2
section
variable{X:Cx}{pins:List (Addr×Obj)}{σ:L2.St}{H:Hp}{s:Shared}{a:Addr}{kvs:List (Key×V)}{k:Key}{u:Value}{A:RV}{E:Value->Shared->Prop}
theorem Nu(I:Inv X pins σ H s)(e:H a=some (.dK kvs ep))(ry:L2.RelV (kV k) u)(l:valV kvs k=some v)
 (h:∀w' s' ep',Inv X pins σ (upd H a (.dK (dN kvs k) ep')) s'->L2.RelV v w'->Q w' s'):Rn (Rt X.prog X.w) A (call (.builtin "dict.pop") [.ref a,u]) Q E s:=by
 obtain⟨z,hd,vs,rel,dd⟩:=HY I.hok e;obtain⟨w',hw,rw'⟩:=RelO.some_of (v:=v) (o:=Wf vs k) (by rw[<-l];exact rel.val k)
 have hp:(keyPart u).isSome=true:=by
  cases k with
  | inl i=>obtain⟨t,q⟩:=(show ∃t,u=Value.int i t from ry);subst q;rfl
  | inr x=>obtain⟨t,q⟩:=(show ∃t,u=Value.str x t from ry);subst q;rfl
 refine call_meetsIn PySem.F.slot_dict_pop dd.typeIs PySem.F.entry_dict_pop (PySem.F.args_dict_pop_2 _ _) (meets_dict_pop_there (bc X.prog X.w) a (qj ry) [] (.inl rfl) hp)
  ⟨vs,w',dd,by rw[<-rel.length];exact z,hw,fun h' dd' hs=>?_⟩
 have he:∃q,h'.get? a=some q:=let⟨q,_,_,hq,_⟩:=dd';⟨q,hq⟩
 obtain⟨ep2,dd'⟩:=dd'.dictAt;exact h w' _ ep2 (lJ I (by rw[e];exact Ui) hs he (sU (Nat.le_trans (Aj kvs k) z) hd (rel.drop k) dd')) rw'
end
def Ql(td ty:TE):TE:=fun σ H Q=>td σ H fun x H1=>∃a,x=.ref a/\IsD H1 a/\ty σ H1 fun y H2=>∃kvs k v ep,H2 a=some (.dK kvs ep)/\y=kV k/\valV kvs k=some v/\∀ep',Q v (upd H2 a (.dK (dN kvs k) ep'))
section
variable{X:Cx}{o e:Expr}{apos cpos:Pos}{td ty:TE}
theorem GF(ho:PE X o td)(he:PE X e ty)(m:L2.M1 X o "pop" apos e cpos):PE X (.Call (.Attribute o "pop" apos) [e] [] cpos) (Ql td ty):=by
 intro pins s σ H Q I h;refine wpAny_Call_method m.base m.few m.line PySem.F.plainAttrs_dict PySem.F.slot_dict_pop PySem.F.type_dict_pop (thn (ho pins s σ H _ I h) fun u s1 ⟨x,H1,I1,rx,a,ex,d,q1⟩=>?_);subst ex;obtain rfl:u=Value.ref a:=rx;obtain⟨t1,t2,_⟩:=N7 I1 d;refine⟨t1,t2,?_⟩;rw[m.trees];refine Calls.callWith_builtin rfl (Calls.evalArgs_plain (Calls.spliced_cons (thn (he pins s1 σ H1 _ I1 q1) fun iv s2 ⟨y,H2,I2,ry,kvs,k,v,ep,ea,ey,l,q2⟩=>Calls.spliced_nil ?_)));subst ey
 exact Nu I2 ea ry l fun w' s3 ep' I3 rw'=>⟨v,_,I3,rw',q2 ep'⟩
end
section
variable{W:Wd}
theorem Gp{kvs:List (Key×V)}{k:Key}(h:k∉kvs.map (·.1)):dN kvs k=kvs:=by
 unfold dN
 refine List.filter_eq_self.mpr fun p hp=>?_
 simp only[ne_eq,decide_not,Bool.not_eq_true',decide_eq_false_iff_not]
 exact fun e=>h (e▸RB.mpr ⟨p,hp,rfl⟩)
theorem mF:∀{ks:List DK} {vs:List D} {kvs:List (Key×V)},kvs.map (·.1)=ks.map keyV->ks.Nodup->Reps W G vs (kvs.map (·.2)) ->
 (dN kvs (keyV x)).map (·.1)=(cJ ks x).map keyV/\Reps W G (jy ks vs x) ((dN kvs (keyV x)).map (·.2))
 | [],vs,[],_,_,r=>by
   cases vs with
   | nil=>exact⟨rfl,by simp only[jy,dN,List.filter_nil,RQ,Reps]⟩
   | cons _ _=>simp only[RQ,Reps]at r
 | [],_,_::_,e,_,_=>by simp at e
 | _::_,_,[],e,_,_=>by simp at e
 | _::_,[],_::_,_,_,r=>by simp only[R8,Reps]at r
 | k::ks,d::vs,(k',v)::kvs,e,hn,r=>by
   simp only[R8,Tq]at e;simp only[R8,Reps]at r;obtain⟨e1,e2⟩:=e;subst e1;have hn':=Sd.mp hn;simp only[cJ,jy]
   by_cases hk:k=x
   ·subst hk
    have hni:keyV k∉kvs.map (·.1):=by
     rw[e2];intro hm;obtain⟨y,hy,hyk⟩:=RB.mp hm;exact hn'.1 (dw hyk▸hy)
    rw[if_pos rfl,if_pos rfl,xH rfl,Gp hni];exact⟨e2,r.2⟩
   ·have hne:¬keyV k=keyV x:=fun z=>hk (dw z)
    obtain⟨i1,i2⟩:=mF (x:=x) e2 hn'.2 r.2;rw[if_neg hk,if_neg hk,wF hne];simp only[R8,Reps];exact⟨by rw[i1],r.1,i2⟩
theorem gA:∀{ks:List DK} {x y:DK},y∈cJ ks x->y∈ks
 | k::ks,x,y,h=>by
   simp only[cJ]at h;split at h
   ·exact Rb _ h
   ·rcases Rh.mp h with rfl | h
    ·exact Rg
    ·exact Rb _ (gA h)
theorem gR:∀{ks:List DK} {x:DK},ks.Nodup->(cJ ks x).Nodup
 | [],_,_=>by simp[cJ]
 | k::ks,x,h=>by
   have h':=Sd.mp h;simp only[cJ];split
   ·exact h'.2
   ·exact Sd.mpr ⟨fun z=>h'.1 (gA z),gR h'.2⟩
end
section
variable{X:Cx}{W:Wd}{o:Orc}{p apos cpos pos pos':Pos}
end
end Z
namespace Z
open PySem PySem.Spec PyProof.Rows L2
section
variable{X:Cx}{W:Wd}{o:Orc}{p apos cpos pos pos':Pos}
theorem IV(hv:PE X (.Name x p) (tVar i))(he:PE X e (tD X W true fun δ=>ev o δ true te))(m:L2.M1 X (.Name x p) "pop" apos e cpos) :
 PS X (.Expr (.Call (.Attribute (.Name x p) "pop" apos) [e] [] cpos) pos) (tS X W (evS o (.pop1 none i te))):=by
 refine PS.imp (jX (GF hv he m) fZ) fun En σ H ⟨me,B,δ,S,h⟩=>?_
 simp only[evS]at h;obtain⟨r,e2,h⟩:=SO.of_ok h;obtain⟨q,e4,h⟩:=bO h
 cases e5:ownD δ i with
 | none=>rw[e5]at e4;cases e4
 | some c=>
 obtain⟨w,d⟩:=c;rw[e5]at e4;simp only[Rq]at e4
 cases d with
 | dct ks vs=>
   simp only at e4
   cases e7:keyOf r.2 with
   | none=>rw[e7]at e4;cases e4
   | some kx=>
   rw[e7]at e4;simp only[Rq]at e4
   cases e8:look ks vs kx with
   | none=>rw[e8]at e4;cases e4
   | some dv=>
   rw[e8]at e4;cases e4;obtain⟨_,_,ad,o3,⟨kvs0,⟨ep0,q0⟩,_⟩,_⟩:=S.own e5;refine⟨_,o3,ad,rfl,.inl ⟨kvs0,ep0,.inl q0⟩,tD_iff.mpr ⟨me,B,δ,S,?_⟩⟩;rw[e2];intro v H1 s1 q1;have S1:=S.mono s1;obtain⟨o1,o2,ad',o3',⟨kvs,⟨ep,k1⟩,k2,k3,k4⟩,o5,o6⟩:=S1.own e5;rw[o3]at o3';cases o3';obtain⟨u,hu,ru⟩:=iG k2 k4 e8;refine⟨kvs,keyV kx,u,ep,k1,iK e7 q1.look,hu,fun ep'=>?_⟩;obtain⟨p1,p2⟩:=mF (x:=kx) k2 k3.1 k4;obtain⟨S3,s3⟩:=S1.write (u:=.dK (dN kvs (keyV kx)) ep') (d':=.dct (cJ ks kx) (jy ks vs kx)) o1 o2 o3 o5 o6 ⟨_,⟨ep',aU⟩,p1,⟨gR k3.1,fun z hz=>k3.2 z (gA hz)⟩,p2⟩;exact h _ _ S3 ((ao s1).trans s3)
 | _=>cases e4
end
end Z
namespace Z
open PySem PySem.Spec PyProof.Rows L2
theorem cX(x:List Nat):∀l,(insS x l).Perm (x::l)
 | []=>.refl _
 | y::l=>by
   simp only[insS];split
   ·exact .refl _
   ·exact((cX x l).cons y).trans (.swap x y l)
theorem sortS_perm:∀l,(eG l).Perm l
 | []=>.refl _
 | x::l=>(cX x (eG l)).trans ((sortS_perm l).cons x)
theorem j5(x:List Nat):∀{l:List (List Nat)},l.Pairwise (·<=·)->(insS x l).Pairwise (·<=·)
 | [],_=>by simp[insS]
 | y::l,h=>by
   obtain⟨h1,h2⟩:=UV.mp h;simp only[insS,Dv];split
   ·rename_i hx
    have hx:x<y:=of_decide_eq_true hx;refine UV.mpr ⟨fun z hz=>?_,h⟩;rcases Rh.mp hz with e | hz
    ·subst e;exact List.le_of_lt hx
    ·exact List.le_trans (List.le_of_lt hx) (h1 z hz)
   ·rename_i hx
    have hx:¬x<y:=fun z=>hx (decide_eq_true z)
    refine UV.mpr ⟨fun z hz=>?_,j5 x h2⟩;rcases Rh.mp ((cX x l).mem_iff.mp hz)with e | hz
    ·subst e;exact List.not_lt.mp hx
    ·exact h1 z hz
theorem gY:∀l,(eG l).Pairwise (·<=·)
 | []=>.nil
 | x::l=>j5 x (gY l)
theorem dH:∀(p:Str) (l:List Str),PyProof.Rows.risingS p l=true->(p::l).Pairwise (fun a b=>a.cps.toList<=b.cps.toList)
 | p,[],_=>by simp
 | p,x::r,h=>by
   simp only[PyProof.Rows.risingS,Bool.and_eq_true,Bool.not_eq_true',ltCps_eq,decide_eq_false_iff_not]at h;have ih:=dH x r h.2;have hp:p.cps.toList<=x.cps.toList:=List.not_lt.mp h.1;refine UV.mpr ⟨fun z hz=>?_,ih⟩;rcases Rh.mp hz with e | hz
   ·subst e;exact hp
   ·exact List.le_trans hp ((UV.mp ih).1 z hz)
theorem jO(s:Str):strV s.cps.toList=s:=by
 cases s;simp[strV]
theorem fM(hp:ss.Perm (x.map strV))(hs:UT ss=true):ss=(eG x).map strV:=by
 have hpw:ss.Pairwise (fun a b=>a.cps.toList<=b.cps.toList):=by
  cases ss with
  | nil=>exact .nil
  | cons p l=>exact dH p l hs
 have hpw2:((eG x).map strV).Pairwise (fun a b:Str=>a.cps.toList<=b.cps.toList):=by
  rw[W4]
  refine(gY x).imp fun{a b} h=>?_
  simpa[strV]using h
 refine Ua.eq_of_pairwise (le:=fun a b:Str=>a.cps.toList<=b.cps.toList) (fun a b _ _ h1 h2=>?_) hpw hpw2 (hp.trans ((sortS_perm x).map strV).symm);have:=List.le_antisymm h1 h2;rw[<-jO a,<-jO b,this]
section
variable{X:Cx}{W:Wd}{lk lk':Bool}{σ:L2.St}{H H1 H':Hp}{me:Option Addr}{B:Addr->Prop}{δ:Dst}{Q Q':VK}{a b c:Expr}{pos p pos' apos cpos:Pos}{o:Orc}{fa fb fc:Dst->R (Bool×D)}
theorem gn:∀{l:List D} {x:List Bool} {vs:List V},boolsOf l=some x->Reps W G l vs->vs=x.map V.bl
 | [],x,vs,h,r=>by
   simp only[boolsOf,Rf]at h;subst h
   cases vs with
   | nil=>rfl
   | cons _ _=>simp only[Reps]at r
 | d::l,x,[],h,r=>by simp only[Reps]at r
 | d::l,x,v::vs,h,r=>by
   cases d with
   | bl y=>
     simp only[boolsOf]at h
     cases e:boolsOf l with
     | none=>rw[e]at h;cases h
     | some x'=>
       rw[e]at h;cases h;simp only[Reps,Rep]at r;rw[r.1,gn e r.2]
       rfl
   | _=>simp[boolsOf]at h
theorem Iw(hk:W.K=X.K):Sem1 W (fun xs H Q=>∃(c:Addr) (bs:List Bool),xs=[.ref c]/\SqL X.K H c (bs.map V.bl)/\Q (.bl (bs.all id)) H) (b1D .all):=by
 intro lk P H x dx Q w d hS hK hx e k
 cases dx<;>first | exact nope e | exact fB e | simp only[b1D]at e
 rename_i l
 cases e1:boolsOf l with
 | none=>rw[e1]at e;cases e
 | some bs=>
   rw[e1]at e;cases e;obtain⟨c,vs,rfl,q1,q2⟩:=hx;have:=gn e1 q2;subst this;exact⟨c,bs,rfl,hk▸q1,k _ H (Same.refl H) cj⟩
theorem GC(hk:W.K=X.K):Sem1 W (fun xs H Q=>∃(c:Addr) (bs:List Bool),xs=[.ref c]/\SqL X.K H c (bs.map V.bl)/\Q (.bl (bs.any id)) H) (b1D .any):=by
 intro lk P H x dx Q w d hS hK hx e k
 cases dx<;>first | exact nope e | exact fB e | simp only[b1D]at e
 rename_i l
 cases e1:boolsOf l with
 | none=>rw[e1]at e;cases e
 | some bs=>
   rw[e1]at e;cases e;obtain⟨c,vs,rfl,q1,q2⟩:=hx;have:=gn e1 q2;subst this;exact⟨c,bs,rfl,hk▸q1,k _ H (Same.refl H) cj⟩
theorem yr(hk:W.K=X.K):Sem1 W (fun xs H Q=>∃p ys,xs=[.ref p]/\((SqL X.K H p ys/\∀l,H l=none->Q (.ref l) (upd H l (.tup ys)))\/(SqT X.K H p ys/\Q (.ref p) H))) (b1D .tuple):=by
 intro lk P H x dx Q w d hS hK hx e k
 cases dx<;>first | exact nope e | exact fB e | simp only[b1D]at e
 ·cases e
  have hx':=hx;simp only[RepT,Rep]at hx;obtain⟨c,vs,rfl,q1,q2⟩:=hx;exact⟨c,vs,rfl,.inr ⟨hk▸bx bH q1,k _ H (Same.refl H) (.shared hx')⟩⟩
 ·cases e
  obtain⟨c,vs,rfl,q1,q2⟩:=hx;exact⟨c,vs,rfl,.inl ⟨hk▸q1,fun l hl=>k _ _ (Same.upd hl) (rJ hl q2 hK)⟩⟩
theorem lW(hn:H q=none)(h1:kvs.map (·.1)=ks.map keyV)(h2:KsOk ks)(h:Reps W (vis H P) vs (kvs.map (·.2))):Res W P lk H (upd H q (.dK kvs ep)) true (.dct ks vs) (.ref q):=by
 unfold Res;rw[if_pos rfl];refine⟨q,rfl,hn,kvs,⟨ep,aU⟩,h1,h2,h.mono fun b o e=>?_⟩;obtain⟨e1,e2⟩:=bF e;have hb:b≠q:=bJ e1 hn
 refine bK (by rw[aR hb];exact e1) fun z=>?_
 rcases z with z | z
 ·exact e2 z
 ·exact hb z
theorem xO:Sem1 W (fun xs H Q=>∃(c:Addr) (kvs:List (Key×V)),xs=[.ref c]/\IsK H c kvs/\∀l ep,H l=none->Q (.ref l) (upd H l (.dK kvs ep))) (b1D .dict):=by
 intro lk P H x dx Q w d hS hK hx e k
 cases dx<;>first | exact nope e | exact fB e | simp only[b1D]at e
 cases e;obtain⟨c,kvs,rfl,q1,q2,q3,q4⟩:=hx;exact⟨c,kvs,rfl,q1,fun l ep hl=>k _ _ (Same.upd hl) (lW hl q2 q3 q4)⟩
theorem sW:∀{l:List D} {x:List (List Nat)},strsOf l=some x->l.length=x.length
 | [],x,h=>by simp only[strsOf,Rf]at h;subst h;rfl
 | d::l,x,h=>by
   cases d with
   | str y=>
     simp only[strsOf]at h
     cases e:strsOf l with
     | none=>rw[e]at h;cases h
     | some x'=>rw[e]at h;cases h;simp[sW e]
   | _=>simp[strsOf]at h
theorem jR:∀{ks:List DK} {x:List (List Nat)},strsOf (ks.map keyD)=some x->ks=x.map Yh
 | [],x,h=>by simp only[RQ,strsOf,Rf]at h;subst h;rfl
 | k::ks,x,h=>by
   cases k with
   | i n=>simp[keyD,strsOf]at h
   | s y=>
     simp only[R8,keyD,strsOf]at h
     cases e:strsOf (ks.map keyD)with
     | none=>rw[e]at h;cases h
     | some x'=>rw[e]at h;cases h;rw[jR e];rfl
theorem lF:∀{l:List D} {x:List (List Nat)} {vs:List V} {G:Hp},strsOf l=some x->Reps W G l vs->∀y∈x,y.length<=16777216
 | [],x,vs,G,h,_,y,hy=>by simp only[strsOf,Rf]at h;subst h;simp at hy
 | d::l,x,[],G,h,r,y,hy=>by simp only[Reps]at r
 | d::l,x,v::vs,G,h,r,y,hy=>by
   cases d with
   | str z=>
     simp only[strsOf]at h
     cases e:strsOf l with
     | none=>rw[e]at h;cases h
     | some x'=>
       rw[e]at h;cases h;simp only[Reps,Rep]at r;rcases Rh.mp hy with q | q
       ·subst q;exact r.1.2
       ·exact lF e r.2 y q
   | _=>simp[strsOf]at h
theorem je:∀{x:List (List Nat)},(∀y∈x,y.length<=16777216)->Reps W G (x.map Y0) ((x.map strV).map V.str)
 | [],_=>by simp only[RQ,Reps]
 | y::x,h=>by
   simp only[R8,Reps,Rep];exact⟨⟨trivial,h y Rg⟩,je fun z hz=>h z (Rb _ hz)⟩
theorem ug(hk:W.K=X.K):Sem1 W (fun xs H Q=>∃(c:Addr) (ss:List Str),xs=[.ref c]/\(SqL X.K H c (ss.map V.str)\/∃kvs:List (Key×V),IsK H c kvs/\kvs.map (·.1)=ss.map Vq)/\ss.length<64 /\
 ∀(l:Addr) (ss':List Str),ss'.Perm ss->UT ss'=true->H l=none->Q (.ref l) (upd H l (.lst (ss'.map V.str)))) (b1D .sorted):=by
 intro lk P H x dx Q w d hS hK hx e k;simp only[b1D]at e
 cases e0:rZ dx with
 | none=>rw[e0]at e;cases e
 | some l=>
 rw[e0]at e;simp only[Rq]at e
 cases e1:strsOf l with
 | none=>rw[e1]at e;cases e
 | some xs=>
 rw[e1]at e;simp only[Rq]at e;split at e
 ·rename_i h64
  cases e
  have fin:(∀y∈xs,y.length<=16777216)->∀(l':Addr) (ss':List Str),ss'.Perm (xs.map strV)->UT ss'=true->H l'=none->Q (.ref l') (upd H l' (.lst (ss'.map V.str))):=fun hall l' ss' hp hs hl=>by
   rw[fM hp hs];refine k _ _ (Same.upd hl) (jh hl (je fun y hy=>hall y ((sortS_perm xs).mem_iff.mp hy)) hK)
  cases dx<;>first | exact nope e0 | exact fB e0 | simp only[rZ]at e0
  ·cases e0
   obtain⟨c,vs,rfl,q1,q2⟩:=hx;have hall:=lF e1 q2;have ev:=fX e1 q2;subst ev;refine⟨c,xs.map strV,rfl,.inl ?_,by simpa using h64,fin hall⟩;rw[SM];exact hk▸q1
  ·cases e0
   obtain⟨c,kvs,rfl,q1,q2,q3,q4⟩:=hx;have hks:=jR e1;subst hks;refine⟨c,xs.map strV,rfl,.inr ⟨kvs,q1,?_⟩,by simpa using h64,fin fun y hy=>q3.2 y (TF hy)⟩;rw[q2,SM,SM]
   rfl
 ·cases e
end
end Z
namespace Z
open PySem
structure Tj(led:Bool)(t:RD):Prop where
 led:t.led=led
 up:t.place.toList.Pairwise (·<·)
 dum:t.dummies=#[]
theorem lB(hp:xs.toList.Pairwise (·<·)):∀(fuel lo hi:Nat),hi-lo<=fuel->lo<=hi->hi<=xs.size->(∀i,i<lo->xs.getD i 0<j)->(∀i,hi<=i->i<xs.size->j<=xs.getD i 0) ->
 Vy xs j fuel lo hi<=xs.size/\(∀i,i<Vy xs j fuel lo hi->xs.getD i 0<j)/\(∀i,Vy xs j fuel lo hi<=i->i<xs.size->j<=xs.getD i 0)
 | 0,lo,hi,h1,h2,h3,h4,h5=>by
   have:lo=hi:=by omega
   subst this;exact⟨h3,h4,h5⟩
 | n+1,lo,hi,h1,h2,h3,h4,h5=>by
   have mono:∀a b,a<=b->b<xs.size->xs.getD a 0<=xs.getD b 0:=fun a b hab hb=>by
    rcases Nat.lt_or_eq_of_le hab with hab | rfl
    ·have:=List.pairwise_iff_getElem.mp hp a b (by simpa using(by omega:a<xs.size)) (by simpa using hb) hab
     simp only[Ur]at this;rw[RM,RM,Rr (by omega),Rr hb];exact Nat.le_of_lt this
    ·exact Nat.le_refl _
   unfold Vy
   by_cases hl:lo<hi
   ·rw[if_pos hl]
    have hm:(lo+hi)/2<xs.size:=by omega
    have hd:xs.getD ((lo+hi)/2) j=xs.getD ((lo+hi)/2) 0:=by
     rw[RM,RM,Rr hm];rfl
    dsimp only;rw[hd]
    by_cases hc:xs.getD ((lo+hi)/2) 0<j
    ·rw[if_pos hc]
     refine lB hp n ((lo+hi)/2+1) hi (by omega) (by omega) h3 (fun i hi'=>?_) h5;exact Nat.lt_of_le_of_lt (mono i ((lo+hi)/2) (by omega) hm) hc
    ·rw[if_neg hc]
     refine lB hp n lo ((lo+hi)/2) (by omega) (by omega) (by omega) h4 fun i hi' hs=>?_
     exact Nat.le_trans (by omega) (mono ((lo+hi)/2) i hi' hs)
   ·rw[if_neg hl]
    have:lo=hi:=by omega
    subst this;exact⟨h3,h4,h5⟩
theorem below_at(hp:xs.toList.Pairwise (·<·))(j:Nat):S9 xs j<=xs.size/\(∀i,i<S9 xs j->xs.getD i 0<j)/\(∀i,S9 xs j<=i->i<xs.size->j<=xs.getD i 0) :=
 lB hp xs.size 0 xs.size (by omega) (Nat.zero_le _) (Nat.le_refl _) (fun i hi=>absurd hi (Nat.not_lt_zero _)) fun i h1 h2=>absurd h2 (by omega)
theorem Mv(hp:xs.toList.Pairwise (·<·))(hn:xs[S9 xs j]?≠some j):(RD.insertAt xs (S9 xs j) j).toList.Pairwise (·<·):=by
 obtain⟨h1,h2,h3⟩:=below_at hp j;generalize S9 xs j=p at *
 have e:(RD.insertAt xs p j).toList=xs.toList.take p++j::xs.toList.drop p:=by
  unfold RD.insertAt;simp[List.take_of_length_le]
 rw[e]
 have hat:∀i,i<xs.size->xs.getD i 0=xs.toList[i]!:=fun i hi=>by
  rw[RM,Rr hi];simp[hi]
 refine List.pairwise_append.mpr ⟨hp.take,UV.mpr ⟨fun b hb=>?_,hp.drop⟩,fun a ha b hb=>?_⟩
 ·obtain⟨i,hi,rfl⟩:=Uv hb
  rw[List.length_drop,Us]at hi;rw[List.getElem_drop]
  have hs:p+i<xs.size:=by omega
  have:=h3 (p+i) (by omega) hs;rw[RM,Rr hs]at this;simp only[Ur,Ug]at this ⊢;rcases Nat.lt_or_eq_of_le this with q | q
  ·exact q
  ·exfalso
   have hps:p<xs.size:=by omega
   have h0:=h3 p (Nat.le_refl _) hps;rw[RM,Rr hps,Ug]at h0;rcases Nat.eq_zero_or_pos i with rfl | hpos
   ·exact hn (by rw[Rr hps,q];rfl)
   ·have:=List.pairwise_iff_getElem.mp hp p (p+i) (by simpa using hps) (by simpa using hs) (by omega)
    simp only[Ur]at this;omega
 ·obtain⟨i,hi,rfl⟩:=Uv ha
  rw[Vv,Us]at hi;rw[List.getElem_take]
  have hs:i<xs.size:=by omega
  have hlt:=h2 i (by omega);rw[RM,Rr hs,Ug]at hlt;simp only[Ur];rcases Rh.mp hb with rfl | hb
  ·exact hlt
  ·obtain⟨k,hk,rfl⟩:=Uv hb
   rw[List.length_drop,Us]at hk;rw[List.getElem_drop]
   have hks:p+k<xs.size:=by omega
   have:=h3 (p+k) (by omega) hks;rw[RM,Rr hks,Ug]at this;simp only[Ur];omega
theorem jk(hd:t.dummies=#[]):∀(n:Nat) (p:RD.Probe) (j:Nat) (d:Option Nat),p.dummy=none->RD.probe.go t f h n p=some (.empty j d)->t.place[S9 t.place j]?≠some j/\d=none
 | 0,p,j,d,_,e=>by simp[RD.probe.go]at e
 | n+1,p,j,d,hp,e=>by
   unfold RD.probe.go at e
   have hs:t.slot p.j=if t.place[S9 t.place p.j]?==some p.j then .live (S9 t.place p.j)else .empty:=by
    unfold RD.slot;dsimp only;rw[hd]
    rfl
   rw[hs]at e
   by_cases hc:(t.place[S9 t.place p.j]?==some p.j)=true
   ·rw[if_pos hc]at e
    dsimp only at e;split at e
    ·cases e
    ·exact jk hd n _ j d (by unfold RD.advance;split<;>exact hp) e
   ·rw[if_neg hc]at e
    cases e;exact⟨fun z=>hc (by rw[z];simp),hp⟩
theorem Jj{t:RD}(hd:t.dummies=#[]){h:Int}{j:Nat}{b:Bool}(e:t.freeSlot h=some (j,b)):t.place[S9 t.place j]?≠some j:=by
 unfold RD.freeSlot at e;split at e
 ·rename_i j' d hp
  obtain⟨h1,rfl⟩:=jk hd _ _ j' d rfl hp;simp only[Option.getD_none,Rf,Vs]at e;rw[<-e.1];exact h1
 ·cases e
theorem Af(n:Nat):(Array.range n).toList.Pairwise (·<·):=by
 rw[Array.toList_range];exact List.pairwise_lt_range
theorem fK{led:Bool}{t:RD}(h:t.led=led)(n:Nat):Tj led (t.standIn n):=⟨h,Af n,rfl⟩
theorem Jk(h:Tj led t):Tj led { t with plain:=false }:=⟨h.led,h.up,h.dum⟩
theorem Ak(h:Tj led t)(es:Array (Int×Value))(hh:Int)(x:Value):Tj led (layNew t es hh x).2.1:=by
 unfold layNew
 cases e:t.freeSlot hh with
 | none=>exact fK h.led _
 | some q=>
   obtain⟨j,b⟩:=q;have hf:=Jj h.dum e
   have hp:Tj led (t.put j).1:=⟨h.led,Mv h.up hf,by unfold RD.put;dsimp only;rw[h.dum];rfl⟩
   dsimp only;unfold RD.orStandIn;split
   ·exact hp
   ·exact fK hp.led _
theorem Ii{mask finger moves:Nat}{led plain:Bool}{hs:Array Int}{q:RD×Array Nat}(h:RD.laid mask finger moves led plain hs=some q):Tj led q.1:=by
 unfold RD.laid at h
 cases e:RD.layClean mask hs with
 | none=>rw[e]at h;cases h
 | some owner=>
   rw[e]at h;cases h;refine⟨rfl,?_,rfl⟩;dsimp only;rw[W4];refine List.Pairwise.filterMap _ (fun a b hab x hx y hy=>?_) List.pairwise_lt_range (R:=fun a b=>a<b);obtain⟨u,_,rfl⟩:=T7.mp hx;obtain⟨v,_,rfl⟩:=T7.mp hy;exact hab
theorem J8{led:Bool}{t:RD}(h:Tj led t)(es:Array (Int×Value))(n:Nat):Tj led (WX t es n).2.1:=by
 unfold WX
 cases e:t.relaid (es.map (·.1)) n with
 | none=>exact fK h.led _
 | some q=>
   obtain⟨t',od⟩:=q;have:=Ii e;dsimp only;split
   ·exact⟨this.led.trans h.led,this.up,this.dum⟩
   ·exact fK h.led _
end Z
namespace Z
open PySem
section
variable{prog:Rz}{w:RT}{K:Type} [DecidableEq K](knd:KeyKind prog w K)(pj:Value->K)
def SetL(h:Rk)(a:Addr)(led:Bool)(ks:List K):Prop:=∃o es ep t,h.get? a=some o/\o.ExactSet/\o.data=.set es ep t/\Xv knd es.toList/\(es.toList.map fun e=>pj e.2).Perm ks/\es.size<W6/\t.fits es.size=true/\Tj led t
variable{knd pj}
variable{A:RV}{E:Value->Shared->Prop}{s:Shared}(hpj:∀v k,knd.is k v=true->pj v=k)
theorem SetL.kept(S:SetL knd pj h a led ks)(hk:∀o,h.get? a=some o->h'.get? a=some o):SetL knd pj h' a led ks:=by
 obtain⟨o,es,ep,t,ho,r⟩:=S;exact⟨o,es,ep,t,hk o ho,r⟩
theorem Jq{h:Rk}{a:Addr}{o:Obj}{es es':Array (Int×Value)}{ep:Nat}{t t':RD}(ho:h.get? a=some o)(hd:o.data=.set es ep t):(h.update a (X7 es' t')).get? a=some { o with data:=.set es' (ep+1) t' }:=by
 have q:=S5 (X7 es' t') ho (by rw[putSet_of es' t' hd];rfl);rw[q,putSet_of es' t' hd]
include hpj
theorem uL{h:Rk}{a:Addr}{o:Obj}{es es':Array (Int×Value)}{ep:Nat}{t t':RD}{led:Bool}{ks:List K}(ho:h.get? a=some o)(hx:o.ExactSet)(hd:o.data=.set es ep t)(he:Xv knd es'.toList)(hp:(es'.toList.map fun e=>pj e.2).Perm ks)(hb:es'.size<W6)(hf:t'.fits es'.size=true)(hj:Tj led t'):SetL knd pj (h.update a (X7 es' t')) a led ks :=
 ⟨_,es',ep+1,t',Jq ho hd,hx,rfl,he,hp,hb,hf,hj⟩
theorem IK(he:Xv knd es)(k:K):k∈(es.map fun e=>pj e.2)↔∃e∈es,knd.is k e.2=true:=by
 rw[RB]
 constructor
 ·rintro⟨e,h1,rfl⟩
  obtain⟨⟨k',h2,_⟩,_⟩:=he e h1;exact⟨e,h1,(hpj _ _ h2)▸h2⟩
 ·rintro⟨e,h1,h2⟩
  exact⟨e,h1,hpj _ _ h2⟩
theorem Mj{a:Addr}{o:Obj}{es:Array (Int×Value)}{ep:Nat}{t:RD}(ho:s.heap.get? a=some o)(hx:o.ExactSet)(hd:o.data=.set es ep t){es1:Array (Int×Value)}{t1:RD}{led wd:Bool}{ks:List K}(he:Xv knd es1.toList)(hp:(es1.toList.map fun e=>pj e.2).Perm ks)(hb:es1.size<W6)(hf:t1.fits es1.size=true)(hj:Tj led t1)
 {g:Bool->Sem Unit} (hg:∀(b:Bool) (s₁:Shared) (Q':Unit->Shared->Prop),Q' () s₁->Rn (Rt prog w) A (g b) Q' E s₁) {R:Option Bool->Shared->Prop}
 (q:∀h',Tz a s.heap h'->SetL knd pj h' a led ks->R (some true) { s with heap:=h' }) :
 Rn (Rt prog w) A (storeSet a es1 t1 >>= fun _=>if(!wd&&t1.tooFull)=true then(g (WX t1 es1 (V3 es1.size)).2.2 >>= fun _=>storeSet a (WX t1 es1 (V3 es1.size)).1 (WX t1 es1 (V3 es1.size)).2.1 >>= fun _=>pure (some true))else pure (some true)) R E s:=by
 refine R6 (wpAny_storeSet_of ho hd ?_ (Wg hb));have u1:=Tz.update s.heap a (X7 es1 t1)
 by_cases c:(!wd&&t1.tooFull)=true
 ·rw[if_pos c]
  have y1:=relayAll_perm t1 es1 (V3 es1.size);have y2:=relayAll_fits t1 es1 (V3 es1.size);have y3:=J8 hj es1 (V3 es1.size);generalize WX t1 es1 (V3 es1.size)=r at *
  have y4:r.1.size=es1.size:=by have:=y1.length_eq;simpa using this
  refine R6 (hg _ _ _ (R6 (wpAny_storeSet_of (Jq ho hd) rfl ?_ (Wg (by omega)))));refine Rc (q _ (u1.trans (Tz.update _ a _)) ?_);exact uL hpj (Jq ho hd) hx rfl (he.perm y1) ((y1.map _).trans hp) (by omega) y2 y3
 ·rw[if_neg c]
  exact Rc (q _ u1 (uL hpj ho hx hd he hp hb hf hj))
theorem QM(hk:knd.is k x=true)(hsc:x.scannable=true)(S:SetL knd pj s.heap a led ks)(hr:ks.length+1<W6)
 (q:∀(b:Bool) h',Tz a s.heap h'->SetL knd pj h' a led (if k∈ks then ks else ks++[k])->Q b { s with heap:=h' }):Rn (Rt prog w) A (setAddHashed a x (knd.hash k)) Q E s:=by
 obtain⟨o,es,ep,t,ho,hx,hd,he,hp,hb,hf,hj⟩:=S;have hin:=IK hpj he k;have hkm:k∈ks↔∃e∈es.toList,knd.is k e.2=true:=hp.mem_iff.symm.trans hin
 have hsz:es.size=ks.length:=by have:=hp.length_eq;simpa using this
 unfold setAddHashed setAddHashedIn;refine U6 (R6 (TJ ho hd hf ?_));simp only[byScan_of hsc hb he,↓reduceIte];unfold setAddByScan;refine R6 (R6 (W8 (R6 (wpAny_setScan_of hk ho hd hf he ?_))))
 cases c:List.findIdx? (fun e=>knd.is k e.2) es.toList with
 | some j=>
   obtain⟨c1,c2,_⟩:=List.findIdx?_eq_some_iff_getElem.mp c;have hm:k∈ks:=hkm.mpr ⟨_,Uh c1,c2⟩;have z:=q false s.heap (Tz.refl a s.heap) (by rw[if_pos hm];exact⟨o,es,ep,t,ho,hx,hd,he,hp,hb,hf,hj⟩);exact Rc (Rc z)
 | none=>
   have hm:k∉ks:=fun z=>by
    obtain⟨e,c1,c2⟩:=hkm.mp z;have:=List.findIdx?_eq_none_iff.mp c e c1;rw[c2]at this;cases this
   simp only[if_neg hm]at q;have y1:=layNew_perm t es (knd.hash k) x;have y2:=layNew_fits t es (knd.hash k) x;have y3:=Ak hj es (knd.hash k) x;dsimp only;generalize layNew t es (knd.hash k) x=r at *;obtain⟨es1,t1,wd,gv⟩:=r;dsimp only at y1 y2 y3 ⊢;rw[Array.toList_push]at y1
   have z1:es1.size=es.size+1:=by have:=y1.length_eq;simpa using this
   have z2:Xv knd es1.toList:=(he.push hk hsc).perm y1
   have z3:(es1.toList.map fun e=>pj e.2).Perm (ks++[k]):=(y1.map _).trans (by
    rw[Up,R8,RQ,hpj x k hk]
    exact Ua.append hp (Ud _))
   have fin:∀(b:Bool) (g:Bool->Sem Unit),(∀(b:Bool) (s₁:Shared) (Q':Unit->Shared->Prop),Q' () s₁->Rn (Rt prog w) A (g b) Q' E s₁)->_:=fun b g hg=>Mj (s:=s) (E:=E) (A:=A) (wd:=wd) (t1:=if b=true then t1 else{ t1 with plain:=false }) hpj ho hx hd z2 z3 (by omega) (by cases b<;>first | exact y2 | exact RD.fits_plain_off y2) (by cases b<;>first | exact y3 | exact Jk y3) hg (R:=fun r s'=>Rn (Rt prog w) A (match r with | some added=>pure added | none=>setAddHashedIn a x (knd.hash k) 99999) Q E s') fun h' w1 w2=>Rc (q true h' w1 w2)
   cases gv
   ·refine R6 (Rc ?_)
    by_cases c2:t1.plain=true
    ·rw[if_pos c2,hashByValue_scannable 8 hsc]
     exact R6 (Rc (fin _ _ (by intro b s₁ Q' hq;cases b<;>first | exact Rc hq | exact W8 hq)))
    ·rw[if_neg c2]
     exact R6 (Rc (fin true _ (by intro b s₁ Q' hq;cases b<;>first | exact Rc hq | exact W8 hq)))
   ·refine R6 (W8 ?_)
    by_cases c2:t1.plain=true
    ·rw[if_pos c2,hashByValue_scannable 8 hsc]
     exact R6 (Rc (fin _ _ (by intro b s₁ Q' hq;cases b<;>first | exact Rc hq | exact W8 hq)))
    ·rw[if_neg c2]
     exact R6 (Rc (fin true _ (by intro b s₁ Q' hq;cases b<;>first | exact Rc hq | exact W8 hq)))
end
end Z
namespace Z
open PySem PySem.Spec PyProof.Rows
section
variable{prog:Rz}{w:RT}{K:Type} [DecidableEq K]{knd:KeyKind prog w K}{pj:Value->K}
noncomputable def ded(f:Nat->K):Nat->List K
 | 0=>[]
 | i+1=>if f i∈ded f i then ded f i else ded f i++[f i]
theorem ye(f:Nat->K):∀i,(ded f i).length<=i
 | 0=>Nat.le_refl _
 | i+1=>by
   have:=ye f i;rw[ded];split
   ·omega
   ·rw[Rx,List.length_singleton];omega
theorem Dt(f:Nat->K):∀i,(ded f i).Nodup
 | 0=>Wq
 | i+1=>by
   have:=Dt f i;rw[ded];split
   ·exact this
   ·rename_i h
    refine List.nodup_append.mpr ⟨this,List.pairwise_singleton _ _,fun a ha b hb=>?_⟩;rw[Vh]at hb;subst hb
    exact fun z=>h (z▸ha)
theorem uU(f:Nat->K)(k:K):∀i,k∈ded f i↔∃j,j<i/\f j=k
 | 0=>by simp[ded]
 | i+1=>by
   have ih:=uU f k i;rw[ded]
   constructor
   ·intro h
    have h':k∈ded f i\/k=f i:=by
     split at h
     ·exact .inl h
     ·simpa using h
    rcases h' with h' | rfl
    ·obtain⟨j,h1,h2⟩:=ih.mp h';exact⟨j,by omega,h2⟩
    ·exact⟨i,by omega,rfl⟩
   ·rintro⟨j,h1,h2⟩
    by_cases e:j=i
    ·subst e
     split
     ·rename_i h;exact h2▸h
     ·rw[T6,Vh];exact .inr h2.symm
    ·have:=ih.mpr ⟨j,by omega,h2⟩
     split
     ·exact this
     ·exact U5 _ this
variable{A:RV}{R:X6->Shared->Prop}{I:Addr}{fp wr:List Addr}{G:Array Xf->Array Xf->Prop}{n:Nat}{P:Nat->Value->Prop}{St:Nat->Shared->Prop}
theorem Bb(hpj:∀v k,knd.is k v=true->pj v=k)(W:WalksS prog w A.in1 I fp wr G n P St){S:Addr}(hS:S∉fp)(f:Nat->K)(hf:∀i v,P i v->knd.is (f i) v=true/\v.scannable=true)(hb:n+1<W6)(led:Bool) :
 ∀(d i:Nat) (s:Shared),n-i=d->i<=n->St i s->SetL knd pj s.heap S led (ded f i)->(∀s',Moved (S::wr) G s s'->SetL knd pj s'.heap S led (ded f n)->R (.ok (.ret .none)) s')->Vx (Rt prog w) A (.builtin "set.update.loop" ⟨[.ref S,.ref I],[]⟩) R s:=by
 have hw:S∉wr:=fun h=>hS (W.sub _ h)
 have up:∀{s s':Shared},Moved wr G s s'->Moved (S::wr) G s s':=fun m=>⟨fun b o z=>m.heap b o fun y=>z (.tail _ y),m.gens,m.drawn,m.os,m.toks⟩
 intro d
 induction d with
 | zero=>
   intro i s hd hi st hl q
   obtain rfl:i=n:=by omega
   refine Th PyProof.Rows.F.entry_set_update_loop ?_;rw[SJ PyProof.Rows.F.plain_set_update_loop _];unfold Sw.«set.update.loop»;dsimp only;refine R6 (W.done s _ _ st fun s' m=>?_);exact Rc (q s' (up m) (hl.kept fun o=>m.heap S o hw))
 | succ d ih=>
   intro i s hd hi st hl q;refine Th PyProof.Rows.F.entry_set_update_loop ?_;rw[SJ PyProof.Rows.F.plain_set_update_loop _];unfold Sw.«set.update.loop»;dsimp only;refine R6 (W.item i s _ _ (by omega) st fun v s' hP st' m=>?_);obtain⟨hk,hsc⟩:=hf i v hP;dsimp only;refine R6 (U6 ?_);unfold setAdd;refine U6 (R6 (knd.pyHash hk ?_))
   have hl':SetL knd pj s'.heap S led (ded f i):=hl.kept fun o=>m.heap S o hw
   refine QM (s:={ s' with toks:=s'.toks+1 }) hpj hk hsc hl' (by have:=ye f i;omega) fun b h' sb hl2=>?_
   refine Rc ⟨Ul PyProof.Rows.F.plain_set_update_loop _,ih (i+1) _ (by omega) (by omega) (W.frame (i+1) s' _ _ st' (Nat.le_succ _) fun b hb o e=>?_) hl2 fun s'' m2 hl3=>?_⟩
   ·rw[sb.2 b fun z=>hS (z▸hb)];exact e
   ·refine q s'' (Moved.trans W.gtrans ((up m).then_heap (Nat.le_succ _) fun b o hb e=>?_) m2) hl3
    rw[sb.2 b fun z=>hb (z▸Rg)];exact e
end
end Z
namespace Z
open PySem PySem.Spec PyProof.Rows
section
variable{prog:Rz}{w:RT}{K:Type} [DecidableEq K]{knd:KeyKind prog w K}{pj:Value->K}{A:RV}{E:Value->Shared->Prop}{s:Shared}
noncomputable def byT(w:RT):Bool:=w.params.followText "set-order"
noncomputable def newS(w:RT):Obj:={ cls:=.type "set",dict:=none,data:=.set #[] 0 (.fresh 0 0 (!byT w)) }
theorem Mz(h:Rk):SetL knd pj (h.push (newS w)) h.objs.size (!byT w) [] :=
 ⟨newS w,#[],0,_,Rp _ rfl,⟨rfl,rfl,rfl⟩,rfl,fun e he=>by simp at he,Ud _,by decide,rfl,⟨rfl,List.Pairwise.nil,rfl⟩⟩
theorem Ik(a:Value)(h:Q (.ref s.heap.objs.size) { s with heap:=s.heap.push (newS w) }):Vx (Rt prog w) A (.call (.builtin "set.__new__") ⟨[.type "set",a],[]⟩) (wants Q E) s:=by
 refine codeAny_of_tree ?_;have e:=PySem.F.newCall_set_1 a;show Rn _ A.in1 (checkBuiltinCall "set.__new__" ⟨[.type "set",a],[]⟩ >>= fun _=>again (.builtin "set.__new__" ⟨[.type "set",a],[]⟩)) _ _ s;rw[e];refine R6 (Rc (Rc ⟨Ul PySem.F.plain_set_new _,Th PySem.F.entry_set_new ?_⟩));rw[SJ PySem.F.plain_set_new _];unfold Sw.«set.__new__» Sw.Frozenset.newClass;have hs:=sub_set_self;obtain⟨hp,g,d,tk,os⟩:=s;dsimp only
 wp_walk
 refine wpAny_askSetting (Rc ?_);simp only[newObj];refine R6 (wpAny_alloc (Rc (Rc ?_)));exact h
set_option maxHeartbeats 3200000 in
theorem set_list(hpj:∀v k,knd.is k v=true->pj v=k)(f:Nat->K)(hh:A.handled=none)(hl:s.heap.IsList l items)(hf:∀i v,items[i]?=some v->knd.is (f i) v=true/\v.scannable=true)(hb:items.size+1<W6)
 (q:∀(h':Rk) (tk:Nat),s.toks<=tk->SetL knd pj h' s.heap.objs.size (!byT w) (ded f items.size)->(∀b o,s.heap.get? b=some o->h'.get? b=some o)->Q (.ref s.heap.objs.size) { s with heap:=h',toks:=tk }) :
 Rn (Rt prog w) A (call (.type "set") [.ref l]) Q E s:=by
 obtain⟨mc,ml,hmro⟩:=TV.mro;have y1:=TV.made;have y2:=TV.sub;have y3:=TV.notType;have y4:=TV.canCreate;have y5:=PySem.F.typeCall_set_1 (.ref l);have hn:=Mz (knd:=knd) (pj:=pj) (w:=w) s.heap;refine WP (codeAny_of_tree ?_);show Rn _ _ (callAny (.type "set") _) _ _ _;refine Rc ⟨Xh.quiet_builtin _ (by decide +kernel),Th PySem.F.entry_type_call ?_⟩;rw[RV.under_plain (weight_type_call_type "set" [.ref l] []) rfl]
 repeat (any_goals (first | assumption | wp_step))
 refine Uj (Ik (.ref l) (E:=E) (Q:=fun ob s1=>ob=.ref s.heap.objs.size/\s1={ s with heap:=s.heap.push (newS w) }) ⟨rfl,rfl⟩) fun r s1 hr=>?_
 cases r with
 | error e=>exact hr
 | ok fl=>
   cases fl with
   | ret ob=>
     obtain⟨rfl,rfl⟩:=hr
     have hT:Shared.TypeIs { s with heap:=s.heap.push (newS w) } (.ref s.heap.objs.size) "set":=⟨newS w,Rp _ rfl,rfl⟩
     have y6:=TV.init.lookup;have y7:=TV.init.bind (.ref s.heap.objs.size)
     repeat (any_goals (first | assumption | wp_step))
     refine Uj (codeAny_call_builtin (R:=wants (fun r s2=>r=.none/\∃h' tk,s2={ s with heap:=h',toks:=tk }/\s.toks<=tk/\SetL knd pj h' s.heap.objs.size (!byT w) (ded f items.size)/\(∀b o,s.heap.get? b=some o->h'.get? b=some o)) E) TV.init.plain PySem.F.entry_set_init (check_set_init_1 hT ?_)) fun r2 s2 hr2=>?_
     ·obtain⟨ol,o1,o2,nl,o3⟩:=hl
      obtain⟨oc,od,dt,os⟩:=ol;simp only at o2 o3;subst o2;subst o3;have hS0:(s.heap.push (newS w)).get? s.heap.objs.size=some (newS w):=Rp _ rfl;have o4:(s.heap.push (newS w)).get? l=some { cls:=.type "list",dict:=od,data:=.seq items nl,slots:=os }:=R7 _ o1;have z1:=PySem.F.sub_list_set;have z2:=PySem.F.sub_list_frozenset
      have z3:(Value.type "list"==Value.type "dict")=false:=by decide
      have hl1:(s.heap.push (newS w)).IsList l items:=⟨_,o4,rfl,nl,rfl⟩
      unfold Sw.«set.__init__» noKeywords Sw.Frozenset.updateFrom newS at *;generalize hPI:Xp=PI
      wp_walk
      subst hPI;refine Vw hl1 (R6 (wpAny_runValue ?_));have b1:l<s.heap.objs.size:=Ro o1
      have b2:A.in1.in1.in1.handled=none:=by simp[hh]
      have b3:l≠(s.heap.push ({ cls:=.type "set",dict:=none,data:=.set #[] 0 (.fresh 0 0 (!byT w)) }:Obj)).objs.size:=by
       rw[Uw];exact Nat.ne_of_lt (Nat.lt_succ_of_lt b1)
      refine Bb hpj (Walks.list b2 _ l b3 items).toS (S:=s.heap.objs.size) ?_ f hf hb (!byT w) items.size 0 _ (by omega) (Nat.zero_le _) ⟨⟨_,Rp _ rfl,rfl,rfl⟩,hl1.push _⟩ (hn.kept fun o e=>R7 _ e) fun s' m hl'=>?_
      ·rw[Uw]
       simp only[Rh,RZ,or_false,not_or];exact⟨Nat.ne_of_lt (Nat.lt_succ_self _),Nat.ne_of_gt b1⟩
      ·obtain⟨h',g',d',t',o'⟩:=s'
       obtain⟨m1,m2,m3,m4,m5⟩:=m;have m2:g'=s.gens:=m2;have m3:d'=s.drawn:=m3;have m4:o'=s.os:=m4;subst m2;subst m3;subst m4;refine Rc (Rc ⟨rfl,h',t',rfl,m5,hl',fun b o e=>?_⟩);have:=Ro e;refine m1 b o ?_ (R7 _ (R7 _ e));rw[Uw];simp only[Rh,RZ,or_false,not_or];exact⟨Nat.ne_of_lt this,Nat.ne_of_lt (Nat.lt_succ_of_lt this)⟩
     ·cases r2 with
      | error e=>exact hr2
      | ok fl2=>
        cases fl2 with
        | ret v=>
          obtain⟨rfl,h',tk,rfl,a1,a2,a3⟩:=hr2
          repeat (any_goals (first | assumption | wp_step))
          exact q h' tk a1 a2 a3
        | _=>exact hr2.elim
   | _=>exact hr.elim
end
end Z
namespace Z
open PySem PySem.Spec PyProof.Rows
theorem slot_sin:PySem.Slot "set_iterator" "__next__" "set_iterator.__next__":=by
 refine .of (owner:="set_iterator") (n:="__next__") ?_ ?_ ?_ ?_ ?_ ?_
 ·rw[typeLookup_type,builtinLookup_eq_fast];kernel_rfl
 ·decide +kernel
 ·decide +kernel
 ·decide +kernel
 ·first | exact .inl (by decide +kernel) | exact .inr (by decide +kernel)
 ·rw[isSubtype_type];kernel_rfl
theorem sE:PySem.Slot "set_iterator" "__iter__" "set_iterator.__iter__":=by
 refine .of (owner:="set_iterator") (n:="__iter__") ?_ ?_ ?_ ?_ ?_ ?_
 ·rw[typeLookup_type,builtinLookup_eq_fast];kernel_rfl
 ·decide +kernel
 ·decide +kernel
 ·decide +kernel
 ·first | exact .inl (by decide +kernel) | exact .inr (by decide +kernel)
 ·rw[isSubtype_type];kernel_rfl
theorem nC:entryFor table "set_iterator.__next__"=some Sw.«set_iterator.__next__»:=entryFor_of_tree (by kernel_rfl)
theorem rY:Manifest.owners.lookup (String.ofList ['r','o','t','a','r','e','t','i','_','t','e','s'].reverse)=some Manifest.sig_set_iterator:=by kernel_rfl
theorem qL(a:Value):Xr "set_iterator.__next__" ⟨[a],[]⟩:=by
 unfold Xr;rw[signature?_of (id:="set_iterator.__next__") (n:=['_','_','t','x','e','n','_','_']) (o:=['r','o','t','a','r','e','t','i','_','t','e','s']) (by kernel_rfl) rY]
 kernel_rfl
theorem Bt(a:Value):Xr "set_iterator.__iter__" ⟨[a],[]⟩:=by
 unfold Xr;rw[signature?_of (id:="set_iterator.__iter__") (n:=['_','_','r','e','t','i','_','_']) (o:=['r','o','t','a','r','e','t','i','_','t','e','s']) (by kernel_rfl) rY]
 kernel_rfl
theorem zX:entryFor table "set.__iter__"=some Sw.«frozenset.__iter__»:=entryFor_alias (id':="frozenset.__iter__") (by kernel_rfl) rfl (by decide +kernel) (by kernel_rfl)
theorem yH:entryFor table "set_iterator.__iter__"=some Sw.«dict_keyiterator.__iter__»:=entryFor_alias (id':="dict_keyiterator.__iter__") (by kernel_rfl) rfl (by decide +kernel) (by kernel_rfl)
end Z
namespace Z
open PySem PySem.Spec PyProof.Rows
noncomputable def sit(f:Value)(i:Nat)(a:Addr)(n ep:Nat):Obj:={ cls:=.type "set_iterator",data:=.fields #[f,Tf i,.ref a,Tf n,Tf ep] }
section
variable{prog:Rz}{w:RT}{A:RV}{E:Value->Shared->Prop}{s:Shared}{I a:Addr}{o:Obj}{es:Array (Int×Value)}{ep:Nat}{t:RD}
theorem dC(h:s.heap.get? I=some (sit f i a n ep)):s.TypeIs (.ref I) "set_iterator":=⟨_,h,rfl⟩
theorem v7(h:s.heap.get? I=some (sit f i a n ep))(q:Q (.ref I) s):Rn (Rt prog w) A (Xp (.ref I)) Q E s:=by
 refine wpAny_pyIter_slot (dC h) sE (VH sE (dC h) yH ?_ (Bt _));exact Rc ⟨_,rfl,"set_iterator",_,dC h,slot_sin.lookup,q⟩
theorem rz(h:s.heap.get? I=some (sit (.int slot tk) i a es.size ep))(ho:s.heap.get? a=some o)(hd:o.data=.set es ep t)(hf:t.fits es.size=true)
 (q:Rn (Rt prog w) A.in1 (setNext a slot.toNat i ep >>= fun r=>match r with
  | some (x,next)=>(WD (.ref I) 0 (Tf next) >>= fun _=>WD (.ref I) 1 (Tf (i+1)) >>= fun _=>ret x)
  | none=>(WD (.ref I) 2 .none >>= fun _=>newExc (.type "StopIteration") [] >>= Xy))
  (fun fin s'=>∃r,fin=.done (.ret r)/\Q (some r) s') (fun e s'=>Rn (Rt prog w) A (WT e (.type "StopIteration")) (fun b s2=>if b then Q none s2 else E e s2) E s') s):Rn (Rt prog w) A (Wj (.ref I)) Q E s:=by
 unfold Wj;refine R6 (wpAny_attempt (wpAny_callSpecial?_slot (name:=Str.ofString "__next__") (dC h) slot_sin (VH slot_sin (dC h) nC ?_ (qL _))));unfold Sw.«set_iterator.__next__»;refine R6 (Rc (R6 (wpAny_fieldsOf h rfl ?_)));show Rn _ _ (WQ a >>= _) _ _ s;refine R6 ?_;unfold WQ;refine R6 (TJ ho hd hf (Rc ?_));dsimp only;rw[if_neg (by simp)];simp only[Int.toNat_natCast]
 exact T8 (Q':=fun fin s'=>∃r,fin=.done (.ret r)/\Rn (Rt prog w) A (pure (some r)) Q E s') (E':=fun e s'=>Rn (Rt prog w) A (WT e (.type "StopIteration") >>= fun b=>if b then pure none else throw e) Q E s') q (fun fin s' ⟨r,e,hr⟩=>⟨r,e,Rc hr⟩) fun e s' he=>R6 (T8 he (fun b s2 hb=>by
  cases b
  ·exact wpAny_throw hb
  ·exact Rc hb) fun _ _ z=>z)
theorem sJ{T:Addr}{oT:Obj}{pl:Array Value}{c i:Nat}{Q:Option Value->Shared->Prop}(h:s.heap.get? I=some (sit (.ref T) i a es.size ep))(ho:s.heap.get? a=some o)(hd:o.data=.set es ep t)(hf:t.fits es.size=true)(hT:s.heap.get? T=some oT)(hTd:oT.data=.seq pl c)
 (q:Rn (Rt prog w) A.in1 (match pl[i]? with
  | some (.int place _)=>(setNextDrawn a place.toNat ep >>= fun x=>WD (.ref I) 1 (Tf (i+1)) >>= fun _=>ret x)
  | some _=>Uu "internal:set_iterator"
  | none=>(WD (.ref I) 0 (Tf 0) >>= fun _=>WD (.ref I) 2 .none >>= fun _=>newExc (.type "StopIteration") [] >>= Xy))
  (fun fin s'=>∃r,fin=.done (.ret r)/\Q (some r) s') (fun e s'=>Rn (Rt prog w) A (WT e (.type "StopIteration")) (fun b s2=>if b then Q none s2 else E e s2) E s') s):Rn (Rt prog w) A (Wj (.ref I)) Q E s:=by
 unfold Wj;refine R6 (wpAny_attempt (wpAny_callSpecial?_slot (name:=Str.ofString "__next__") (dC h) slot_sin (VH slot_sin (dC h) nC ?_ (qL _))));unfold Sw.«set_iterator.__next__»;refine R6 (Rc (R6 (wpAny_fieldsOf h rfl ?_)));show Rn _ _ (WQ a >>= _) _ _ s;refine R6 ?_;unfold WQ;refine R6 (TJ ho hd hf (Rc ?_));dsimp only;rw[if_neg (by simp)];simp only[Int.toNat_natCast];refine R6 (Wy hT hTd ?_)
 exact T8 (Q':=fun fin s'=>∃r,fin=.done (.ret r)/\Rn (Rt prog w) A (pure (some r)) Q E s') (E':=fun e s'=>Rn (Rt prog w) A (WT e (.type "StopIteration") >>= fun b=>if b then pure none else throw e) Q E s') q (fun fin s' ⟨r,e,hr⟩=>⟨r,e,Rc hr⟩) fun e s' he=>R6 (T8 he (fun b s2 hb=>by
  cases b
  ·exact wpAny_throw hb
  ·exact Rc hb) fun _ _ z=>z)
theorem v5{Q:Option Value->Shared->Prop}{R:Fin->Shared->Prop}(hh:A.handled=none)(q:∀h',(∀b o,s.heap.get? b=some o->h'.get? b=some o)->Q none { s with heap:=h' }) :
 Rn (Rt prog w) A.in1 (newExc (.type "StopIteration") [] >>= Xy) R (fun e s'=>Rn (Rt prog w) A (WT e (.type "StopIteration")) (fun b s2=>if b then Q none s2 else E e s2) E s') s:=by
 refine R6 ?_;simp only[newExc,newTuple];refine R6 (Ut ?_ (by size_fits));refine R6 (m:=firstArgMember _ _) (wpAny_of_eq (a:=Value.none) (by first | rfl | (simp only[firstArgMember];rfl)) ?_);refine Ut ?_ (by size_fits);simp only[Xy];refine R6 (wpAny_handled ?_);rw[show A.in1.handled=none from hh];refine R6 (Rc (wpAny_throw ?_));refine wpAny_isInstance (T:="StopIteration") (b:=true) ⟨_,Rp _ rfl,rfl⟩ isSubtype_stop ?_
 exact q _ fun b o e=>R7 _ (R7 _ e)
end
end Z
namespace Z
open PySem PySem.Spec PyProof.Rows
theorem gC:∀(l:List α) (i:Nat) (h:i<l.length),(l[i]::l.eraseIdx i).Perm l
 | x::l,0,h=>Ud _
 | x::l,i+1,h=>by
   have:=gC l i (by simpa using h);exact(Ua.swap _ _ _).trans (Ua.cons _ this)
theorem wM(nx:Nat->Nat):∀(n k:Nat) (l:List α) (out:Array α),l.length<=n->(WK.go nx n k l out).toList.Perm (out.toList++l)
 | 0,k,l,out,h=>by
   have:l=[]:=UL (by omega);subst this;rw[WK.go,Sg]
 | n+1,k,l,out,h=>by
   rw[WK.go]
   cases l with
   | nil=>simp
   | cons x l=>
     have hlt:nx k % (x::l).length<(x::l).length:=Nat.mod_lt _ (by simp);generalize nx k % (x::l).length=j at hlt;rw[Rm hlt];dsimp only;refine(wM nx n (k+1) _ _ (by rw[List.length_eraseIdx_of_lt hlt];simp at h ⊢;omega)).trans ?_;rw[Array.toList_push,W5];exact Ua.append_left _ (gC _ _ hlt)
theorem vp(nx:Nat->Nat)(xs:Array α):(WK nx xs).toList.Perm xs.toList:=by
 have:=wM nx xs.size 0 xs.toList #[] (by simp);unfold WK;simpa using this
section
variable{prog:Rz}{w:RT}{A:RV}{E:Value->Shared->Prop}{s:Shared}
theorem wy(hn:n≠0)(q:∀i,i<n->Q i { s with drawn:=s.drawn.bump src }):Rn (Rt prog w) A (choose src n) Q E s:=fun Γ p hΓ=>by
 unfold choose;rw[Sem.wp_choose];exact⟨hn,by rw[Sem.wp_pure];exact q _ (Nat.mod_lt _ (by omega))⟩
theorem yE:∀(n:Nat) (xs:List α) (s:Shared) (Q:List α->Shared->Prop),xs.length<=n->(∀l d,l.Perm xs->Q l { s with drawn:=d })->Rn (Rt prog w) A (drawOrder n xs) Q E s
 | 0,xs,s,Q,h,q=>by
   have:xs=[]:=UL (by omega);subst this;exact Rc (q [] s.drawn (Ud _))
 | n+1,[],s,Q,h,q=>Rc (q [] s.drawn (Ud _))
 | n+1,x::xs,s,Q,h,q=>by
   unfold drawOrder;refine R6 (wy (by simp) fun i hi=>?_);rw[Rm hi];dsimp only;refine R6 (yE n _ _ _ (by rw[List.length_eraseIdx_of_lt hi];simp at h ⊢;omega) fun l d hl=>?_);exact Rc (q _ d ((Ua.cons _ hl).trans (gC _ _ hi)))
theorem j0(q:Q (byT w) s):Rn (Rt prog w) A setsByText Q E s:=by
 unfold setsByText;exact R6 (wpAny_askSetting (Rc q))
end
end Z
namespace Z
open PySem PySem.Spec PyProof.Rows
section
variable{prog:Rz}{w:RT}{A:RV}{E:Value->Shared->Prop}{s:Shared}{I a:Addr}{o:Obj}{es:Array (Int×Value)}{ep:Nat}{t:RD}
noncomputable def ordI(w:RT)(a:Addr)(ep:Nat)(es:Array (Int×Value)):Array (Int×Value):=if byT w then WK (w.params.setOrder a ep) es else es
noncomputable def slI(w:RT)(t:RD)(i:Nat):Nat:=if byT w then 0 else if i=0 then 0 else t.place.getD (i-1) 0+1
theorem oh:(ordI w a ep es).toList.Perm es.toList:=by
 unfold ordI;split
 ·exact vp _ _
 ·exact Ud _
theorem jc:(ordI w a ep es).size=es.size:=by
 have:=(oh (w:=w) (a:=a) (ep:=ep) (es:=es)).length_eq;simpa using this
theorem Ag(hj:Tj led t)(hb:byT w=false)(hi:i<=t.place.size):S9 t.place (slI w t i)=i:=by
 unfold slI;rw[hb];have hb:=below_at hj.up
 have mono:∀x y,x<y->y<t.place.size->t.place.getD x 0<t.place.getD y 0:=fun x y hxy hy=>by
  have:=List.pairwise_iff_getElem.mp hj.up x y (by simpa using(by omega:x<t.place.size)) (by simpa using hy) hxy;simp only[Ur]at this;rw[RM,RM,Rr (by omega),Rr hy];exact this
 by_cases h0:i=0
 ·subst h0
  simp only[Bool.false_eq_true,if_false,if_true];obtain⟨h1,h2,h3⟩:=hb 0;rcases Nat.eq_zero_or_pos (S9 t.place 0)with h | h
  ·exact h
  ·exact absurd (h2 0 h) (Nat.not_lt_zero _)
 ·simp only[Bool.false_eq_true,if_false,h0]
  obtain⟨h1,h2,h3⟩:=hb (t.place.getD (i-1) 0+1);generalize S9 t.place (t.place.getD (i-1) 0+1)=b at *
  have g1:i<=b:=by
   apply Classical.byContradiction
   intro z;have:=h3 (i-1) (by omega) (by omega);omega
  rcases Nat.lt_or_eq_of_le g1 with g | g
  ·exfalso
   have:=h2 i g;have:=mono (i-1) i (by omega) (by omega);omega
  ·exact g.symm
theorem CW(ho:s.heap.get? a=some o)(hd:o.data=.set es ep t)(hf:t.fits es.size=true)(hj:Tj (!byT w) t)(hdr:byT w=false->(!t.plain&&decide (es.size>1))=false)(hi:i<=es.size)
 (q:Q ((ordI w a ep es)[i]?.map fun e=>(e.2,slI w t (i+1))) s):Rn (Rt prog w) A (setNext a (slI w t i) i ep) Q E s:=by
 have hps:t.place.size=es.size:=by
  simp only[RD.fits,Bool.and_eq_true,beq_iff_eq]at hf;exact hf.1
 unfold setNext;refine R6 (TJ ho hd hf (R6 (j0 ?_)))
 cases hb:byT w with
 | true=>
   unfold ordI slI at *;rw[hb]at q;simp only[if_true]at q ⊢;rw[if_neg (by simp)];refine R6 ?_;unfold setWalk;refine R6 (TJ ho hd hf (R6 (j0 ?_)));rw[hb];exact R6 (wpAny_askSetting (Rc (Rc q)))
 | false=>
   have hb2:=Ag hj hb (i:=i) (by omega);rw[hb]at hj;have hdr:=hdr hb;unfold ordI at q;rw[hb]at q;simp only[Bool.false_eq_true,if_false]at q ⊢;show Rn _ _ (if(!t.plain&&decide (es.size>1))=true then _ else _) _ _ _;rw[hdr];simp only[Bool.false_eq_true,if_false];refine R6 ?_;show Rn _ _ (if(!t.led&&!es.isEmpty)=true then _ else pure ()) _ _ _;rw[hj.led];simp only[Bool.not_false,Bool.not_true,Bool.false_and,Bool.false_eq_true,if_false];refine Rc ?_;rw[hb2]
   by_cases hlt:i<es.size
   ·rw[Rr hlt,Rr (by omega:i<t.place.size)]
    rw[Rr hlt]at q;refine Rc ?_
    have:slI w t (i+1)=t.place[i]'(by omega)+1:=by
     unfold slI;rw[hb];simp only[Bool.false_eq_true,if_false,Nat.add_sub_cancel,Nat.succ_ne_zero,Nat.add_one_ne_zero];rw[RM,Rr (by omega:i<t.place.size)];rfl
    rw[this]at q;exact q
   ·rw[Array.getElem?_eq_none (by omega)]at q ⊢
    exact Rc q
theorem R4(hh:A.handled=none)(hne:a≠I)(hx:o.data=.set es ep t)(hf:t.fits es.size=true)(hj:Tj (!byT w) t)(hdr:byT w=false->(!t.plain&&decide (es.size>1))=false) :
 WalksS prog w A I [I,a] [I] (fun x y=>y=x) es.size (fun i v=>∃e,(ordI w a ep es)[i]?=some e/\v=e.2) (fun i s=>(∃tk,s.heap.get? I=some (sit (.int (slI w t i) tk) i a es.size ep))/\s.heap.get? a=some o)where
 sub:=fun b hb=>by simp at hb;simp[hb]
 grefl:=fun _=>rfl
 gtrans:=fun a b c h1 h2=>h2.trans h1
 frame:=fun i s h' tk st _ hk=>⟨st.1.imp fun _ z=>hk I (by simp) _ z,hk a (by simp) _ st.2⟩
 item:=fun i s Q E hi st q=>by
  obtain⟨⟨tk,h1⟩,h2⟩:=st;have hsz:=jc (w:=w) (a:=a) (ep:=ep) (es:=es);refine rz h1 h2 hx hf (R6 ?_);rw[Int.toNat_natCast];refine CW h2 hx hf hj hdr (by omega) ?_;rw[Rr (by omega)];refine R6 (Uo h1 rfl (by simp) ?_)
  have g1:(s.heap.update I (Tv (·.setIfInBounds 0 (Tf (slI w t (i+1):Nat))))).get? I=some (sit (.int (slI w t (i+1):Nat) 0) i a es.size ep):=by
   refine(S5 _ h1 (U3 (Uk rfl _))).trans ?_
   rfl
  refine R6 (Uo g1 rfl (by simp) (Rc ⟨_,rfl,?_⟩))
  have g2:((s.heap.update I (Tv (·.setIfInBounds 0 (Tf (slI w t (i+1):Nat))))).update I (Tv (·.setIfInBounds 1 (Tf ((i:Int)+1))))).get? I=some (sit (.int (slI w t (i+1):Nat) 0) (i+1) a es.size ep):=by
   refine(S5 _ g1 (U3 (Uk rfl _))).trans ?_
   rfl
  have kp:∀b o,b≠I->s.heap.get? b=some o->((s.heap.update I (Tv (·.setIfInBounds 0 (Tf (slI w t (i+1):Nat))))).update I (Tv (·.setIfInBounds 1 (Tf ((i:Int)+1))))).get? b=some o:=fun b o hb e=>by
   rw[Te _ _ _ _ hb,Te _ _ _ _ hb];exact e
  exact q _ _ ⟨_,Rr (by omega),rfl⟩ ⟨⟨0,g2⟩,kp a o hne h2⟩ ⟨fun b o hb e=>kp b o (fun z=>hb (by simp[z])) e,rfl,rfl,rfl,Nat.le_refl _⟩
 done:=fun s Q E st q=>by
  obtain⟨⟨tk,h1⟩,h2⟩:=st;have hsz:=jc (w:=w) (a:=a) (ep:=ep) (es:=es);refine rz h1 h2 hx hf (R6 ?_);rw[Int.toNat_natCast];refine CW h2 hx hf hj hdr (Nat.le_refl _) ?_;rw[Array.getElem?_eq_none (by omega)];refine R6 (Uo h1 rfl (by simp) ?_)
  refine v5 hh fun h' hk=>q _ ⟨fun b o hb e=>hk b o ?_,rfl,rfl,rfl,Nat.le_refl _⟩
  rw[Te _ _ _ _ (fun z=>hb (by simp[z]))];exact e
 self:=fun i s Q E st q=>by
  obtain⟨⟨tk,h1⟩,h2⟩:=st;exact v7 h1 q
end
end Z
namespace Z
open PySem PySem.Spec PyProof.Rows
section
variable{prog:Rz}{w:RT}{A:RV}{E:Value->Shared->Prop}{s:Shared}{I a T:Addr}{o oT:Obj}{es:Array (Int×Value)}{ep:Nat}{t:RD}
theorem Q7(hh:A.handled=none)(hne:a≠I)(hTI:T≠I)(hx:o.data=.set es ep t)(hf:t.fits es.size=true){p:List Nat}{c:Nat}(hp:p.Perm (RG es.size))(hT:oT.data=.seq (p.map fun(i:Nat)=>Tf i).toArray c) :
 WalksS prog w A I [I,a,T] [I] (fun x y=>y=x) es.size (fun i v=>∃j e,p[i]?=some j/\es[j]?=some e/\v=e.2) (fun i s=>s.heap.get? I=some (sit (.ref T) i a es.size ep)/\s.heap.get? a=some o/\s.heap.get? T=some oT)where
 sub:=fun b hb=>by simp at hb;simp[hb]
 grefl:=fun _=>rfl
 gtrans:=fun a b c h1 h2=>h2.trans h1
 frame:=fun i s h' tk st _ hk=>⟨hk I (by simp) _ st.1,hk a (by simp) _ st.2.1,hk T (by simp) _ st.2.2⟩
 item:=fun i s Q E hi st q=>by
  obtain⟨h1,h2,h3⟩:=st
  have hl:p.length=es.size:=by have:=hp.length_eq;simpa using this
  have hi':i<p.length:=by omega
  have hj:p[i]<es.size:=Tw.mp (hp.mem_iff.mp (Uh hi'));refine sJ h1 h2 hx hf h3 hT ?_;rw[List.getElem?_toArray,RK,Rm hi'];simp only[RJ,Tf];refine R6 ?_;unfold setNextDrawn;refine R6 (TJ h2 hx hf ?_);dsimp only;rw[if_neg (by simp),Int.toNat_natCast,Rr hj];refine Rc (R6 (Uo h1 rfl (by simp) (Rc ⟨_,rfl,?_⟩)))
  have g2:(s.heap.update I (Tv (·.setIfInBounds 1 (.int ((i:Int)+1) 0)))).get? I=some (sit (.ref T) (i+1) a es.size ep):=by
   refine(S5 _ h1 (U3 (Uk rfl _))).trans ?_
   rfl
  have kp:∀b o,b≠I->s.heap.get? b=some o->(s.heap.update I (Tv (·.setIfInBounds 1 (.int ((i:Int)+1) 0)))).get? b=some o:=fun b o hb e=>by
   rw[Te _ _ _ _ hb];exact e
  exact q _ _ ⟨_,_,Rm hi',Rr hj,rfl⟩ ⟨g2,kp a o hne h2,kp T oT hTI h3⟩ ⟨fun b o hb e=>kp b o (fun z=>hb (by simp[z])) e,rfl,rfl,rfl,Nat.le_refl _⟩
 done:=fun s Q E st q=>by
  obtain⟨h1,h2,h3⟩:=st
  have hl:p.length=es.size:=by have:=hp.length_eq;simpa using this
  refine sJ h1 h2 hx hf h3 hT ?_;rw[List.getElem?_toArray,RK,Vu (by omega)];simp only[Option.map_none];refine R6 (Uo h1 rfl (by simp) ?_)
  have g1:(s.heap.update I (Tv (·.setIfInBounds 0 (Tf 0)))).get? I=some (sit (Tf 0) es.size a es.size ep):=by
   refine(S5 _ h1 (U3 (Uk rfl _))).trans ?_
   rfl
  refine R6 (Uo g1 rfl (by simp) ?_)
  refine v5 hh fun h' hk=>q _ ⟨fun b o hb e=>hk b o ?_,rfl,rfl,rfl,Nat.le_refl _⟩
  rw[Te _ _ _ _ (fun z=>hb (by simp[z])),Te _ _ _ _ (fun z=>hb (by simp[z]))];exact e
 self:=fun i s Q E st q=>v7 st.1 q
theorem zU(ho:s.heap.get? a=some o)(hx:o.ExactSet)(hd:o.data=.set es ep t)(hf:t.fits es.size=true)(hb:es.size<W6)
 (q1:(byT w=false->(!t.plain&&decide (es.size>1))=false)->Q (.ref s.heap.objs.size) { s with heap:=s.heap.push (sit (Tf 0) 0 a es.size ep) })
 (q2:∀(p:List Nat) d,p.Perm (RG es.size)->Q (.ref (s.heap.push { cls:=.type "tuple",data:=.seq (p.map fun(i:Nat)=>Tf i).toArray }).objs.size) { s with heap:=(s.heap.push { cls:=.type "tuple",data:=.seq (p.map fun(i:Nat)=>Tf i).toArray }).push (sit (.ref s.heap.objs.size) 0 a es.size ep),drawn:=d }) :
 Rn (Rt prog w) A (Xp (.ref a)) Q E s:=by
 have hT:s.TypeIs (.ref a) "set":=⟨o,ho,hx.1⟩
 refine wpAny_pyIter_slot hT PySem.F.slot_set_iter (VH PySem.F.slot_set_iter hT zX ?_ (PySem.F.args_set_iter_1 _));unfold Sw.«frozenset.__iter__»;refine R6 (m:=Sw.Frozenset.slot0 _ _) (R6 (Rc (Rc ?_)));refine R6 (m:=Sw.Frozenset.sizeOf a) ?_;unfold Sw.Frozenset.sizeOf WQ;refine R6 (R6 (TJ ho hd hf (Rc (Rc ?_))));refine R6 ?_;unfold setDrawn;refine R6 (TJ ho hd hf (R6 (j0 (Rc ?_))))
 have fin:∀(f:Value) (s1:Shared),s1.heap.get? a=some o->Q (.ref s1.heap.objs.size) { s1 with heap:=s1.heap.push (sit f 0 a es.size ep) }->Rn (Rt prog w) A.in1 (setEpoch a >>= fun e=>newFields "set_iterator" [f,Tf 0,.ref a,Tf es.size,Tf e] >>= fun v=>ret v) (fun fin s'=>∃r,fin=.done (.ret r)/\∃T id,s'.TypeIs r T/\typeLookup (.type T) "__next__"=pure (some id)/\Q r s') E s1:=fun f s1 h1 q=>by
  refine R6 ?_;unfold setEpoch;refine R6 (TJ h1 hd hf (Rc (R6 ?_)));unfold newFields;refine Ut ?_;exact Rc ⟨_,rfl,"set_iterator",_,⟨_,Rp _ rfl,rfl⟩,slot_sin.lookup,q⟩
 dsimp only;show Rn _ _ (if(!byT w&&(!t.plain&&decide (es.size>1)))=true then _ else _) _ _ _
 by_cases c:(!byT w&&(!t.plain&&decide (es.size>1)))=true
 ·rw[if_pos c]
  refine R6 (yE es.size _ _ _ (by simp) fun l d hl=>?_)
  have hz:l.length<=sizeLine:=by
   have:=hl.length_eq;rw[List.length_range]at this;rw[this];exact Wg hb
  refine R6 (wpAny_newTuple ?_ (by simpa using hz));exact fin (.ref s.heap.objs.size) _ (R7 _ ho) (q2 l d hl)
 ·rw[if_neg c]
  refine R6 (Rc ?_);refine fin (Tf 0) s ho (q1 fun z=>?_);rw[z]at c;simpa using c
theorem sG(hT:s.TypeIs (.ref a) "set")(q:Q false s):Rn (Rt prog w) A (Sw.List.listLengthHint (.ref a)) Q E s:=by
 unfold Sw.List.listLengthHint;refine R6 (wpAny_specialOf hT (PySem.F.slot_set_len.lookup) ?_)
 have e:splitId "set.__len__"=some ("set","__len__"):=by decide +kernel
 dsimp only;rw[e];dsimp only;refine R6 (wpAny_isInstance hT sub_set_self ?_);rw[if_neg (by decide)]
 refine wpAny_ite_split (fun _=>R6 (wpAny_typeOf hT (Rc q))) fun z=>absurd (by decide +kernel) z
section
variable{K:Type} [DecidableEq K]{knd:KeyKind prog w K}{pj:Value->K}
theorem xg{L:Addr}{fp wr:List Addr}{n:Nat}{P:Nat->Value->Prop}{St:Nat->Shared->Prop}{Q:List Value->Shared->Prop}(W:WalksS prog w A.in1 I fp wr (fun x y=>y=x) n P St)(hn:n<=sizeLine)(hL:L∉fp)(st:St 0 s)(hl:s.heap.get? L=some { cls:=.type "list",data:=.seq #[] 0 }){hT:s.TypeIs (.ref a) "set"}
 (q:∀h' tk vs,s.toks<=tk->(∀b o,b∉L::wr->s.heap.get? b=some o->h'.get? b=some o)->vs.length=n->(∀j v,vs[j]?=some v->P j v)->Q vs { s with heap:=h',toks:=tk }) (b:Bool) :
 Rn (Rt prog w) A.in1 (if(false||b)=true then(rule "list.extend.makes-room" >>= fun _=>Sw.List.listTouch (.ref L) >>= fun _=>again (.builtin "list.extend.loop" ⟨[.ref L,.ref I,.ref L],[]⟩))else again (.builtin "list.extend.loop" ⟨[.ref L,.ref I,.ref L],[]⟩))
  (fun fin s'=>match fin with
   | .done f=>(match(WN f:X6)with
     | .ok (.ret v)=>Rn (Rt prog w) A (match v with | .ref a=>(load a >>= fun ob=>match ob.data with | .seq xs _=>pure xs.toList | _=>Uu "internal:collect") | _=>Uu "internal:collect") Q E s'
     | .ok _=>False
     | .error e=>E e s')
   | .again c'=>c'.quiet=true/\Vx (Rt prog w) A c' (fun r s'=>match r with
     | .ok (.ret v)=>Rn (Rt prog w) A (match v with | .ref a=>(load a >>= fun ob=>match ob.data with | .seq xs _=>pure xs.toList | _=>Uu "internal:collect") | _=>Uu "internal:collect") Q E s'
     | .ok _=>False
     | .error e=>E e s') s') (fun e s'=>match(Except.error e:X6)with
     | .ok (.ret v)=>Rn (Rt prog w) A (match v with | .ref a=>(load a >>= fun ob=>match ob.data with | .seq xs _=>pure xs.toList | _=>Uu "internal:collect") | _=>Uu "internal:collect") Q E s'
     | .ok _=>False
     | .error e=>E e s') s:=by
 have key:∀(h1:Rk) (c:Nat),(∀b o,b≠L->s.heap.get? b=some o->h1.get? b=some o)->h1.get? L=some { cls:=.type "list",data:=.seq #[] c }->Vx (Rt prog w) A (.builtin "list.extend.loop" ⟨[.ref L,.ref I,.ref L],[]⟩) (fun r s'=>match r with
  | .ok (.ret v)=>Rn (Rt prog w) A (match v with | .ref a=>(load a >>= fun ob=>match ob.data with | .seq xs _=>pure xs.toList | _=>Uu "internal:collect") | _=>Uu "internal:collect") Q E s'
  | .ok _=>False
  | .error e=>E e s') { s with heap:=h1 }:=fun h1 c hk hl1=>by
  refine codeAny_extend_loopS W hn L hL (.ref L) n 0 _ #[] c rfl (Nat.zero_le _) (W.frame 0 s h1 s.toks st (Nat.le_refl _) fun b hb o e=>hk b o (fun z=>hL (z▸hb)) e) hl1 (ItemsOf.nil _) fun s' acc c' m hl' hi=>?_
  refine R6 (wpAny_load hl' (Rc ?_));obtain⟨h',g',d',t',o'⟩:=s';obtain⟨m1,m2,m3,m4,m5⟩:=m;have m2:g'=s.gens:=m2;have m3:d'=s.drawn:=m3;have m4:o'=s.os:=m4;subst m2;subst m3;subst m4
  refine q h' t' acc.toList m5 (fun b o hb e=>m1 b o hb (hk b o (fun z=>hb (by simp[z])) e)) (by simpa using hi.1) fun j v hv=>hi.2 j v (by simpa using hv)
 cases b with
 | false=>exact Rc ⟨Ul PySem.F.plain_extend_loop _,key s.heap 0 (fun _ _ _ e=>e) hl⟩
 | true=>
   simp only[Bool.false_or,if_true];refine R6 (W8 (R6 ?_));show Rn _ _ (Xi L (·.push .none) >>= fun _=>Xi L (·.pop)) _ _ _;have g1:=S5 (VB (·.push Value.none)) hl rfl;have g2:=S5 (VB (·.pop)) g1 rfl;refine R6 (VR hl rfl (VR (hz:=by seq_fits) g1 rfl (Rc ⟨Ul PySem.F.plain_extend_loop _,key _ _ (fun b o hb e=>?_) g2⟩)));rw[Te _ _ _ _ hb,Te _ _ _ _ hb];exact e
end
end
end Z
namespace Z
open PySem PySem.Spec PyProof.Rows
theorem wA{α β:Type}{vs:List β}{l:List α}{f:α->β}(hl:vs.length=l.length)(h:∀(j:Nat) v,vs[j]?=some v->∃e,l[j]?=some e/\v=f e):vs=l.map f:=by
 apply List.ext_getElem?
 intro j
 by_cases hj:j<vs.length
 ·obtain⟨e,h1,h2⟩:=h j vs[j] (Rm hj)
  rw[Rm hj,RK,h1,h2];rfl
 ·rw[Vu (by omega),Vu (by rw[Rw];omega)]
section
variable{prog:Rz}{w:RT}{A:RV}{E:Value->Shared->Prop}{s:Shared}{a:Addr}{K:Type} [DecidableEq K]{knd:KeyKind prog w K}{pj:Value->K}
theorem p6{ks:List K}(hpj:∀v k,knd.is k v=true->pj v=k)(hh:A.handled=none)(S:SetL knd pj s.heap a (!byT w) ks){Q:List Value->Shared->Prop}
 (q:∀h' d' tk vs,s.toks<=tk->(∀b o,s.heap.get? b=some o->h'.get? b=some o)->(vs.map pj).Perm ks->(∀v∈vs,knd.is (pj v) v=true)->Q vs { s with heap:=h',drawn:=d',toks:=tk }):Rn (Rt prog w) A (Xq (.ref a)) Q E s:=by
 obtain⟨o,es,ep,t,ho,hx,hd,he,hp,hb,hf,hj⟩:=S;have hn:=Wg hb;have hlt:a<s.heap.objs.size:=Ro ho
 have hend:∀(l:List (Int×Value)),l.Perm es.toList->((l.map fun e=>e.2).map pj).Perm ks/\∀v∈l.map (fun e=>e.2),knd.is (pj v) v=true:=fun l hl=>by
  refine⟨?_,fun v hv=>?_⟩
  ·rw[SM];exact(hl.map _).trans hp
  ·obtain⟨e,h1,rfl⟩:=RB.mp hv
   obtain⟨⟨k,h2,_⟩,_⟩:=he e (hl.mem_iff.mp h1);exact(hpj _ _ h2)▸h2
 unfold Xq;refine R6 (wpAny_runValue (Th PySem.F.entry_proto_collect ?_));rw[SJ PySem.F.plain_proto_collect _];show Rn _ A.in1 (newList [] >>= fun acc=>again (.builtin "list.__iadd__" ⟨[acc,.ref a],[]⟩)) _ _ s;refine R6 (Ut ?_);refine Rc ⟨Ul Vc _,Th PySem.F.entry_list_iadd ?_⟩;rw[SJ Vc _];show Rn _ A.in1 (Sw.List.listExtendWith (.ref s.heap.objs.size) (.ref a) (.ref s.heap.objs.size)) _ _ _;have hl0:(s.heap.push { cls:=.type "list",data:=.seq ([]:List Value).toArray }).get? s.heap.objs.size=some { cls:=.type "list",data:=.seq #[] 0 }:=Rp _ rfl;have ha0:=R7 { cls:=.type "list",data:=.seq ([]:List Value).toArray } ho
 have hkp:∀b o',s.heap.get? b=some o'->(s.heap.push { cls:=.type "list",data:=.seq ([]:List Value).toArray }).get? b=some o':=fun b o' e=>R7 _ e
 have hsz:(s.heap.push { cls:=.type "list",data:=.seq ([]:List Value).toArray }).objs.size=s.heap.objs.size+1:=Uw _ _;generalize s.heap.push { cls:=.type "list",data:=.seq ([]:List Value).toArray }=h1 at *
 have hT:∀h2:Rk,h2.get? a=some o->∀d tk,Shared.TypeIs ⟨h2,s.gens,d,tk,s.os⟩ (.ref a) "set":=fun h2 e d tk=>⟨o,e,hx.1⟩
 unfold Sw.List.listExtendWith;refine R6 (wpAny_typeOf (T:="set") (hT h1 ha0 _ _) ?_)
 have c1:Sw.List.listSameRef (.ref s.heap.objs.size) (.ref a)=false:=by simp[Sw.List.listSameRef,Nat.ne_of_gt hlt]
 rw[c1];rw[if_neg (by decide)];refine R6 (zU (s:=⟨h1,s.gens,s.drawn,s.toks,s.os⟩) ha0 hx hd hf hb (fun hdr=>?_) fun p d hp'=>?_)
 ·refine R6 (U6 (sG (hT _ (R7 _ ha0) _ _) ?_))
  have hne:a≠h1.objs.size:=by rw[hsz];exact Nat.ne_of_lt (Nat.lt_succ_of_lt hlt)
  refine xg (s:=⟨h1.push (sit (Tf 0) 0 a es.size ep),s.gens,s.drawn,s.toks,s.os⟩) (hT:=hT _ (R7 _ ha0) _ _) (R4 (I:=h1.objs.size) (o:=o) hh hne hd hf hj hdr) hn (L:=s.heap.objs.size) ?_ ⟨⟨0,?_⟩,R7 _ ha0⟩ (R7 _ hl0) (fun h' tk vs htk hk hl hv=>?_) _
  ·rw[hsz]
   simp only[Rh,RZ,or_false,not_or];exact⟨Nat.ne_of_lt (Nat.lt_succ_self _),Nat.ne_of_gt hlt⟩
  ·refine(Rp _ rfl).trans ?_
   have:slI w t 0=0:=by unfold slI;split<;>rfl
   rw[this];rfl
  ·have ev:vs=(ordI w a ep es).toList.map fun e=>e.2:=wA (by rw[hl];have:=jc (w:=w) (a:=a) (ep:=ep) (es:=es);simpa using this.symm) fun j v hjv=>by
    obtain⟨e,h2,h3⟩:=hv j v hjv;exact⟨e,by simpa using h2,h3⟩
   subst ev;obtain⟨e1,e2⟩:=hend _ (oh (w:=w) (a:=a) (ep:=ep) (es:=es));refine q h' s.drawn tk _ htk (fun b o' e=>hk b o' ?_ (R7 _ (hkp b o' e))) e1 e2;have:=Ro e;rw[hsz];simp only[Rh,RZ,or_false,not_or];exact⟨Nat.ne_of_lt this,Nat.ne_of_lt (Nat.lt_succ_of_lt this)⟩
 ·refine R6 (U6 (sG (hT _ (R7 _ (R7 _ ha0)) _ _) ?_))
  have hs2:=Uw h1 ({ cls:=.type "tuple",data:=.seq (p.map fun(i:Nat)=>Tf i).toArray }:Obj)
  have hne:a≠(h1.push ({ cls:=.type "tuple",data:=.seq (p.map fun(i:Nat)=>Tf i).toArray }:Obj)).objs.size:=by rw[hs2,hsz];exact Nat.ne_of_lt (Nat.lt_succ_of_lt (Nat.lt_succ_of_lt hlt))
  have hT0:(h1.push ({ cls:=.type "tuple",data:=.seq (p.map fun(i:Nat)=>Tf i).toArray }:Obj)).get? h1.objs.size=some _:=Rp _ rfl
  have hk2:∀b o',h1.get? b=some o'->(h1.push ({ cls:=.type "tuple",data:=.seq (p.map fun(i:Nat)=>Tf i).toArray }:Obj)).get? b=some o':=fun b o' e=>R7 _ e
  have hne2:h1.objs.size≠(h1.push ({ cls:=.type "tuple",data:=.seq (p.map fun(i:Nat)=>Tf i).toArray }:Obj)).objs.size:=by rw[hs2];exact Nat.ne_of_lt (Nat.lt_succ_self _)
  generalize h1.push ({ cls:=.type "tuple",data:=.seq (p.map fun(i:Nat)=>Tf i).toArray }:Obj)=h2 at *;refine xg (s:=⟨h2.push (sit (.ref h1.objs.size) 0 a es.size ep),s.gens,d,s.toks,s.os⟩) (hT:=hT _ (R7 _ (hk2 _ _ ha0)) _ _) (Q7 (prog:=prog) (w:=w) (A:=A.in1) (I:=h2.objs.size) (T:=h1.objs.size) (o:=o) (oT:={ cls:=.type "tuple",data:=.seq (p.map fun(i:Nat)=>Tf i).toArray }) hh hne hne2 hd hf hp' rfl) hn (L:=s.heap.objs.size) ?_ ⟨Rp _ rfl,R7 _ (hk2 _ _ ha0),R7 _ hT0⟩ (R7 _ (hk2 _ _ hl0)) (fun h' tk vs htk hk hl hv=>?_) _
  ·rw[hs2,hsz]
   simp only[Rh,RZ,or_false,not_or];exact⟨Nat.ne_of_lt (Nat.lt_succ_of_lt (Nat.lt_succ_self _)),Nat.ne_of_gt hlt,Nat.ne_of_lt (Nat.lt_succ_self _)⟩
  ·have hpl:p.length=es.size:=by have:=hp'.length_eq;simpa using this
   have hin:∀j∈p,j<es.toList.length:=fun j hj'=>by have:=Tw.mp (hp'.mem_iff.mp hj');simpa using this
   have ev:vs=(p.map fun j=>es.toList[j]?.getD (0,.none)).map fun e=>e.2:=by
    rw[SM]
    refine wA (by omega) fun j v hjv=>?_
    obtain⟨i,e,h3,h4,h5⟩:=hv j v hjv;refine⟨i,h3,?_⟩;simp only[Function.comp_apply,Array.getElem?_toList,h4,Ug,h5]
   have hperm:(p.map fun j=>es.toList[j]?.getD (0,.none)).Perm es.toList:=by
    refine(hp'.map _).trans ?_
    have:(RG es.size).map (fun j=>es.toList[j]?.getD (0,.none))=es.toList:=by
     apply List.ext_getElem
     ·simp
     ·intro i h3 h4
      rw[List.getElem_map,List.getElem_range,Rm h4];rfl
    rw[this]
   subst ev;obtain⟨e1,e2⟩:=hend _ hperm;refine q h' d tk _ htk (fun b o' e=>hk b o' ?_ (R7 _ (hk2 _ _ (hkp b o' e)))) e1 e2;have:=Ro e;rw[hs2,hsz];simp only[Rh,RZ,or_false,not_or];exact⟨Nat.ne_of_lt this,Nat.ne_of_lt (Nat.lt_succ_of_lt (Nat.lt_succ_of_lt this))⟩
end
end Z
namespace Z
open PySem PySem.Spec PyProof.Rows L2
noncomputable def pjS:Value->Str
 | .str x _=>x
 | _=>⟨#[]⟩
section
variable{X:Cx}{pins:List (Addr×Obj)}{σ:L2.St}{H:Hp}{s:Shared}
theorem Eh(v:Value)(k:Str)(h:(strKind X.prog X.w).is k v=true):pjS v=k:=by
 obtain⟨t,rfl⟩:=Value.isStrOf_shape h;rfl
theorem uM(I:Inv X pins σ H s)(d:Drawn):Inv X pins σ H { s with drawn:=d }:=⟨I.ok,I.os,I.bare,I.base,I.loc,I.cell,I.free,I.freeC,I.pin,I.hok,I.len⟩
noncomputable def setS(X:Cx)(l:Addr)(ks:List Str):HO:=.ext fun h=>SetL (strKind X.prog X.w) pjS h l (!byT X.w) ks
theorem Ax{K:Type} [DecidableEq K]{knd:PySem.KeyKind X.prog X.w K}{pj:Value->K}{h':Rk}{l:Addr}{ks:List K}(S:SetL knd pj h' l (!byT X.w) ks){H':Hp}:ObjOk X.prog X.w H' h' l (.ext fun h=>SetL knd pj h l (!byT X.w) ks):=by
 obtain⟨o,es,ep,t,ho,r⟩:=id S;exact⟨S,⟨o,ho⟩,fun h1 h2 a b=>a.kept b⟩
def rSet(X:Cx):List V->Hp->VK->Prop:=fun xs H Q=>
 (∃(c:Addr) (ss:List Str),xs=[.ref c]/\SqL X.K H c (ss.map V.str)/\ss.length<4000/\∀(l:Addr) (ks:List Str),ks.Nodup->(∀k,k∈ks↔k∈ss)->H l=none->Q (.ref l) (upd H l (setS X l ks)))
theorem vy:∀{xs:List V} {us:List Value} {i:Nat} {u:Value},Vals xs us->us[i]?=some u->∃x,xs[i]?=some x/\RelV x u
 | _,_,i,u,.nil,h=>by simp at h
 | _,_,0,u,.cons r t,h=>by simp at h;subst h;exact⟨_,rfl,r⟩
 | _,_,i+1,u,.cons r t,h=>by simpa using vy t (by simpa using h)
theorem BX{K:Type} [DecidableEq K] [Inhabited K](ss:List K)(k:K):k∈ded (fun i=>ss.getD i default) ss.length↔k∈ss:=by
 rw[uU]
 constructor
 ·rintro⟨j,h1,h2⟩
  rw[Ss,Rm h1]at h2;exact h2▸Uh h1
 ·intro h
  obtain⟨j,h1,h2⟩:=Uv h;exact⟨j,h1,by rw[Ss,Rm h1];exact h2⟩
theorem Ay(hc:X.calm=true):CallR X (.type "set") (rSet X):=by
 intro pins s σ H xs us Q I r h;have h4:W6=4096:=rfl;obtain⟨c,ss,rfl,hq,hn,q⟩:=h;obtain⟨u,rfl,rx⟩:=vals1 r;cases rx;obtain⟨its,rv,pl,hz⟩:=I.list hq
 have hlen:its.length=ss.length:=by have:=rv.length;rw[Rw]at this;omega
 refine set_list (knd:=strKind X.prog X.w) (pj:=pjS) Eh (fun i=>ss.getD i default) (I.ok.hd hc) pl.isList (fun i v hv=>?_) (by rw[Ru,hlen,h4];omega) fun h' tk htk S hk=>?_
 ·rw[List.getElem?_toArray]at hv
  obtain⟨x,h1,h2⟩:=vy rv hv;rw[RK]at h1;obtain⟨y,h3,rfl⟩:=T7.mp h1;obtain⟨t,rfl⟩:=h2;rw[Ss,h3];exact⟨strKind_is _ _ _ _,rfl⟩
 ·rw[show its.toArray.size=ss.length by rw[Ru];exact hlen]at S
  exact⟨.ref s.heap.objs.size,_,I.laid (a:=s.heap.objs.size) (o:=setS X s.heap.objs.size _) (t':=tk) hk (Nat.le_refl _) (Ax S),rfl,q _ _ (Dt _ _) (BX ss) I.fresh⟩
theorem yD:∀{vs:List Value},(∀v∈vs,(strKind X.prog X.w).is (pjS v) v=true)->Xu vs (vs.map pjS)
 | [],_=>.nil
 | v::vs,h=>by
   obtain⟨t,e⟩:=Value.isStrOf_shape (h v Rg)
   have ih:=yD fun u hu=>h u (Rb _ hu)
   rw[R8];generalize pjS v=k at e ⊢;subst e;exact .cons k t ih
def xW(X:Cx):List V->Hp->VK->Prop:=fun xs H Q=>
 (∃(c:Addr) (ks:List Str),xs=[.ref c]/\H c=some (setS X c ks)/\ks.length<64/\∀(l:Addr) (ss:List Str),ss.Perm ks->UT ss=true->H l=none->Q (.ref l) (upd H l (.lst (ss.map V.str))))
theorem jC(hc:X.calm=true):CallR X (.builtin "sorted") (xW X):=by
 intro pins s σ H xs us Q I r h;obtain⟨c,ks,rfl,hH,h64,q⟩:=h;obtain⟨u,rfl,rx⟩:=vals1 r;cases rx;have S:=(I.hok c _ hH).1
 refine L2.sorted_by PyProof.Rows.strKind_oneLt fun E'=>?_
 refine p6 (A:=X.A.in1) Eh (I.ok.hd hc) S fun h' d' tk vs htk hk hp hv=>?_
 have hS:=yD hv
 have hl:vs.length=ks.length:=by have:=hp.length_eq;simpa using this
 have I1:Inv X pins σ H { s with heap:=h',drawn:=d',toks:=tk }:=uM (I.kept (t':=tk) hk) d';refine⟨hS.keysOf,fun v₁ v₂ rest e=>keyKind_strs (by rw[<-e];exact hS),by omega,fun h2 st hk2 hp2 hs2 ho2=>?_⟩;obtain⟨ss,a1,a2,a3⟩:=sorted_out_str hS hp2 hs2;obtain⟨e,ho2⟩:=ho2;have hl2:=a2.length_eq;rw[Rw]at hl2;refine⟨.ref h'.objs.size,_,I1.laid (a:=h'.objs.size) (o:=.lst (ss.map V.str)) (t':=tk) hk2 (Nat.le_refl _) ?_,rfl,q _ ss (a2.trans hp) a3 I1.fresh⟩;refine⟨by rw[Rw,T9];omega,((Xn st).map (·.2)).toList,e,iJ a1,?_⟩;rw[ho2]
end
end Z
namespace Z
open PySem PySem.Spec PyProof.Rows L2
theorem dJ [DecidableEq α](k:α):∀l:List α,k∈cN l↔k∈l
 | []=>by simp[cN]
 | x::l=>by
   have ih:=dJ k l;rw[cN];split
   ·rename_i h
    rw[ih,Rh];exact⟨.inr,fun z=>z.elim (fun e=>e▸h) id⟩
   ·rw[Rh,Rh,ih]
theorem t8 [DecidableEq α]:∀l:List α,(cN l).Nodup
 | []=>Wq
 | x::l=>by
   have ih:=t8 l;rw[cN];split
   ·exact ih
   ·rename_i h
    exact Sd.mpr ⟨fun z=>h ((dJ x l).mp z),ih⟩
section
variable{X:Cx}{W:Wd}
theorem Hg(hs:Same H H1)(h:Res W P lk H1 H' true d v):Res W P lk H H' true d v:=by
 unfold Res at h ⊢;rw[if_pos rfl]at h ⊢;obtain⟨a,h1,h2,h3⟩:=h;refine⟨a,h1,?_,h3⟩
 cases e:H a with
 | none=>rfl
 | some o=>rw[hs a o e]at h2;cases h2
theorem Gv{x:List (List Nat)}(h:x.Nodup):(x.map strV).Nodup:=by
 rw[List.Nodup,W4]
 exact h.imp fun{a b} hab e=>hab (du e)
theorem Bk(hk:W.K=X.K):Sem1 W (fun xs H Q=>rSet X xs H fun v H1=>xW X [v] H1 Q) (b1D .sortedSet):=by
 intro lk P H x dx Q w d hS hK hx e k
 cases dx<;>first | exact nope e | exact fB e | simp only[b1D]at e
 rename_i l;obtain⟨c,vs,rfl,q1,q2⟩:=hx;unfold ssD at e
 have keep:∀{l1 l2:Addr} {u1 u2:HO},H l1=none->upd H l1 u1 l2=none->Same H (upd (upd H l1 u1) l2 u2)/\(∀a,P a->∃o,upd H l1 u1 a=some o)/\Same H (upd H l1 u1):=fun{l1 l2 u1 u2} h1 h2=>⟨(Same.upd h1).trans (Same.upd h2),fun a ha=>by
  obtain⟨o,e⟩:=hK a ha
  exact⟨o,Same.upd h1 a o e⟩,Same.upd h1⟩
 cases e1:strsOf l with
 | some xs=>
   rw[e1]at e;dsimp only at e;split at e
   ·rename_i hn
    cases e;have hall:=lF e1 q2;have ev:=fX e1 q2;have hl:l.length=xs.length:=sW e1;subst ev;refine⟨c,xs.map strV,rfl,by rw[SM];exact hk▸q1,by rw[Rw];omega,fun l1 ks nd mem h1=>?_⟩
    have hp:ks.Perm ((cN xs).map strV):=(List.perm_ext_iff_of_nodup nd (Gv (t8 xs))).mpr fun a=>by
     rw[mem a,RB,RB];exact⟨fun⟨b,h,e⟩=>⟨b,(dJ b xs).mpr h,e⟩,fun⟨b,h,e⟩=>⟨b,(dJ b xs).mp h,e⟩⟩
    refine⟨l1,ks,rfl,aU,by have:=hp.length_eq;rw[Rw]at this;omega,fun l2 ss hp2 hs2 h2=>?_⟩;rw[fM (hp2.trans hp) hs2];obtain⟨k1,k2,k3⟩:=keep (u2:=.lst (((eG (cN xs)).map strV).map V.str)) h1 h2;refine k _ _ k1 (Hg k3 (jh h2 (je fun y hy=>hall y ?_) k2));exact(dJ y xs).mp ((sortS_perm _).mem_iff.mp hy)
   ·cases e
 | none=>rw[e1]at e;cases e
theorem Oa(hk:W.K=X.K)(hc:X.calm=true)(hg:Gl X "sorted")(hm:X.mg "sorted"=none)(hg2:Gl X "set")(hm2:X.mg "set"=none)(ha:PE X a (tD X W true fa))(hst:az a=false) :
 PE X (.Call (.Name "sorted" p) [.Call (.Name "set" p2) [a] [] pos2] [] pos) (tD X W lk fun δ=>(fa δ).bind fun x=>b1D .sortedSet x.2) :=
 PE.imp (g8 (jC hc) hg hm PyProof.Rows.boot_sorted (bD (o8 (Ay hc) hg2 hm2 (by kernel_rfl) (bD ha cP (bI hst)) (by decide +kernel) (by decide +kernel) (bI hst) rfl) cP rfl) (by decide +kernel) (by decide +kernel) rfl rfl) fun σ H Q h=>vU (Bk hk) (iz _) h
end
end Z
namespace Z
open PySem PySem.Spec PyProof.Rows L2
section
variable{X:Cx}{W:Wd}{lk lk':Bool}{σ:L2.St}{H H1 H':Hp}{me:Option Addr}{B:Addr->Prop}{δ:Dst}{Q Q':VK}{a b c:Expr}{pos p pos' apos cpos px spos:Pos}{o:Orc}
theorem Hq:PE X (.Dict [] [] pos) (tD X W lk fun δ=>ev o δ lk (.dnew [] .nil)):=by
 refine PE.imp zb fun σ H Q h=>?_
 obtain⟨me,B,δ,S,h⟩:=tD_iff.mp h;simp only[ev,evL,XS]at h;obtain⟨_,h⟩:=cY h;intro q ep hq;exact h _ _ (Same.upd hq) (lW hq rfl ⟨Wq,fun x hx=>by simp at hx⟩ (by simp only[RQ,Reps]))
noncomputable def Itd(a:Addr)(kvs:List (Key×V))(ep:Nat):It:=⟨fun i H=>H a=some (.dK kvs ep)/\i<kvs.length,fun i H x H'=>H'=H/\∃p,kvs[i]?=some p/\x=kV p.1,fun i H=>H a=some (.dK kvs ep)/\kvs.length<=i⟩
theorem Q9(h:(bc P w).is k u=true):RelV (kV k) u:=by
 rcases aY (show mQ k u=true from h)with⟨i,t,rfl,rfl⟩ | ⟨x,t,rfl,rfl⟩
 all_goals(exact⟨t,rfl⟩)
theorem xQ{P:Rz}{w:RT}{K:Ra}{tg:Expr}(a it:Addr)(kvs:List (Key×V))(ep:Nat):Turn P w K tg (Itd a kvs ep) [it] it (fun i h=>h.IsKeyIter it a i kvs.length ep)where
 mem:=by simp
 obj:=fun i h st b hb=>by
  have e:b=it:=by simpa using hb
  subst e;obtain⟨o,e,c,d⟩:=st;exact⟨o,e,fun v z=>by rw[d]at z;cases z⟩
 keep:=fun i h h' st k=>st.at fun o e=>k it (by simp) o e
 item:=by
  intro X hP hw hK hc i pins s σ H E I hf st hg;subst hP hw hK;obtain⟨hq,hi⟩:=hg
  obtain⟨_,lo,vs,rel,dd⟩:=(show ObjOk X.prog X.w H s.heap a (.dK kvs ep)from I.hok a _ hq)
  obtain⟨f0,f1,f2,f3,f4,f5⟩:=hf it (by simp);have hl:kvs.length=vs.length:=rel.length
  have hx:vs[i]?=some (vs[i]'(by omega)):=by simp
  have hkeys:=rel.keys;rw[hl]at st ⊢
  refine wpAny_pyNext_dict_item st dd (k:=(vs[i]'(by omega)).1) (v:=(vs[i]'(by omega)).2) hx fun key h' hkey st' sb=>?_
  have I1:Inv X pins σ H { s with heap:=h' }:=I.turned (t':=s.toks) (fun b o hb e=>(sb.2 b hb).trans e) f0 f1 f3 f4 f5;obtain⟨o,e,c,d⟩:=id st'
  have ek:(kvs[i]).1=(vs[i]'(by omega)).1:=by
   have:=congrArg (fun l=>l[i]?) hkeys;simpa[hi,show i<vs.length by omega]using this
  exact⟨key,rfl,vK (s:={ s with heap:=h' }) e c d (by decide) ⟨kV (kvs[i]).1,H,I1,by rw[ek];exact Q9 hkey,⟨rfl,kvs[i],by simp,rfl⟩,st',fun b hb=>(hf b hb).1⟩⟩
 done:=by
  intro X hP hw hK hc i pins s σ H E I hf st hg;subst hP hw hK;obtain⟨hq,hi⟩:=hg
  obtain⟨_,lo,vs,rel,dd⟩:=(show ObjOk X.prog X.w H s.heap a (.dK kvs ep)from I.hok a _ hq)
  obtain⟨f0,f1,f2,f3,f4,f5⟩:=hf it (by simp);have hl:kvs.length=vs.length:=rel.length;rw[hl]at st
  exact wpAny_pyNext_dict_end (I.ok.hd hc) st dd (by simp;omega) fun h' eb=>⟨rfl,I.turned (t':=s.toks) (fun b o hb e=>eb b o hb e) f0 f1 f3 f4 f5⟩
 self:=fun _ _ _ _ _ st h=>wpAny_pyIter_keyiter st h
def iDct(tl:TE):L2.TI:=fun σ H R=>tl σ H fun x H1=>∃a kvs ep,x=.ref a/\H1 a=some (.dK kvs ep)/\R (Itd a kvs ep) H1
theorem Gd{tg l:Expr}{tl:TE}(hl:PE X l tl):PI X tg l (iDct tl):=by
 intro pins s σ H R I h
 refine thn (hl pins s σ H _ I h) fun v s1 ⟨x,H1,I1,r1,q1⟩=>?_
 obtain⟨a,kvs,ep,e,hq,q⟩:=q1;subst e;cases r1
 obtain⟨_,lo,vs,rel,dd⟩:=(show ObjOk X.prog X.w H1 s1.heap a (.dK kvs ep)from I1.hok a _ hq)
 have hlen:kvs.length=vs.length:=rel.length;refine wpAny_pyIter_dict lo dd ?_;refine⟨s1.heap.objs.size,[s1.heap.objs.size],_,_,H1,rfl,I1.kept (t':=s1.toks) fun b o e=>R7 _ e,xQ a _ kvs ep,⟨_,Rp _ rfl,rfl,by rw[hlen];rfl⟩,fun b hb=>?_,q⟩
 have e:b=s1.heap.objs.size:=by simpa using hb
 subst e;exact I1.fpOk (Nat.le_refl _) (I1.hok.fresh (Nat.le_refl _))
theorem pO{H2:Hp}{a:Addr}{kvs:List (Key×V)}{ep:Nat}(h:H2 a=some (.dK kvs ep)):Yields (Itd a kvs ep) H2 (kvs.map fun p=>kV p.1)where
 go:=fun i H' s hi=>⟨s _ _ h,by simpa using hi⟩
 yld:=fun i H' x H'' s _ ⟨e,p,e1,e2⟩=>⟨e,by rw[RK,e1,e2];rfl⟩
 stop:=fun H' s=>⟨s _ _ h,by simp⟩
theorem ju:∀{ks:List DK} {kvs:List (Key×V)},kvs.map (·.1)=ks.map keyV->(∀x,Yh x∈ks->x.length<=16777216)->Reps W G (ks.map keyD) (kvs.map fun p=>kV p.1)
 | [],[],_,_=>by simp only[RQ,Reps]
 | [],_::_,e,_=>by simp at e
 | _::_,[],e,_=>by simp at e
 | k::ks,p::kvs,e,h=>by
   simp only[R8,Tq]at e;simp only[R8,Reps];refine⟨?_,ju e.2 fun x hx=>h x (Rb _ hx)⟩;rw[e.1]
   cases k with
   | i n=>simp only[keyD,keyV,kV,Rep]
   | s x=>simp only[keyD,keyV,kV,Rep];exact⟨trivial,h x Rg⟩
noncomputable def Itx(x:Str):It:=⟨fun i _=>i<x.cps.size,fun i H v H'=>H'=H/\∃c,x.cps[i]?=some c/\v=.str ⟨#[c]⟩,fun i _=>x.cps.size<=i⟩
theorem Bj{P:Rz}{w:RT}{A:RV}{E:Value->Shared->Prop}{s:Shared}{it:Addr}{x:Str}{t:Tok}{i c:Nat}{Q:Option Value->Shared->Prop}(hit:s.heap.IsStrIter it (Vb x) x t i)(hx:x.cps[i]?=some c)
 (hQ:∀h',h'.IsStrIter it (Vb x) x t (i+1)->Tz it s.heap h'->Q (some (.str ⟨#[c]⟩ s.toks)) { s with heap:=h',toks:=s.toks+1 }):Rn (Rt P w) A (Wj (.ref it)) Q E s:=by
 unfold Vb at hit hQ;split at hit
 ·exact wpAny_pyNext_ascii_item hit hx (by simpa only[*,if_true]using hQ)
 ·exact wpAny_pyNext_wide_item hit hx (by simpa only[*,if_false,Bool.false_eq_true]using hQ)
theorem end_str{P:Rz}{w:RT}{A:RV}{E:Value->Shared->Prop}{s:Shared}{it:Addr}{x:Str}{t:Tok}{i:Nat}{Q:Option Value->Shared->Prop}(hh:A.handled=none)(hit:s.heap.IsStrIter it (Vb x) x t i)(hx:x.cps[i]?=none)
 (hQ:∀h',Rk.ExtBut it s.heap h'->Q none { s with heap:=h' }):Rn (Rt P w) A (Wj (.ref it)) Q E s:=by
 unfold Vb at hit;split at hit
 ·exact wpAny_pyNext_ascii_end hh hit hx hQ
 ·exact wpAny_pyNext_wide_end hh hit hx hQ
theorem zg{P:Rz}{w:RT}{K:Ra}{tg:Expr}(it:Addr)(x:Str)(t:Tok):Turn P w K tg (Itx x) [it] it (fun i h=>h.IsStrIter it (Vb x) x t i)where
 mem:=by simp
 obj:=fun i h st b hb=>by
  have e:b=it:=by simpa using hb
  subst e;obtain⟨o,e,c,d⟩:=st;exact⟨o,e,fun v z=>by rw[d]at z;cases z⟩
 keep:=fun i h h' st k=>by
  obtain⟨o,e,r⟩:=st;exact⟨o,k it (by simp) o e,r⟩
 item:=by
  intro X hP hw hK hc i pins s σ H E I hf st hg;subst hP hw hK;have hg:i<x.cps.size:=hg;obtain⟨f0,f1,f2,f3,f4,f5⟩:=hf it (by simp)
  have hx:x.cps[i]?=some x.cps[i]:=by simp[hg]
  refine Bj st hx fun h' st' sb=>?_
  have I1:Inv X pins σ H { s with heap:=h',toks:=s.toks+1 }:=I.turned (t':=s.toks+1) (fun b o hb e=>(sb.2 b hb).trans e) f0 f1 f3 f4 f5;obtain⟨o,e,c,d⟩:=id st'
  have hn:["enumerate","zip","dict_itemiterator","dict_reverseitemiterator","odict_iterator","itertools.zip_longest","itertools.pairwise"].contains (Vb x)=false:=by unfold Vb;split<;>decide
  exact⟨_,rfl,vK (s:={ s with heap:=h',toks:=s.toks+1 }) e c d hn ⟨.str ⟨#[x.cps[i]]⟩,H,I1,⟨_,rfl⟩,⟨rfl,_,hx,rfl⟩,st',fun b hb=>(hf b hb).1⟩⟩
 done:=by
  intro X hP hw hK hc i pins s σ H E I hf st hg;subst hP hw hK;have hg:x.cps.size<=i:=hg;obtain⟨f0,f1,f2,f3,f4,f5⟩:=hf it (by simp)
  exact end_str (I.ok.hd hc) st (by simp;omega) fun h' eb=>⟨rfl,I.turned (t':=s.toks) (fun b o hb e=>eb b o hb e) f0 f1 f3 f4 f5⟩
 self:=fun _ _ _ _ _ st h=>by
  unfold Vb at st;split at st
  ·exact wpAny_pyIter_striter_ascii st h
  ·exact wpAny_pyIter_striter_wide st h
def iStr(tl:TE):L2.TI:=fun σ H R=>tl σ H fun x H1=>∃y,x=.str y/\R (Itx y) H1
theorem My{tg l:Expr}{tl:TE}(hl:PE X l tl):PI X tg l (iStr tl):=by
 intro pins s σ H R I h
 refine thn (hl pins s σ H _ I h) fun v s1 ⟨x,H1,I1,r1,q1⟩=>?_
 obtain⟨y,e,q⟩:=q1;subst e;obtain⟨t,rfl⟩:=r1;refine wpAny_pyIter_strU ?_;refine⟨s1.heap.objs.size,[s1.heap.objs.size],_,_,H1,rfl,I1.kept (t':=s1.toks) fun b o e=>R7 _ e,zg _ y t,⟨_,Rp _ rfl,rfl,rfl⟩,fun b hb=>?_,q⟩
 have e:b=s1.heap.objs.size:=by simpa using hb
 subst e;exact I1.fpOk (Nat.le_refl _) (I1.hok.fresh (Nat.le_refl _))
theorem tY(x:List Nat):Yields (Itx (strV x)) H2 (x.map fun c=>.str (strV [c]))where
 go:=fun i H' s hi=>by
  show i<(strV x).cps.size;simpa[strV]using hi
 yld:=fun i H' v H'' s _ ⟨e,c,e1,e2⟩=>⟨e,by
  have e3:x[i]?=some c:=by simpa[strV]using e1
  rw[RK,e3,e2];rfl⟩
 stop:=fun H' s=>by
  show(strV x).cps.size<=_;simp[strV]
theorem jH:∀(x:List Nat),Reps W G (x.map fun c=>Y0 [c]) (x.map fun c=>.str (strV [c]))
 | []=>by simp only[RQ,Reps]
 | c::x=>by
   simp only[R8,Reps];refine⟨?_,jH x⟩;simp only[Rep];exact⟨trivial,by simp⟩
def Hh(X:Cx)(W:Wd)(o:Orc)(it:TI)(wi:L2.TI):Prop:=∀σ H (K:It->Hp->Prop),(∃me B δ l,SR X W me B H σ δ/\evI o δ true it=.ok l/\∀J H2,Same H H2->Ylds W J H2 (vis H2 (Hid B σ δ)) l->K J H2)->wi σ H K
section
variable{scope:Scope}{N:List Str}{elt tg iter:Expr}{ifs:List Expr}{m:Nat}{caps:List Nat}{tup:Bool}{g:TG}{it:TI}{tc te:T}
structure CompIn(X:Cx)(W:Wd)(o:Orc)(scope:Scope)(N:List Str)(elt tg iter:Expr)(ifs:List Expr)(m:Nat)(caps:List Nat)(tup:Bool)(g:TG)(it:TI)(tc te:T):Prop where
 hk:W.K=X.K
 hx:X.xe=fH
 hc:X.calm=true
 B:Blk scope
 C:Caps X scope N m caps
 hm:tup=false->m=1
 hi:∃wi,PI X tg iter wi/\Hh X W o it wi
 hg:∀fp pins s H,PG (cxC X scope N fp pins s H) tg g
 hr:∀H0,TgR { X with H₀:=H0 } W (RG m) tup g
 ht:∀fp pins s H,PIf (cxC X scope N fp pins s H) ifs (tT (cxC X scope N fp pins s H) W fun δ=>ev o δ true tc)
 he:∀fp pins s H,PE (cxC X scope N fp pins s H) elt (tD (cxC X scope N fp pins s H) W false fun δ=>ev o δ false te)
 hs:∀x,TQ iter X.env x=pure x
theorem PIf.imp(h:PIf X ifs t)(i:∀σ H Q,t' σ H Q->t σ H Q):PIf X ifs t':=fun pins s σ H Q I hw=>h pins s σ H Q I (i σ H Q hw)
theorem Ds(A:CompIn X W o scope N elt tg iter ifs m caps tup g it tc te):PE X (.ListComp elt [⟨tg,iter,ifs,0⟩] scope pos) (tD X W lk fun δ=>ev o δ lk (.comp caps m tup it tc te)):=by
 obtain⟨wi,h1,h2⟩:=A.hi
 refine PE.imp (Hc (tc:=fun H0=>tT { X with H₀:=H0 } W fun δ=>ev o δ true tc) (te:=fun H0=>tD { X with H₀:=H0 } W false fun δ=>ev o δ false te) A.hx A.hc A.B A.C h1 A.hg (fun fp pins s H=>PIf.imp (A.ht fp pins s H) fun σ H' Q h=>tT.cx (X:={ X with H₀:=H }) rfl rfl h) (fun fp pins s H=>PE.imp (A.he fp pins s H) fun σ H' Q h=>tD.cx (X:={ X with H₀:=H }) rfl rfl h) A.hs) fun σ H Q h=>?_
 exact mG A.hk A.hm h2 A.hr h
theorem Ld(A:CompIn X W o scope N elt tg iter ifs m caps tup g it tc te)(hN:X.N.Nodup)(hi:X.N[i]?=some x)(hx:Loc X.env.scope x)(hf:X.fn x=true\/X.env.scope.names.lookup x=some .local)
 (hb:bsw=true->X.env.scope.names.lookup x=some .local) (hsw:Vd (.ListComp elt [⟨tg,iter,ifs,0⟩] scope pos) (some (.Name x px)) spos.line X.env=pure bsw) :
 PS X (.Assign [.Name x px] (.ListComp elt [⟨tg,iter,ifs,0⟩] scope pos) spos) (tS X W (evS o (.set i (.comp caps m tup it tc te)))):=by
 cases bsw with
 | false=>exact Kl hN hi hx (Ds A) hsw hf
 | true=>
   obtain⟨wi,h1,h2⟩:=A.hi
   refine PS.imp (uB (tc:=fun H0=>tT { X with H₀:=H0 } W fun δ=>ev o δ true tc) (te:=fun H0=>tD { X with H₀:=H0 } W false fun δ=>ev o δ false te) A.hx A.hc A.B A.C h1 A.hg (fun fp pins s H=>PIf.imp (A.ht fp pins s H) fun σ H' Q h=>tT.cx (X:={ X with H₀:=H }) rfl rfl h) (fun fp pins s H=>PE.imp (A.he fp pins s H) fun σ H' Q h=>tD.cx (X:={ X with H₀:=H }) rfl rfl h) A.hs hN hi (hb rfl) hsw) fun D σ H ⟨me,B,δ,S,h⟩=>?_
   refine mG (lk:=false) A.hk A.hm h2 A.hr ?_;simp only[evS]at h;obtain⟨S1,e1⟩:=S.evF o (.comp caps m tup it tc te);obtain⟨r,e2,h⟩:=SO.of_ok h;obtain⟨q,e3,h⟩:=bO h
   cases e4:setSlot (evF o δ (.comp caps m tup it tc te)).1 i r.1 r.2 with
   | none=>rw[e4]at e3;cases e3
   | some δ'=>
     rw[e4]at e3;cases e3;obtain⟨h1,rfl⟩:=gr e4;refine tD_iff.mpr ⟨me,B,_,S1,?_⟩;rw[<-e1,e2];intro v H' s q;obtain⟨S2,s2⟩:=S1.store s q h1;exact h _ _ S2 ((aH (eZ o (.comp caps m tup it tc te))).trans s2)
end
end
end Z
namespace Z
open PySem PySem.Spec PyProof.Rows L2
section
variable{X:Cx}{W:Wd}{lk:Bool}{pos pos' p:Pos}{a:Expr}{o:Orc}
theorem rn:∀{ns:List (List Nat)} {vs:List D} {fs:List (Str×V)},fs.map (·.1)=ns.map strV->Reps W G vs (fs.map (·.2))->look (ns.map .s) vs (.s f)=some d->∃v,fs.lookup (strV f)=some v/\Rep W G d v
 | [],_,_,_,_,h=>by simp[look]at h
 | _::_,[],_,_,_,h=>by simp[look]at h
 | _::_,_::_,[],e,_,_=>by simp at e
 | n::ns,u::vs,(y,v)::fs,e,r,h=>by
   simp only[R8,Tq]at e;simp only[R8,Reps]at r;obtain⟨rfl,e2⟩:=e;simp only[R8,look]at h
   by_cases hn:n=f
   ·subst hn
    rw[if_pos rfl]at h;cases h;exact⟨v,by simp[SQ],r.1⟩
   ·have h1:¬Yh n=Yh f:=fun z=>hn (by injection z)
    rw[if_neg h1]at h;obtain⟨w,q1,q2⟩:=rn e2 r.2 h;refine⟨w,?_,q2⟩
    have hb:(strV f==strV n)=false:=by
     simp only[beq_eq_false_iff_ne,ne_eq]
     exact fun z=>hn (du z).symm
    simp only[SQ,hb];exact q1
theorem QD(hf:fn=strV f)(hc:∀c,(o.init c).isSome=true->Cls X.K (W.CT c)/\NoAttr X.K (W.CT c) fn)(ha:PE X a (tD X W true fun δ=>ev o δ true ta))(hb:V7 a fn X.env (Sv a X.env)=Sv a X.env) :
 PE X (.Attribute a fn pos) (tD X W lk fun δ=>ev o δ lk (.fld ta f)):=by
 subst hf
 refine PE.imp (Jz ha hb) fun σ H Q h=>?_
 obtain⟨me,B,δ,S,h⟩:=tD_iff.mp h;simp only[ev]at h
 refine tD.mono (part (fa:=fun δ=>ev o δ true ta) S h) fun v H1 ⟨r1,e1,S1,s1,t1,_,h1⟩=>?_
 cases e2:r1.2 with
 | obj c ns vs=>
   rw[e2]at t1 h1;obtain⟨ad,dx,fs,rfl,q1,q2,q3⟩:=t1;simp only[fldD]at h1
   cases ei:(o.init c).isSome with
   | false=>rw[ei]at h1;exact h1.elim
   | true=>
   rw[ei]at h1;have h1:After X W lk σ H1 (Hid B σ δ) (.of ((look (ns.map .s) vs (.s f)).map fun d=>(false,d))) Q:=h1
   cases e3:look (ns.map .s) vs (.s f)with
   | none=>rw[e3]at h1;exact h1.elim
   | some d=>
     rw[e3]at h1;obtain⟨u,q4,q5⟩:=rn q2 q3 e3;exact⟨ad,_,dx,fs,u,rfl,q1,(hc c ei).1,(hc c ei).2,q4,h1 u H1 (Same.refl _) (.shared q5)⟩
 | _=>rw[e2]at h1;exact h1.elim
theorem PE.exs{ι:Type}{P:ι->Prop}{e:Expr}{t:ι->TE}(h:∀i,P i->PE X e (t i)):PE X e (fun σ H Q=>∃i,P i/\t i σ H Q):=fun pins s σ H Q I ⟨i,p,q⟩=>h i p pins s σ H Q I q
theorem lookup_none:∀{ns:List (List Nat)} {fs:List (Str×V)},fs.map (·.1)=ns.map strV->ns.contains f=false->fs.lookup (strV f)=none
 | [],[],_,_=>rfl
 | [],_::_,e,_=>by simp at e
 | _::_,[],e,_=>by simp at e
 | n::ns,(y,v)::fs,e,h=>by
   simp only[R8,Tq]at e;obtain⟨rfl,e2⟩:=e;simp only[List.contains_cons,Bool.or_eq_false_iff]at h
   have hb:(strV f==strV n)=false:=by
    simp only[beq_eq_false_iff_ne,ne_eq];intro z;have:=du z;rw[this]at h;simp at h
   simp only[SQ,hb];exact lookup_none e2 h.2
def MtOk(X:Cx)(W:Wd)(o:Orc)(k c f np:Nat)(mn:Str):Prop:=∃fa fd ps,Cls X.K (W.CT c)/\Meth X.K (W.CT c) mn fa/\Binds X.K fd ps []/\(∀ds r,o.fn f ds=.ok r->ds.length=np)/\FnOk X.prog X.w X.K X.mg X.base CX0 k fa fd ps (spFn W (o.fn f) np)
theorem CG(hl:∀ds r,o.fn f ds=.ok r->ds.length=np)(h:After X W lk σ H P ((o.fn f ds).bind (lent br)) Q):ds.length=np:=by
 cases e:o.fn f ds with
 | ok r=>exact hl ds r e
 | exc c=>rw[e]at h;exact h.elim
 | stuck=>rw[e]at h;exact h.elim
theorem KQ{ta:T}{l:TL}{m:List Nat}{mn:Str}{k:Nat}{e:Expr}{es:List Expr}{apos:Pos}{pl:Sem Bool}(hmn:mn=strV m)
 (hM:∀c f,o.meth c m=some f->∃np,MtOk X W o k c f np mn)
 (hr:Room k X.A) (ha:∀lk,PE X a (tD X W lk fun δ=>ev o δ lk ta)) (hl:PA X (e::es) (tL X W fun δ=>evL o δ l))
 (hst:Rj (e::es) X.env=(false,Sv e X.env)::Rj es X.env) (hpl:(SN pos (Rj es X.env)).any (·.1)=false)
 (ht:Sv (.Call (.Attribute a mn apos) (e::es) [] pos) X.env=(do
  let ov <-Sv a X.env
  V8 apos.atName
  let(f,first) <-U7 [ov] (V6 ov mn pl)
  VM pos f first (SN pos (Rj (e::es) X.env)) (UW pos (Tr [] X.env)))) :
 PE X (.Call (.Attribute a mn apos) (e::es) [] pos) (tD X W lk fun δ=>ev o δ lk (.meth m ta l)):=by
 subst hmn
 have key:∀i:Bool×Nat×Nat×Nat,MtOk X W o k i.2.1 i.2.2.1 i.2.2.2 (strV m)->PE X (.Call (.Attribute a (strV m) apos) (e::es) [] pos) (Cg (W.CT i.2.1) (strV m) (spFn W (o.fn i.2.2.1) i.2.2.2) [] (fun _ _ _=>False) (tD X W i.1 fun δ=>ev o δ i.1 ta) (tL X W fun δ=>evL o δ l)):=fun i ⟨fa,fd,ps,h1,h2,h3,h5,h4⟩=>
  Ib (ha i.1) h1 h2 h4 hr h3 .nil uo hl hst hpl ht
 refine PE.imp (PE.exs key) fun σ H Q h=>?_
 obtain⟨me,B,δ,S,h⟩:=tD_iff.mp h;simp only[ev]at h;generalize hlk:aM δ ta=lk' at h
 cases e1:ev o δ lk' ta with
 | stuck=>rw[e1]at h;exact h.elim
 | exc c=>rw[e1]at h;exact h.elim
 | ok r=>
 cases e2:r.2 with
 | obj c ns vs=>
   cases e3:o.meth c m with
   | none=>
     exfalso
     rw[e1]at h;simp only[XS,e2,e3,XR]at h
     cases e4:evL o δ l with
     | ok y=>
       rw[e4]at h;simp only[Y5]at h;split at h<;>exact h
     | exc c=>rw[e4]at h;exact h
     | stuck=>rw[e4]at h;exact h
   | some f=>
   obtain⟨np,hMt⟩:=hM c f e3;refine⟨(lk',c,f,np),hMt,?_⟩;obtain⟨_,_,_,_,_,_,hlen,_⟩:=hMt
   refine tD.mono (Ab (fa:=fun δ=>ev o δ lk' ta) (C:=fun r H=>After X W lk σ H (Hid B σ δ) r Q) S h (fun r H1 s q=>q.mono s) (fun c q=>q) (fun q=>q)) fun v H1 ⟨r1,e1',S1,s1,t1,q1,h1⟩=>?_
   have:r1=r:=by rw[e1]at e1';cases e1';rfl
   subst this;have t1':=t1;rw[e2]at t1';obtain⟨ad,dx,fs,rfl,z1,z2,z3⟩:=t1'
   have hcs:ns.contains m=false:=by
    rw[e2]at h1
    cases e4:evL o δ l with
    | ok y=>
      rw[e4]at h1
      cases hc:ns.contains m with
      | false=>rfl
      | true=>
        simp only[XS,Y5,hc,Bool.not_true,Bool.false_eq_true,if_false]at h1;exact h1.elim
    | exc c=>rw[e4]at h1;exact h1.elim
    | stuck=>rw[e4]at h1;exact h1.elim
   refine⟨ad,dx,fs,rfl,z1,lookup_none z2 hcs,?_⟩
   refine tL.mono (jA (fa:=fun δ=>evL o δ l) (C:=fun r H=>After X W lk σ H (Hid B σ δ) r Q) S1 h1 (fun r H1 s q=>q.mono s) (fun c q=>q) (fun q=>q)) fun us H2 ⟨r2,e4,S2,s2,t2,q2,h2⟩=>?_
   rw[e2]at h2;simp only[hcs,Bool.not_false,Y5,if_true,e3,XR,XS]at h2;rw[Sg]
   have h2':After X W lk σ H2 (Hid B σ δ) ((o.fn f (r1.2::r2.2)).bind (lent (lk'||r2.1))) Q:=by rw[e2];exact h2
   refine zF (ds:=r1.2::r2.2) (br:=lk'||r2.1) S2 (CG hlen h2') ?_ (fun hf=>?_) h2'
   ·simp only[RepTs]
    exact⟨t1.mono s2 (ao s2),t2⟩
   ·simp only[Bool.or_eq_false_iff]at hf
    simp only[Reps];refine⟨?_,q2 hf.2⟩;rw[hf.1]at q1;exact(q1.keep S.know).mono (ao s2)
 | _=>
   exfalso
   rw[e1]at h;simp only[XS,e2]at h
   cases e4:evL o δ l with
   | ok y=>rw[e4]at h;exact h
   | exc c=>rw[e4]at h;exact h
   | stuck=>rw[e4]at h;exact h
theorem GD{ta:T}{m:List Nat}{mn:Str}{k:Nat}{apos:Pos}{pl:Sem Bool}(hmn:mn=strV m)
 (hM:∀c f,o.meth c m=some f->∃np,MtOk X W o k c f np mn)
 (hr:Room k X.A) (ha:∀lk,PE X a (tD X W lk fun δ=>ev o δ lk ta))
 (ht:Sv (.Call (.Attribute a mn apos) [] [] pos) X.env=(do
  let ov <-Sv a X.env
  V8 apos.atName
  let(f,first) <-U7 [ov] (V6 ov mn pl)
  VM pos f first (SN pos (Rj [] X.env)) (UW pos (Tr [] X.env)))) :
 PE X (.Call (.Attribute a mn apos) [] [] pos) (tD X W lk fun δ=>ev o δ lk (.meth m ta .nil)):=by
 subst hmn
 have key:∀i:Bool×Nat×Nat×Nat,MtOk X W o k i.2.1 i.2.2.1 i.2.2.2 (strV m)->PE X (.Call (.Attribute a (strV m) apos) [] [] pos) (Cg (W.CT i.2.1) (strV m) (spFn W (o.fn i.2.2.1) i.2.2.2) [] (fun _ _ _=>False) (tD X W i.1 fun δ=>ev o δ i.1 ta) tNil):=fun i ⟨fa,fd,ps,h1,h2,h3,h5,h4⟩=>
  zM (ha i.1) h1 h2 h4 hr h3 .nil uo ht
 refine PE.imp (PE.exs key) fun σ H Q h=>?_
 obtain⟨me,B,δ,S,h⟩:=tD_iff.mp h;simp only[ev]at h;simp only[evL]at h;generalize hlk:aM δ ta=lk' at h
 cases e1:ev o δ lk' ta with
 | stuck=>rw[e1]at h;exact h.elim
 | exc c=>rw[e1]at h;exact h.elim
 | ok r=>
 cases e2:r.2 with
 | obj c ns vs=>
   cases e3:o.meth c m with
   | none=>
     exfalso
     rw[e1]at h;simp only[XS,e2,e3,XR,Y5]at h;split at h<;>exact h
   | some f=>
   obtain⟨np,hMt⟩:=hM c f e3;refine⟨(lk',c,f,np),hMt,?_⟩;obtain⟨_,_,_,_,_,_,hlen,_⟩:=hMt
   refine tD.mono (Ab (fa:=fun δ=>ev o δ lk' ta) (C:=fun r H=>After X W lk σ H (Hid B σ δ) r Q) S h (fun r H1 s q=>q.mono s) (fun c q=>q) (fun q=>q)) fun v H1 ⟨r1,e1',S1,s1,t1,q1,h1⟩=>?_
   have:r1=r:=by rw[e1]at e1';cases e1';rfl
   subst this;have t1':=t1;rw[e2]at t1';obtain⟨ad,dx,fs,rfl,z1,z2,z3⟩:=t1'
   have hcs:ns.contains m=false:=by
    rw[e2]at h1
    cases hc:ns.contains m with
    | false=>rfl
    | true=>
      simp only[XS,Y5,hc,Bool.not_true,Bool.false_eq_true,if_false]at h1;exact h1.elim
   refine⟨ad,dx,fs,rfl,z1,lookup_none z2 hcs,?_⟩;rw[e2]at h1;simp only[hcs,Bool.not_false,Y5,if_true,e3,XR,XS]at h1
   have h1':After X W lk σ H1 (Hid B σ δ) ((o.fn f [r1.2]).bind (lent (lk'||false))) Q:=by rw[e2];exact h1
   show spFn W (o.fn f) np [.ref ad] H1 Q (fun _ _ _=>False);refine zF (ds:=[r1.2]) (br:=lk'||false) S1 (CG hlen h1') ?_ (fun hf=>?_) h1'
   ·simp only[RepTs]
    exact⟨t1,trivial⟩
   ·simp only[Bool.or_eq_false_iff]at hf
    simp only[Reps];rw[hf.1]at q1;exact⟨q1.keep S.know,trivial⟩
 | _=>
   exfalso
   rw[e1]at h;simp only[XS,e2]at h;exact h
noncomputable def unS:DK->List Nat
 | .s x=>x
 | .i _=>[]
theorem mK(r:Rep W G d v):∀{ns:List (List Nat)} {vs:List D} {fs:List (Str×V)},fs.map (·.1)=ns.map strV->Reps W G vs (fs.map (·.2)) ->
 (putF (strV f) v fs).map (·.1)=((bL (ns.map .s) (.s f)).map unS).map strV/\Reps W G (putV (ns.map .s) vs (.s f) d) ((putF (strV f) v fs).map (·.2))
 | [],[],[],_,_=>by
   simp only[RQ,bL,putV,putF,R8,unS,Reps];exact⟨trivial,r,trivial⟩
 | [],_::_,[],_,h=>by simp only[RQ,Reps]at h
 | [],_,_::_,e,_=>by simp at e
 | _::_,_,[],e,_=>by simp at e
 | _::_,[],_::_,_,h=>by simp only[R8,Reps]at h
 | n::ns,u::vs,(y,x)::fs,e,h=>by
   simp only[R8,Tq]at e;simp only[R8,Reps]at h;obtain⟨rfl,e2⟩:=e
   by_cases hn:n=f
   ·subst hn
    simp only[R8,bL,putV,putF,if_true,unS,Reps];refine⟨?_,r,h.2⟩;rw[e2]
    have:(ns.map Yh).map unS=ns:=by
     rw[SM]
     conv=>rhs;rw[<-List.map_id ns]
     rfl
    rw[this]
   ·have h1:¬Yh n=Yh f:=fun z=>hn (by injection z)
    have h2:¬strV n=strV f:=fun z=>hn (du z)
    obtain⟨q1,q2⟩:=mK r e2 h.2;simp only[R8,bL,putV,putF,if_neg h1,if_neg h2,unS,Reps];exact⟨by rw[q1],h.1,q2⟩
theorem uH(h:cB ok (.obj c ns vs) f v=some d'):(ok c=true/\ns.length<900)/\d'=.obj c ((bL (ns.map .s) (.s f)).map unS) (putV (ns.map .s) vs (.s f) v):=by
 simp only[cB]at h;split at h
 ·rename_i hl
  refine⟨hl,?_⟩;cases h
  first
   | rfl
   | (congr 1
      apply List.map_congr_left
      intro k _
      cases k<;>rfl)
 ·cases h
theorem xK:Vd e (some (.Attribute o' f' pp)) l env=pure false:=by
 cases e<;>rfl
theorem Ja(hf:fn=strV f)(hc:∀c,(o.init c).isSome=true->Cls X.K (W.CT c)/\NoAttr X.K (W.CT c) fn)(hv:PE X (.Name x p) (tVar i))(he:PE X e (tD X W false fun δ=>ev o δ false te)) :
 PS X (.Assign [.Attribute (.Name x p) fn pos'] e pos) (tS X W (evS o (.setf i f te))):=by
 subst hf
 refine PS.imp (Kw hv he xK) fun En σ H ⟨me,B,δ,S,h⟩=>?_
 simp only[evS]at h;obtain⟨S1,e1⟩:=S.evF o te;have sub1:=eZ (B:=B) (σ:=σ) (δ:=δ) o te;generalize (evF o δ te).1=δ1 at *;generalize (evF o δ te).2=r1 at *;obtain⟨r,e2,h⟩:=SO.of_ok h;obtain⟨q,e4,h⟩:=bO h
 cases e5:ownD δ1 i with
 | none=>rw[e5]at e4;cases e4
 | some c=>
 obtain⟨w,d⟩:=c;rw[e5]at e4;simp only[Rq]at e4
 cases e6:cB (fun c=>(o.init c).isSome) d f r.2 with
 | none=>rw[e6]at e4;cases e4
 | some d'=>
 rw[e6]at e4;cases e4
 cases d with
 | obj c ns vs=>
   obtain⟨⟨ei,hl⟩,rfl⟩:=uH e6;refine tD_iff.mpr ⟨me,B,δ1,S1,?_⟩;rw[<-e1,e2];intro v H1 s1 q1;have S2:=S1.mono s1;obtain⟨o1,o2,ad,o3,o4,o5,o6⟩:=S2.own e5;refine⟨_,o3,?_⟩;obtain⟨dx,fs,z1,z2,z3⟩:=o4
   have hlen:fs.length=ns.length:=by simpa using congrArg T3 z2
   refine⟨ad,_,dx,fs,rfl,z1,(hc c ei).1,(hc c ei).2,by omega,?_⟩;obtain⟨p1,p2⟩:=mK (f:=f) (q1.keep S1.know) z2 z3
   have new:OwnAt W (upd H1 ad (.ins (W.CT c) dx (putF (strV f) v fs))) (vis H1 (Hid B σ δ1)) ad (.obj c ((bL (ns.map .s) (.s f)).map unS) (putV (ns.map .s) vs (.s f) r.2)):=⟨dx,_,aU,p1,p2⟩
   obtain⟨S3,s3⟩:=S2.write o1 o2 o3 o5 o6 new;exact h _ _ S3 (((aH sub1).trans (ao s1)).trans s3)
 | _=>simp[cB]at e6
end
end Z
namespace Z
open PySem PySem.Spec PyProof.Rows L2
def spI(W:Wd)(g:D->List D->R D)(np:Nat):Sp:=fun vs H Q _=>vs.length=np/\∃a args B d ds d',vs=V.ref a::args/\Soft H B/\(∀b,B b->∃o,H b=some o)/\¬B a/\OwnAt W H (vis H fun b=>B b\/b=a) a d/\Reps W (vis H fun b=>B b\/b=a) ds args/\g d ds=.ok d' /\
 ∀H',(∀b o,H b=some o->b≠a->H' b=some o)->OwnAt W H' (vis H' fun b=>B b\/b=a) a d'->Q .non H'
def gH(d:D)(ds:List D)(n:Nat):Dst:=some (.me,d)::cU ds n
theorem c7(h:(gH d ds n)[i]?=some (some (w,y))):(i=0/\w=.me/\y=d)\/∃j,i=j+1/\w=.sh/\ds[j]?=some y:=by
 cases i with
 | zero=>exact .inl ⟨rfl,by cases h;exact⟨rfl,rfl⟩⟩
 | succ j=>
   have h:(cU ds n)[j]?=some (some (w,y)):=by simpa[gH]using h
   exact .inr ⟨j,rfl,cg h⟩
theorem Ef(h:OwnAt W H G a d):∃o,H a=some o:=let⟨o,q,_⟩:=OwnAt.some h;⟨o,q⟩
section
variable{X:Cx}{W:Wd}{me:Option Addr}{B:Addr->Prop}{H:Hp}{σ:L2.St}{δ:Dst}{o:Orc}{lk:Bool}
theorem SR.startM(hk:W.K=X.K)(h0:X.H₀=H)(hb:Soft H B)(hg:∀b,B b->∃o,H b=some o)(ha:¬B a)(ho:OwnAt W H (vis H fun b=>B b\/b=a) a d)(hr:Reps W (vis H fun b=>B b\/b=a) ds args)(hl:args.length+1<=N.length) :
 SR X W (some a) B H (L2.start N (V.ref a::args)) (gH d ds (N.length-(args.length+1))):=by
 have s0:(L2.start N (V.ref a::args))[0]?=some (some (V.ref a)):=iV rfl
 have hid:∀b,Hid B (L2.start N (V.ref a::args)) (gH d ds (N.length-(args.length+1))) b->B b\/b=a:=fun b hb=>by
  rcases hb with hb | ⟨i,⟨w,y,h1,h2⟩,h3⟩
  ·exact .inl hb
  ·rcases c7 h1 with⟨rfl,_,_⟩ | ⟨j,_,z,_⟩
   ·rw[s0]at h3;cases h3;exact .inr rfl
   ·exact absurd z h2
 refine⟨hk,?_,fun i y h=>?_,fun i y h=>?_,fun i y h=>?_,fun i j e h1 h2=>?_,fun b o h _=>by rw[<-h0];exact h,hb,hg,fun x h=>?_⟩
 ·unfold L2.start gH cU
  have:=hr.length;simp only[Rx,Rw,U0,Rv];omega
 ·rcases c7 h with⟨_,z,_⟩ | ⟨j,rfl,_,h⟩
  ·cases z
  ·obtain⟨v,e1,e2⟩:=hr.get h
   exact⟨v,iV (by simpa using e1),e2.mono (aH hid)⟩
 ·rcases c7 h with⟨_,z,_⟩ | ⟨j,_,z,_⟩<;>cases z
 ·rcases c7 h with⟨rfl,_,rfl⟩ | ⟨j,_,z,_⟩
  ·exact⟨rfl,a,rfl,s0,ho.mono (fun _ q=>q) (aH hid),ha⟩
  ·cases z
 ·obtain⟨⟨w,y,e1,e2⟩,_⟩:=h1
  obtain⟨⟨w',y',e3,e4⟩,_⟩:=h2;rcases c7 e1 with⟨rfl,_,_⟩ | ⟨_,_,z,_⟩
  ·rcases c7 e3 with⟨rfl,_,_⟩ | ⟨_,_,z,_⟩
   ·rfl
   ·exact absurd z e4
  ·exact absurd z e2
 ·cases h;exact Ef ho
theorem SR.writeX(S:SR X W me B H σ δ)(hi:δ[i]?=some (some (w,d)))(hw:w≠.sh)(hc:σ[i]?=some (some (V.ref c)))(hB:¬B c)(hX:∀u,X.H₀ c=some u->some c=me)
 (hs:∀b o,H b=some o->b≠c->H' b=some o) (new:OwnAt W H' (vis H' (Hid B σ δ)) c d'):SR X W me B H' σ (δ.set i (some (w,d')))/\Same (vis H (Hid B σ δ)) (vis H' (Hid B σ (δ.set i (some (w,d'))))):=by
 have hid:Hid B σ δ c:=.inr ⟨i,⟨w,d,hi,hw⟩,hc⟩
 have up:Same (vis H (Hid B σ δ)) (vis H' (Hid B σ δ)):=fun b v e=>by
  obtain⟨e1,e2⟩:=bF e
  have hb:b≠c:=fun z=>e2 (z▸hid)
  exact bK (hs b v e1 hb) e2
 have other:∀{j:Nat} {x:Own} {y:D},j≠i->δ[j]?=some (some (x,y))->x≠.sh->∀{e:Addr},σ[j]?=some (some (V.ref e))->e≠c:=fun hj h1 h2 e h3 z=>by
  subst z;exact hj (S.apart _ _ _ ⟨⟨_,_,h1,h2⟩,h3⟩ ⟨⟨_,_,hi,hw⟩,hc⟩)
 refine⟨?_,by rw[dI hi];exact up⟩;refine⟨S.kf,by simp[S.len],fun j y h=>?_,fun j y h=>?_,fun j y h=>?_,fun j k e h1 h2=>S.apart j k e ((cW hi).mp h1) ((cW hi).mp h2),fun b v e hb=>?_,fun b hb v e=>?_,fun b hb=>?_,fun x hx=>?_⟩
 ·rw[dI hi]
  rcases get_set hi h with⟨_,rfl,_⟩ | ⟨_,h⟩
  ·exact absurd rfl hw
  ·obtain⟨v,h1,h2⟩:=S.sh j y h
   exact⟨v,h1,h2.mono up⟩
 ·rw[dI hi]
  rcases get_set hi h with⟨rfl,rfl,rfl⟩ | ⟨hj,h⟩
  ·obtain⟨e,h1,h2,h3,h4,h5⟩:=S.ow j d hi
   rw[hc]at h1;cases h1;exact⟨c,hc,new,h3,h4,h5⟩
  ·obtain⟨e,h1,h2,h3⟩:=S.ow j y h
   exact⟨e,h1,h2.mono (fun v q=>hs e v q (other hj h (by decide) h1)) up,h3⟩
 ·rw[dI hi]
  rcases get_set hi h with⟨rfl,rfl,rfl⟩ | ⟨hj,h⟩
  ·obtain⟨h0,e,h1,h2,h3,h4⟩:=S.mi j d hi
   rw[hc]at h2;cases h2;exact⟨h0,c,h1,hc,new,h4⟩
  ·obtain⟨h0,e,h1,h2,h3,h4⟩:=S.mi j y h
   exact⟨h0,e,h1,h2,h3.mono (fun v q=>hs e v q (other hj h (by decide) h2)) up,h4⟩
 ·have hbc:b≠c:=fun z=>hb (by subst z;exact hX v e)
  exact hs b v (S.same b v e hb) hbc
 ·have hbc:b≠c:=fun z=>hB (z▸hb)
  obtain⟨v',e'⟩:=S.gone b hb;have:=hs b v' e' hbc;rw[this]at e;cases e;exact S.soft b hb _ e'
 ·have hbc:b≠c:=fun z=>hB (z▸hb)
  obtain⟨v',e'⟩:=S.gone b hb;exact⟨v',hs b v' e' hbc⟩
 ·by_cases hxc:x=c
  ·subst hxc;exact Ef new
  ·obtain⟨v',e'⟩:=S.live x hx
   exact⟨v',hs x v' e' hxc⟩
end
section
variable{P:Rz}{w:RT}{K:Ra}{mg:Str->Option Value}{base:Rk}{x qual:Str}{st:Stmt}{f:Addr}{fd:V0}{N ps:List Str}{k:Nat}{o:Orc}{W:Wd}{np ns:Nat}{body:SL}
theorem wz(F:Fun K x qual st f fd)(Sc:FnScope N ps (aF st))(hp:ps.length=np)(hn:N.length=ns)
 (hb:∀(cdv:Value) (A:RV) (outer:List Env) (s:Shared) (H:Hp) (E:XK),Room k (A.deeper (Wr qual (aF st) s.heap.objs.size f cdv)) ->
  PSs (cxX P w K mg base W N qual st f cdv A outer s H E) (bB st) (tS (cxX P w K mg base W N qual st f cdv A outer s H E) W (evSs o body))) (hk:W.K=K) :
 FnOk P w K mg base (CXZ P w base W) (k+1) f fd ps (spI W (cz o ⟨np,ns,body⟩) np):=by
 obtain⟨oc,od,kV,doc,pm,an,cdv,ct,osl,dV,rfl,lk,hcd⟩:=F.ex
 refine Jy lk hcd Sc (fun vs H Q E q=>by rw[hp];exact q.1) fun A outer s H vs Q E hr hsp=>⟨tS (cxX P w K mg base W N qual st f cdv A outer s H E) W (evSs o body),PSs.unw (hb cdv A outer s H E hr) (fun e s' z=>qW z),?_⟩
 obtain⟨hl,a,args,B,d,ds,d',rfl,b1,b2,b3,b4,b5,e,k1⟩:=hsp
 have hle:args.length+1<=N.length:=by
  have:=congrArg T3 Sc.pre;rw[Vv]at this;simp only[Rv]at hl;omega
 simp only[Rv]at hl
 have run:cz o ⟨np,ns,body⟩ d ds=(match evSs o body (gH d ds (N.length-(args.length+1)))with
  | .rt _ .non δ=>selfOf δ
  | .nx δ=>selfOf δ
  | .ex c _=>.exc c
  | _=>.stuck):=by
  have h1:=b5.length;unfold cz gH cU;rw[if_pos (by show ds.length+1=np;omega)];simp only[hn,hl]
  try rfl
 rw[run]at e
 have fin:∀{σ':L2.St} {H':Hp} {δ':Dst},SR (cxX P w K mg base W N qual st f cdv A outer s H E) W (some a) B H' σ' δ'->selfOf δ'=.ok d'->Q .non H':=fun{σ' H' δ'} S' es=>by
  have e0:δ'[0]?=some (some (.me,d')):=by
   unfold selfOf at es;split at es
   ·rename_i y ey;cases es;exact ey
   ·cases es
  obtain⟨_,a',z1,z2,z3,z4⟩:=S'.mi 0 d' e0;cases z1;refine k1 H' (fun b ob h hb=>S'.same b ob h (fun z=>hb (by cases z;rfl))) (z3.mono (fun _ q=>q) (aH fun b hb=>?_));rcases hb with hb | rfl
  ·exact .inl hb
  ·exact .inr ⟨0,⟨.me,d',e0,by decide⟩,z2⟩
 refine⟨some a,B,_,SR.startM (N:=N) (by exact hk) rfl b1 b2 b3 b4 b5 hle,?_⟩
 cases e2:evSs o body (gH d ds (N.length-(args.length+1)))with
 | rt wv dv δ'=>
   rw[e2]at e
   cases dv with
   | non=>
     intro v σ' H' S' _ q
     have hv:v=.non:=by
      unfold Res at q;split at q
      ·obtain⟨_,_,_,z⟩:=q;exact z.elim
      ·split at q
       ·simpa only[RepT,Rep]using q
       ·simpa only[Rep]using q
     subst hv;exact fin S' e
   | _=>cases e
 | nx δ'=>
   rw[e2]at e
   exact fun σ' H' S' _=>fin S' e
 | bk δ'=>rw[e2]at e;cases e
 | ct δ'=>rw[e2]at e;cases e
 | ex c δ'=>rw[e2]at e;cases e
 | stuck=>rw[e2]at e;cases e
theorem ok0I(F:FnOk P w K mg base (CXZ P w base W) k f fd ps (spI W g np)):FnOk P w K mg base CX0 k f fd ps (spI W g np):=by
 refine⟨F.len,fun A outer s H args us vs Q E hr he hb hv hs=>?_⟩
 refine Uj (F.run A outer s H args us vs Q E0 hr he hb hv hs) fun r s' q=>?_
 cases r with
 | ok fl=>cases fl<;>exact q
 | error e=>obtain⟨_,_,_,_,_,_,_,_,_,_,_,_,z⟩:=q;exact z.elim
end
section
variable{X:Cx}{W:Wd}{o:Orc}{lk:Bool}
theorem d_mk(hi:o.init c=some f)(hn:∀s a d,o.ini f s a=.ok d->a.length+1=np)(M:Mk X.K (W.CT c) fa)
 (F:FnOk X.prog X.w X.K X.mg X.base CX0 k fa fd ps (spI W (o.ini f) np)) (hr:Room (k+1) X.A) (hg:Gl X x) (hm:X.mg x=some (.ref (W.CT c))) (hb:Binds X.K fd ps []) (ha:PA X (e::es) (tL X W fun δ=>evL o δ l))
 (hdb:(x==("__debug__":Str))=false) (he:Rj (e::es) X.env=(false,Sv e X.env)::Rj es X.env) (hpl:(SN pos (Rj es X.env)).any (·.1)=false) :
 PE X (.Call (.Name x p) (e::es) [] pos) (tD X W lk fun δ=>ev o δ lk (.mk c l)):=by
 refine PE.imp (Fp (E:=fun _ _ _=>False) M F hr hg hm hb .nil uo ha hdb he hpl) fun σ H Q h=>?_
 obtain⟨me,B,δ,S,h⟩:=tD_iff.mp h;simp only[ev,hi]at h
 refine tL.mono (jA (fa:=fun δ=>evL o δ l) (C:=fun r H=>After X W lk σ H (Hid B σ δ) r Q) S h (fun r H1 s q=>q.mono s) (fun c q=>q) (fun q=>q)) fun vs H1 ⟨r,e1,S1,s1,t1,q1,h1⟩=>?_
 intro a dx f1 f2 f3;rw[Sg]
 cases e2:r.1 with
 | true=>simp only[XR,XS,e2,Bool.not_true,Y5,Bool.false_eq_true,if_false]at h1;exact h1.elim
 | false=>
 simp only[XR,XS,e2,Bool.not_false,Y5,if_true]at h1
 cases e3:o.ini f (.obj c [] []) r.2 with
 | stuck=>rw[e3]at h1;exact h1.elim
 | exc c'=>rw[e3]at h1;exact h1.elim
 | ok d'=>
 rw[e3]at h1;have h1:∀v H',Same H1 H'->Res W (Hid B σ δ) lk H1 H' true d' v->Q v H':=h1
 have sm:Same H1 (upd (upd H1 dx (.own a)) a (.ins (W.CT c) dx [])):=fun b ob hb=>by
  have n1:b≠a:=fun z=>by subst z;rw[f1]at hb;cases hb
  have n2:b≠dx:=fun z=>by subst z;rw[f2]at hb;cases hb
  rw[aR n1,aR n2];exact hb
 have hna:¬Hid B σ δ a:=fun z=>by obtain⟨ob,q⟩:=S1.know a z;rw[f1]at q;cases q
 refine⟨by simp only[Rv];rw[<-t1.length];exact hn _ _ _ e3,a,vs,Hid B σ δ,.obj c [] [],r.2,d',rfl,(S1.mono sm).softH,(S1.mono sm).know,hna,⟨dx,[],aU,rfl,by simp only[RQ,Reps]⟩,(q1 e2).mono fun b ob hb=>?_,e3,fun H' hs hO=>⟨rfl,h1 _ H' (fun b ob hb=>?_) ?_⟩⟩
 ·obtain⟨g1,g2⟩:=bF hb
  refine bK (sm b ob g1) fun z=>?_
  rcases z with z | rfl
  ·exact g2 z
  ·rw[f1]at g1;cases g1
 ·exact hs b ob (sm b ob hb) fun z=>by subst z;rw[f1]at hb;cases hb
 ·unfold Res
  rw[if_pos rfl];exact⟨a,rfl,f1,hO⟩
structure ClsFn(K:Ra)(C:Addr)(m:Str)(f:Addr):Prop where
 ga:VN K (.ref C) "__getattribute__"=some (some (.builtin "type.__getattribute__"))
 rd:∃mc,PySem.W.readsIn K C mc=true/\PySem.W.findCls K (.ref C) mc m=some (.val (.ref f))
 hh:W3 (.ref f)=true
 kp:RL K (.ref f)=true
theorem Il(hc:ClsFn X.K C m f)(hg:Gl X x)(hm:X.mg x=some (.ref C))(F:FnOk X.prog X.w X.K X.mg X.base CX k f fd ps sp)(hr:Room k X.A)(hb:Binds X.K fd ps [])(hx:gO CX X E)(ha:PA X (e::es) t)
 (hdb:(x==("__debug__":Str))=false) (hst:Rj (e::es) X.env=(false,Sv e X.env)::Rj es X.env) (hpl:(SN pos (Rj es X.env)).any (·.1)=false)
 (ht:Sv (.Call (.Attribute (.Name x p) m apos) (e::es) [] pos) X.env=(do
  let ov <-Sv (.Name x p) X.env
  V8 apos.atName
  let(f,first) <-U7 [ov] (V6 ov m pl)
  VM pos f first (SN pos (Rj (e::es) X.env)) (UW pos (Tr [] X.env)))) :
 PE X (.Call (.Attribute (.Name x p) m apos) (e::es) [] pos) (JF sp [] E t):=by
 intro pins s σ H Q I h;refine Vn (pl:=pl) (eX I hg hm ?_ hdb) ht;obtain⟨mc,h1,h2⟩:=hc.rd;refine PySem.W.method_cls I.kIn hc.ga (PySem.W.cls_value I.kIn h1 h2 hc.hh ?_);have I0:=I.tok (s.toks+1);refine Uz (first:=[]) (h₀:=X.base) I.ok.mod.kin hc.kp (thn (ha pos pins _ σ H _ I0 h) fun us s2 ⟨vs,H2,I2,r,q2⟩=>⟨I2.kIn,?_⟩) hst hpl;exact rM (us:=us) (vs:=vs) F hr hb .nil hx I2 r q2
theorem NQ(hi:o.init c=some f)(hn:∀s a d,o.ini f s a=.ok d->a.length+1=np)(hc:ClsFn X.K C "__init__" fa)
 (F:FnOk X.prog X.w X.K X.mg X.base CX0 k fa fd ps (spI W (o.ini f) np)) (hr:Room k X.A) (hg:Gl X x) (hm:X.mg x=some (.ref C)) (hb:Binds X.K fd ps []) (hv:PE X (.Name self p') (tVar 0)) (hl:PA X es (tL X W fun δ=>evL o δ l)) (hdb:(x==("__debug__":Str))=false)
 (hst:Rj (.Name self p'::es) X.env=(false,Sv (.Name self p') X.env)::Rj es X.env) (hpl:(SN cpos (Rj es X.env)).any (·.1)=false)
 (ht:Sv (.Call (.Attribute (.Name x p) "__init__" apos) (.Name self p'::es) [] cpos) X.env=(do
  let ov <-Sv (.Name x p) X.env
  V8 apos.atName
  let(f,first) <-U7 [ov] (V6 ov "__init__" pl)
  VM cpos f first (SN cpos (Rj (.Name self p'::es) X.env)) (UW cpos (Tr [] X.env)))) :
 PS X (.Expr (.Call (.Attribute (.Name x p) "__init__" apos) (.Name self p'::es) [] cpos) pos) (tS X W (evS o (.ini c l))):=by
 refine PS.imp (jX (Il (E:=fun _ _ _=>False) hc hg hm F hr hb uo (bD hv hl hst) hdb hst hpl ht) fZ) fun En σ H ⟨me,B,δ,S,h⟩=>?_
 simp only[evS,hi]at h;obtain⟨r,e0,h⟩:=SO.of_ok h
 cases e1:evL o δ l with
 | stuck=>rw[e1]at e0;cases e0
 | exc c=>rw[e1]at e0;cases e0
 | ok xs=>
 rw[e1]at e0
 cases e2:ownD δ 0 with
 | none=>rw[e2]at e0;cases e0
 | some q=>
 obtain⟨w,d⟩:=q;rw[e2]at e0
 cases e3:xs.1 with
 | true=>simp only[XR,XS,e3,Bool.not_true,Y5,Bool.false_eq_true,if_false]at e0;cases e0
 | false=>
 simp only[XR,XS,e3,Bool.not_false,Y5,if_true]at e0
 cases e4:o.ini f d xs.2 with
 | stuck=>rw[e4]at e0;cases e0
 | exc c=>rw[e4]at e0;cases e0
 | ok d'=>
 rw[e4]at e0;cases e0;obtain⟨_,_,ad,o3,_⟩:=S.own e2;refine⟨_,o3,?_⟩
 refine tL.mono (jA (fa:=fun δ=>evL o δ l) (g:=Yr) (C:=fun r _=>r=.ok xs) S (by rw[e1];rfl) (fun _ _ _ q=>q) (fun c q=>(nomatch q)) (fun q=>(nomatch q))) fun vs H1 ⟨r,e5,S1,s1,t1,q1,h1⟩=>?_
 rw[e1]at e5;cases e5;obtain⟨o1,o2,ad',o3',o4,o5,o6⟩:=S1.own e2;rw[o3]at o3';cases o3';have hid:Hid B σ δ ad:=.inr ⟨0,⟨w,d,o1,o2⟩,o3⟩
 have back:∀b,((Hid B σ δ b/\b≠ad)\/b=ad)->Hid B σ δ b:=fun b hb=>by
  rcases hb with hb | rfl
  ·exact hb.1
  ·exact hid
 have forth:∀b,Hid B σ δ b->((Hid B σ δ b/\b≠ad)\/b=ad):=fun b hb=>by
  by_cases z:b=ad
  ·exact .inr z
  ·exact .inl ⟨hb,z⟩
 rw[Sg];refine⟨by simp only[Rv];rw[<-t1.length];exact hn _ _ _ e4,ad,vs,fun b=>Hid B σ δ b/\b≠ad,d,xs.2,d',rfl,fun b hb=>S1.softH b hb.1,fun b hb=>S1.know b hb.1,fun z=>z.2 rfl,o4.mono (fun _ q=>q) (aH back),(q1 e3).mono (aH back),e4,fun H' hs hO=>?_⟩;obtain⟨S3,s3⟩:=S1.writeX o1 o2 o3 o5 o6 hs (hO.mono (fun _ q=>q) (aH forth));exact h _ _ S3 ((ao s1).trans s3)
end
end Z
namespace Z
open PySem PySem.Spec PyProof.Rows L2
section
variable{X:Cx}{W:Wd}{o:Orc}
def J0(X:Cx)(W:Wd)(o:Orc)(k c f np:Nat)(mn:Str):Prop:=∃fa fd ps,Cls X.K (W.CT c)/\Meth X.K (W.CT c) mn fa/\Binds X.K fd ps []/\(∀ds,o.fn f ds≠.stuck->ds.length=np)/\FnOk X.prog X.w X.K X.mg X.base (CXZ X.prog X.w X.base W) k fa fd ps (spB W (o.fn f) np)
theorem Bh
 (hM:J0 X W o k c f np (strV m)) (hr:Room k X.A) (ha:∀lk,PE X a (tD X W lk fun δ=>ev o δ lk ta)) (hl:PA X (e::es) (tL X W fun δ=>evL o δ l))
 (hst:Rj (e::es) X.env=(false,Sv e X.env)::Rj es X.env) (hpl:(SN cpos (Rj es X.env)).any (·.1)=false)
 (ht:Sv (.Call (.Attribute a (strV m) apos) (e::es) [] cpos) X.env=(do
  let ov <-Sv a X.env
  V8 apos.atName
  let(f,first) <-U7 [ov] (V6 ov (strV m) pl)
  VM cpos f first (SN cpos (Rj (e::es) X.env)) (UW cpos (Tr [] X.env))))
 (I:Inv X pins σ H s) (S:SR X W me B H σ δ) (e0:ev o δ lk' ta=.ok r) (e1:evL o δ l=.ok xs) (er:r.2=.obj c ns vs0) (hc:ns.contains m=false) (e2:o.fn f (r.2::xs.2)=.exc c') (h:AfterS X W me B (vis H (Hid B σ δ)) (.ex c' δ) En):Rn (Rt X.prog X.w) X.A (Sv (.Call (.Attribute a (strV m) apos) (e::es) [] cpos) X.env) Q X.xe s:=by
 obtain⟨fa,fd,ps,h1,h2,h3,h5,F⟩:=hM;have hlen0:=h5 (r.2::xs.2) (by rw[e2];simp)
 have hA:tD X W lk' (fun δ=>ev o δ lk' ta) σ H fun v H1=>SR X W me B H1 σ δ/\Same H H1/\RepT W H1 (vis H1 (Hid B σ δ)) r.2 v:=by
  refine tD.mono (Ab (lk':=lk') (fa:=fun δ=>ev o δ lk' ta) (g:=Yr) (C:=fun q _=>q=.ok r) S (by rw[e0];rfl) (fun _ _ _ q=>q) (fun c q=>(nomatch q)) (fun q=>(nomatch q))) fun v H1 ⟨r',e3,S1,s1,t1,q1,h1⟩=>?_
  rw[e0]at e3;cases e3;exact⟨S1,s1,t1⟩
 refine Vn (pl:=pl) (thn (ha lk' pins s σ H _ I hA) fun u s1 ⟨x,H1,I1,rx,S1,q1,t1⟩=>?_) ht;rw[er]at t1;obtain⟨ad,dx,fs,rfl,z1,z2,z3⟩:=t1;obtain rfl:u=Value.ref ad:=rx;refine gq I1 z1 h1 h2 (lookup_none z2 hc) ?_
 have hL:tL X W (fun δ=>evL o δ l) σ H1 fun vs H2=>SR X W me B H2 σ δ/\Same H1 H2/\RepTs W H2 (vis H2 (Hid B σ δ)) xs.2 vs:=by
  refine tL.mono (jA (fa:=fun δ=>evL o δ l) (g:=Yr) (C:=fun r _=>r=.ok xs) S1 (by rw[e1];rfl) (fun _ _ _ q=>q) (fun c q=>(nomatch q)) (fun q=>(nomatch q))) fun vs H2 ⟨r',e3,S2,s2,t2,q2,h2⟩=>?_
  rw[e1]at e3;cases e3;exact⟨S2,s2,t2⟩
 refine Uz (first:=[.ref ad]) (h₀:=X.base) I.ok.mod.kin h2.kp (thn (hl cpos pins s1 σ H1 _ I1 hL) fun us s2 ⟨vs,H2,I2,rv,S2,q2,t2⟩=>⟨I2.kIn,?_⟩) hst hpl
 have t0:RepT W H2 (vis H2 (Hid B σ δ)) r.2 (.ref ad):=by
  rw[er];exact RepT.mono (d:=.obj c ns vs0) ⟨ad,dx,fs,rfl,z1,z2,z3⟩ q2 (ao q2)
 have tt:RepTs W H2 (vis H2 (Hid B σ δ)) (r.2::xs.2) (.ref ad::vs):=by
  simp only[RepTs];exact⟨t0,t2⟩
 have hv:(V.ref ad::vs).length=np:=by rw[<-tt.length];exact hlen0
 have hsp:spB W (o.fn f) np (.ref ad::vs) H2 (fun _ _=>False) (fun cl _ H3=>cl=.ref (W.CT c')/\Same H2 H3):=.inr ⟨hv,fun b=>Hid B σ δ b/\V.ref b∉(V.ref ad::vs),r.2::xs.2,fun a ha=>S2.softH a ha.1,fun b hb=>S2.know b hb.1,tt.lend (V.ref ad::vs) (fun v hv=>hv),c',e2,fun a H3 z=>⟨rfl,z⟩⟩;have r2:Vals ((V.ref ad::vs)++[]) ((Value.ref ad::us)++[]):=(show Vals (V.ref ad::vs) (Value.ref ad::us)from .cons rfl rv).append .nil
 have hln:((Value.ref ad::us)++[]).length=ps.length:=by rw[<-r2.length,Sg];exact F.len _ _ _ _ hsp
 refine WP (Uj (F.run X.A X.stack s2 H2 ⟨Value.ref ad::us,[]⟩ ((Value.ref ad::us)++[]) ((V.ref ad::vs)++[]) _ _ hr I2.env0 (h3 s2 (Value.ref ad::us) I2.kIn hln) r2 (by rw[Sg];exact hsp)) fun r s' hq=>?_)
 cases r with
 | ok fl=>
   cases fl with
   | ret u=>obtain⟨_,_,_,_,_,_,_,z⟩:=hq;exact z.elim
   | next=>exact RC hq
   | brk=>exact RC hq
   | cont=>exact RC hq
 | error er=>
   obtain⟨a,c2,H',rfl,x1,x2,x3,x4,x5,x6,x7,x8,x9,_⟩:=hq;rw[x9]at x7;exact h pins σ H2 s2 I2 S2 (ao (q1.trans q2)) a H' s' true (Fly.of I2 x1 x2 x3 x4 x5 x6 x7) x8
theorem Be(hmn:mn=strV m)
 (hM:∀c f,o.meth c m=some f->∃np,J0 X W o k c f np (strV m)) (hr:Room k X.A) (ha:∀lk,PE X a (tD X W lk fun δ=>ev o δ lk ta)) (hl:PA X (e::es) (tL X W fun δ=>evL o δ l))
 (hst:Rj (e::es) X.env=(false,Sv e X.env)::Rj es X.env) (hpl:(SN cpos (Rj es X.env)).any (·.1)=false)
 (ht:Sv (.Call (.Attribute a mn apos) (e::es) [] cpos) X.env=(do
  let ov <-Sv a X.env
  V8 apos.atName
  let(f,first) <-U7 [ov] (V6 ov mn pl)
  VM cpos f first (SN cpos (Rj (e::es) X.env)) (UW cpos (Tr [] X.env))))
 (hok:PE X (.Call (.Attribute a mn apos) (e::es) [] cpos) (tD X W true fun δ=>ev o δ true (.meth m ta l))):PS X (.Expr (.Call (.Attribute a mn apos) (e::es) [] cpos) pos) (tS X W (evS o (.expr (.meth m ta l)))):=by
 subst hmn;intro pins s σ H D I ⟨me,B,δ,S,h⟩;simp only[evS]at h;obtain⟨r,e0,h⟩:=SO.of_ok h;obtain⟨xs,e1,h⟩:=SO.of_ok h;refine wpAny_Expr_any ?_ I.quiet rfl
 cases er:r.2 with
 | obj c ns vs0=>
   rw[er]at h;dsimp only at h;split at h
   ·exact h.elim
   rename_i hc
   have hc:ns.contains m=false:=by simpa using hc
   obtain⟨f,e4,h⟩:=SO.of_ok h
   have e4':o.meth c m=some f:=by
    cases e5:o.meth c m with
    | none=>rw[e5]at e4;cases e4
    | some g=>rw[e5]at e4;cases e4;rfl
   have ev_is:ev o δ true (.meth m ta l)=(o.fn f (r.2::xs.2)).bind (lent (aM δ ta||xs.1)):=by
    simp only[ev,e0,e1,XS,er,hc,Bool.not_false,Y5,if_true,e4',XR]
   rw[<-er]at h
   cases e2:o.fn f (r.2::xs.2)with
   | stuck=>rw[e2]at h;exact h.elim
   | ok q=>
     rw[e2]at h ev_is
     cases e3:lent (aM δ ta||xs.1) q with
     | ok r'=>
       have h:AfterS X W me B (vis H (Hid B σ δ)) (SO.ofX δ (lent (aM δ ta||xs.1) q) fun _=>.nx δ) D:=h;rw[e3]at h
       refine thn (hok pins s σ H (fun v H1=>Same H H1) I (tD_iff.mpr ⟨me,B,δ,S,?_⟩)) fun v s1 ⟨y,H1,I1,_,q1⟩=>⟨σ,H1,I1,h _ _ (S.mono q1) (ao q1)⟩
       rw[show ev o δ true (.meth m ta l)=.ok r' from ev_is.trans e3]
       exact fun v H1 s1 _=>s1
     | exc c=>
       unfold lent at e3;split at e3
       ·split at e3<;>cases e3
       ·cases e3
     | stuck=>
       have h:AfterS X W me B (vis H (Hid B σ δ)) (SO.ofX δ (lent (aM δ ta||xs.1) q) fun _=>.nx δ) D:=h;rw[e3]at h;exact h.elim
   | exc c'=>
     rw[e2]at h;have h:AfterS X W me B (vis H (Hid B σ δ)) (.ex c' δ) D:=h;obtain⟨np,hMt⟩:=hM c f e4';exact Bh hMt hr ha hl hst hpl ht I S e0 e1 er hc e2 h
 | _=>rw[er]at h;exact h.elim
end
end Z
namespace Z
open PySem PySem.Spec PyProof.Rows L2
section
variable{prog:Rz}{w:RT}{A:RV}{E:Value->Shared->Prop}{s:Shared}
end
end Z
namespace Z
open PySem PySem.Spec PyProof.Rows L2
section
variable{X:Cx}{pins:List (Addr×Obj)}{σ:L2.St}{H:Hp}{s:Shared}{h':Rk}{fp:List Addr}
end
section
variable{X:Cx}{elts:List Expr}{x1:Nat}{tpos p cpos:Pos}
end
end Z
namespace Z
open PySem PySem.Spec PyProof.Rows L2
section
variable{X:Cx}{elts:List Expr}{x1:Nat}{tpos p cpos:Pos}
end
end Z
namespace Z
open PySem PySem.Spec PyProof.Rows L2
open AutoSeq1 (wpAny_loadPart')
section
variable{prog:Rz}{w:RT}{A:RV}{E:Value->Shared->Prop}{s:Shared}{K:Type} [DecidableEq K]{knd:KeyKind prog w K}
end
section
variable{X:Cx}{elts:List Expr}{x1:Nat}{tpos p cpos:Pos}{tg:Expr}
end
end Z
namespace Z
open PySem PySem.Spec PyProof.Rows L2
section
variable{X:Cx}{W:Wd}{lk:Bool}{σ:L2.St}{H H1 H':Hp}{me:Option Addr}{B:Addr->Prop}{δ:Dst}{o:Orc}{p cpos pos tpos:Pos}{tg:Expr}
def top(lk:Bool)(H2:Hp)(P:Addr->Prop):Hp:=if lk=true then H2 else vis H2 P
def WalkL(X:Cx)(W:Wd)(o:Orc)(lk:Bool)(it:TI)(wi:L2.TI):Prop:=∀σ H (K:It->Hp->Prop),(∃me B δ l,SR X W me B H σ δ/\evI o δ lk it=.ok l/\∀J H2,Same H H2->Ylds W J (top lk H2 (Hid B σ δ)) (vis H2 (Hid B σ δ)) l->K J H2)->wi σ H K
theorem WalkL.comp(h:WalkL X W o true it wi):Hh X W o it wi:=fun σ H K ⟨me,B,δ,l,S,e,k⟩=>h σ H K ⟨me,B,δ,l,S,e,fun J H2 s y=>k J H2 s (by simpa[top]using y)⟩
theorem top_le:Same (top lk H2 P) H2:=by
 unfold top;split
 ·exact Same.refl _
 ·exact bH
theorem Jw(h:Res W P lk H H' w (.lst l) v)(hp:∀a,P a->∃u,H a=some u):∃a xs,v=.ref a/\SqL W.K (top lk H' P) a xs/\Reps W (vis H' P) l xs:=by
 cases lk with
 | true=>
   obtain⟨a,xs,rfl,q1,q2⟩:=h.look;exact⟨a,xs,rfl,by simpa[top]using q1,q2⟩
 | false=>
   have:=h.keep hp;simp only[Rep]at this;obtain⟨a,xs,rfl,q1,q2⟩:=this;exact⟨a,xs,rfl,by simpa[top]using q1,q2⟩
theorem Jd(h:Res W P lk H H' w (.dct ks vs) v)(hp:∀a,P a->∃u,H a=some u):∃a kvs ep,v=.ref a/\top lk H' P a=some (.dK kvs ep)/\Reps W (vis H' P) (ks.map keyD) (kvs.map fun p=>kV p.1):=by
 cases lk with
 | true=>
   obtain⟨a,kvs,rfl,⟨ep,q1⟩,q2,q3,q4⟩:=h.look;exact⟨a,kvs,ep,rfl,by simpa[top]using q1,ju q2 q3.2⟩
 | false=>
   have:=h.keep hp;simp only[Rep]at this;obtain⟨a,kvs,rfl,⟨ep,q1⟩,q2,q3,q4⟩:=this;exact⟨a,kvs,ep,rfl,by simpa[top]using q1,ju q2 q3.2⟩
theorem FQ(h:Res W P lk H H' w (.tup l) v):∃a xs,v=.ref a/\SqT W.K (vis H' P) a xs/\Reps W (vis H' P) l xs:=by
 have:=h.look;simp only[RepT,Rep]at this;exact this
theorem G5{K:Ra}{H2:Hp}{P:Addr->Prop}{a:Addr}{xs:List V}(h:SqT K (vis H2 P) a xs):SqT K (top lk H2 P) a xs:=by
 unfold top;split
 ·exact bx bH h
 ·exact h
theorem OJ(hk:W.K=X.K)(he:PE X iter (tD X W lk fun δ=>ev o δ lk t)):∃wi,PI X tg iter wi/\WalkL X W o lk (.val t) wi:=by
 refine⟨_,PI.or (PI.or (PI.or (Gq he) (JK he)) (Gd he)) (My he),fun σ H K ⟨me,B,δ,l,S,e,k⟩=>?_⟩;simp only[evI]at e
 cases e1:ev o δ lk t with
 | exc c=>rw[e1]at e;cases e
 | stuck=>rw[e1]at e;cases e
 | ok r=>
 rw[e1]at e;simp only[XS]at e
 cases e2:r.2 with
 | lst l'=>
   rw[e2]at e;cases e;refine .inl (.inl (.inl (tD_iff.mpr ⟨me,B,δ,S,?_⟩)));rw[e1];intro v H1 s q;rw[e2]at q;obtain⟨c,xs,rfl,q1,q2⟩:=Jw q S.know;exact⟨c,rfl,⟨xs,hk▸top_le.seq q1⟩,k _ _ s (.of (pG (hk▸q1)) q2)⟩
 | tup l'=>
   rw[e2]at e;cases e;refine .inl (.inl (.inr (tD_iff.mpr ⟨me,B,δ,S,?_⟩)));rw[e1];intro v H1 s q;rw[e2]at q;obtain⟨c,xs,rfl,q1,q2⟩:=FQ q;exact⟨c,rfl,⟨xs,hk▸bx bH q1⟩,k _ _ s (.of (u9 (hk▸G5 q1)) q2)⟩
 | dct ks vs=>
   rw[e2]at e;cases e;refine .inl (.inr (tD_iff.mpr ⟨me,B,δ,S,?_⟩));rw[e1];intro v H1 s q;rw[e2]at q;obtain⟨c,kvs,ep,rfl,q1,q2⟩:=Jd q S.know;exact⟨c,kvs,ep,rfl,top_le _ _ q1,k _ _ s (.of (pO q1) q2)⟩
 | str x=>
   rw[e2]at e;cases e;refine .inr (tD_iff.mpr ⟨me,B,δ,S,?_⟩);rw[e1];intro v H1 s q;have q:=q.look;rw[e2]at q;simp only[RepT,Rep]at q;obtain⟨rfl,q1⟩:=q;exact⟨_,rfl,k _ _ s (.of (tY x) (jH x))⟩
 | _=>rw[e2]at e;cases e
theorem M3(hgl:Gl X "range")(hm:X.mg "range"=none)(h1:PE X e1 (tD X W true fun δ=>ev o δ true t))(hst:az e1=false):∃wi,PI X tg (.Call (.Name "range" p) [e1] [] cpos) wi/\WalkL X W o lk (.rng1 t) wi:=by
 refine⟨_,vI hgl hm (bD h1 cP (bI hst)) (bI hst),fun σ H K ⟨me,B,δ,l,S,e,k⟩=>?_⟩;simp only[evI]at e;refine tD_iff.mpr ⟨me,B,δ,S,?_⟩
 cases e3:ev o δ true t with
 | ok r=>
   rw[e3]at e;simp only[XS]at e
   cases e4:r.2 with
   | int n=>
     rw[e4]at e;obtain⟨hc1,e⟩:=gW e;cases e;intro v H1 s1 q1;have q1:=q1.look;rw[e4]at q1;have hn:=wL hc1;have:=aQ q1;subst this;refine⟨n,rfl,by omega,by omega,k _ _ s1 (.of (gQ 0 n.toNat) ?_)⟩
     have e5:rngD 0 n=(RG n.toNat).map fun(k:Nat)=>XH (0+(k:Int)):=by unfold rngD;rw[Int.sub_zero]
     rw[e5];exact qP 0 n.toNat
   | _=>rw[e4]at e;cases e
 | exc c=>rw[e3]at e;cases e
 | stuck=>rw[e3]at e;cases e
theorem Ms(hgl:Gl X "range")(hm:X.mg "range"=none)(h1:PE X e1 (tD X W true fun δ=>ev o δ true t1))(h2:PE X e2 (tD X W true fun δ=>ev o δ true t2))(hst1:az e1=false)(hst2:az e2=false) :
 ∃wi,PI X tg (.Call (.Name "range" p) [e1,e2] [] cpos) wi/\WalkL X W o lk (.rng2 t1 t2) wi:=by
 have hs2:Rj [e2] X.env=[(false,Sv e2 X.env)]:=bI hst2;refine⟨_,vO hgl hm (bD h1 (bD h2 cP hs2) (bI hst1)) (by rw[bI hst1,hs2]) hs2,fun σ H K ⟨me,B,δ,l,S,e,k⟩=>?_⟩;simp only[evI]at e;refine tD_iff.mpr ⟨me,B,δ,S,?_⟩
 cases e3:ev o δ true t1 with
 | ok r=>
   rw[e3]at e;simp only[XS]at e;intro v H1 s1 q1;refine tD_iff.mpr ⟨me,B,δ,S.mono s1,?_⟩
   cases e5:ev o δ true t2 with
   | ok r2=>
     rw[e5]at e;simp only at e
     cases e4:r.2 with
     | int i=>
       cases e6:r2.2 with
       | int j=>
         rw[e4,e6]at e;obtain⟨hc1,e⟩:=gW e;cases e;simp only[Bool.and_eq_true]at hc1;have hi:=wL hc1.1;have hj:=wL hc1.2;intro v2 H2 s2 q2;have q1:=q1.look;rw[e4]at q1;have q2:=q2.look;rw[e6]at q2;refine⟨i,j,by rw[aQ q1,aQ q2],⟨by omega,by omega,by omega,by omega⟩,?_⟩;exact k _ _ (s1.trans s2) (.of (gQ i (j-i).toNat) (qP i (j-i).toNat))
       | _=>rw[e4,e6]at e;cases e
     | _=>rw[e4]at e;cases e
   | exc c=>rw[e5]at e;cases e
   | stuck=>rw[e5]at e;cases e
 | exc c=>rw[e3]at e;cases e
 | stuck=>rw[e3]at e;cases e
theorem zx(hg:TgOk X W tg is tup g)(S:SR X W me B H σ δ)(Y:Ylds W J (vis H (Hid B σ δ)) (vis H (Hid B σ δ)) l)
 (h:AfterS X W me B (vis H (Hid B σ δ)) (bG (evSs o sb) is tup l δ) En) :
 ∃Wv:Nat->Nat->L2.St->Hp->Prop,(∃m,Wv 0 m σ H)/\∀i m σ H,Wv i m σ H ->
  (J.stop i H/\En.nx σ H)\/(J.go i H/\∃N:L2.St->Hp->Prop,(∀σ' H',N σ' H'->∃m',m'<m/\Wv (i+1) m' σ' H')/\∀x H',J.yld i H x H'->g x σ H' fun σ2 H2=>tS X W (evSs o sb) { En with nx:=N,ct:=N,bk:=En.nx } σ2 H2):=by
 let Pv:Nat->L2.St->Hp->Prop:=fun i σ' H'=>∃δ',SR X W me B H' σ' δ'/\Same (vis H (Hid B σ δ)) (vis H' (Hid B σ' δ'))/\AfterS X W me B (vis H' (Hid B σ' δ')) (bG (evSs o sb) is tup (l.drop i) δ') En
 refine⟨fun i m σ' H'=>m=l.length-i/\i<=l.length/\Pv i σ' H',⟨l.length,rfl,Nat.zero_le _,δ,S,Same.refl _,h⟩,?_⟩
 rintro i m σ' H' ⟨rfl,hi,δ',S',s',h'⟩
 by_cases hlt:i<l.length
 ·refine .inr ⟨Y.go i H' (s'.trans bH) hlt,Pv (i+1),fun σ2 H2 q=>⟨l.length-(i+1),by omega,rfl,hlt,q⟩,fun x H'' y=>?_⟩
  obtain⟨d,ed⟩:∃d,l[i]?=some d:=⟨_,Rm hlt⟩
  obtain⟨sy,rd⟩:=(Y.yld i H' x H'' d (s'.trans bH) ed y).rep s' S'.know
  have hd:l.drop i=d::l.drop (i+1):=by
   obtain⟨hi,e⟩:=Ry.mp ed;rw[List.drop_eq_getElem_cons hi,e]
  rw[hd]at h';simp only[bG]at h';have S'':=S'.mono sy;have sv:Same (vis H' (Hid B σ' δ')) (vis H'' (Hid B σ' δ')):=ao sy
  replace h':=AfterS.mono h' sv
  cases e2:takes is.length tup d with
  | none=>simp only[e2]at h';exact h'.elim
  | some ds=>
    simp only[e2]at h'
    cases e3:aG δ' is ds with
    | none=>simp only[e3]at h';exact h'.elim
    | some δ1=>
      simp only[e3]at h'
      refine hg.2 S'' rd e2 e3 fun σ1 S1 s1=>⟨me,B,δ1,S1,?_⟩
      have h':=AfterS.mono h' s1
      cases e4:evSs o sb δ1 with
      | nx δ2=>rw[e4]at h';exact fun σ2 H2 S2 s2=>⟨δ2,S2,((s'.trans sv).trans s1).trans s2,AfterS.mono h' s2⟩
      | ct δ2=>rw[e4]at h';exact fun σ2 H2 S2 s2=>⟨δ2,S2,((s'.trans sv).trans s1).trans s2,AfterS.mono h' s2⟩
      | bk δ2=>rw[e4]at h';exact h'
      | rt w d δ2=>rw[e4]at h';exact h'
      | ex c δ2=>rw[e4]at h';exact h'
      | stuck=>rw[e4]at h';exact h'.elim
 ·have e:i=l.length:=by omega
  subst e;refine .inl ⟨Y.stop H' (s'.trans bH),?_⟩;rw[List.drop_length]at h';simp only[bG,AfterS]at h';exact h' σ' H' S' (Same.refl _)
theorem yV(S:SR X W me B H σ δ)(it:TI):SR X W me B H σ (bV δ it)/\Same (vis H (Hid B σ δ)) (vis H (Hid B σ (bV δ it))):=by
 have one:∀i,SR X W me B H σ (Z.share1 δ i)/\Same (vis H (Hid B σ δ)) (vis H (Hid B σ (Z.share1 δ i))):=fun i=>⟨S.share1 i,aH (gF i)⟩
 have two:∀e,SR X W me B H σ (cT δ e)/\Same (vis H (Hid B σ δ)) (vis H (Hid B σ (cT δ e))):=fun e=>by
  unfold cT;split
  ·exact one _
  ·exact⟨S,Same.refl _⟩
 unfold bV;split
 ·exact one _
 ·exact one _
 ·rename_i a b
  obtain⟨S1,s1⟩:=two a
  have one':∀i,SR X W me B H σ (Z.share1 (cT δ a) i)/\Same (vis H (Hid B σ (cT δ a))) (vis H (Hid B σ (Z.share1 (cT δ a) i))):=fun i=>⟨S1.share1 i,aH (gF i)⟩
  have:SR X W me B H σ (cT (cT δ a) b)/\Same (vis H (Hid B σ (cT δ a))) (vis H (Hid B σ (cT (cT δ a) b))):=by
   cases b with
   | var i=>exact one' i
   | _=>exact⟨S1,Same.refl _⟩
  exact⟨this.1,s1.trans this.2⟩
 ·exact⟨S,Same.refl _⟩
theorem Jt(hp:Vt (Rt X.prog X.w) X.A X.env X.xe)(hc:X.calm=true)(hg:TgOk X W tg is tup g)(hi:∃wi,PI X tg iter wi/\WalkL X W o false it wi)
 (hb:PSs X body (tS X W (evSs o sb))) (hs:∀x,TQ iter X.env x=pure x):PS X (.For tg iter body [] pos) (tS X W (evS o (.for_ is tup it sb))):=by
 obtain⟨wi,h1,h2⟩:=hi
 refine PS.imp (Oe hp hc h1 hg.1 hb hs) fun En σ H ⟨me,B,δ,S,h⟩=>?_
 simp only[evS]at h;obtain⟨S1,s1⟩:=yV S it;obtain⟨l,e,h⟩:=SO.of_ok h;refine h2 σ H _ ⟨me,B,_,l,S1,e,fun J H2 s y=>?_⟩
 have y':Ylds W J (vis H2 (Hid B σ (bV δ it))) (vis H2 (Hid B σ (bV δ it))) l:=by simpa[top]using y
 exact zx hg (S1.mono s) y' (AfterS.mono h (s1.trans (ao s)))
end
end Z
namespace Z
open PySem PySem.Spec PyProof.Rows L2
def oY(m z:Int):Int:=if z>m then z else m
section
variable{prog:Rz}{w:RT}{A:RV}{E:Value->Shared->Prop}{s:Shared}{R:X6->Shared->Prop}
theorem cmp_gt(h:Q (.bool (decide (a>b))) s):Rn (Rt prog w) A (richCompare .Gt (.int a t) (.int b u)) Q E s :=
 richCompare_gives (op:=.Gt) (typeIs_int s _ t) (typeIs_int s _ u) PySem.F.slot_int_gt PySem.F.entry_int_gt (PySem.F.args_int_gt_2 _ _) (gives_int_gt _ _ t u) (fun x=>nomatch x) h
theorem vJ{I l S:Addr}{vs:List Value}{ns:List Int}{kw:List (Str×Value)}(hh:A.handled=none)(hi:WM vs ns)(hlI:l≠I)(hSI:S≠I)(hSl:S≠l):∀(k j:Nat) (s:Shared) (m:Int) (t:Tok) (c:Nat),ns.length-j=k->j<=ns.length->s.heap.IsListIter I l j->s.heap.IsList l vs.toArray ->
 s.heap.get? S=some { cls:=.type "list",dict:=none,data:=.seq #[.int m t,.int m t] c,slots:=#[] } ->
 (∀t' h' tk,(∀b o,b≠I->b≠S->s.heap.get? b=some o->h'.get? b=some o)->R (.ok (.ret (.int ((ns.drop j).foldl oY m) t'))) { s with heap:=h',toks:=tk }) ->
 Vx (Rt prog w) A (.builtin "max.loop" ⟨[.ref I,.none,.ref S],kw⟩) R s:=by
 have hname:(Xx "max"++Xx ".loop":String)="max.loop":=by decide
 have hlen:=hi.length;intro k
 induction k with
 | zero=>
   intro j s m t c hk hj hit hl hS hR
   have e:j=ns.length:=by omega
   refine Th PySem.F.entry_max_loop ?_;rw[SJ Tp _];show Rn _ A.in1 (seqItems? (.ref S) >>= _) _ _ s;refine R6 (Wy hS rfl ?_);show Rn _ A.in1 (Xw (Wj (.ref I)) _ >>= _) _ _ s;refine R6 (Wx (wpAny_pyNext_list_end hh hit hl (Array.getElem?_eq_none (by simp;omega)) fun h' hx=>?_));have hS':=hx S _ hSI hS;show Rn _ A.in1 (Xi S (fun _=>#[]) >>= _) _ _ _;refine R6 (VR hS' rfl (R6 (X8 (Rc ?_))))
   have:=hR t (h'.update S (VB fun _=>#[])) s.toks fun b o b1 b2 q=>(RN _ _ (T5 b2)).trans (hx b o b1 q)
   rw[e,List.drop_length]at this;exact this
 | succ k ih=>
   intro j s m t c hk hj hit hl hS hR
   have hlt:j<ns.length:=by omega
   obtain⟨u,hu⟩:=hi.get j (ns[j]'hlt) (Rm hlt);have hd:ns.drop j=ns[j]'hlt::ns.drop (j+1):=List.drop_eq_getElem_cons hlt;rw[hd]at hR;generalize ns[j]'hlt=z at hu hR;refine Th PySem.F.entry_max_loop ?_;rw[SJ Tp _];show Rn _ A.in1 (seqItems? (.ref S) >>= _) _ _ s;refine R6 (Wy hS rfl ?_);show Rn _ A.in1 (Xw (Wj (.ref I)) _ >>= _) _ _ s;refine R6 (Wx (wpAny_pyNext_list_item hit hl (x:=.int z u) (by simpa using hu) fun h' hit' hs'=>?_));have hS':=(hs'.2 S hSI).trans hS;have hl':=hl.extBut hs'.extBut hlI;show Rn _ A.in1 (Xw (U7 [.int z u,.int z u] (richCompare .Gt (.int z u) (.int m t) >>= _)) _ >>= _) _ _ _;refine R6 (Wx (U6 (R6 (cmp_gt ?_))));refine R6 (U6 (Ue ?_));refine R6 (X8 (Rc ?_))
   by_cases hb:z>m
   ·simp only[decide_eq_true hb,if_true];refine R6 (VR hS' rfl (R6 (X8 ?_)));rw[hname]
    refine Rc ⟨Ul Tp _,ih (j+1) _ z u _ (by omega) hlt (hit'.at fun o e=>(RN _ _ hSI).trans e) (hl'.at fun o e=>(RN _ _ hSl).trans e) (S5 _ hS' rfl) fun t' h'' tk hk''=>?_⟩
    have:=hR t' h'' tk fun b o b1 b2 q=>hk'' b o b1 b2 ((RN _ _ (T5 b2)).trans ((hs'.2 b b1).trans q))
    rw[VG,show oY m z=z from if_pos hb]at this;exact this
   ·simp only[decide_eq_false hb,Bool.false_eq_true,if_false];refine R6 (X8 ?_);rw[hname]
    refine Rc ⟨Ul Tp _,ih (j+1) _ m t c (by omega) hlt hit' hl' hS' fun t' h'' tk hk''=>?_⟩
    have:=hR t' h'' tk fun b o b1 b2 q=>hk'' b o b1 b2 ((hs'.2 b b1).trans q)
    rw[VG,show oY m z=m from if_neg hb]at this;exact this
end
section
variable{X:Cx}{W:Wd}{lk:Bool}{σ:L2.St}{H H1 H':Hp}{me:Option Addr}{B:Addr->Prop}{δ:Dst}{o:Orc}{p cpos pos kp:Pos}{a b:Expr}
theorem ni:∀{l:List D} {ns:List Int} {xs:List V},intsOf l=some ns->Reps W G l xs->xs=ns.map V.int
 | [],ns,xs,h,r=>by
   simp only[intsOf,Rf]at h;subst h
   cases xs with
   | nil=>rfl
   | cons _ _=>simp only[Reps]at r
 | d::l,ns,xs,h,r=>by
   cases d<;>first | exact nope h | simp only[intsOf]at h
   rename_i z
   cases e:intsOf l with
   | none=>rw[e]at h;cases h
   | some ms=>
     rw[e]at h;cases h
     cases xs with
     | nil=>simp only[Reps]at r
     | cons x xs=>
       simp only[Reps,Rep]at r;rw[R8,r.1,ni e r.2]
end
end Z
namespace Z
open PySem PySem.Spec PyProof.Rows L2
section
variable{prog:Rz}{w:RT}{A:RV}{E:Value->Shared->Prop}{s:Shared}{R:X6->Shared->Prop}
end
section
variable{X:Cx}{W:Wd}{lk:Bool}{σ:L2.St}{H H1 H':Hp}{me:Option Addr}{B:Addr->Prop}{δ:Dst}{o:Orc}{p cpos pos kp:Pos}{a b:Expr}
end
end Z
namespace Z
open PySem PySem.Spec PyProof.Rows L2
section
variable{X:Cx}{W:Wd}{lk:Bool}{o:Orc}{a:Expr}{pos:Pos}
end
end Z
namespace Z
open PySem PySem.Spec PyProof.Rows L2
section
variable{X:Cx}{W:Wd}
end
end Z
namespace Z
open PySem PySem.Spec PyProof.Rows L2
section
variable{X:Cx}{W:Wd}{lk:Bool}{σ:L2.St}{H H1 H':Hp}{me:Option Addr}{B:Addr->Prop}{δ:Dst}{o:Orc}{p px cpos pos:Pos}{a b:Expr}
def KDct(P:Rz)(w:RT)(W:Wd)(ad:Addr)(ks:List DK)(vs:List D):Prop:=∃kvs:List (Key×Value),(∀h:Rk,W.K.In h->h.DictOf (bc P w) ad kvs)/\(∀x d,look ks vs x=some d->∃(u:Value) (v:V),Wf kvs (keyV x)=some u/\RelV v u/\∀G,Rep W G d v)/\(ad==Ux)=false/\∀x,(Wf kvs (keyV x)).isSome=decide (x∈ks)
theorem Ca:rH (kvs.map fun p=>(tC p.1,tC p.2)) σ H Q=Q kvs H:=by
 induction kvs generalizing Q with
 | nil=>rfl
 | cons q l ih=>
   show rH (l.map fun p=>(tC p.1,tC p.2)) σ H (fun ps H3=>Q (q::ps) H3)=_;rw[ih]
theorem mq:∀(more kvs:List (Key×V)),((kvs++more).map (·.1)).Nodup->jF kvs more=kvs++more
 | [],kvs,_=>by simp[jF]
 | q::more,kvs,h=>by
   have hn:valV kvs q.1=none:=by
    unfold valV;rw[List.find?_eq_none.mpr fun z hz=>?_]
    ·rfl
    ·have:z.1≠q.1:=fun e=>by
      rw[Up,List.nodup_append]at h;exact h.2.2 z.1 (TF hz) q.1 (by simp) e
     simpa using this
   show jF (putK kvs q.1 q.2) more=_;rw[Bu q.2 hn,mq more _ (by simpa using h)];simp
def Pg(kvs:List (Key×V)):TE:=fun _ H Q=>∀p ep,H p=none->Q (.ref p) (upd H p (.dK kvs ep))
theorem Jg(hall:keys.all (·.isSome)=true)(hl:keys.length=values.length)(h0:keys≠[])(hlen:keys.length<=15)(hn:(kvs.map (·.1)).Nodup)(hlk:kvs.length=keys.length)
 (hp:PPs X pos keys values (kvs.map fun q=>(tC (kV q.1),tC q.2))):PE X (.Dict keys values pos) (Pg kvs):=by
 intro pins s σ H Q I h;obtain⟨ep,ok⟩:=qN (P:=X.prog) (w:=X.w) (H:=upd H s.heap.objs.size (.dK [] 0)) s.heap I.big;have ok:ObjOk X.prog X.w (upd H s.heap.objs.size (.dK [] ep)) (s.heap.push { cls:=.type "dict",data:=.dict #[] }) s.heap.objs.size (.dK [] ep):=ok;have I1:Inv X pins σ (upd H s.heap.objs.size (.dK [] ep)) { s with heap:=s.heap.push { cls:=.type "dict",data:=.dict #[] } }:=I.laid (a:=s.heap.objs.size) (o:=.dK [] ep) (t':=s.toks) (fun _ _ q=>R7 _ q) (Nat.le_refl _) ok;have hf:H s.heap.objs.size=none:=I.hok.fresh (Nat.le_refl _)
 have rd:kvs.map (fun q=>(tC (kV q.1),tC q.2))=(kvs.map fun q=>(kV q.1,q.2)).map fun q=>(tC q.1,tC q.2):=by simp[SM,Function.comp_def]
 refine wpAny_Dict_walk (knd:=bc X.prog X.w) hall hl h0 hlen (thn (hp pins _ σ _ (fun ps H'=>ps=(kvs.map fun q=>(kV q.1,q.2))/\H'=upd H s.heap.objs.size (.dK [] ep)) I1 (by rw[rd,Ca];exact⟨rfl,rfl⟩)) fun ws s1 ⟨ps,H',I2,rel,e1,e2⟩=>?_);subst e1 e2;obtain⟨rs,c,q⟩:=jG (P:=X.prog) (w:=X.w) rel;obtain⟨_,hd,vs,rl,dd⟩:=HY I2.hok (aU (H:=H) (a:=s.heap.objs.size) (o:=.dK [] ep))
 have:vs=[]:=by cases rl;rfl
 subst this;refine⟨rs,c,dd,fun h' dd' hs=>?_⟩;obtain⟨ob,_,_,ho,_⟩:=id dd';obtain⟨ep2,dd2⟩:=dd'.dictAt;have km:KV (jF [] kvs) (merged [] rs):=KV.merge q .nil
 have em:jF [] kvs=kvs:=by rw[mq kvs [] (by simpa using hn)];rfl
 rw[em]at km;have I3:=lJ (t':=s1.toks+ws.length) I2 (by rw[aU];exact Ui) hs ⟨ob,ho⟩ (sU (by rw[T9,hlk];omega) hd km dd2);rw[Io]at I3;exact⟨.ref s.heap.objs.size,_,I3,rfl,h _ _ hf⟩
end
end Z
namespace Z
open PySem PySem.Spec PyProof.Rows L2
section
variable{X:Cx}{W:Wd}{lk:Bool}{o:Orc}{p px cpos pos:Pos}{a b:Expr}
def uv:TL->T->TL
 | .nil,t=>.cons t .nil
 | .cons u l,t=>.cons u (uv l t)
theorem t6:∀{l:TL},evL o δ (uv l (.cst d))=(evL o δ l).bind fun r=>.ok (r.1,r.2++[d])
 | .nil=>by simp only[uv,evL,ev,aM,XS];rfl
 | .cons u l=>by
   simp only[uv,evL];rw[t6]
   cases ev o δ (aM δ u) u with
   | ok x=>
     simp only[XS]
     cases evL o δ l with
     | ok y=>simp
     | exc c=>rfl
     | stuck=>rfl
   | exc c=>rfl
   | stuck=>rfl
theorem jV:∀{l:List D} {vs:List V},RepTs W H G l vs->RepTs W H G (l++[.int v]) (vs++[.int v])
 | [],[],_=>by simp only[List.nil_append,RepTs,RepT,Rep,and_true]
 | [],_::_,h=>by simp only[RepTs]at h
 | _::_,[],h=>by simp only[RepTs]at h
 | d::l,u::vs,h=>by
   simp only[RepTs,V9]at h ⊢;exact⟨h.1,jV h.2⟩
theorem mU:∀{l:List D} {vs:List V},Reps W G l vs->Reps W G (l++[.int v]) (vs++[.int v])
 | [],[],_=>by simp only[List.nil_append,Reps,Rep,and_true]
 | [],_::_,h=>by simp only[Reps]at h
 | _::_,[],h=>by simp only[Reps]at h
 | d::l,u::vs,h=>by
   simp only[Reps,V9]at h ⊢;exact⟨h.1,mU h.2⟩
theorem Gw(hn:∀δ r,evL o δ l=.ok r->r.2.length+1=np)
 (F:FnOk X.prog X.w X.K X.mg X.base CX0 k fa fd ps (spFn W (o.fn f) np)) (hr:Room k X.A) (hg:Gl X x) (hm:X.mg x=some (.ref fa)) (hk:RL X.K (.ref fa)=true) (hb:Binds X.K fd ps vs) (hv:Vals [.int v] vs)
 (ha:PA X (e::es) (tL X W fun δ=>evL o δ l)) (hdb:(x==("__debug__":Str))=false) (he:Rj (e::es) X.env=(false,Sv e X.env)::Rj es X.env) (hpl:(SN pos (Rj es X.env)).any (·.1)=false) :
 PE X (.Call (.Name x p) (e::es) [] pos) (tD X W lk fun δ=>ev o δ lk (.call f (uv l (.cst (.int v))))):=by
 refine PE.imp (yJ F hr hg hm hk hb hv uo ha hdb he hpl) fun σ H Q h=>?_
 obtain⟨me,B,δ,S,h⟩:=tD_iff.mp h;simp only[ev]at h;rw[t6]at h
 have e0:(((evL o δ l).bind fun r=>Yr (r.1,r.2++[XH v])).bind fun x=>(o.fn f x.2).bind (lent x.1))=(evL o δ l).bind fun r=>(o.fn f (r.2++[.int v])).bind (lent r.1):=by cases evL o δ l<;>rfl
 rw[e0]at h
 refine tL.mono (jA (fa:=fun δ=>evL o δ l) (C:=fun r H=>After X W lk σ H (Hid B σ δ) r Q) S h (fun r H1 s q=>q.mono s) (fun c q=>q) (fun q=>q)) fun vs H1 ⟨r,e1,S1,s1,t1,q1,h1⟩=>?_
 exact zF S1 (by rw[Rx];exact hn δ r e1) (jV t1) (fun z=>mU (q1 z)) h1
end
end Z
namespace Z
open PySem PySem.Spec PyProof.Rows L2
section
variable{prog:Rz}{w:RT}{A:RV}{E:Value->Shared->Prop}{s:Shared}
theorem args_max1(a:Value):Xr "max" ⟨[a],[]⟩:=by unfold Xr;kernel_rfl
theorem xj(hh:A.handled=none)(hl:s.heap.IsList l vs.toArray)(hi:WM vs (z::ns))
 (hQ:∀t h' tk,(∀b o,s.heap.get? b=some o->h'.get? b=some o)->Q (.int (ns.foldl oY z) t) { s with heap:=h',toks:=tk }):Rn (Rt prog w) A (call (.builtin "max") [.ref l] []) Q E s:=by
 have hname:(Xx "max"++Xx ".loop":String)="max.loop":=by decide
 have hlen:=hi.length
 have ll:l<s.heap.objs.size:=by obtain⟨o,e,_⟩:=hl;exact Ro e
 refine kmk_tree PySem.F.kind_max PySem.F.plain_max PySem.F.entry_max (args_max1 _) ?_;show Rn _ A.in1 (Sw.Builtins.bindParams "max" ["key","default"] 0 ⟨[],[]⟩ >>= _) _ _ s;refine R6 (wpAny_of_eq (show Sw.Builtins.bindParams "max" ["key","default"] 0 ⟨[],[]⟩=pure [none,none]from rfl) ?_);refine R6 (Rc ?_);refine R6 (Vw hl ?_);refine R6 (wpAny_newList ?_ (Nat.zero_le _));rw[hname];generalize hh1:s.heap.push { cls:=.type "list_iterator",data:=.fields #[.ref l,.int 0 0] }=h1
 have n1:h1.objs.size=s.heap.objs.size+1:=by rw[<-hh1];exact Uw ..
 have old:∀b o,s.heap.get? b=some o->(h1.push (WR "list" #[] 0)).get? b=some o:=fun b o e=>R7 _ (by rw[<-hh1];exact R7 _ e)
 have gI:(h1.push (WR "list" #[] 0)).IsListIter s.heap.objs.size l 0:=⟨_,R7 _ (by rw[<-hh1];exact Rp _ rfl),rfl,rfl⟩
 have gS:(h1.push (WR "list" #[] 0)).get? h1.objs.size=some (WR "list" #[] 0):=Rp _ rfl
 have gl:(h1.push (WR "list" #[] 0)).IsList l vs.toArray:=hl.at fun o e=>old _ o e
 have lI:l≠s.heap.objs.size:=Nat.ne_of_lt ll
 have SI:h1.objs.size≠s.heap.objs.size:=by rw[n1];exact Nat.succ_ne_self _
 have Sl:h1.objs.size≠l:=by rw[n1];exact Nat.ne_of_gt (Nat.lt_succ_of_lt ll)
 refine Rc ⟨Ul Tp _,?_⟩;refine Th PySem.F.entry_max_loop ?_;rw[SJ Tp _];show Rn _ A.in1 (seqItems? (.ref h1.objs.size) >>= _) _ _ _;refine R6 (Wy gS rfl ?_);show Rn _ A.in1 (Xw (Wj (.ref s.heap.objs.size)) _ >>= _) _ _ _;obtain⟨u,hu⟩:=hi.get 0 z rfl;refine R6 (Wx (wpAny_pyNext_list_item gI gl (x:=.int z u) (by simpa using hu) fun h' hit' hs'=>?_));have hS':=(hs'.2 _ SI).trans gS;have hl':=gl.extBut hs'.extBut lI;show Rn _ A.in1 (Xi h1.objs.size (fun _=>#[.int z u,.int z u]) >>= _) _ _ _;refine R6 (VR hS' rfl ?_);rw[hname];refine Rc ⟨Ul Tp _,vJ hh hi lI SI Sl _ 1 _ z u _ rfl (by simp) (hit'.at fun o e=>(RN _ _ SI).trans e) (hl'.at fun o e=>(RN _ _ Sl).trans e) (S5 _ hS' rfl) fun t' h'' tk hk''=>?_⟩
 exact hQ t' h'' tk fun b o e=>hk'' b o (Nat.ne_of_lt (Ro e)) (fun q=>by have:=Ro e;rw[q,n1]at this;exact Nat.not_lt_of_le (Nat.le_succ _) this) ((RN _ _ (fun q=>by have:=Ro e;rw[<-q,n1]at this;exact Nat.not_lt_of_le (Nat.le_succ _) this)).trans ((hs'.2 b (Nat.ne_of_lt (Ro e))).trans (old b o e)))
end
section
variable{X:Cx}{W:Wd}{lk:Bool}{o:Orc}{p cpos pos apos:Pos}{a b:Expr}
theorem yF(hc:X.calm=true):CallR X (.builtin "max") (fun xs H Q=>∃(c:Addr) (z:Int) (ns:List Int),xs=[.ref c]/\SqL X.K H c ((z::ns).map V.int)/\Q (.int (ns.foldl oY z)) H):=by
 intro pins s σ H xs us Q I r h;obtain⟨c,z,ns,rfl,hq,q⟩:=h;obtain⟨u,rfl,rx⟩:=vals1 r;cases rx;obtain⟨its,rv,pl,hz⟩:=I.list hq
 exact xj (I.ok.hd hc) pl.isList (L2.intsAre_of rv) fun t' h' tk hk=>⟨.int (ns.foldl oY z),H,I.kept hk,⟨_,rfl⟩,q⟩
theorem zW(hk:W.K=X.K):Sem1 W (fun xs H Q=>∃(c:Addr) (z:Int) (ns:List Int),xs=[.ref c]/\SqL X.K H c ((z::ns).map V.int)/\Q (.int (ns.foldl oY z)) H) (b1D .max):=by
 intro lk P H x dx Q w d hS hK hx e k
 cases dx<;>first | exact nope e | exact fB e | simp only[b1D]at e
 rename_i l
 cases e1:intsOf l with
 | none=>rw[e1]at e;cases e
 | some ns=>
   rw[e1]at e
   cases ns with
   | nil=>cases e
   | cons z ns=>
     cases e;obtain⟨c,vs,rfl,q1,q2⟩:=hx;have:=ni e1 q2;subst this;exact⟨c,z,ns,rfl,hk▸q1,k _ H (Same.refl H) dB⟩
theorem MJ(hc:X.calm=true)(hg:Gl X "min")(hm:X.mg "min"=none)(ha:PE X a (tD X W true fun δ=>ev o δ true ta))(hb:PE X b (tD X W true fun δ=>ev o δ true tb))(hst1:az a=false)(hst2:az b=false) :
 PE X (.Call (.Name "min" p) [a,b] [] cpos) (tD X W lk fun δ=>ev o δ lk (.b2 .min ta tb)):=by
 have hs2:Rj [b] X.env=[(false,Sv b X.env)]:=bI hst2
 refine PE.imp (g8 (vG hc) hg hm boot_min (bD ha (bD hb cP hs2) (bI hst1)) (by decide) (by decide) (by rw[bI hst1,hs2]) (by rw[hs2];rfl)) fun σ H Q h=>?_
 obtain⟨me,B,δ,S,h⟩:=tD_iff.mp h;simp only[ev]at h
 refine tD.mono (part S h) fun v H1 ⟨r1,e1,S1,s1,t1,_,h1⟩=>?_
 refine tD.mono (part S1 h1) fun v2 H2 ⟨r2,e2,S2,s2,t2,_,h2⟩=>?_
 cases e3:r1.2 with
 | int i=>
   cases e4:r2.2 with
   | int j=>
     rw[e3,e4]at h2;simp only[b2D]at h2;have t1:=t1.mono s2 (ao s2);rw[e3]at t1;rw[e4]at t2;exact⟨i,j,by rw[aQ t1,aQ t2],h2 _ _ (Same.refl _) dB⟩
   | _=>rw[e3,e4]at h2;exact h2.elim
 | lst l=>
   rw[e3]at h2
   revert h2
   cases r2.2<;>intro h2<;>exact h2.elim
 | _=>rw[e3]at h2;revert h2;cases r2.2<;>intro h2<;>exact h2.elim
end
section
variable{X:Cx}{pins:List (Addr×Obj)}{σ:L2.St}{H:Hp}{s:Shared}{a:Addr}{kvs:List (Key×V)}{k:Key}{u:Value}{A:RV}{E:Value->Shared->Prop}
end
section
variable{X:Cx}{o e f:Expr}{apos cpos:Pos}{td ty tz:TE}
end
section
variable{X:Cx}{W:Wd}{o:Orc}{p p' apos cpos pos:Pos}
end
end Z
namespace PySem.W
open PySem
def pN(p:Rz)(w:RT)(n₀:Nat)(ann:Option Value)(n:Nat):SharedT->Thread->Option SharedT :=
 @Nat.rec (fun _=>SharedT->Thread->Option SharedT) (fun _ _=>none) (fun _ ih s t=>match through t with
  | true=>some s
  | false=>match Fast.tw6613529449190102663 n₀ ann t with
    | false=>none
    | true=>match Fast.tw10156331382660048174 (Fast.tw11892475500146522536 Fast.tw14364793385576792824) p w s t with
      | some (s',t')=>ih s' t'
      | none=>none) n
theorem jK:∀{n:Nat} {s s':SharedT} {t:Thread},pN p w n₀ ann n s t=some s'->topRun Xj p w n₀ ann n s.abs t=some s'.abs
 | 0,_,_,_,h=>nomatch h
 | n+1,s,s',t,h=>by
   have h:(match through t with
    | true=>some s
    | false=>match Fast.tw6613529449190102663 n₀ ann t with
      | false=>none
      | true=>match Fast.tw10156331382660048174 (Fast.tw11892475500146522536 Fast.tw14364793385576792824) p w s t with
        | some (s',t')=>pN p w n₀ ann n s' t'
        | none=>none)=some s':=h
   rw[<-Fast.te6613529449190102663,<-Fast.te10156331382660048174,<-Fast.te11892475500146522536,<-Fast.te14364793385576792824]at h;unfold topRun
   cases he:through t with
   | true=>rw[he]at h;cases h;rfl
   | false=>
     rw[he]at h
     cases hk:stepOk n₀ ann t with
     | false=>rw[hk]at h;cases h
     | true=>
       rw[hk]at h
       cases hs:stepT (denote Xj) p w s t with
       | none=>rw[hs]at h;cases h
       | some r=>obtain⟨s₂,t₂⟩:=r;rw[hs]at h;dsimp only;rw[stepT_spec hs];exact jK h
noncomputable def btOf(l:List Obj):BT:=(l.foldl (fun x o=>(x.1.ins x.2 o,x.2+1)) (BT.nil,0)).1
def bt0(P:Xe):BT:=btOf (boot_heap P).objs.toList
theorem Fo(P:Xe):absHeap (bt0 P) (boot_heap P).objs.size (boot_heap P).life=boot_heap P:=by kernel_rfl
def lK(p:Rz)(w:RT)(N:Nat)(os:OsState):Option Shared :=
 match(boot_heap w.params).isNs Sh with
 | true=>(pN p w (boot_heap w.params).objs.size ((boot_heap w.params).nsMap Sh "__annotations__") N ⟨bt0 w.params,(boot_heap w.params).objs.size,(boot_heap w.params).life,Xg [],boot_drawn,boot_toks,os⟩ (topStub p)).bind fun s=>match staticsOk (importedModules p.main.body) (boot_heap w.params) s.abs.heap&&namesBound p s.abs.heap&&gensDone s.abs&&laidKept (boot_heap w.params) s.abs.heap with
  | true=>some s.abs
  | false=>none
 | false=>none
theorem qw{p:Rz}{w:RT}{N:Nat}{os:OsState}{s:Shared}(h:lK p w N os=some s):topFrom Xj p w N ⟨boot_heap w.params,Xg [],boot_drawn,boot_toks,os⟩=some s:=by
 unfold lK at h;unfold topFrom
 cases e:(boot_heap w.params).isNs Sh with
 | false=>rw[e]at h;cases h
 | true=>
   rw[e]at h;dsimp only;obtain⟨s₁,h1,h2⟩:=Option.bind_eq_some_iff.mp h;have:=jK h1;unfold SharedT.abs at this;dsimp only at this;rw[Fo]at this;rw[show(true&&(Xg []:Array Xf).size==0)=true from rfl];dsimp only;rw[this];exact h2
theorem HS{p q:Rz}{loose:List Str}{Xt:Shared->Bool}{α:Type}{Yf:Shared->α}{Ya:RT->α}{N:Nat}(e:opening p=plainProg p.main.scope.names)(hN:Nat.ble 600 N=true)(f:∀s,fenceModules? p s=some s)
 (h:∀(w:RT) (os:OsState),(lK p w N os).map (fun s=>(Fast.tw4187177175401517315 q loose (importedModules p.main.body) Xt true s,Yf s))=some (openGood q loose,Ya w)):LeftO p q loose Xt Yf Ya N:=fun w=>by
 obtain⟨s,hs,hv⟩:=T7.mp (boot_open e hN f w);unfold openEnds;rw[hs];obtain⟨hh,gs,d,k,os⟩:=s;simp only[Vs]at hv;obtain⟨rfl,rfl,rfl,rfl⟩:=hv;obtain⟨s1,h1,h2⟩:=T7.mp (h w os);rw[<-Fast.te4187177175401517315]at h2;rw[show(some (⟨boot_heap w.params,Xg [],boot_drawn,boot_toks,os⟩:Shared)).bind (topFrom Xj p w N)=some s1 from qw h1];exact congrArg some h2
end PySem.W
namespace Z
open PySem PySem.Spec PyProof.Rows L2
def yd:Bool:=false
def yq:Bool:=true
def vX:Bool:=true
def uY:Bool:=false
def xx:Bool:=true
def yu:Bool:=true
def Ep:Bool:=true
def Cv:Bool:=false
def uI:Bool:=false
def vg:Bool:=true
def mL:Bool:=true
def Ek:Bool:=true
def Ei:Bool:=false
def Dh:Bool:=false
def yS:Bool:=true
def rW:Bool:=false
def uZ:Bool:=true
def lZ:Bool:=true
section
variable{X:Cx}{W:Wd}{lk:Bool}{o:Orc}{p px cpos pos kp apos tpos:Pos}{a b c tg:Expr}
theorem Ma(hft:yd=true)(hc:X.calm=true)(hg:Gl X "max")(hm:X.mg "max"=none)(ha:PE X a (tD X W true fun δ=>ev o δ true ta))(hb:PE X b (tD X W true fun δ=>ev o δ true tb))(hst1:az a=false)(hst2:az b=false) :
 PE X (.Call (.Name "max" p) [a,b] [] cpos) (tD X W lk fun δ=>ev o δ lk (.b2 .max ta tb)):=absurd hft (by decide)
theorem MF(hft:yq=true)(hc:X.calm=true)(hg:Gl X "min")(hm:X.mg "min"=none)(ha:PE X a (tD X W true fun δ=>ev o δ true ta))(hb:PE X b (tD X W true fun δ=>ev o δ true tb))(hst1:az a=false)(hst2:az b=false) :
 PE X (.Call (.Name "min" p) [a,b] [] cpos) (tD X W lk fun δ=>ev o δ lk (.b2 .min ta tb)):=MJ hc hg hm ha hb hst1 hst2
theorem KN(hft:vX=true)(hgl:Gl X "range")(hm:X.mg "range"=none)(h1:PE X e1 (tD X W true fun δ=>ev o δ true t1))(h2:PE X e2 (tD X W true fun δ=>ev o δ true t2))(hst1:az e1=false)(hst2:az e2=false) :
 ∃wi,PI X tg (.Call (.Name "range" p) [e1,e2] [] cpos) wi/\WalkL X W o lk (.rng2 t1 t2) wi:=Ms hgl hm h1 h2 hst1 hst2
theorem JC(hft:uY=true)(hu:X.A.units+1<Wm)(ha:PE X a (tD X W true fun δ=>ev o δ true ta))(hb:PE X b (tD X W true fun δ=>ev o δ true tb))(hc:PE X c (tD X W false fun δ=>ev o δ false tc))(m:M2 X a "get" apos b c cpos) :
 PE X (.Call (.Attribute a "get" apos) [b,c] [] cpos) (tD X W lk fun δ=>ev o δ lk (.get2 ta tb tc)):=absurd hft (by decide)
theorem f_list(hft:uI=true)(hk:W.K=X.K)(hc:X.calm=true):∃r,CallR X (.type "list") r/\Sem1 W r (b1D .list):=absurd hft (by decide)
theorem Nk(hft:vg=true)(hk:W.K=X.K)(hc:X.calm=true):∃r,CallR X (.type "dict") r/\Sem1 W r (b1D .dict):=⟨_,qx,xO⟩
theorem Q3(hft:Ek=true)(hk:W.K=X.K)(hc:X.calm=true):∃r,CallR X (.builtin "all") r/\Sem1 W r (b1D .all):=⟨_,wU hc,Iw hk⟩
theorem Qe(hft:Ep=true)(hk:W.K=X.K)(hc:X.calm=true):∃r,CallR X (.builtin "any") r/\Sem1 W r (b1D .any):=⟨_,yf hc,GC hk⟩
theorem R0(hft:Cv=true)(hk:W.K=X.K)(hc:X.calm=true):∃r,CallR X (.builtin "sum") r/\Sem1 W r (b1D .sum):=absurd hft (by decide)
theorem Qo(hft:Ei=true)(hk:W.K=X.K)(hc:X.calm=true):∃r,CallR X (.type "str") r/\Sem1 W r (b1D .str):=absurd hft (by decide)
theorem f_int(hft:Dh=true)(hk:W.K=X.K)(hc:X.calm=true):∃r,CallR X (.type "int") r/\Sem1 W r (b1D .int):=absurd hft (by decide)
theorem KJ(hft:yS=true)(hk:W.K=X.K)(hc:X.calm=true):∃r,CallR X (.builtin "max") r/\Sem1 W r (b1D .max):=⟨_,yF hc,zW hk⟩
theorem zr(hft:mL=true)(hk:W.K=X.K)(hc:X.calm=true):∃r,CallR X (.builtin "sorted") r/\Sem1 W r (b1D .sorted):=⟨_,oR hc,ug hk⟩
theorem O8(hft:xx=true)(hk:W.K=X.K)(ha:PE X a (tD X W true fun δ=>ev o δ true ta))(hb:PE X b (tD X W true fun δ=>ev o δ true tb))(h2:plainBase a=true)(hst:az b=false)(h1:(apos.endLine==cpos.line)=true):PE X (.Call (.Attribute a "join" apos) [b] [] cpos) (tD X W lk fun δ=>ev o δ lk (.m1 .join ta tb)):=by
 have q:=HD (lk:=lk) PySem.F.plainAttrs_str PySem.F.slot_str_join PySem.F.type_str_join Gh (zO hk) uy wK ha hb h2 hst h1
 have e:(fun δ=>ev o δ lk (.m1 .join ta tb))=fun δ=>(ev o δ true ta).bind fun x=>(ev o δ true tb).bind fun y=>m1D .join x.2 y.2:=funext fun δ=>by simp only[ev]
 rw[e];exact q
theorem Jl(hft:rW=true)(ha:PE X a (tD X W true fun δ=>ev o δ true ta))(hb:PE X b (tD X W true fun δ=>ev o δ true tb))(h2:plainBase a=true)(hst:az b=false)(h1:(apos.endLine==cpos.line)=true):PE X (.Call (.Attribute a "startswith" apos) [b] [] cpos) (tD X W lk fun δ=>ev o δ lk (.m1 .startswith ta tb)):=absurd hft (by decide)
theorem Kg(hft:uZ=true)(hk:W.K=X.K)(hc:X.calm=true)(hg:Gl X "sorted")(hm:X.mg "sorted"=none)(hg2:Gl X "set")(hm2:X.mg "set"=none)(ha:PE X a (tD X W true fun δ=>ev o δ true ta))(hst:az a=false):PE X (.Call (.Name "sorted" p) [.Call (.Name "set" px) [a] [] pos] [] cpos) (tD X W lk fun δ=>(ev o δ true ta).bind fun x=>b1D .sortedSet x.2):=Oa hk hc hg hm hg2 hm2 ha hst
theorem zN(hft:lZ=true)(hv:PE X (.Name x p) (tVar i))(he:PE X e (tD X W false fun δ=>ev o δ false te))(hst:az e=false)(hline:(apos.endLine==cpos.line)=true):PS X (.Expr (.Call (.Attribute (.Name x p) "extend" apos) [e] [] cpos) pos) (tS X W (evS o (.extend i te))):=vW hv he hst hline
end
end Z
namespace Z
open PySem PySem.Spec PyProof.Rows L2
inductive Gk where
 | fn (i np:Nat)
 | cls (c:Nat)
 | ocl (c:Nat)
 | val (d:D)
 | dct (ks:List DK) (vs:List D)
 | mark (l:List Nat)
 | dfl (x:Str) (v:Int)          -- "!d": the last parameter of x is v where it is left out
 | names (l:List (List Nat))      -- "!f": attributes,"!m": methods
structure Tc where
 N:List Str
 sc:Scope
 gl:List (Str×Gk)
noncomputable def b8:List Str->Str->Option Nat
 | [],_=>none
 | y::l,x=>if y=x then some 0 else(b8 l x).map (·+1)
theorem aW:∀{N:List Str} {x:Str} {i:Nat},b8 N x=some i->N[i]?=some x
 | [],_,_,h=>by simp[b8]at h
 | y::l,x,i,h=>by
   simp only[b8]at h;split at h
   ·rename_i e
    cases h;simp[e]
   ·cases e:b8 l x with
    | none=>rw[e]at h;cases h
    | some j=>
      rw[e]at h;cases h;simpa using aW e
noncomputable def ixs(N:List Str):List Str->Option (List Nat)
 | []=>some []
 | x::l=>(b8 N x).bind fun i=>(ixs N l).map fun r=>i::r
theorem yU:∀{l:List Str} {r:List Nat} {j k:Nat},ixs N l=some r->r[j]?=some k->∃x,l[j]?=some x/\N[k]?=some x
 | [],r,j,k,h,e=>by
   simp only[ixs,Rf]at h;subst h;simp at e
 | x::l,r,j,k,h,e=>by
   simp only[ixs]at h
   cases e1:b8 N x with
   | none=>rw[e1]at h;cases h
   | some i=>
     cases e2:ixs N l with
     | none=>simp[e1,e2]at h
     | some r'=>
       simp[e1,e2]at h;subst h
       cases j with
       | zero=>simp at e;subst e;exact⟨x,rfl,aW e1⟩
       | succ j=>
         obtain⟨y,h1,h2⟩:=yU e2 (by simpa using e);exact⟨y,by simpa using h1,h2⟩
theorem w6:∀{l:List Str} {r:List Nat},ixs N l=some r->r.length=l.length
 | [],r,h=>by simp only[ixs,Rf]at h;subst h;rfl
 | x::l,r,h=>by
   simp only[ixs]at h
   cases e1:b8 N x with
   | none=>rw[e1]at h;cases h
   | some i=>
     cases e2:ixs N l with
     | none=>simp[e1,e2]at h
     | some r'=>simp[e1,e2]at h;subst h;simp[w6 e2]
noncomputable def visB(sc:Scope)(x:Str):Bool:=(match sc.names.lookup x with | some .local=>true | some .cell=>true | some .free=>true | _=>false)&&!(x==("__debug__":Str))&&!(x==("__classdict__":Str))
noncomputable def locB(sc:Scope)(x:Str):Bool:=match sc.names.lookup x with | some .local=>true | some .cell=>true | _=>false
noncomputable def glB(sc:Scope)(x:Str):Bool:=decide (sc.names.lookup x=some .globalImplicit)
noncomputable def trOp:Operator->Option O2
 | .Add=>some .add
 | .Sub=>some .sub
 | .Mult=>some .mul
 | .FloorDiv=>some .fdiv
 | .Mod=>some .mod
 | .Pow=>some .pow
 | _=>none
def Ae:CmpOp->Option O2
 | .Eq=>some .eq
 | .NotEq=>some .ne
 | .Lt=>some .lt
 | .LtE=>none
 | .Gt=>some .gt
 | .GtE=>some .ge
 | .Is=>none
 | .IsNot=>none
 | .In=>some .in
 | .NotIn=>some .notin
noncomputable def bM:Const->Option D
 | .none=>some .non
 | .bool b=>some (.bl b)
 | .int i=>some (.int i)
 | .str s=>if s.length<=1000000 then some (.str s.cps.toList)else none
 | _=>none
noncomputable def trTy(x:Str):Option Ty :=
 if x="int" then some .int else if x="bool" then some .bool else if x="str" then some .str else if x="tuple" then some .tup else if x="list" then some .lst else if x="dict" then some .dct else none
noncomputable def trL(f:Expr->Option T):List Expr->Option TL
 | []=>some .nil
 | e::es=>(f e).bind fun t=>(trL f es).map fun l=>.cons t l
noncomputable def trB(f:Expr->Option T)(k:T->T->T):List Expr->Option T
 | []=>none
 | [e]=>f e
 | e::es=>(f e).bind fun t=>(trB f k es).map fun u=>k t u
noncomputable def pM(f:Expr->Option T):Option Expr->Option T
 | none=>some (.cst .non)
 | some e=>(f e).bind fun t=>match t with
   | .cst .non=>none
   | t=>some t
noncomputable def isSlice:Expr->Bool
 | .Slice _ _ _ _=>true
 | _=>false
noncomputable def isSet:Expr->Bool
 | .Set ..=>true
 | _=>false
noncomputable def fn1(x:Str):Option B1 :=
 if x="abs" then some .abs else if x="len" then some .len else if x="tuple" then some .tuple else if x="list"/\uI=true then some .list else if x="dict"/\vg=true then some .dict else
 if x="all"/\Ek=true then some .all else if x="any"/\Ep=true then some .any else if x="sum"/\Cv=true then some .sum else if x="sorted"/\mL=true then some .sorted else if x="str"/\Ei=true then some .str else if x="int"/\Dh=true then some .int  else none
noncomputable def fn1x(x:Str):Option B1:=match fn1 x with
 | some b=>some b
 | none=>if x="max"/\yS=true then some .max else none
noncomputable def trSS(tc:Tc)(f:Expr->Option T)(x:Str)(a:Expr):Option T:=match a with
 | .Call (.Name y _) [b] [] _=>if x="sorted"/\uZ=true/\y="set"/\glB tc.sc "set"=true/\(tc.gl.lookup ("set":Str)).isNone=true/\az b=false then(f b).map fun t=>.b1 .sortedSet t else none
 | _=>none
def xV(tc:Tc)(f:Expr->Option T)(x:Str)(args:List Expr):Option T :=
 if glB tc.sc x&&!(x==("__debug__":Str))&&!(args.any az)then(match tc.gl.lookup x with
  | some (.fn i np)=>if args.length=np/\args≠[]then(trL f args).map fun l=>.call i l else if args.length+1=np/\args≠[]then(match tc.gl.lookup ("!d":Str)with
    | some (.dfl y v)=>if y=x then(trL f args).map fun l=>.call i (uv l (.cst (.int v)))else none
    | _=>none)else none
  | some (.ocl c)=>if args≠[]then(trL f args).map fun l=>.mk c l else none
  | some _=>none
  | none=>match args with
    | [a]=>(match trSS tc f x a with
      | some t=>some t
      | none=>(fn1x x).bind fun b=>(f a).map fun t=>.b1 b t)
    | [a,b]=>if x="max"/\yd=true then(f a).bind fun t=>(f b).map fun u=>.b2 .max t u else if x="min"/\yq=true then(f a).bind fun t=>(f b).map fun u=>.b2 .min t u else(match b with
      | .Name y _=>if x="isinstance"/\glB tc.sc y=true/\(tc.gl.lookup y).isNone=true then(if y="ValueError" then none else(f a).bind fun t=>(trTy y).map fun ty=>.isin t ty)else
        if x="isinstance"/\glB tc.sc y=true/\(y==("__debug__":Str))=false then(match tc.gl.lookup y with
        | some (.ocl c)=>(f a).map fun t=>.isin t (.ocl c)
        | _=>none)else none
      | _=>none)
    | _=>none)else none
noncomputable def yx(tc:Tc)(f:Expr->Option T)(x:Str)(a b:Expr):Option T:=none
def Gs(tc:Tc)(e:Expr):Option (List DK×List D):=none
def zB(tc:Tc)(f:Expr->Option T)(op:CmpOp)(a b:Expr):Option T:=none
noncomputable def trCs:List Expr->Option (List D)
 | []=>some []
 | .Constant c _ _::l=>(bM c).bind fun d=>(trCs l).map fun r=>d::r
 | _=>none
noncomputable def trKs:List (Option Expr)->Option (List DK)
 | []=>some []
 | some (.Constant c _ _)::l=>(bM c).bind fun d=>(keyOf d).bind fun k=>(trKs l).map fun r=>k::r
 | _=>none
noncomputable def cstL:List D->TL
 | []=>.nil
 | d::l=>.cons (.cst d) (cstL l)
def BZ(ks:List (Option Expr))(vs:List Expr):Option T:=(trKs ks).bind fun k=>(trCs vs).bind fun d=>if k.length=d.length/\k.length<=15/\k≠[]/\k.Nodup then some (.dnew k (cstL d))else none
def nZ:Expr->Bool
 | .Tuple ..=>true
 | _=>false
def wR(f:Expr->Option T)(a:Expr)(name:Str)(args:List Expr)(ok:Bool):Option T :=
 if ok&&plainBase a&&!(args.any az)then(match args with
  | [b]=>if name="join"/\xx=true then(f a).bind fun ta=>(f b).map fun tb=>.m1 .join ta tb else
    if name="startswith"/\rW=true then(f a).bind fun ta=>(f b).map fun tb=>.m1 .startswith ta tb else none
  | [b,c]=>if name="get"/\uY=true then(f a).bind fun ta=>(f b).bind fun tb=>(f c).map fun tc=>.get2 ta tb tc else none
  | _=>none)else none
noncomputable def namesOf(tc:Tc)(k:Str):List (List Nat):=match tc.gl.lookup k with
 | some (.names l)=>l
 | _=>[]
def ur(f:Expr->Option T)(a:Expr)(name:Str)(args:List Expr)(ok:Bool):Option T :=
 if ok&&plainBase a&&!(args.any az)&&decide (args.length<20)then(f a).bind fun t=>(trL f args).map fun l=>.meth name.cps.toList t l else none
noncomputable def trI(tc:Tc)(f:Expr->Option T)(tp:Bool)(e:Expr):Option TI:=match e with
 | .Call (.Name x _) [a] [] _=>if x="range" then(if glB tc.sc "range"&&(tc.gl.lookup ("range":Str)).isNone&&!az a then(f a).map .rng1 else none)else
   if x="enumerate" then none else(f e).map .val
 | .Call (.Name x _) [a,b] [] _=>if x="range" then(if vX&&glB tc.sc "range"&&(tc.gl.lookup ("range":Str)).isNone&&!az a&&!az b then(f a).bind fun ta=>(f b).map fun tb=>.rng2 ta tb else none)else
   if x="zip" then none else(f e).map .val
 | .Call (.Name x _) [a,b,c] [] _=>if x="range" then none else(f e).map .val
 | e=>if isSet e then none else(f e).map .val
def jn:List Expr->Option (List Str)
 | []=>some []
 | .Name x _::es=>(jn es).map fun l=>x::l
 | _=>none
def qG:Expr->Option (List Str×Bool)
 | .Name x _=>some ([x],false)
 | .Tuple es _ _=>(jn es).map fun l=>(l,true)
 | _=>none
noncomputable def frees(scope:Scope):List Str:=(scope.names.filter fun y=>y.2==.free).map (·.1)
def fQ(scope sc:Scope):Scope:={ scope with names:=scope.names.map fun(n,k)=>if(k==.free&&sc.kind==.function&&sc.names.lookup n==some .cell)then(n,.cell)else(n,k) }
noncomputable def blkB(scope:Scope):Bool:=decide (scope.kind=.function)&&scope.names.all fun y=>!(y.2==.cell)&&(!(y.2==.local)||decide (scope.names.lookup y.1=some .local))&&(!(y.2==.free)||decide (scope.names.lookup y.1=some .free))
def La(tc:Tc)(scope:Scope)(tn cn:List Str):Bool:=blkB scope&&decide (tn++cn).Nodup&&(tn.all fun x=>decide (scope.names.lookup x=some .local)) &&
 cn.all fun x=>decide (tc.sc.names.lookup x=some .cell)||decide (tc.sc.names.lookup x=some .free)
def uR(f:Expr->Option T):List Expr->Option T
 | []=>some (.cst (.bl true))
 | [c]=>f c
 | _=>none
def qR(tc:Tc)(f:Tc->Expr->Option T)(elt tg iter:Expr)(ifs:List Expr)(scope:Scope):Option T :=
 (qG tg).bind fun q=>if La tc scope q.1 (frees scope)then
  (ixs tc.N (frees scope)).bind fun caps=>(trI tc (f tc) (nZ tg) iter).bind fun it=>(uR (f ⟨q.1++frees scope,fQ scope tc.sc,tc.gl⟩) ifs).bind fun c=>
   (f ⟨q.1++frees scope,fQ scope tc.sc,tc.gl⟩ elt).map fun e=>.comp caps q.1.length q.2 it c e else none
noncomputable def trJ(f:Expr->Option T)(vs:List Expr):Option T:=match vs with
 | [.FormattedValue a cv none _,.Constant (.str s) _ _]=>if cv=-1/\s.length<=1000 then(f a).map fun t=>.fstr (.cons t (.cons (.cst (.str s.cps.toList)) .nil))else none
 | _=>none
noncomputable def trEb(f:Tc->Expr->Option T)(tc:Tc)(e:Expr):Option T:=match e with
 | .Name x _=>if visB tc.sc x then(b8 tc.N x).map .var else if glB tc.sc x&&!(x==("__debug__":Str))then(match tc.gl.lookup x with | some (.val d)=>some (.cst d) | _=>none)else none
 | .IfExp c a b _=>none
 | .Constant c _ _=>(bM c).map .cst
 | .BinOp a op b _=>(trOp op).bind fun p=>(f tc a).bind fun ta=>(f tc b).map fun tb=>.op2 p ta tb
 | .UnaryOp .Not a _=>(f tc a).map .not
 | .UnaryOp .USub a _=>(f tc a).map .neg
 | .Compare a [op] [b] _=>if U9 op b then none else(match zB tc (f tc) op a b with
   | some t=>some t
   | none=>(Ae op).bind fun p=>(f tc a).bind fun ta=>(f tc b).map fun tb=>.op2 p ta tb)
 | .BoolOp .And vs _=>trB (f tc) .and vs
 | .BoolOp .Or vs _=>trB (f tc) .or vs
 | .Tuple es _ _=>if es.any az then none else(trL (f tc) es).map .tup
 | .List es _=>if es.any az then none else(trL (f tc) es).map .lst
 | .Dict [] [] _=>some (.dnew [] .nil)
 | .Dict (k0::ks) vs _=>if yu then BZ (k0::ks) vs else none
 | .Subscript a (.Slice lo hi none _) _=>(f tc a).bind fun t=>(pM (f tc) lo).bind fun l=>(pM (f tc) hi).map fun h=>.slc t l h
 | .Subscript a b _=>if isSlice b then none else(match Gs tc a with
   | some q=>(f tc b).map fun i=>.kidx q.1 q.2 i
   | none=>(f tc a).bind fun t=>(f tc b).map fun i=>.idx t i)
 | .Call (.Name x _) args [] _=>xV tc (f tc) x args
 | .Call (.Name x _) [a] [⟨some kw,b,_⟩] _=>if kw="default" then yx tc (f tc) x a b else none
 | .Call (.Attribute a name apos) args [] cpos=>if(namesOf tc "!m").contains name.cps.toList then ur (f tc) a name args (apos.endLine==cpos.line)else wR (f tc) a name args (apos.endLine==cpos.line)
 | .Attribute a name _=>if(namesOf tc "!f").contains name.cps.toList&&plainBase a then(f tc a).map fun t=>.fld t name.cps.toList else none
 | .JoinedStr vs _=>trJ (f tc) vs
 | .ListComp elt [g] scope _=>if g.is_async=0 then qR tc f elt g.target g.iter g.ifs scope else none
 | _=>none
noncomputable def trE:Nat->Tc->Expr->Option T
 | 0,_,_=>none
 | k+1,tc,e=>trEb (fun tc' e'=>trE k tc' e') tc e
theorem aZ:trE (k+1) tc e=trEb (trE k) tc e:=rfl
theorem Cj:trE (k+1) tc (.ListComp elt [g] scope pos)=if g.is_async=0 then qR tc (fun tc' e=>trE k tc' e) elt g.target g.iter g.ifs scope else none:=rfl
theorem zm:trE (k+1) tc (.Name x pos)=if visB tc.sc x then(b8 tc.N x).map .var else if glB tc.sc x&&!(x==("__debug__":Str))then(match tc.gl.lookup x with | some (.val d)=>some (.cst d) | _=>none)else none:=rfl
noncomputable def bltNames:List Str:=["abs","len","isinstance","int","bool","str","tuple","list","dict","all","any","sorted","range","max","zip","enumerate","sum","min","ValueError","set"]
noncomputable def clOf(gl:List (Str×Gk))(x:Str):Option Nat:=match gl.lookup x with
 | some (.cls c)=>some c
 | _=>none
def iy(gl:List (Str×Gk))(x:Str):Option Nat:=match gl.lookup x with
 | some (.ocl c)=>some c
 | _=>none
structure ObjFacts(P:Rz)(w:RT)(K:Ra)(mg:Str->Option Value)(base:Rk)(W:Wd)(gl:List (Str×Gk))(o:Orc)(k:Nat):Prop where
 nm:∀x c,iy gl x=some c->mg x=some (.ref (W.CT c))
 is:∀x c',iy gl x=some c'->∀c,o.sub c c'=true->Uy K (.ref (W.CT c)) (W.CT c')=true
 fld:∀fl f,gl.lookup ("!f":Str)=some (.names fl)->f∈fl->∀c,(o.init c).isSome=true->Cls K (W.CT c)/\NoAttr K (W.CT c) (strV f)
 ini:∀c f,o.init c=some f->∃fa fd ps np,Mk K (W.CT c) fa/\ClsFn K (W.CT c) "__init__" fa/\Binds K fd ps []/\(∀s a d,o.ini f s a=.ok d->a.length+1=np)/\((∀s a,o.ini f s a=.stuck)\/∃j,j+1<=k/\FnOk P w K mg base CX0 j fa fd ps (spI W (o.ini f) np))
 mt:∀c m f,o.meth c m=some f->∃np fa fd ps,Cls K (W.CT c)/\Meth K (W.CT c) (strV m) fa/\Binds K fd ps []/\(∀ds r,o.fn f ds=.ok r->ds.length=np)/\FnOk P w K mg base CX0 k fa fd ps (spFn W (o.fn f) np)
structure Fits(X:Cx)(W:Wd)(tc:Tc)(o:Orc)(k:Nat):Prop where
 N:X.N=tc.N
 nd:tc.N.Nodup
 sc:X.env.scope=tc.sc
 K:W.K=X.K
 room:Room k X.A
 calm:X.calm=true
 gf:∀x i np,tc.gl.lookup x=some (.fn i np)->∃f fd ps,X.mg x=some (.ref f)/\RL X.K (.ref f)=true/\Binds X.K fd ps []/\FnOk X.prog X.w X.K X.mg X.base CX0 k f fd ps (spFn W (o.fn i) np)
 gb:∀x,x∈bltNames->tc.gl.lookup x=none->X.mg x=none
 gv:∀x d,tc.gl.lookup x=some (.val d)->∃u v,X.mg x=some u/\RelV v u/\∀G,Rep W G d v
 gd:∀x ks vs,tc.gl.lookup x=some (.dct ks vs)->∃ad,X.mg x=some (.ref ad)/\KDct X.prog X.w W ad ks vs
 xf:XFacts X.K X.mg W o.sub (clOf tc.gl)
 gdf:∀x v i np,tc.gl.lookup ("!d":Str)=some (.dfl x v)->tc.gl.lookup x=some (.fn i np)->∃f fd ps vs,X.mg x=some (.ref f)/\RL X.K (.ref f)=true/\Binds X.K fd ps vs/\Vals [.int v] vs/\FnOk X.prog X.w X.K X.mg X.base CX0 k f fd ps (spFn W (o.fn i) np)
 ob:ObjFacts X.prog X.w X.K X.mg X.base W tc.gl o k
theorem Fits.comp{X:Cx}{W:Wd}{tc:Tc}{o:Orc}{k:Nat}(F:Fits X W tc o k){scope:Scope}{N:List Str}(hN:N.Nodup)(fp:List Addr)(pins:List (Addr×Obj))(s:Shared)(H:Hp):Fits (cxC X scope N fp pins s H) W ⟨N,fQ scope tc.sc,tc.gl⟩ o k where
 N:=rfl
 nd:=hN
 sc:=by
  show WY scope X.env=_;rw[<-F.sc]
  rfl
 K:=F.K
 room:=F.room
 calm:=F.calm
 gf:=F.gf
 gb:=F.gb
 gv:=F.gv
 gd:=F.gd
 xf:=F.xf
 gdf:=F.gdf
 ob:=F.ob
theorem jZ:∀{es:List Expr} {l:TL},trL f es=some l->∀δ r,evL o δ l=.ok r->r.2.length=es.length
 | [],l,h,δ,r,e=>by
   simp only[trL,Rf]at h;subst h;simp only[evL]at e;cases e;rfl
 | x::es,l,h,δ,r,e=>by
   simp only[trL]at h
   cases e1:f x with
   | none=>rw[e1]at h;cases h
   | some t=>
     rw[e1]at h
     cases e2:trL f es with
     | none=>simp[e2]at h
     | some l'=>
       simp[e2]at h;subst h;simp only[evL]at e
       cases e3:ev o δ (aM δ t) t with
       | ok y=>
         rw[e3]at e
         cases e4:evL o δ l' with
         | ok z=>
           simp only[e4,XS]at e;cases e;simp[jZ e2 δ z e4]
         | exc c=>simp only[e4,XS]at e;cases e
         | stuck=>simp only[e4,XS]at e;cases e
       | exc c=>rw[e3]at e;cases e
       | stuck=>rw[e3]at e;cases e
theorem bZ(h:es.any az=false):(SN pos (Rj es env)).any (·.1)=false:=by
 induction es with
 | nil=>rfl
 | cons e es ih=>
   simp only[S6,Bool.or_eq_false_iff]at h;rw[bI h.1];show(false||(SN pos (Rj es env)).any (·.1))=false;rw[ih h.2];rfl
section
variable{X:Cx}{W:Wd}{tc:Tc}{o:Orc}{k:Nat}
theorem fW(h:PE X e (tD X W lk f))(hf:∀δ,f δ=ev o δ lk t):PE X e (tD X W lk fun δ=>ev o δ lk t):=by
 have:f=fun δ=>ev o δ lk t:=funext hf
 rw[<-this];exact h
theorem Ai(h:PT X e (tT X W f))(hf:∀δ,f δ=ev o δ true t):PT X e (tT X W fun δ=>ev o δ true t):=by
 have:f=fun δ=>ev o δ true t:=funext hf
 rw[<-this];exact h
theorem dW(F:Fits X W tc o k)(h:visB tc.sc x=true):Vis X.env.scope x/\(x==("__debug__":Str))=false/\(x==("__classdict__":Str))=false:=by
 unfold visB at h;simp only[Bool.and_eq_true,Bool.not_eq_true']at h;refine⟨?_,h.1.2,h.2⟩;rw[F.sc];unfold Vis;have h1:=h.1.1;split at h1
 ·rename_i e;exact .inl e
 ·rename_i e;exact .inr (.inl e)
 ·rename_i e;exact .inr (.inr e)
 ·cases h1
theorem cL(hf:∀e t,f e=some t->∀lk,PE X e (tD X W lk fun δ=>ev o δ lk t)):∀{es:List Expr} {l:TL},trL f es=some l->es.any az=false->PA X es (tL X W fun δ=>evL o δ l)
 | [],l,h,_=>by
   simp only[trL,Rf]at h;subst h;exact Ml o
 | x::es,l,h,hs=>by
   simp only[trL]at h;simp only[S6,Bool.or_eq_false_iff]at hs
   cases e1:f x with
   | none=>rw[e1]at h;cases h
   | some t=>
     rw[e1]at h
     cases e2:trL f es with
     | none=>simp[e2]at h
     | some l'=>
       simp[e2]at h;subst h;exact Fe (hf x t e1) (cL hf e2 hs.2) (bI hs.1)
def Bl(x:R (Bool×D)):Prop:=∀r,x=.ok r->∃b,r=(false,.bl b)
theorem Fi:Bl (.ok (false,.bl b)):=fun _ h=>by cases h;exact⟨_,rfl⟩
theorem yN:Bl .stuck:=fun _ h=>nomatch h
theorem MP{x:Option Bool}{f:Bool->Bool}:Bl (.of (x.map fun t=>(false,.bl (f t)))):=by cases x<;>first | exact yN | exact Fi
theorem uJ{p:O2}(hp:p=.eq\/p=.ne\/p=.lt\/p=.le\/p=.gt\/p=.ge\/p=.is\/p=.isnot):∀x y r,o2 p x y=.ok r->∃b,r=(false,.bl b):=by
 intro x y;show Bl (o2 p x y);rcases hp with rfl | rfl | rfl | rfl | rfl | rfl | rfl | rfl
 ·exact MP (f:=id)
 ·exact MP (f:=not)
 iterate 4
  ·cases x<;>first | exact yN | (cases y<;>first | exact yN | exact Fi)
 iterate 2
  ·cases y<;>first | exact yN | (cases x<;>first | exact Fi | exact yN)
theorem K6(F:Fits X W tc o k)(h:trOp op=some p)(ha:PE X a (tD X W true fun δ=>ev o δ true ta))(hb:PE X b (tD X W true fun δ=>ev o δ true tb))(lk:Bool) :
 PE X (.BinOp a op b pos) (tD X W lk fun δ=>ev o δ lk (.op2 p ta tb)):=by
 have fin:∀{r:R2},OpR X (Vm op) r->Sem2 W r (o2 p)->PE X (.BinOp a op b pos) (tD X W lk fun δ=>ev o δ lk (.op2 p ta tb)):=fun h1 h2=>fW (P0 h1 h2 (lA p) ha hb) fun δ=>by simp only[ev]
 cases op<;>simp[trOp]at h<;>subst h
 ·exact fin vL (Gn F.K)
 ·exact fin JM Fq
 ·exact fin Je Jb
 ·exact fin J1 Gz
 ·exact fin Kq Jc
 ·exact fin Bg Ao
theorem Ny(F:Fits X W tc o k)(h:Ae op=some p)(hm:U9 op b=false)(ha:PE X a (tD X W true fun δ=>ev o δ true ta))(hb:PE X b (tD X W true fun δ=>ev o δ true tb)) :
 (∀lk,PE X (.Compare a [op] [b] pos) (tD X W lk fun δ=>ev o δ lk (.op2 p ta tb)))/\PT X (.Compare a [op] [b] pos) (tT X W fun δ=>ev o δ true (.op2 p ta tb)):=by
 have fin:∀{r:R2},OpR X (TX op) r->Sem2 W r (o2 p)->(∀x y r,o2 p x y=.ok r->∃b,r=(false,.bl b)) ->
  (∀lk,PE X (.Compare a [op] [b] pos) (tD X W lk fun δ=>ev o δ lk (.op2 p ta tb)))/\PT X (.Compare a [op] [b] pos) (tT X W fun δ=>ev o δ true (.op2 p ta tb)):=fun h1 h2 h4=>
  ⟨fun lk=>fW (QW h1 h2 (lA p) ha hb hm) fun δ=>by simp only[ev],Ai (JS h1 h2 (lA p) h4 ha hb hm) fun δ=>by simp only[ev]⟩
 cases op<;>simp[Ae]at h<;>subst h
 ·exact fin QT Lj (uJ (by simp))
 ·exact fin Qj JZ (uJ (by simp))
 ·exact fin zQ LR (uJ (by simp))
 ·exact fin Qz Lx (uJ (by simp))
 ·exact fin Pz Kr (uJ (by simp))
 ·obtain⟨h1,h2⟩:=d_in (pos:=pos) F.K (xG F.room) ha hb hm
  exact⟨fun lk=>fW (h1 lk) fun δ=>by simp only[ev],Ai h2 fun δ=>by simp only[ev]⟩
 ·obtain⟨h1,h2⟩:=G8 (pos:=pos) F.K (xG F.room) ha hb hm
  exact⟨fun lk=>fW (h1 lk) fun δ=>by simp only[ev],Ai h2 fun δ=>by simp only[ev]⟩
end
end Z
namespace Z
open PySem PySem.Spec PyProof.Rows L2
section
variable{X:Cx}{W:Wd}{o:Orc}
noncomputable def cV:D->V
 | .bl b=>.bl b
 | .int i=>.int i
 | .str x=>.str (strV x)
 | _=>.non
theorem Km(h:bM c=some d):(∀j q,PE X (.Constant c j q) (tC (cV d)))/\∀G,Rep W G d (cV d):=by
 cases c<;>first | exact nope h | simp only[bM]at h
 ·cases h;exact⟨fun j q=>Cy,fun G=>by simp only[Rep,cV]⟩
 ·cases h;exact⟨fun j q=>Hw,fun G=>by simp only[Rep,cV]⟩
 ·cases h;exact⟨fun j q=>Eb,fun G=>by simp only[Rep,cV]⟩
 ·split at h
  ·rename_i s hl
   cases h
   have e:strV s.cps.toList=s:=by simp[strV]
   refine⟨fun j q=>?_,fun G=>?_⟩
   ·show PE X _ (tC (.str (strV s.cps.toList)))
    rw[e];exact Di
   ·simp only[Rep,cV]
    refine⟨trivial,?_⟩
    have:s.cps.toList.length=s.length:=by simp[Str.length]
    omega
  ·cases h
theorem Kf(h:keyOf d=some k):cV d=kV (keyV k):=by
 cases d<;>first | exact nope h | simp only[keyOf]at h
 all_goals(cases h;rfl)
noncomputable def prKV:List DK->List D->List (Key×V)
 | k::ks,d::ds=>(keyV k,cV d)::prKV ks ds
 | _,_=>[]
theorem sI:∀{ks:List DK} {ds:List D},ks.length=ds.length->(prKV ks ds).map (·.1)=ks.map keyV
 | [],[],_=>rfl
 | k::ks,d::ds,h=>by simp[prKV,sI (by simpa using h:ks.length=ds.length)]
 | [],_::_,h=>by simp at h
 | _::_,[],h=>by simp at h
theorem Cr:∀{ks:List (Option Expr)} {vs:List Expr} {k:List DK} {d:List D},trKs ks=some k->trCs vs=some d->k.length=d.length->PPs X pos ks vs ((prKV k d).map fun q=>(tC (kV q.1),tC q.2))/\ks.all (·.isSome)=true/\ks.length=vs.length/\ks.length=k.length/\∀G,Reps W G d ((prKV k d).map (·.2))
 | [],[],k,d,h1,h2,h3=>by
   simp only[trKs,trCs,Rf]at h1 h2;subst h1 h2;exact⟨Hy,rfl,rfl,rfl,fun G=>by simp only[prKV,RQ,Reps]⟩
 | [],_::_,k,d,h1,h2,h3=>by
   simp only[trKs,Rf]at h1;subst h1;rename_i v vs
   cases v<;>first | exact nope h2 | simp only[trCs]at h2
   rename_i c _ _
   cases e1:bM c with
   | none=>rw[e1]at h2;cases h2
   | some x=>
     cases e2:trCs vs with
     | none=>simp[e1,e2]at h2
     | some r=>simp[e1,e2]at h2;subst h2;simp at h3
 | none::ks,vs,k,d,h1,h2,h3=>by simp[trKs]at h1
 | some e::ks,vs,k,d,h1,h2,h3=>by
   cases e<;>first | exact nope h1 | simp only[trKs]at h1
   rename_i c j q
   cases e1:bM c with
   | none=>rw[e1]at h1;cases h1
   | some x=>
     cases e2:keyOf x with
     | none=>simp[e1,e2]at h1
     | some kx=>
       cases e3:trKs ks with
       | none=>simp[e1,e2,e3]at h1
       | some kr=>
         simp[e1,e2,e3]at h1;subst h1
         cases vs with
         | nil=>
           simp only[trCs,Rf]at h2;subst h2;simp at h3
         | cons v vs=>
           cases v<;>first | exact nope h2 | simp only[trCs]at h2
           rename_i c2 j2 q2
           cases e4:bM c2 with
           | none=>rw[e4]at h2;cases h2
           | some y=>
             cases e5:trCs vs with
             | none=>simp[e4,e5]at h2
             | some dr=>
               simp[e4,e5]at h2;subst h2;obtain⟨i1,i2,i3,i4,i5⟩:=Cr (pos:=pos) e3 e5 (by simpa using h3);have c1:=Km (X:=X) (W:=W) e1;have c2':=Km (X:=X) (W:=W) e4;refine⟨?_,by simp[i2],by simp[i3],by simp[i4],fun G=>?_⟩
               ·simp only[prKV,R8]
                refine z6 ?_ (c2'.1 _ _) i1;rw[<-Kf e2];exact c1.1 _ _
               ·simp only[prKV,R8,Reps]
                exact⟨c2'.2 G,i5 G⟩
theorem xm(δ:Dst):∀d:List D,evL o δ (cstL d)=.ok (false,d)
 | []=>by simp only[cstL,evL]
 | x::d=>by simp[cstL,evL,ev,xm δ d,XS,aM]
theorem qu(h:bM c=some (.str x)):x.length<=16777216:=by
 cases c<;>simp only[bM]at h<;>first | (cases h;done) | skip
 split at h
 ·rename_i s hl
  cases h
  have:s.cps.toList.length=s.length:=by simp[Str.length]
  omega
 ·cases h
theorem rO:∀{ks:List (Option Expr)} {k:List DK},trKs ks=some k->∀x,Yh x∈k->x.length<=16777216
 | [],k,h,x,hx=>by simp only[trKs,Rf]at h;subst h;simp at hx
 | none::_,k,h,x,hx=>by simp[trKs]at h
 | some e::ks,k,h,x,hx=>by
   cases e<;>first | exact nope h | simp only[trKs]at h
   rename_i c j q
   cases e1:bM c with
   | none=>rw[e1]at h;cases h
   | some d=>
     cases e2:keyOf d with
     | none=>simp[e1,e2]at h
     | some kx=>
       cases e3:trKs ks with
       | none=>simp[e1,e2,e3]at h
       | some kr=>
         simp[e1,e2,e3]at h;subst h;rcases Rh.mp hx with hx | hx
         ·subst hx
          cases d<;>simp only[keyOf]at e2<;>first | (cases e2;done) | skip
          cases e2;exact qu e1
         ·exact rO e3 x hx
theorem JX(h:BZ ks vs=some t)(lk:Bool):PE X (.Dict ks vs pos) (tD X W lk fun δ=>ev o δ lk t):=by
 unfold BZ at h
 cases e1:trKs ks with
 | none=>rw[e1]at h;cases h
 | some k=>
   cases e2:trCs vs with
   | none=>simp[e1,e2]at h
   | some d=>
     rw[e1,e2]at h;simp only[Rq]at h;split at h
     ·rename_i hc
      obtain⟨c1,c2,c3,c4⟩:=hc;cases h;obtain⟨i1,i2,i3,i4,i5⟩:=Cr (X:=X) (W:=W) (pos:=pos) e1 e2 c1;have hf:=sI c1
      have hnd:((prKV k d).map (·.1)).Nodup:=by
       rw[hf];exact W4.mpr (c4.imp fun h e=>h (dw e))
      have hln:(prKV k d).length=ks.length:=by
       have:=congrArg T3 hf;simpa[i4]using this
      refine PE.imp (Jg i2 i3 (fun z=>c3 (by rw[z]at i4;exact List.length_eq_zero_iff.mp i4.symm)) (by rw[i4];exact c2) hnd hln i1) fun σ H Q h=>?_
      obtain⟨me,B,δ,S,h⟩:=tD_iff.mp h;simp only[ev,xm,XS]at h;obtain⟨_,h⟩:=cY h;intro p ep hp;exact h _ _ (Same.upd hp) (lW hp hf ⟨c4,rO e1⟩ (i5 _))
     ·cases h
end
end Z
namespace Z
open PySem PySem.Spec PyProof.Rows L2
theorem Pa(hft:yu=true)(h:BZ ks vs=some t)(lk:Bool):PE X (.Dict ks vs pos) (tD X W lk fun δ=>ev o δ lk t):=JX h lk
end Z
namespace Z
open PySem PySem.Spec PyProof.Rows L2
section
variable{X:Cx}{W:Wd}{tc:Tc}{o:Orc}{k:Nat}
def Right(X:Cx)(W:Wd)(o:Orc)(e:Expr)(t:T):Prop:=(∀lk,PE X e (tD X W lk fun δ=>ev o δ lk t))/\PT X e (tT X W fun δ=>ev o δ true t)
theorem Ea(δ:Dst)(lk:Bool)(a b:T):((ev o δ true a).bind fun x=>andD x.2 (ev o δ true b))=ev o δ lk (.and a b):=by
 simp only[ev]
 rfl
theorem jz(δ:Dst)(lk:Bool)(a b:T):((ev o δ true a).bind fun x=>orD x.2 (ev o δ true b))=ev o δ lk (.or a b):=by
 simp only[ev]
 rfl
theorem qU(hf:∀e t,f e=some t->Right X W o e t):∀{vs:List Expr} {t:T},trB f .and vs=some t ->
 (∀lk,PE X (.BoolOp .And vs pos) (tD X W lk fun δ=>ev o δ lk t))/\PW X (.BoolOp .And vs pos) (tT X W fun δ=>ev o δ true t)
 | [],t,h=>by simp[trB]at h
 | [e],t,h=>by
   simp only[trB]at h;exact⟨fun lk=>Ly ((hf e t h).1 lk),DR (hf e t h).2⟩
 | e::e'::es,t,h=>by
   simp only[trB]at h
   cases e1:f e with
   | none=>rw[e1]at h;cases h
   | some u=>
     rw[e1]at h
     cases e2:trB f .and (e'::es)with
     | none=>simp[e2]at h
     | some v=>
       simp[e2]at h;subst h;obtain⟨h1,h2⟩:=qU hf e2
       exact⟨fun lk=>fW (Qt ((hf e u e1).1 true) (h1 true)) fun δ=>Ea δ lk u v,by
        have:=Nh (hf e u e1).2 h2;rw[show(fun δ=>(ev o δ true u).bind fun x=>andD x.2 (ev o δ true v))=fun δ=>ev o δ true (.and u v)from funext fun δ=>Ea δ true u v]at this
        exact this⟩
theorem yj(hf:∀e t,f e=some t->Right X W o e t):∀{vs:List Expr} {t:T},trB f .or vs=some t ->
 (∀lk,PE X (.BoolOp .Or vs pos) (tD X W lk fun δ=>ev o δ lk t))/\PW X (.BoolOp .Or vs pos) (tT X W fun δ=>ev o δ true t)
 | [],t,h=>by simp[trB]at h
 | [e],t,h=>by
   simp only[trB]at h;exact⟨fun lk=>Ly ((hf e t h).1 lk),DR (hf e t h).2⟩
 | e::e'::es,t,h=>by
   simp only[trB]at h
   cases e1:f e with
   | none=>rw[e1]at h;cases h
   | some u=>
     rw[e1]at h
     cases e2:trB f .or (e'::es)with
     | none=>simp[e2]at h
     | some v=>
       simp[e2]at h;subst h;obtain⟨h1,h2⟩:=yj hf e2
       exact⟨fun lk=>fW (d_or ((hf e u e1).1 true) (h1 true)) fun δ=>jz δ lk u v,by
        have:=Qx (hf e u e1).2 h2;rw[show(fun δ=>(ev o δ true u).bind fun x=>orD x.2 (ev o δ true v))=fun δ=>ev o δ true (.or u v)from funext fun δ=>jz δ true u v]at this
        exact this⟩
theorem aP(h:∀lk,PE X e (tD X W lk fun δ=>ev o δ lk t))(he:∀whole,isTrue e X.env whole=(do let v <-whole;V8 e.pos;U7 [v] (truthy v))):Right X W o e t:=⟨h,K4 (h true) he⟩
theorem CV(hf:∀e t,f e=some t->Right X W o e t)(h:pM f e=some t):IsO t e X W o:=by
 cases e with
 | none=>
   simp only[pM,Rf]at h;exact .inl ⟨rfl,h.symm⟩
 | some e=>
   simp only[pM]at h
   cases e1:f e with
   | none=>rw[e1]at h;cases h
   | some u=>
     rw[e1]at h;simp only[Rq]at h;split at h
     ·cases h
     ·rename_i hne
      cases h;exact .inr ⟨e,rfl,fun z=>hne z,(hf e t e1).1⟩
theorem dF(F:Fits X W tc o k)(h:glB tc.sc x=true):Gl X x:=by
 unfold glB at h;have:=of_decide_eq_true h;show X.env.scope.names.lookup x=_;rw[F.sc];exact this
theorem Hm(h:trTy y=some ty):∃T,cH ty=some T/\U8 y=some (.type T)/\y≠"__name__"/\(y==("__debug__":Str))=false/\y∈bltNames:=by
 unfold trTy at h;split at h
 ·rename_i e;cases h;subst e;exact⟨"int",rfl,by kernel_rfl,by decide +kernel,by decide +kernel,by decide +kernel⟩
 ·split at h
  ·rename_i e;cases h;subst e;exact⟨"bool",rfl,by kernel_rfl,by decide +kernel,by decide +kernel,by decide +kernel⟩
  ·split at h
   ·rename_i e;cases h;subst e;exact⟨"str",rfl,by kernel_rfl,by decide +kernel,by decide +kernel,by decide +kernel⟩
   ·split at h
    ·rename_i e;cases h;subst e;exact⟨"tuple",rfl,by kernel_rfl,by decide +kernel,by decide +kernel,by decide +kernel⟩
    ·split at h
     ·rename_i e;cases h;subst e;exact⟨"list",rfl,by kernel_rfl,by decide +kernel,by decide +kernel,by decide +kernel⟩
     ·split at h
      ·rename_i e;cases h;subst e;exact⟨"dict",rfl,by kernel_rfl,by decide +kernel,by decide +kernel,by decide +kernel⟩
      ·cases h
set_option maxHeartbeats 1000000 in
theorem KY(F:Fits X W tc o k)(h:fn1 x=some b)(hg:Gl X x)(e:tc.gl.lookup x=none)(ha:PE X a (tD X W true fun δ=>ev o δ true u))(hst:az a=false) :
 PE X (.Call (.Name x p) [a] [] pos) (tD X W lk fun δ=>ev o δ lk (.b1 b u)):=by
 have fb:∀{id:String} {r:List V->Hp->VK->Prop},CallR X (.builtin id) r->Sem1 W r (b1D b)->U8 x=some (.builtin id)->x≠"__name__"->(x==("__debug__":Str))=false->x∈bltNames->PE X (.Call (.Name x p) [a] [] pos) (tD X W lk fun δ=>ev o δ lk (.b1 b u)) :=
  fun h1 h2 h3 h4 h5 h6=>fW (d_b1 h1 h2 (iz b) hg (F.gb _ h6 e) h3 ha h4 h5 (bI hst)) fun δ=>by simp only[ev]
 have ft:∀{id:String} {r:List V->Hp->VK->Prop},CallR X (.type id) r->Sem1 W r (b1D b)->U8 x=some (.type id)->x≠"__name__"->(x==("__debug__":Str))=false->x∈bltNames->PE X (.Call (.Name x p) [a] [] pos) (tD X W lk fun δ=>ev o δ lk (.b1 b u)) :=
  fun h1 h2 h3 h4 h5 h6=>fW (Qn h1 h2 (iz b) hg (F.gb _ h6 e) h3 ha h4 h5 (bI hst)) fun δ=>by simp only[ev]
 unfold fn1 at h;split at h
 ·rename_i ex;subst ex;cases h
  exact fb zZ Hx PyProof.Rows.boot_abs (by decide +kernel) (by decide +kernel) (by decide +kernel)
 split at h
 ·rename_i ex;subst ex;cases h
  exact fb (CallR.or (CallR.or nM mz) uQ) (Fx F.K) PySem.boot_len (by decide +kernel) (by decide +kernel) (by decide +kernel)
 split at h
 ·rename_i ex;subst ex;cases h
  exact ft lV (yr F.K) (by kernel_rfl) (by decide +kernel) (by decide +kernel) (by decide +kernel)
 split at h
 ·rename_i ex;obtain⟨rfl,hq⟩:=ex;cases h
  obtain⟨r,c1,c2⟩:=f_list (X:=X) (W:=W) hq F.K F.calm;exact ft c1 c2 (by kernel_rfl) (by decide +kernel) (by decide +kernel) (by decide +kernel)
 split at h
 ·rename_i ex;obtain⟨rfl,hq⟩:=ex;cases h
  obtain⟨r,c1,c2⟩:=Nk (X:=X) (W:=W) hq F.K F.calm;exact ft c1 c2 (by kernel_rfl) (by decide +kernel) (by decide +kernel) (by decide +kernel)
 split at h
 ·rename_i ex;obtain⟨rfl,hq⟩:=ex;cases h
  obtain⟨r,c1,c2⟩:=Q3 (X:=X) (W:=W) hq F.K F.calm;exact fb c1 c2 (by kernel_rfl) (by decide +kernel) (by decide +kernel) (by decide +kernel)
 split at h
 ·rename_i ex;obtain⟨rfl,hq⟩:=ex;cases h
  obtain⟨r,c1,c2⟩:=Qe (X:=X) (W:=W) hq F.K F.calm;exact fb c1 c2 (by kernel_rfl) (by decide +kernel) (by decide +kernel) (by decide +kernel)
 split at h
 ·rename_i ex;obtain⟨rfl,hq⟩:=ex;cases h
  obtain⟨r,c1,c2⟩:=R0 (X:=X) (W:=W) hq F.K F.calm;exact fb c1 c2 (by kernel_rfl) (by decide +kernel) (by decide +kernel) (by decide +kernel)
 split at h
 ·rename_i ex;obtain⟨rfl,hq⟩:=ex;cases h
  obtain⟨r,c1,c2⟩:=zr (X:=X) (W:=W) hq F.K F.calm;exact fb c1 c2 PyProof.Rows.boot_sorted (by decide +kernel) (by decide +kernel) (by decide +kernel)
 split at h
 ·rename_i ex;obtain⟨rfl,hq⟩:=ex;cases h
  obtain⟨r,c1,c2⟩:=Qo (X:=X) (W:=W) hq F.K F.calm;exact ft c1 c2 (by kernel_rfl) (by decide +kernel) (by decide +kernel) (by decide +kernel)
 split at h
 ·rename_i ex;obtain⟨rfl,hq⟩:=ex;cases h
  obtain⟨r,c1,c2⟩:=f_int (X:=X) (W:=W) hq F.K F.calm;exact ft c1 c2 (by kernel_rfl) (by decide +kernel) (by decide +kernel) (by decide +kernel)
 ·cases h
theorem GJ(F:Fits X W tc o k)(h:fn1x x=some b)(hg:Gl X x)(e:tc.gl.lookup x=none)(ha:PE X a (tD X W true fun δ=>ev o δ true u))(hst:az a=false) :
 PE X (.Call (.Name x p) [a] [] pos) (tD X W lk fun δ=>ev o δ lk (.b1 b u)):=by
 unfold fn1x at h;split at h
 ·rename_i b' e0
  cases h;exact KY F e0 hg e ha hst
 ·split at h
  ·rename_i ex
   obtain⟨rfl,hq⟩:=ex;cases h;obtain⟨r,c1,c2⟩:=KJ (X:=X) (W:=W) hq F.K F.calm
   exact fW (d_b1 c1 c2 (iz _) hg (F.gb _ (by decide +kernel) e) (by kernel_rfl) ha (by decide +kernel) (by decide +kernel) (bI hst)) fun δ=>by simp only[ev]
  ·cases h
theorem rR(h:∀δ,(∃c,f δ=.exc c)\/f δ=.stuck):PE X e (tD X W lk f):=fun pins s σ H Q I hw=>by
 obtain⟨me,B,δ,S,q⟩:=tD_iff.mp hw;rcases h δ with⟨c,e⟩ | e<;>(rw[e]at q;exact q.elim)
theorem Pk(F:Fits X W tc o k)(e:tc.gl.lookup x=some (.ocl c))(hg:Gl X x)(hdb:(x==("__debug__":Str))=false)(ha:PA X (a::as) (tL X W fun δ=>evL o δ l))
 (he:Rj (a::as) X.env=(false,Sv a X.env)::Rj as X.env) (hpl:(SN pos (Rj as X.env)).any (·.1)=false) (lk:Bool):PE X (.Call (.Name x p) (a::as) [] pos) (tD X W lk fun δ=>ev o δ lk (.mk c l)):=by
 have hcl:iy tc.gl x=some c:=by unfold iy;rw[e]
 have hm:=F.ob.nm x c hcl
 have bad:(∀δ,(evL o δ l).bind (fun x=>(XR (o.init c)).bind fun f=>Y5 (!x.1) ((o.ini f (.obj c [] []) x.2).bind fun d=>.ok (true,d)))=ev o δ lk (.mk c l)):=fun δ=>by simp only[ev]
 cases ei:o.init c with
 | none=>
   refine rR fun δ=>?_
   rw[<-bad δ,ei]
   cases evL o δ l with
   | ok y=>exact .inr rfl
   | exc c=>exact .inl ⟨c,rfl⟩
   | stuck=>exact .inr rfl
 | some f=>
   obtain⟨fa,fd,ps,np,h1,h2,h3,h4,h5⟩:=F.ob.ini c f ei;rcases h5 with h5 | ⟨j,hj,h5⟩
   ·refine rR fun δ=>?_
    rw[<-bad δ,ei]
    cases evL o δ l with
    | ok y=>
      simp only[XS,XR,h5,Y5]
      right
      split<;>rfl
    | exc c=>exact .inl ⟨c,rfl⟩
    | stuck=>exact .inr rfl
   ·exact d_mk ei h4 h1 h5 (F.room.mono hj) hg hm h3 ha hdb he hpl
theorem dz(x:Str):strV x.cps.toList=x:=by cases x;simp[strV]
theorem GQ(hb:plainBase a=true)(hst:args.any az=false)(hn:args.length<20)(hline:(apos.endLine==pos.line)=true) :
 Sv (.Call (.Attribute a name apos) args [] pos) env=(do
  let ov <-Sv a env
  V8 apos.atName
  let(f,first) <-U7 [ov] (V6 ov name (do return (<-importBound a env).getD true))
  VM pos f first (SN pos (Rj args env)) (UW pos (Tr [] env))):=by
 have hs:=bZ (es:=args) (env:=env) (pos:=pos) hst
 have hform:methodCallForm (args.length+([]:List Wi).length) (SN pos (Rj args env)) (UW pos (Tr [] env))=true:=by
  unfold methodCallForm
  have h1:(SN pos (Rj args env)).all (fun x=>!x.1)=true:=by
   rw[S8];intro x hx;rw[List.any_eq_false]at hs;have:=hs x hx;simpa using this
  rw[h1];show(true&&true&&decide (args.length+0+0<30))=true;simp;omega
 have hpos:methodCallPos true a env apos pos=pure pos:=by unfold methodCallPos;simp[hline]
 rw[arm_eval_Call,cM hb];unfold methodCall;rw[hform,hpos];unfold calleeOf;simp only[if_true,pure_bind]
theorem DQ(F:Fits X W tc o k)(hf:∀e t,f e=some t->Right X W o e t)(h:ur f a name args ok=some t)(hok:ok=(apos.endLine==cpos.line))(lk:Bool) :
 PE X (.Call (.Attribute a name apos) args [] cpos) (tD X W lk fun δ=>ev o δ lk t):=by
 unfold ur at h;split at h
 ·rename_i hc
  simp only[Bool.and_eq_true,Bool.not_eq_true',decide_eq_true_eq]at hc;obtain⟨⟨⟨h1,h2⟩,hst⟩,hn⟩:=hc;rw[hok]at h1
  cases e1:f a with
  | none=>rw[e1]at h;cases h
  | some ta=>
  cases e2:trL f args with
  | none=>simp[e1,e2]at h
  | some l=>
  simp[e1,e2]at h;subst h
  have hM:∀c g,o.meth c name.cps.toList=some g->∃np,MtOk X W o k c g np name:=fun c g e=>by
   obtain⟨np,fa,fd,ps,z⟩:=F.ob.mt c _ g e;rw[dz]at z;exact⟨np,fa,fd,ps,z⟩
  have ht:=GQ (name:=name) (env:=X.env) h2 hst hn h1
  cases args with
  | nil=>
    simp only[trL,Rf]at e2;subst e2;exact GD (dz name).symm hM F.room (fun lk=>(hf a ta e1).1 lk) ht
  | cons b bs=>
    have hst':=hst;simp only[S6,Bool.or_eq_false_iff]at hst';exact KQ (dz name).symm hM F.room (fun lk=>(hf a ta e1).1 lk) (cL (fun e t h=>(hf e t h).1) e2 hst) (bI hst'.1) (bZ hst'.2) ht
 ·cases h
theorem nj(F:Fits X W tc o k)(h:(namesOf tc "!f").contains name.cps.toList=true):∀c,(o.init c).isSome=true->Cls X.K (W.CT c)/\NoAttr X.K (W.CT c) name:=fun c hc=>by
 unfold namesOf at h;split at h
 ·rename_i l e
  have:=F.ob.fld l name.cps.toList e (by simpa using h) c hc;rw[dz]at this;exact this
 ·simp at h
theorem Ft(F:Fits X W tc o k)(hf:∀e t,f e=some t->∀lk,PE X e (tD X W lk fun δ=>ev o δ lk t))(h:trSS tc f x a=some t)(hg:Gl X x)(e:tc.gl.lookup x=none)(lk:Bool):PE X (.Call (.Name x p) [a] [] pos) (tD X W lk fun δ=>ev o δ lk t):=by
 unfold trSS at h;split at h
 ·split at h
  ·rename_i hc
   obtain⟨rfl,hq,rfl,h1,h2,h3⟩:=hc;obtain⟨u,e1,rfl⟩:=T7.mp h
   exact fW (Kg hq F.K F.calm hg (F.gb _ (by decide +kernel) e) (dF F h1) (F.gb _ (by decide +kernel) (by simpa using h2)) (hf _ u e1 true) h3) fun δ=>by simp only[ev]
  ·cases h
 ·cases h
theorem Mx(F:Fits X W tc o k)(hf:∀e t,f e=some t->Right X W o e t)(h:zB tc f op a b=some t)(hm:U9 op b=false):Right X W o (.Compare a [op] [b] pos) t:=by unfold zB at h;cases h
theorem Jm(F:Fits X W tc o k)(hf:∀e t,f e=some t->Right X W o e t)(h:xV tc f x args=some t)(lk:Bool) :
 PE X (.Call (.Name x p) args [] pos) (tD X W lk fun δ=>ev o δ lk t):=by
 unfold xV at h;split at h
 ·rename_i hc
  simp only[Bool.and_eq_true,Bool.not_eq_true']at hc;obtain⟨⟨hg,hdb⟩,hst⟩:=hc;have hg:=dF F hg;split at h
  ·rename_i i np e
   split at h
   ·rename_i hn
    cases e1:trL f args with
    | none=>rw[e1]at h;cases h
    | some l=>
      rw[e1]at h;cases h;obtain⟨fa,fd,ps,h1,h2,h3,h4⟩:=F.gf x i np e
      cases args with
      | nil=>exact absurd rfl hn.2
      | cons a as=>
        have hst':=hst;simp only[S6,Bool.or_eq_false_iff]at hst';exact Cu (fun δ r e=>by rw[jZ e1 δ r e];exact hn.1) h4 F.room hg h1 h2 h3 (cL (fun e t h=>(hf e t h).1) e1 hst) hdb (bI hst'.1) (bZ hst'.2)
   ·split at h
    ·rename_i hn
     split at h
     ·rename_i y v ed
      split at h
      ·rename_i ey
       subst ey
       cases e1:trL f args with
       | none=>rw[e1]at h;cases h
       | some l=>
         rw[e1]at h;cases h;obtain⟨fa,fd,ps,vs,h1,h2,h3,h5,h4⟩:=F.gdf y v i np ed e
         cases args with
         | nil=>exact absurd rfl hn.2
         | cons a as=>
           have hst':=hst;simp only[S6,Bool.or_eq_false_iff]at hst';exact Gw (fun δ r e=>by rw[jZ e1 δ r e];exact hn.1) h4 F.room hg h1 h2 h3 h5 (cL (fun e t h=>(hf e t h).1) e1 hst) hdb (bI hst'.1) (bZ hst'.2)
      ·cases h
     ·cases h
    ·cases h
  ·rename_i c e
   split at h
   ·rename_i hn
    cases e1:trL f args with
    | none=>rw[e1]at h;cases h
    | some l=>
      rw[e1]at h;cases h
      cases args with
      | nil=>exact absurd rfl hn
      | cons a as=>
        have hst':=hst;simp only[S6,Bool.or_eq_false_iff]at hst';exact Pk F e hg hdb (cL (fun e t h=>(hf e t h).1) e1 hst) (bI hst'.1) (bZ hst'.2) lk
   ·cases h
  ·cases h
  ·rename_i e
   split at h
   ·rename_i a
    simp only[S6,Wh,Bool.or_false]at hst
    cases e00:trSS tc f x a with
    | some t'=>
      rw[e00]at h;cases h;exact Ft F (fun e t h=>(hf e t h).1) e00 hg e lk
    | none=>
    rw[e00]at h;dsimp only at h
    cases e0:fn1x x with
    | none=>rw[e0]at h;cases h
    | some b=>
      rw[e0]at h
      cases e1:f a with
      | none=>simp[e1]at h
      | some u=>
        simp[e1]at h;subst h;exact GJ F e0 hg e ((hf a u e1).1 true) hst
   ·rename_i a b
    simp only[S6,Wh,Bool.or_false,Bool.or_eq_false_iff]at hst;split at h
    ·rename_i ex
     obtain⟨rfl,hq⟩:=ex
     cases e1:f a with
     | none=>rw[e1]at h;cases h
     | some u=>
       cases e2:f b with
       | none=>simp[e1,e2]at h
       | some u2=>
         simp[e1,e2]at h;subst h;exact Ma hq F.calm hg (F.gb _ (by decide +kernel) e) ((hf a u e1).1 true) ((hf b u2 e2).1 true) hst.1 hst.2
    split at h
    ·rename_i ex
     obtain⟨rfl,hq⟩:=ex
     cases e1:f a with
     | none=>rw[e1]at h;cases h
     | some u=>
       cases e2:f b with
       | none=>simp[e1,e2]at h
       | some u2=>
         simp[e1,e2]at h;subst h;exact MF hq F.calm hg (F.gb _ (by decide +kernel) e) ((hf a u e1).1 true) ((hf b u2 e2).1 true) hst.1 hst.2
    ·split at h
     ·rename_i y py
      split at h
      ·rename_i hc2
       obtain⟨ex,hgy,hly⟩:=hc2;subst ex;split at h
       ·cases h
       cases e1:f a with
       | none=>rw[e1]at h;cases h
       | some u=>
         rw[e1]at h
         cases e2:trTy y with
         | none=>simp[e2]at h
         | some ty=>
           simp[e2]at h;subst h;obtain⟨T,hT,hb,hn,hd,hm⟩:=Hm e2
           have hly:tc.gl.lookup y=none:=by simpa using hly
           exact fW (JP (o:=o) F.K hT hg (F.gb _ (by decide +kernel) e) (dF F hgy) (F.gb _ hm hly) hb hn hd ((hf a u e1).1 true) (bI hst.1)) fun δ=>by simp only[ev]
      ·split at h
       ·rename_i hc2
        obtain⟨ex,hgy,hdy⟩:=hc2;subst ex;split at h
        ·rename_i c ec
         cases e1:f a with
         | none=>rw[e1]at h;cases h
         | some u=>
           rw[e1]at h;cases h
           have hoc:iy tc.gl y=some c:=by unfold iy;rw[ec]
           exact fW (FN (o:=o) (F.ob.nm y c hoc) (fun c2 e2=>F.ob.is y c hoc c2 e2) hg (F.gb _ (by decide +kernel) e) (dF F hgy) hdy ((hf a u e1).1 true) (bI hst.1)) fun δ=>by simp only[ev]
        ·cases h
       ·cases h
     ·cases h
   ·cases h
 ·cases h
theorem J2(F:Fits X W tc o k)(hf:∀e t,f e=some t->Right X W o e t)(h:yx tc f x a b=some t)(lk:Bool):PE X (.Call (.Name x p) [a] [⟨some "default",b,kp⟩] pos) (tD X W lk fun δ=>ev o δ lk t):=by unfold yx at h;cases h
theorem Jr(F:Fits X W tc o k)(hf:∀e t,f e=some t->Right X W o e t)(h:wR f a name args ok=some t)(hok:ok=(apos.endLine==cpos.line))(lk:Bool) :
 PE X (.Call (.Attribute a name apos) args [] cpos) (tD X W lk fun δ=>ev o δ lk t):=by
 unfold wR at h;split at h
 ·rename_i hc
  simp only[Bool.and_eq_true,Bool.not_eq_true']at hc;obtain⟨⟨h1,h2⟩,hst⟩:=hc;rw[hok]at h1;split at h
  ·rename_i b
   simp only[S6,Wh,Bool.or_false]at hst;split at h
   ·rename_i ex
    obtain⟨rfl,hq⟩:=ex
    cases e1:f a with
    | none=>rw[e1]at h;cases h
    | some ta=>
      cases e2:f b with
      | none=>simp[e1,e2]at h
      | some tb=>
        simp[e1,e2]at h;subst h;exact O8 hq F.K ((hf a ta e1).1 true) ((hf b tb e2).1 true) h2 hst h1
   ·split at h
    ·rename_i ex
     obtain⟨rfl,hq⟩:=ex
     cases e1:f a with
     | none=>rw[e1]at h;cases h
     | some ta=>
       cases e2:f b with
       | none=>simp[e1,e2]at h
       | some tb=>
         simp[e1,e2]at h;subst h;exact Jl hq ((hf a ta e1).1 true) ((hf b tb e2).1 true) h2 hst h1
    ·cases h
  ·rename_i b c
   simp only[S6,Wh,Bool.or_false,Bool.or_eq_false_iff]at hst;split at h
   ·rename_i ex
    obtain⟨rfl,hq⟩:=ex
    cases e1:f a with
    | none=>rw[e1]at h;cases h
    | some ta=>
      cases e2:f b with
      | none=>simp[e1,e2]at h
      | some tb=>
        cases e3:f c with
        | none=>simp[e1,e2,e3]at h
        | some tcc=>
          simp[e1,e2,e3]at h;subst h;exact JC hq (xG F.room) ((hf a ta e1).1 true) ((hf b tb e2).1 true) ((hf c tcc e3).1 false) (Oi h2 hst.1 hst.2 h1)
   ·cases h
  ·cases h
 ·cases h
theorem yo(h:isSet e=false)(x:Value):TQ e env x=pure x:=by
 cases e<;>first | rfl | (simp[isSet]at h)
theorem nH:("range":Str)∈bltNames:=by decide +kernel
theorem v9(F:Fits X W tc o k)(hf:∀e t,f e=some t->Right X W o e t)(tg:Expr)(h:trI tc f (nZ tg) e=some it)(lk:Bool):(∃wi,PI X tg e wi/\WalkL X W o lk it wi)/\∀x,TQ e X.env x=pure x:=by
 have val:isSet e=false->(f e).map Yc=some it->(∃wi,PI X tg e wi/\WalkL X W o lk it wi)/\∀x,TQ e X.env x=pure x:=fun hs h=>by
  cases e1:f e with
  | none=>rw[e1]at h;cases h
  | some t=>
    rw[e1]at h;cases h;exact⟨OJ F.K ((hf e t e1).1 lk),yo hs⟩
 unfold trI at h;split at h
 ·rename_i x px a pc
  split at h
  ·rename_i ex
   subst ex;split at h
   ·rename_i hc
    simp only[Bool.and_eq_true,Bool.not_eq_true',Option.isNone_iff_eq_none]at hc
    cases e1:f a with
    | none=>rw[e1]at h;cases h
    | some t=>
      rw[e1]at h;cases h;exact⟨M3 (dF F hc.1.1) (F.gb _ nH hc.1.2) ((hf a t e1).1 true) hc.2,fun _=>rfl⟩
   ·cases h
  ·split at h
   ·cases h
   ·exact val rfl h
 ·rename_i x px a b pc
  split at h
  ·rename_i ex
   subst ex;split at h
   ·rename_i hc
    simp only[Bool.and_eq_true,Bool.not_eq_true',Option.isNone_iff_eq_none]at hc
    cases e1:f a with
    | none=>rw[e1]at h;cases h
    | some t=>
      cases e2:f b with
      | none=>simp[e1,e2]at h
      | some t2=>
        simp[e1,e2]at h;subst h;exact⟨KN hc.1.1.1.1 (dF F hc.1.1.1.2) (F.gb _ nH hc.1.1.2) ((hf a t e1).1 true) ((hf b t2 e2).1 true) hc.1.2 hc.2,fun _=>rfl⟩
   ·cases h
  ·split at h
   ·cases h
   ·exact val rfl h
 ·rename_i x px a b c pc
  split at h
  ·cases h
  ·exact val rfl h
 ·split at h
  ·cases h
  ·rename_i hs
   exact val (by simpa using hs) h
theorem Cw(h:blkB scope=true):Blk scope:=by
 unfold blkB at h;simp only[Bool.and_eq_true,decide_eq_true_eq,S8,Bool.or_eq_true,Bool.not_eq_true']at h;refine⟨h.1,fun y hy z=>?_,fun y hy z=>?_,fun y hy z=>?_⟩
 ·have:=(h.2 y hy).1.1
  rw[z]at this;cases this
 ·rcases(h.2 y hy).1.2 with q | q
  ·rw[z]at q;cases q
  ·exact q
 ·rcases(h.2 y hy).2 with q | q
  ·rw[z]at q;cases q
  ·exact q
theorem frees_mem:x∈frees scope↔(x,TY)∈scope.names:=by
 unfold frees
 constructor
 ·intro h
  obtain⟨y,hy,rfl⟩:=RB.mp h;obtain⟨h1,h2⟩:=Ve.mp hy
  have:y.2=.free:=by simpa using h2
  rw[<-this];exact h1
 ·exact fun h=>RB.mpr ⟨_,Ve.mpr ⟨h,by simp⟩,rfl⟩
theorem Em{X':Cx}{tl:List Str}(hN:X'.N.Nodup)(hloc:∀x∈tl,X'.env.scope.names.lookup x=some .local):∀{es:List Expr} {l:List Str} {i:Nat},jn es=some l->(∀(j:Nat) x,l[j]?=some x->X'.N[i+j]?=some x/\x∈tl) ->
 PGs X' es (eN (List.range' i l.length))/\(Ti es X'.env).length=l.length/\(Ti es X'.env).findIdx? (·.1)=none
 | [],l,i,h,_=>by
   simp only[jn,Rf]at h;subst h;exact⟨xM,rfl,rfl⟩
 | e::es,l,i,h,hl=>by
   cases e<;>first | exact nope h | simp only[jn]at h
   rename_i x p
   cases e1:jn es with
   | none=>rw[e1]at h;cases h
   | some l'=>
     rw[e1]at h;cases h
     obtain⟨h1,h2,h3⟩:=Em hN hloc (i:=i+1) e1 fun j y hj=>by
      have:=hl (j+1) y (by simpa using hj);rw[show i+(j+1)=i+1+j by omega]at this;exact this
     obtain⟨k1,k2⟩:=hl 0 x rfl;rw[Nat.add_zero]at k1;have kl:=hloc x k2;refine⟨?_,?_,?_⟩
     ·rw[Rv,List.range'_succ]
      exact qX (lD hN k1 (.inl kl) (.inr kl)) h1
     ·show(Ti es X'.env).length+1=_
      rw[h2];rfl
     ·show List.findIdx? (·.1) ((false,Wa (.Name x p) X'.env)::Ti es X'.env)=none
      rw[List.findIdx?_cons,h3];rfl
theorem ud{K:Ra}{n:Nat}:gTup K n (eN (RG n))=gTup K (RG n).length (eN (RG n)):=by rw[List.length_range]
theorem uP(hx:X.xe=fun _ _=>False)(F:Fits X W tc o k){f:Tc->Expr->Option T}(hf:∀(X':Cx) (tc':Tc),(X'.xe=fun _ _=>False)->Fits X' W tc' o k->∀e t,f tc' e=some t->Right X' W o e t){elt tg iter:Expr}{ifs:List Expr}{scope:Scope}{t:T}(h:qR tc f elt tg iter ifs scope=some t) :
 ∃N m caps tup g it c e,t=.comp caps m tup it c e/\CompIn X W o scope N elt tg iter ifs m caps tup g it c e:=by
 unfold qR at h
 cases e1:qG tg with
 | none=>rw[e1]at h;cases h
 | some q=>
 obtain⟨tn,tup⟩:=q;rw[e1]at h;simp only[Rq]at h;split at h
 ·rename_i hb
  cases e2:ixs tc.N (frees scope)with
  | none=>rw[e2]at h;cases h
  | some caps=>
  cases e3:trI tc (f tc) (nZ tg) iter with
  | none=>simp[e2,e3]at h
  | some it=>
  cases e4:uR (f ⟨tn++frees scope,fQ scope tc.sc,tc.gl⟩) ifs with
  | none=>simp[e2,e3,e4]at h
  | some c=>
  cases e5:f ⟨tn++frees scope,fQ scope tc.sc,tc.gl⟩ elt with
  | none=>simp[e2,e3,e4,e5]at h
  | some e=>
  simp[e2,e3,e4,e5]at h;subst h;unfold La at hb;simp only[Bool.and_eq_true,decide_eq_true_eq,S8,Bool.or_eq_true]at hb;obtain⟨⟨⟨b1,b2⟩,b3⟩,b4⟩:=hb
  have FC:=fun fp pins s H=>F.comp (scope:=scope) b2 fp pins s H
  obtain⟨⟨wi,hi1,hi2⟩,hs⟩:=v9 F (fun e t h=>hf X tc hx F e t h) tg e3 true
  have hi:∃wi,PI X tg iter wi/\Hh X W o it wi:=⟨wi,hi1,hi2.comp⟩
  have hloc:∀(X0:Cx),X0.env=X.env->∀x∈tn,(WY scope X.env).names.lookup x=some .local:=fun _ _ x hx=>lookup_relabel_local (b3 x hx)
  have hg:∃g,(∀fp pins s H,PG (cxC X scope (tn++frees scope) fp pins s H) tg g)/\(∀H0,TgR { X with H₀:=H0 } W (RG tn.length) tup g)/\(tup=false->tn.length=1):=by
   cases tg<;>first | exact nope e1 | simp only[qG]at e1
   ·rename_i x p
    cases e1;exact⟨uA 0,fun fp pins s H=>lD (X:=cxC X scope ([x]++frees scope) fp pins s H) b2 rfl (.inl (hloc X rfl x Rg)) (.inr (hloc X rfl x Rg)),fun H0=>Az,fun _=>rfl⟩
   ·rename_i es kk p
    cases e6:jn es with
    | none=>rw[e6]at e1;cases e1
    | some l=>
      rw[e6]at e1;cases e1;refine⟨gTup X.K tn.length (eN (RG tn.length)),fun fp pins s H=>?_,fun H0=>?_,fun z=>by cases z⟩
      ·obtain⟨k1,k2,k3⟩:=Em (X':=cxC X scope (tn++frees scope) fp pins s H) (tl:=tn) b2 (hloc X rfl) (i:=0) e6 fun j x hj=>⟨by
        rw[Nat.zero_add];show(tn++frees scope)[j]?=some x
        rw[Td (Ry.mp hj).1];exact hj,Sx hj⟩
       rw[<-List.range_eq_range']at k1;exact CJ (X:=cxC X scope (tn++frees scope) fp pins s H) F.calm k1 k2 k3
      ·rw[ud]
       exact Js (X:={ X with H₀:=H0 }) F.K
  obtain⟨g,g1,g2,g3⟩:=hg;refine⟨tn++frees scope,tn.length,caps,tup,g,it,c,e,rfl,F.K,hx,F.calm,Cw b1,⟨?_,fun j kk x hj hx=>?_,fun y hy hk=>?_⟩,g3,hi,g1,g2,fun fp pins s H=>?_,fun fp pins s H=>(hf (cxC X scope (tn++frees scope) fp pins s H) _ hx (FC fp pins s H) elt e e5).1 false,hs⟩
  ·rw[Rx,w6 e2]
  ·obtain⟨y,y1,y2⟩:=yU e2 hj
   rw[Sq (by omega),Nat.add_sub_cancel_left,y1]at hx;cases hx;have hm:=Sx y1;rw[F.N,F.sc];exact⟨y2,(Cw b1).fre _ (frees_mem.mp hm) rfl,b4 x hm⟩
  ·rw[F.sc]
   exact b4 y.1 (frees_mem.mpr (by rw[<-hk];exact hy))
  ·cases ifs with
   | nil=>
     simp only[uR,Rf]at e4;subst e4
     refine PIf.imp HQ fun σ H' Q ⟨me,B,δ,S,q⟩=>?_
     simp only[ev,XS,truth,XR]at q;exact q H' (Same.refl _)
   | cons c1 rest=>
     cases rest with
     | nil=>
       simp only[uR]at e4;exact GZ (hf (cxC X scope (tn++frees scope) fp pins s H) _ hx (FC fp pins s H) c1 c e4).2
     | cons _ _=>simp[uR]at e4
 ·cases h
theorem zf(h:bM c=some d)(lk:Bool):PE X (.Constant c j pos) (tD X W lk fun δ=>ev o δ lk (.cst d)):=by
 cases c<;>first | exact nope h | simp only[bM]at h
 ·cases h;exact uD Cy (fun G=>by simp only[Rep]) o
 ·cases h;exact uD Hw (fun G=>by simp only[Rep]) o
 ·cases h;exact uD Eb (fun G=>by simp only[Rep]) o
 ·split at h
  ·rename_i s hl
   cases h;refine uD Di (fun G=>?_) o;simp only[Rep,strV];refine⟨trivial,?_⟩
   have:s.cps.toList.length=s.length:=by simp[Str.length]
   omega
  ·cases h
theorem Eu(h:isSlice b=false):yR b:=fun o i=>by cases b<;>first | rfl | (simp[isSlice]at h)
theorem Q8(F:Fits X W tc o k)(ha:PE X a (tD X W true fun δ=>ev o δ true ta))(hb:PE X b (tD X W true fun δ=>ev o δ true tb))(hs:isSlice b=false)(lk:Bool) :
 PE X (.Subscript a b pos) (tD X W lk fun δ=>ev o δ lk (.idx ta tb)):=by
 have nosl:NoSl b:=by intro x y;cases b<;>first | rfl | (simp[isSlice]at hs)
 refine PE.imp (PE.or (Qd K8 ha hb (Eu hs)) (Jp (xG F.room) ha hb nosl)) fun σ H Q h=>?_
 obtain⟨me,B,δ,S,h⟩:=tD_iff.mp h;simp only[ev]at h
 by_cases hd:∃r ks vs,ev o δ true ta=.ok r/\r.2=.dct ks vs
 ·obtain⟨r,ks,vs,e,e2⟩:=hd
  refine .inr ?_
  refine tD.mono (part (fa:=fun δ=>ev o δ true ta) S h) fun v H1 ⟨r1,e1,S1,s1,t1,_,h1⟩=>?_
  have:r1=r:=by rw[e]at e1;cases e1;rfl
  subst this
  refine tD.mono (part (fa:=fun δ=>ev o δ true tb) (g:=fun y=>idxD r1.2 y.2) S1 h1) fun u H2 ⟨r2,e3,S2,s2,t2,_,h2⟩=>?_
  rw[e2]at t1 h2;obtain⟨a,kvs,rfl,q1,q2,q3,q4⟩:=t1;simp only[idxD]at h2
  cases e4:keyOf r2.2 with
  | none=>rw[e4]at h2;exact h2.elim
  | some x=>
    rw[e4]at h2;simp only[Rq]at h2
    cases e5:look ks vs x with
    | none=>rw[e5]at h2;exact h2.elim
    | some d=>
      rw[e5]at h2;obtain⟨v,h3,h4⟩:=iG q2 (q4.mono (ao s2)) e5;refine⟨a,v,rfl,?_,h2 v H2 (Same.refl _) (.shared h4)⟩;rw[iK e4 t2,<-h3];obtain⟨ep,q1⟩:=q1;exact DGet.k (s2 _ _ q1)
 ·refine .inl (mR (lk:=lk) (J5 F.K) (by intro x y c;cases x<;>simp only[jL]<;>first | (intro z;cases z;done) | exact ut _ _ _) ?_)
  refine tD_iff.mpr ⟨me,B,δ,S,?_⟩
  have e:((ev o δ true ta).bind fun x=>(ev o δ true tb).bind fun y=>jL x.2 y.2)=((ev o δ true ta).bind fun x=>(ev o δ true tb).bind fun y=>idxD x.2 y.2):=by
   cases e:ev o δ true ta with
   | ok r=>
     show((ev o δ true tb).bind fun y=>jL r.2 y.2)=((ev o δ true tb).bind fun y=>idxD r.2 y.2)
     congr 1
     funext y
     cases e2:r.2 with
     | dct ks vs=>exact absurd ⟨r,ks,vs,e,e2⟩ hd
     | _=>rfl
   | exc c=>rfl
   | stuck=>rfl
  show After X W lk σ H (Hid B σ δ) ((ev o δ true ta).bind fun x=>(ev o δ true tb).bind fun y=>jL x.2 y.2) Q;rw[e];exact h
theorem xT(hf:∀e t,f e=some t->Right X W o e t)(h:trJ f vs=some t)(lk:Bool):PE X (.JoinedStr vs pos) (tD X W lk fun δ=>ev o δ lk t):=by
 unfold trJ at h;split at h
 ·split at h
  ·rename_i a cv p1 cs kk p2 hc
   obtain⟨rfl,hl⟩:=hc
   cases e1:f a with
   | none=>rw[e1]at h;cases h
   | some u=>
     rw[e1]at h;cases h
     exact MK hl fun lk=>(hf a u e1).1 lk
  ·cases h
 ·cases h
theorem sndE:∀(n:Nat) {X:Cx} {tc:Tc},(X.xe=fun _ _=>False)->Fits X W tc o k->∀(e:Expr) (t:T),trE n tc e=some t->Right X W o e t:=by
 intro n
 induction n with
 | zero=>intro X tc hx F e t h;exact nope h
 | succ n ih'=>
   intro X tc hx F e t h
   have ih:=fun e t h=>ih' hx F e t h
   cases e with
   | Name x pos=>
     rw[aZ]at h;delta trEb at h;dsimp only at h;split at h
     ·rename_i hv
      obtain⟨h1,h2,h3⟩:=dW F hv
      cases e1:b8 tc.N x with
      | none=>rw[e1]at h;cases h
      | some i=>
        rw[e1]at h;cases h;exact aP (fun lk=>QV (by rw[F.N];exact aW e1) h1 h2 h3 o) (fun _=>rfl)
     ·split at h
      ·rename_i hc
       simp only[Bool.and_eq_true,Bool.not_eq_true']at hc;split at h
       ·rename_i d e1
        cases h;obtain⟨u,v,m1,m2,m3⟩:=F.gv x d e1;exact aP (fun lk=>uD (yz (dF F hc.1) m1 m2 hc.2) m3 o) (fun _=>rfl)
       ·cases h
      ·cases h
   | IfExp c a b pos=>exact nope h
   | Constant c j pos=>
     rw[aZ]at h;delta trEb at h;dsimp only at h
     cases e1:bM c with
     | none=>rw[e1]at h;cases h
     | some d=>
       rw[e1]at h;cases h;exact aP (fun lk=>zf e1 lk) (fun _=>rfl)
   | BinOp a op b pos=>
     rw[aZ]at h;delta trEb at h;dsimp only at h
     cases e1:trOp op with
     | none=>rw[e1]at h;cases h
     | some p=>
       cases e2:trE n tc a with
       | none=>simp[e1,e2]at h
       | some ta=>
         cases e3:trE n tc b with
         | none=>simp[e1,e2,e3]at h
         | some tb=>
           simp[e1,e2,e3]at h;subst h;exact aP (fun lk=>K6 F e1 ((ih a ta e2).1 true) ((ih b tb e3).1 true) lk) (fun _=>rfl)
   | UnaryOp op a pos=>
     cases op<;>first | exact nope h | (rw[aZ]at h;delta trEb at h;dsimp only at h)
     all_goals
      cases e1:trE n tc a with
      | none=>rw[e1]at h;cases h
      | some ta=>
        rw[e1]at h;cases h
        first
         | exact⟨fun lk=>fW (Qy ((ih a ta e1).1 true)) fun δ=>by simp only[ev],Ai (NK (ih a ta e1).2) fun δ=>by simp only[ev]⟩
         | exact aP (fun lk=>QG ((ih a ta e1).1 true)) (fun _=>rfl)
   | Compare a ops cs pos=>
     match ops,cs,h with
     | [op],[b],h=>
       rw[aZ]at h;delta trEb at h;dsimp only at h;split at h
       ·cases h
       ·rename_i hm
        cases ek:zB tc (trE n tc) op a b with
        | some t'=>
          rw[ek]at h;cases h;exact Mx F ih ek (by simpa using hm)
        | none=>
        rw[ek]at h;dsimp only at h
        cases e1:Ae op with
        | none=>rw[e1]at h;cases h
        | some p=>
          cases e2:trE n tc a with
          | none=>simp[e1,e2]at h
          | some ta=>
            cases e3:trE n tc b with
            | none=>simp[e1,e2,e3]at h
            | some tb=>
              simp[e1,e2,e3]at h;subst h;exact Ny F e1 (by simpa using hm) ((ih a ta e2).1 true) ((ih b tb e3).1 true)
     | [],_,h=>exact nope h
     | _::_::_,_,h=>exact nope h
     | [_],[],h=>exact nope h
     | [_],_::_::_,h=>exact nope h
   | BoolOp op vs pos=>
     cases op with
     | And=>
       rw[aZ]at h;delta trEb at h;dsimp only at h;obtain⟨h1,h2⟩:=qU (pos:=pos) ih h;exact⟨h1,h2.pt⟩
     | Or=>
       rw[aZ]at h;delta trEb at h;dsimp only at h;obtain⟨h1,h2⟩:=yj (pos:=pos) ih h;exact⟨h1,h2.pt⟩
   | Tuple es kk pos=>
     rw[aZ]at h;delta trEb at h;dsimp only at h;split at h
     ·cases h
     ·rename_i hst
      cases e1:trL (trE n tc) es with
      | none=>rw[e1]at h;cases h
      | some l=>
        rw[e1]at h;cases h;exact aP (fun lk=>Qa (cL (fun e t h=>(ih e t h).1) e1 (by simpa using hst))) (fun _=>rfl)
   | List es pos=>
     rw[aZ]at h;delta trEb at h;dsimp only at h;split at h
     ·cases h
     ·rename_i hst
      cases e1:trL (trE n tc) es with
      | none=>rw[e1]at h;cases h
      | some l=>
        rw[e1]at h;cases h;exact aP (fun lk=>Qg (cL (fun e t h=>(ih e t h).1) e1 (by simpa using hst))) (fun _=>rfl)
   | Dict ks vs pos=>
     match ks,vs,h with
     | [],[],h=>
       rw[aZ]at h;delta trEb at h;simp only[Rf]at h;subst h;exact aP (fun lk=>Hq) (fun _=>rfl)
     | [],_::_,h=>exact nope h
     | k0::ks,vs,h=>
       rw[aZ]at h;delta trEb at h;dsimp only at h;split at h
       ·rename_i hq
        exact aP (fun lk=>Pa hq h lk) (fun _=>rfl)
       ·cases h
   | ListComp elt gens scope pos=>
     match gens,h with
     | [g],h=>
       rw[aZ]at h;delta trEb at h;dsimp only at h;split at h
       ·rename_i h0
        obtain⟨tg,iter,ifs,as⟩:=g;simp only at h0 h;subst h0;obtain⟨N,m,caps,tup,g,it,c,e,rfl,A⟩:=uP hx F (fun X' tc' hx' F' e t h=>ih' hx' F' e t h) h;exact aP (fun lk=>Ds A) (fun _=>rfl)
       ·cases h
     | [],h=>exact nope h
     | _::_::_,h=>exact nope h
   | Subscript a b pos=>
     by_cases hs:∃lo hi p2,b=.Slice lo hi none p2
     ·obtain⟨lo,hi,p2,rfl⟩:=hs
      rw[aZ]at h;delta trEb at h;dsimp only at h
      cases e1:trE n tc a with
      | none=>rw[e1]at h;cases h
      | some ta=>
        cases e2:pM (trE n tc) lo with
        | none=>simp[e1,e2]at h
        | some tl=>
          cases e3:pM (trE n tc) hi with
          | none=>simp[e1,e2,e3]at h
          | some th=>
            simp[e1,e2,e3]at h;subst h;exact aP (fun lk=>fW (Oq Ke (Im F.K) ((ih a ta e1).1 true) (CV ih e2) (CV ih e3)) fun δ=>by simp only[ev]) (fun _=>rfl)
     ·have h':(if isSlice b then none else(match Gs tc a with
       | some q=>(trE n tc b).map fun i=>T.kidx q.1 q.2 i
       | none=>(trE n tc a).bind fun t=>(trE n tc b).map fun i=>XX t i))=some t:=by
       cases b<;>first | exact h | skip
       rename_i lo hi st p2
       cases st with
       | none=>exact absurd ⟨lo,hi,p2,rfl⟩ hs
       | some st=>exact nope h
      cases hsl:isSlice b with
      | true=>simp[hsl]at h'
      | false=>
        simp only[hsl,Bool.false_eq_true,if_false]at h'
        cases e0:Gs tc a with
        | some q=>exact nope e0
        | none=>
        rw[e0]at h';simp only at h'
        cases e1:trE n tc a with
        | none=>rw[e1]at h';cases h'
        | some ta=>
          cases e2:trE n tc b with
          | none=>simp[e1,e2]at h'
          | some tb=>
            simp[e1,e2]at h';subst h';exact aP (fun lk=>Q8 F ((ih a ta e1).1 true) ((ih b tb e2).1 true) hsl lk) (fun _=>rfl)
   | Call f args kws pos=>
     match f,kws,h with
     | .Name x p,[],h=>
       rw[aZ]at h;delta trEb at h;dsimp only at h;exact aP (fun lk=>Jm F ih h lk) (fun _=>rfl)
     | .Attribute a name apos,[],h=>
       rw[aZ]at h;delta trEb at h;dsimp only at h;split at h
       ·exact aP (fun lk=>DQ F ih h rfl lk) (fun _=>rfl)
       ·exact aP (fun lk=>Jr F ih h rfl lk) (fun _=>rfl)
     | .Name x p,[kw],h=>
       match args,kw,h with
       | [a],⟨some nm,b,kp⟩,h=>
         rw[aZ]at h;delta trEb at h;dsimp only at h;split at h
         ·rename_i ex
          subst ex;exact aP (fun lk=>J2 F ih h lk) (fun _=>rfl)
         ·cases h
       | [_],⟨none,_,_⟩,h=>exact nope h
       | [],⟨some _,_,_⟩,h | [],⟨none,_,_⟩,h=>exact nope h
       | _::_::_,⟨some _,_,_⟩,h | _::_::_,⟨none,_,_⟩,h=>exact nope h
     | .Name x p,⟨some _,_,_⟩::_::_,h | .Name x p,⟨none,_,_⟩::_::_,h=>rcases args with _ | ⟨_,_ | _⟩<;>exact nope h
     | .Attribute ..,_::_,h=>exact nope h
     | .BoolOp ..,_,h=>exact nope h
     | .NamedExpr ..,_,h=>exact nope h
     | .BinOp ..,_,h=>exact nope h
     | .UnaryOp ..,_,h=>exact nope h
     | .Lambda ..,_,h=>exact nope h
     | .IfExp ..,_,h=>exact nope h
     | .Dict ..,_,h=>exact nope h
     | .Set ..,_,h=>exact nope h
     | .ListComp ..,_,h=>exact nope h
     | .SetComp ..,_,h=>exact nope h
     | .DictComp ..,_,h=>exact nope h
     | .GeneratorExp ..,_,h=>exact nope h
     | .Await ..,_,h=>exact nope h
     | .Yield ..,_,h=>exact nope h
     | .YieldFrom ..,_,h=>exact nope h
     | .Compare ..,_,h=>exact nope h
     | .Call ..,_,h=>exact nope h
     | .FormattedValue ..,_,h=>exact nope h
     | .JoinedStr ..,_,h=>exact nope h
     | .Constant ..,_,h=>exact nope h
     | .Subscript ..,_,h=>exact nope h
     | .Starred ..,_,h=>exact nope h
     | .List ..,_,h=>exact nope h
     | .Tuple ..,_,h=>exact nope h
     | .Slice ..,_,h=>exact nope h
   | JoinedStr vs pos=>
     rw[aZ]at h;delta trEb at h;dsimp only at h;exact aP (fun lk=>xT ih h lk) (fun _=>rfl)
   | Attribute a name pos=>
     rw[aZ]at h;delta trEb at h;dsimp only at h;split at h
     ·rename_i hc
      simp only[Bool.and_eq_true]at hc
      cases e1:trE n tc a with
      | none=>rw[e1]at h;cases h
      | some u=>
        rw[e1]at h;cases h;exact aP (fun lk=>QD (dz name).symm (nj F hc.1) ((ih a u e1).1 true) (cM hc.2)) (fun _=>rfl)
     ·cases h
   | _=>exact nope h
end
end Z
namespace Z
open PySem PySem.Spec PyProof.Rows L2
def iY:Expr->Bool
 | .ListComp ..=>true
 | .SetComp ..=>true
 | .DictComp ..=>true
 | _=>false
noncomputable def aJ(tc:Tc):List Expr->Option (List Nat)
 | []=>some []
 | .Name x _::es=>if locB tc.sc x then(b8 tc.N x).bind fun i=>(aJ tc es).map fun l=>i::l else none
 | _=>none
noncomputable def trTg(tc:Tc):Expr->Option (List Nat×Bool)
 | .Name x _=>if locB tc.sc x then(b8 tc.N x).map fun i=>([i],false)else none
 | .Tuple es _ _=>(aJ tc es).map fun l=>(l,true)
 | _=>none
noncomputable def trSs(f:Stmt->Option S):List Stmt->Option SL
 | []=>some .nil
 | s::ss=>(f s).bind fun t=>(trSs f ss).map fun l=>.cons t l
noncomputable def isName:Expr->Bool
 | .Name ..=>true
 | _=>false
def JD:T->Bool
 | .var _=>true
 | _=>false
def aO:Nat:=40
def qI:Expr->Bool
 | .ListComp _ [g] _ _=>decide (g.is_async=0)
 | _=>false
noncomputable def trA(tc:Tc)(tgs:List Expr)(e:Expr):Option S:=match tgs with
 | [.Name x _]=>if locB tc.sc x&&(!iY e||qI e)then(b8 tc.N x).bind fun i=>(trE aO tc e).map fun t=>.set i t else none
 | [.Subscript (.Name x _) k _]=>if visB tc.sc x&&!isSlice k&&!iY e then(b8 tc.N x).bind fun i=>(trE aO tc k).bind fun tk=>(trE aO tc e).map fun t=>.seti i tk t else none
 | [.Attribute (.Name x _) fn _]=>if visB tc.sc x&&(namesOf tc "!f").contains fn.cps.toList then(b8 tc.N x).bind fun i=>(trE aO tc e).map fun t=>.setf i fn.cps.toList t else none
 | _=>none
def Ho(tc:Tc)(tgs:List Expr)(e:Expr):Option S:=none
noncomputable def trSx(tc:Tc)(tgs:List Expr)(e:Expr):Option S:=none
noncomputable def trA2(tc:Tc)(tgs:List Expr)(e:Expr):Option S:=match trSx tc tgs e with
 | some t=>some t
 | none=>match Ho tc tgs e with
   | some t=>some t
   | none=>trA tc tgs e
def EY(tc:Tc)(x:Str)(e:Expr)(ok:Bool):Option S:=none
def xF(tc:Tc)(x:Str)(a b:Expr)(es:List Expr)(ok:Bool):Option S:=none
def xY(tc:Tc)(x m:Str)(e:Expr)(ok:Bool):Option S:=if m="pop" then(if ok&&visB tc.sc x&&!az e then(b8 tc.N x).bind fun i=>(trE aO tc e).map fun t=>.pop1 none i t else none)else none
noncomputable def trX(tc:Tc)(e:Expr):Option S:=match e with
 | .Call (.Attribute (.Name x px) m apos) [e] [] cpos=>if m="append" then(if visB tc.sc x&&!az e&&(apos.endLine==cpos.line)then(b8 tc.N x).bind fun i=>(trE aO tc e).map fun t=>.append i t else none)else(if m="update" then EY tc x e (apos.endLine==cpos.line)else if m="extend"/\lZ=true then(if visB tc.sc x&&!az e&&(apos.endLine==cpos.line)then(b8 tc.N x).bind fun i=>(trE aO tc e).map fun t=>.extend i t else none)else if(namesOf tc "!m").contains m.cps.toList then(ur (trE aO tc) (.Name x px) m [e] (apos.endLine==cpos.line)).map .expr else xY tc x m e (apos.endLine==cpos.line))
 | .Call (.Attribute (.Name x _) m apos) [] [] cpos=>none
 | .Call (.Attribute (.Name x _) m apos) (e0::e1::es) [] cpos=>if m="pop" then xF tc x e0 e1 es (apos.endLine==cpos.line)else(match e0 with
   | .Name s _=>if m="__init__" then(if glB tc.sc x&&!(x==("__debug__":Str))&&visB tc.sc s&&decide (b8 tc.N s=some 0)&&!((e1::es).any az)&&decide ((e1::es).length<19)&&(apos.endLine==cpos.line)then(iy tc.gl x).bind fun c=>(trL (trE aO tc) (e1::es)).map fun l=>.ini c l else none)else none
   | _=>none)
 | .Call (.Name x _) args [] _=>(match tc.gl.lookup x with
   | some (.fn i np)=>if glB tc.sc x&&!(x==("__debug__":Str))&&!(args.any az)&&decide (args.length=np)&&!args.isEmpty then(trL (trE aO tc) args).map fun l=>.expr (.call i l)else none
   | _=>none)
 | _=>none
def oX(tc:Tc)(e:Option Expr)(cs:Option Expr):Option S:=match e,cs with
 | some (.Call (.Name x _) [a] [] _),none=>if glB tc.sc x&&!(x==("__debug__":Str))&&!az a then(clOf tc.gl x).bind fun c=>(trE aO tc a).map fun t=>.raise c t else none
 | _,_=>none
def Jh(f:Stmt->Option S)(tc:Tc)(body:List Stmt)(hs:List ExceptHandler):Option S:=match hs with
 | [.ExceptHandler (some (.Name cx _)) none [.Return (some (.Constant (.bool cv) _ _)) _] _]=>if glB tc.sc cx&&!(cx==("__debug__":Str))then
  (clOf tc.gl cx).bind fun c=>(trSs f body).map fun b=>.try_ b c none (.cons (.ret (.cst (.bl cv))) .nil)else none
 | _=>none
def Nt:TL->Bool
 | .nil=>false
 | .cons (.var _) _=>true
 | .cons _ l=>Nt l
def J6:TL->Bool
 | .nil=>false
 | .cons (.lst l) r=>Nt l||J6 r
 | .cons _ r=>J6 r
noncomputable def lstV:T->Bool
 | .not (.call _ l)=>J6 l
 | _=>false
noncomputable def trSb(f:Stmt->Option S)(tc:Tc)(st:Stmt):Option S:=match st with
 | .Assign tgs e _=>trA2 tc tgs e
 | .If c a b _=>(trE aO tc c).bind fun t=>(trSs f a).bind fun u=>(trSs f b).map fun v=>if lstV t then .ifq t u v else .ifs t u v
 | .For tg iter body [] _=>(trTg tc tg).bind fun g=>(trI tc (trE aO tc) (nZ tg) iter).bind fun it=>(trSs f body).map fun b=>.for_ g.1 g.2 it b
 | .While c body [] _=>none
 | .Return (some e) _=>(trE aO tc e).bind fun t=>if JD t&&!isName e then none else some (.ret t)
 | .Return none _=>some .retn
 | .Expr e _=>trX tc e
 | .Raise e c _=>oX tc e c
 | .Try body hs [] [] _=>Jh f tc body hs
 | .Pass _=>some .pass
 | .Break _=>some .brk
 | .Continue _=>some .cont
 | _=>none
noncomputable def trS:Nat->Tc->Stmt->Option S
 | 0,_,_=>none
 | n+1,tc,st=>some ((trSb (trS n tc) tc st).getD mY)
theorem Bs{n:Nat}{tc:Tc}{st:Stmt}{t:S}(h:trS (n+1) tc st=some t):trSb (trS n tc) tc st=some t\/t=mY:=by
 have h:some ((trSb (trS n tc) tc st).getD mY)=some t:=h
 cases e:trSb (trS n tc) tc st with
 | none=>rw[e]at h;cases h;exact .inr rfl
 | some u=>rw[e]at h;cases h;exact .inl rfl
structure FitsS(X:Cx)(W:Wd)(tc:Tc)(o:Orc)(k:Nat):Prop extends Fits X W tc o k where
 fn:∀x,X.fn x=true
 pass:Vt (Rt X.prog X.w) X.A X.env X.xe
 stk:X.stack=X.env::X.outer
 frm:X.env.frame=some X.env.locals
 gB:∀x i np,tc.gl.lookup x=some (.fn i np)->∃f fd ps,X.mg x=some (.ref f)/\RL X.K (.ref f)=true/\Binds X.K fd ps []/\FnOk X.prog X.w X.K X.mg X.base (CXZ X.prog X.w X.base W) k f fd ps (spB W (o.fn i) np)
 mB:∀c m f,o.meth c m=some f->∃np,J0 X W o k c f np (strV m)
theorem Fits.nox{X:Cx}{W:Wd}{tc:Tc}{o:Orc}{k:Nat}(F:Fits X W tc o k):Fits X.nox W tc o k:=⟨F.N,F.nd,F.sc,F.K,F.room,F.calm,F.gf,F.gb,F.gv,F.gd,F.xf,F.gdf,F.ob⟩
theorem Right.lift{X:Cx}{W:Wd}{o:Orc}{e:Expr}{t:T}(h:Right X.nox W o e t):Right X W o e t:=⟨fun lk=>PE.lift (h.1 lk),PT.lift h.2⟩
theorem sndX(n:Nat){X:Cx}{W:Wd}{tc:Tc}{o:Orc}{k:Nat}(F:Fits X W tc o k)(e:Expr)(t:T)(h:trE n tc e=some t):Right X W o e t:=Right.lift (sndE n rfl F.nox e t h)
section
variable{X:Cx}{W:Wd}{tc:Tc}{o:Orc}{k:Nat}
theorem lX(F:Fits X W tc o k){x:Str}(h:locB tc.sc x=true):Loc X.env.scope x:=by
 unfold locB at h;rw[F.sc];unfold L2.Loc;split at h
 ·rename_i e;exact .inl e
 ·rename_i e;exact .inr e
 ·cases h
theorem passes(F:FitsS X W tc o k):Vt (Rt X.prog X.w) X.A X.env X.xe:=F.pass
theorem Bc{i:Nat}{e:T}:∀δ c δ',evS o (.set i e) δ≠.ex c δ':=fun δ c δ' h=>by
 simp only[evS]at h
 cases e1:(evF o δ e).2 with
 | ok r=>
   rw[e1]at h;have h:aA ((setSlot (evF o δ e).1 i r.1 r.2).map .nx)=.ex c δ':=h
   cases e2:setSlot (evF o δ e).1 i r.1 r.2 with
   | none=>rw[e2]at h;cases h
   | some δ1=>rw[e2]at h;cases h
 | exc c=>rw[e1]at h;cases h
 | stuck=>rw[e1]at h;cases h
theorem zy{e:Expr}{t:Option Expr}{l:Nat}{env:Env}(h:iY e=false):Vd e t l env=pure false:=by
 cases e<;>first | rfl | (simp[iY]at h)
theorem qZ(F:FitsS X W tc o k):∀{es:List Expr} {is:List Nat},aJ tc es=some is->PGs X es (eN is)/\(Ti es X.env).length=is.length/\(Ti es X.env).findIdx? (·.1)=none
 | [],is,h=>by
   simp only[aJ,Rf]at h;subst h;exact⟨xM,rfl,rfl⟩
 | .Name x p::es,is,h=>by
   simp only[aJ]at h;split at h
   ·rename_i hl
    cases e1:b8 tc.N x with
    | none=>rw[e1]at h;cases h
    | some i=>
      cases e2:aJ tc es with
      | none=>simp[e1,e2]at h
      | some l=>
        simp[e1,e2]at h;subst h;obtain⟨h1,h2,h3⟩:=qZ F e2;refine⟨qX (lD (by rw[F.N];exact F.nd) (by rw[F.N];exact aW e1) (lX F.toFits hl) (.inl (F.fn x))) h1,?_,?_⟩
        ·show(Ti es X.env).length+1=_
         rw[h2];rfl
        ·show List.findIdx? (·.1) ((false,Wa (.Name x p) X.env)::Ti es X.env)=none
         rw[List.findIdx?_cons,h3];rfl
   ·cases h
 | .BoolOp ..::_,_,h=>by simp[aJ]at h
 | .NamedExpr ..::_,_,h=>by simp[aJ]at h
 | .BinOp ..::_,_,h=>by simp[aJ]at h
 | .UnaryOp ..::_,_,h=>by simp[aJ]at h
 | .Lambda ..::_,_,h=>by simp[aJ]at h
 | .IfExp ..::_,_,h=>by simp[aJ]at h
 | .Dict ..::_,_,h=>by simp[aJ]at h
 | .Set ..::_,_,h=>by simp[aJ]at h
 | .ListComp ..::_,_,h=>by simp[aJ]at h
 | .SetComp ..::_,_,h=>by simp[aJ]at h
 | .DictComp ..::_,_,h=>by simp[aJ]at h
 | .GeneratorExp ..::_,_,h=>by simp[aJ]at h
 | .Await ..::_,_,h=>by simp[aJ]at h
 | .Yield ..::_,_,h=>by simp[aJ]at h
 | .YieldFrom ..::_,_,h=>by simp[aJ]at h
 | .Compare ..::_,_,h=>by simp[aJ]at h
 | .Call ..::_,_,h=>by simp[aJ]at h
 | .FormattedValue ..::_,_,h=>by simp[aJ]at h
 | .JoinedStr ..::_,_,h=>by simp[aJ]at h
 | .Constant ..::_,_,h=>by simp[aJ]at h
 | .Attribute ..::_,_,h=>by simp[aJ]at h
 | .Subscript ..::_,_,h=>by simp[aJ]at h
 | .Starred ..::_,_,h=>by simp[aJ]at h
 | .List ..::_,_,h=>by simp[aJ]at h
 | .Tuple ..::_,_,h=>by simp[aJ]at h
 | .Slice ..::_,_,h=>by simp[aJ]at h
theorem Qp(F:FitsS X W tc o k){tg:Expr}{g:List Nat×Bool}(h:trTg tc tg=some g):∃gg,TgOk X W tg g.1 g.2 gg:=by
 cases tg<;>first | exact nope h | simp only[trTg]at h
 ·split at h
  ·rename_i hl
   rename_i x p
   cases e1:b8 tc.N x with
   | none=>rw[e1]at h;cases h
   | some i=>
     rw[e1]at h;cases h;exact⟨_,J7 (by rw[F.N];exact F.nd) (by rw[F.N];exact aW e1) (lX F.toFits hl) (.inl (F.fn x))⟩
  ·cases h
 ·rename_i es kk p
  cases e1:aJ tc es with
  | none=>rw[e1]at h;cases h
  | some l=>
    rw[e1]at h;cases h;obtain⟨h1,h2,h3⟩:=qZ F e1;exact⟨_,O5 F.K F.calm h1 h2 h3⟩
theorem mZ{f:Stmt->Option S}(hf:∀s t,f s=some t->PS X s (tS X W (evS o t))):∀{ss:List Stmt} {l:SL},trSs f ss=some l->PSs X ss (tS X W (evSs o l))
 | [],l,h=>by
   simp only[trSs,Rf]at h;subst h;exact Eg o
 | s::ss,l,h=>by
   simp only[trSs]at h
   cases e1:f s with
   | none=>rw[e1]at h;cases h
   | some t=>
     rw[e1]at h
     cases e2:trSs f ss with
     | none=>simp[e2]at h
     | some l'=>
       simp[e2]at h;subst h;exact vf (hf s t e1) (mZ hf e2)
theorem uw{o' k:Expr}{pp:Pos}{env:Env}(h:isSlice k=false)(v:Value):Wa (.Subscript o' k pp) env v=(do
 let ov <-U7 [v] (Sv o' env)
 let iv <-U7 [v,ov] (Sv k env)
 V8 pp
 U7 [v,ov,iv] (Xo ov iv v)
 release [v,ov,iv] []):=by
 cases k<;>first | rfl | (simp[isSlice]at h)
theorem HB{o' k e:Expr}{pp:Pos}{l:Nat}{env:Env}(h:iY e=false):swapsWithSole [.Subscript o' k pp] e l env=pure false:=by
 cases e<;>first | rfl | (simp[iY]at h)
theorem wG{o' k e:Expr}{pp:Pos}{env:Env}:swappedStores [.Subscript o' k pp] e env=pure none:=by
 cases e<;>rfl
theorem M5(F:FitsS X W tc o k){tgs:List Expr}{e:Expr}{t:S}{pos:Pos}(h:trA tc tgs e=some t):PS X (.Assign tgs e pos) (tS X W (evS o t)):=by
 have E:=fun e t h=>sndX aO F.toFits e t h
 unfold trA at h;split at h
 ·rename_i x px
  split at h
  ·rename_i hc
   simp only[Bool.and_eq_true,Bool.or_eq_true,Bool.not_eq_true']at hc
   cases e1:b8 tc.N x with
   | none=>rw[e1]at h;cases h
   | some i=>
     cases e2:trE aO tc e with
     | none=>simp[e1,e2]at h
     | some u=>
       simp[e1,e2]at h;subst h
       have hnd:X.N.Nodup:=by rw[F.N];exact F.nd
       have hni:X.N[i]?=some x:=by rw[F.N];exact aW e1
       by_cases hcomp:iY e=true
       ·have hc1:qI e=true:=by
         rcases hc.2 with z | z
         ·rw[hcomp]at z;cases z
         ·exact z
        unfold qI at hc1;split at hc1
        ·rename_i elt g scope epos
         have hg0:g.is_async=0:=of_decide_eq_true hc1;obtain⟨tg,iter,ifs,as⟩:=g;simp only at hg0;subst hg0;rw[show aO=39+1 from rfl,Cj,if_pos rfl]at e2;obtain⟨N,m,caps,tup,g,it,c,e,rfl,A⟩:=uP (X:=X.nox) rfl F.toFits.nox (fun X' tc' hx' F' e t h=>sndE 39 hx' F' e t h) e2;refine PS.lift (Ld (bsw:=X.env.blockKind==.function&&X.env.kindOf x==some .local&&px.line==epos.line&&!(scope.names.any fun(n,k)=>n==x&&(k==.local||k==.cell))) A hnd hni (lX F.toFits hc.1) (.inl (F.fn x)) (fun hb=>?_) rfl) Bc;simp only[Bool.and_eq_true,beq_iff_eq]at hb;exact hb.1.1.2
        ·cases hc1
       ·exact Kl hnd hni (lX F.toFits hc.1) ((E e u e2).1 false) (zy (by simpa using hcomp)) (.inl (F.fn x))
  ·cases h
 ·rename_i x p kx pos'
  split at h
  ·rename_i hc
   simp only[Bool.and_eq_true,Bool.not_eq_true']at hc;obtain⟨⟨hv,hsl⟩,hcp⟩:=hc
   cases e1:b8 tc.N x with
   | none=>rw[e1]at h;cases h
   | some i=>
     cases e2:trE aO tc kx with
     | none=>simp[e1,e2]at h
     | some tk=>
       cases e3:trE aO tc e with
       | none=>simp[e1,e2,e3]at h
       | some u=>
         simp[e1,e2,e3]at h;subst h;obtain⟨h1,h2,h3⟩:=dW F.toFits hv;exact Jo F.K (xG F.room) (ir (by rw[F.N];exact aW e1) h1 h2 h3) ((E kx tk e2).1 true) ((E e u e3).1 false) (uw hsl) (HB hcp) wG rfl
  ·cases h
 ·rename_i x p fn pos'
  split at h
  ·rename_i hc
   simp only[Bool.and_eq_true]at hc
   cases e1:b8 tc.N x with
   | none=>rw[e1]at h;cases h
   | some i=>
     cases e3:trE aO tc e with
     | none=>simp[e1,e3]at h
     | some u=>
       simp[e1,e3]at h;subst h;obtain⟨h1,h2,h3⟩:=dW F.toFits hc.1;exact Ja (dz fn).symm (nj F.toFits hc.2) (ir (by rw[F.N];exact aW e1) h1 h2 h3) ((E e u e3).1 false)
  ·cases h
 ·cases h
theorem BW(F:FitsS X W tc o k){tgs:List Expr}{e:Expr}{t:S}{pos:Pos}(h:Ho tc tgs e=some t):PS X (.Assign tgs e pos) (tS X W (evS o t)):=by unfold Ho at h;cases h
theorem Ht(F:FitsS X W tc o k){tgs:List Expr}{e:Expr}{t:S}{pos:Pos}(h:trSx tc tgs e=some t):PS X (.Assign tgs e pos) (tS X W (evS o t)):=by unfold trSx at h;cases h
theorem Gx(F:FitsS X W tc o k){tgs:List Expr}{e:Expr}{t:S}{pos:Pos}(h:trA2 tc tgs e=some t):PS X (.Assign tgs e pos) (tS X W (evS o t)):=by
 unfold trA2 at h;split at h
 ·rename_i t' e1
  cases h;exact Ht F e1
 ·split at h
  ·rename_i t' e1
   cases h;exact BW F e1
  ·exact M5 F h
theorem JV(F:FitsS X W tc o k){x:Str}{e:Expr}{ok:Bool}{t:S}{p apos cpos pos:Pos}(h:EY tc x e ok=some t)(hok:ok=(apos.endLine==cpos.line)):PS X (.Expr (.Call (.Attribute (.Name x p) "update" apos) [e] [] cpos) pos) (tS X W (evS o t)):=by unfold EY at h;cases h
theorem Gg(F:FitsS X W tc o k){x m:Str}{e:Expr}{ok:Bool}{t:S}{p apos cpos pos:Pos}(h:xY tc x m e ok=some t)(hok:ok=(apos.endLine==cpos.line)):PS X (.Expr (.Call (.Attribute (.Name x p) m apos) [e] [] cpos) pos) (tS X W (evS o t)):=by
 have E:=fun e t h=>sndX aO F.toFits e t h
 unfold xY at h;split at h
 ·rename_i em
  subst em;split at h
  ·rename_i hc
   simp only[Bool.and_eq_true,Bool.not_eq_true']at hc;obtain⟨⟨h0,hx⟩,s1⟩:=hc;rw[hok]at h0;obtain⟨h1,h2,h3⟩:=dW F.toFits hx
   cases e1:b8 tc.N x with
   | none=>rw[e1]at h;cases h
   | some i=>
     cases e2:trE aO tc e with
     | none=>simp[e1,e2]at h
     | some ta=>
       simp[e1,e2]at h;subst h;exact IV (ir (by rw[F.N];exact aW e1) h1 h2 h3) ((E e ta e2).1 true) ⟨cM rfl,few1 s1,h0,by rw[bI s1];rfl⟩
  ·cases h
 ·cases h
theorem FJ(F:FitsS X W tc o k){x:Str}{a b:Expr}{es:List Expr}{ok:Bool}{t:S}{p apos cpos pos:Pos}(h:xF tc x a b es ok=some t)(hok:ok=(apos.endLine==cpos.line)):PS X (.Expr (.Call (.Attribute (.Name x p) "pop" apos) (a::b::es) [] cpos) pos) (tS X W (evS o t)):=by unfold xF at h;cases h
theorem K3(F:Fits X W tc o k){c:Nat}{x self:Str}{es:List Expr}{l:TL}{p p' cpos pos apos:Pos}{pl:Sem Bool}(hm:X.mg x=some (.ref (W.CT c)))(hg:Gl X x)(hdb:(x==("__debug__":Str))=false)(hv:PE X (.Name self p') (tVar 0))(hl:PA X es (tL X W fun δ=>evL o δ l))
 (hpl:(SN cpos (Rj es X.env)).any (·.1)=false)
 (ht:Sv (.Call (.Attribute (.Name x p) "__init__" apos) (.Name self p'::es) [] cpos) X.env=(do
  let ov <-Sv (.Name x p) X.env
  V8 apos.atName
  let(f,first) <-U7 [ov] (V6 ov "__init__" pl)
  VM cpos f first (SN cpos (Rj (.Name self p'::es) X.env)) (UW cpos (Tr [] X.env)))) :
 PS X (.Expr (.Call (.Attribute (.Name x p) "__init__" apos) (.Name self p'::es) [] cpos) pos) (tS X W (evS o (.ini c l))):=by
 have no:(∀δ,∃δ' ,∀r,(evL o δ l).bind (fun x=>(XR (ownD δ 0)).bind fun q=>(XR (o.init c)).bind fun f=>Y5 (!x.1) ((o.ini f q.2 x.2).bind fun d=>.ok (q.1,d)))≠.ok r/\δ'=δ)->PS X (.Expr (.Call (.Attribute (.Name x p) "__init__" apos) (.Name self p'::es) [] cpos) pos) (tS X W (evS o (.ini c l))):=fun hz pins s σ H D I hw=>by
  obtain⟨me,B,δ,S,h⟩:=hw;simp only[evS]at h;obtain⟨r,e0,_⟩:=SO.of_ok h;obtain⟨_,q⟩:=hz δ;exact absurd e0 (q r).1
 cases ei:o.init c with
 | none=>
   refine no fun δ=>⟨δ,fun r=>⟨?_,rfl⟩⟩
   rw[ei]
   cases evL o δ l with
   | ok y=>cases ownD δ 0<;>exact fun z=>nomatch z
   | exc c=>exact fun z=>nomatch z
   | stuck=>exact fun z=>nomatch z
 | some f=>
   obtain⟨fa,fd,ps,np,h1,h2,h3,h4,h5⟩:=F.ob.ini c f ei;rcases h5 with h5 | ⟨j,hj,h5⟩
   ·refine no fun δ=>⟨δ,fun r=>⟨?_,rfl⟩⟩
    rw[ei]
    cases evL o δ l with
    | ok y=>
      cases ownD δ 0 with
      | none=>exact fun z=>nomatch z
      | some q=>
        simp only[XS,XR,h5,Y5]
        split<;>exact fun z=>nomatch z
    | exc c=>exact fun z=>nomatch z
    | stuck=>exact fun z=>nomatch z
   ·exact NQ ei h4 h2 h5 (F.room.mono (by omega)) hg hm h3 hv hl hdb rfl hpl ht
theorem Ir(F:FitsS X W tc o k){a e:Expr}{name:Str}{ok:Bool}{t:T}{apos cpos pos:Pos}(h:ur (trE aO tc) a name [e] ok=some t)(hok:ok=(apos.endLine==cpos.line)):PS X (.Expr (.Call (.Attribute a name apos) [e] [] cpos) pos) (tS X W (evS o (.expr t))):=by
 have E:=fun e t h=>sndX aO F.toFits e t h
 have hraw:=DQ F.toFits E h hok true (apos:=apos) (cpos:=cpos);unfold ur at h;split at h
 ·rename_i hc
  simp only[Bool.and_eq_true,Bool.not_eq_true',decide_eq_true_eq]at hc;obtain⟨⟨⟨h1,h2⟩,hst⟩,hn⟩:=hc;rw[hok]at h1
  cases e1:trE aO tc a with
  | none=>rw[e1]at h;cases h
  | some ta=>
  cases e2:trL (trE aO tc) [e]with
  | none=>simp[e1,e2]at h
  | some l=>
  simp[e1,e2]at h;subst h;have hst':=hst;simp only[S6,Bool.or_eq_false_iff]at hst';exact Be (dz name).symm (fun c g e=>F.mB c _ g e) F.room (fun lk=>(E a ta e1).1 lk) (cL (fun e t h=>(E e t h).1) e2 hst) (bI hst'.1) (bZ hst'.2) (GQ (name:=name) (env:=X.env) h2 hst hn h1) hraw
 ·cases h
theorem N8(F:FitsS X W tc o k){e:Expr}{t:S}{pos:Pos}(h:trX tc e=some t):PS X (.Expr e pos) (tS X W (evS o t)):=by
 have E:=fun e t h=>sndX aO F.toFits e t h
 unfold trX at h;split at h
 ·rename_i x p m apos e cpos
  split at h
  ·rename_i ex
   subst ex;split at h
   ·rename_i hc
    simp only[Bool.and_eq_true,Bool.not_eq_true']at hc;obtain⟨h1,h2,h3⟩:=dW F.toFits hc.1.1
    cases e1:b8 tc.N x with
    | none=>rw[e1]at h;cases h
    | some i=>
      cases e2:trE aO tc e with
      | none=>simp[e1,e2]at h
      | some u=>
        simp[e1,e2]at h;subst h;exact wD (ir (by rw[F.N];exact aW e1) h1 h2 h3) ((E e u e2).1 false) hc.1.2 hc.2
   ·cases h
  ·split at h
   ·rename_i ex
    subst ex;exact JV F h rfl
   ·split at h
    ·rename_i ex
     obtain⟨rfl,hq⟩:=ex;split at h
     ·rename_i hc
      simp only[Bool.and_eq_true,Bool.not_eq_true']at hc;obtain⟨h1,h2,h3⟩:=dW F.toFits hc.1.1
      cases e1:b8 tc.N x with
      | none=>rw[e1]at h;cases h
      | some i=>
        cases e2:trE aO tc e with
        | none=>simp[e1,e2]at h
        | some u=>
          simp[e1,e2]at h;subst h;exact zN hq (ir (by rw[F.N];exact aW e1) h1 h2 h3) ((E e u e2).1 false) hc.1.2 hc.2
     ·cases h
    ·split at h
     ·obtain⟨t',eo,rfl⟩:=T7.mp h
      exact Ir F eo rfl
     ·exact Gg F h rfl
 ·cases h
 ·rename_i x p m apos e0 e1 es cpos
  split at h
  ·rename_i ex
   subst ex;exact FJ F h rfl
  split at h
  case h_2=>cases h
  rename_i s p';split at h
  ·rename_i ex
   subst ex;split at h
   ·rename_i hc
    simp only[Bool.and_eq_true,Bool.not_eq_true',decide_eq_true_eq]at hc;obtain⟨⟨⟨⟨⟨⟨hg,hdb⟩,hv⟩,hs0⟩,hst⟩,hlen⟩,hline⟩:=hc;obtain⟨h1,h2,h3⟩:=dW F.toFits hv
    cases ec:iy tc.gl x with
    | none=>rw[ec]at h;cases h
    | some c=>
    cases e2:trL (trE aO tc) (e1::es)with
    | none=>simp[ec,e2]at h
    | some l=>
      simp[ec,e2]at h;subst h;have hm:=F.ob.nm x c ec;have hpa:=cL (X:=X) (W:=W) (o:=o) (fun e t h=>(E e t h).1) e2 hst
      have hst2:(Expr.Name s p'::e1::es).any az=false:=by rw[S6,hst];rfl
      exact K3 F.toFits hm (dF F.toFits hg) hdb (ir (by rw[F.N];exact aW hs0) h1 h2 h3) hpa (bZ hst) (GQ rfl hst2 (by simp only[Rv]at hlen ⊢;omega) hline)
   ·cases h
  ·cases h
 ·rename_i x p args cp
  split at h
  ·rename_i i np ei
   split at h
   ·rename_i hc
    simp only[Bool.and_eq_true,Bool.not_eq_true',decide_eq_true_eq]at hc;obtain⟨⟨⟨⟨hg,hdb⟩,hst⟩,hlen⟩,hne⟩:=hc
    cases e2:trL (trE aO tc) args with
    | none=>rw[e2]at h;cases h
    | some l=>
      rw[e2]at h;cases h
      cases args with
      | nil=>cases hne
      | cons a as=>
        have hst':=hst;simp only[S6,Bool.or_eq_false_iff]at hst';obtain⟨fa,fd,ps,h1,h2,h3,h4⟩:=F.gB x i np ei;obtain⟨fa',fd',ps',g1,g2,g3,g4⟩:=F.gf x i np ei;have hpa:=cL (X:=X) (W:=W) (o:=o) (fun e t h=>(E e t h).1) e2 hst
        have hn:∀δ r,evL o δ l=.ok r->r.2.length=np:=fun δ r e=>by rw[jZ e2 δ r e];exact hlen
        exact Bw hn h4 F.room (dF F.toFits hg) h1 h2 h3 hpa hdb (bI hst'.1) (bZ hst'.2) (Cu hn g4 F.room (dF F.toFits hg) g1 g2 g3 hpa hdb (bI hst'.1) (bZ hst'.2))
   ·cases h
  ·cases h
 ·cases h
theorem ul(F:FitsS X W tc o k){e cs:Option Expr}{t:S}{pos:Pos}(h:oX tc e cs=some t):PS X (.Raise e cs pos) (tS X W (evS o t)):=by
 unfold oX at h;split at h
 ·rename_i x np a cpos
  split at h
  ·rename_i hc
   simp only[Bool.and_eq_true,Bool.not_eq_true']at hc;obtain⟨⟨hg,hdb⟩,hst⟩:=hc
   cases e1:clOf tc.gl x with
   | none=>rw[e1]at h;cases h
   | some c=>
     cases e2:trE aO tc a with
     | none=>simp[e1,e2]at h
     | some u=>
       simp[e1,e2]at h;subst h;obtain⟨hm,bm,hx⟩:=F.xf.gc x c e1;exact yZ F.calm (dF F.toFits hg) hm hx hdb ((sndX aO F.toFits a u e2).1 true) hst
  ·cases h
 ·cases h
theorem FitsS.inT(F:FitsS X W tc o k)(pn:List (Addr×Obj))(E:Value->Shared->Prop)(hp:Vt (Rt X.prog X.w) X.A X.env E):FitsS (cxT X pn E) W tc o k :=
 ⟨⟨F.N,F.nd,F.sc,F.K,F.room,F.calm,F.gf,F.gb,F.gv,F.gd,F.xf,F.gdf,F.ob⟩,F.fn,hp,F.stk,F.frm,F.gB,F.mB⟩
theorem yW(F:FitsS X W tc o k){f:Stmt->Option S}(hf:∀{Y:Cx},FitsS Y W tc o k->∀s t,f s=some t->PS Y s (tS Y W (evS o t))){body:List Stmt}{hs:List ExceptHandler}{t:S}{pos:Pos}(h:Jh f tc body hs=some t):PS X (.Try body hs [] [] pos) (tS X W (evS o t)):=by
 unfold Jh at h;split at h
 ·rename_i cx np cv kk kp rp hpos
  split at h
  ·rename_i hc
   simp only[Bool.and_eq_true,Bool.not_eq_true']at hc;obtain⟨hg,hdb⟩:=hc
   cases e1:clOf tc.gl cx with
   | none=>rw[e1]at h;cases h
   | some c=>
   cases e4:trSs f body with
   | none=>simp[e1,e4]at h
   | some b=>
   simp[e1,e4]at h;subst h;obtain⟨hm,bP,hxP⟩:=F.xf.gc cx c e1;refine Hi (fun δ c δ' z=>by simp[evS,evF,ev,SO.of]at z) F.stk F.frm (dF F.toFits hg) hm hdb (fun c' hsub=>?_) (fun pn E hp=>mZ (X:=cxT X pn E) (hf (F.inT pn E hp)) e4) (fun pn v=>?_)
   ·obtain⟨bC,x1,x2⟩:=F.xf.gh cx c' c e1 hsub
    exact⟨bP,bC,hxP,x1,x2⟩
   ·exact Dq (X:=cxM X pn v) (fun i z=>nomatch z) (uD (v:=.bl cv) Hw (fun G=>by simp only[Rep]) o)
  ·cases h
 ·cases h
theorem Gi{st:Stmt}:PS X st (tS X W (evS o mY)):=fun pins s σ H D I hw=>by
 obtain⟨_,_,_,_,h⟩:=hw;simp only[mY,evS,ev,SO.of,AfterS]at h
theorem sndS:∀(n:Nat) {X:Cx} {tc:Tc},FitsS X W tc o k->∀(st:Stmt) (t:S),trS n tc st=some t->PS X st (tS X W (evS o t)):=by
 intro n
 induction n with
 | zero=>intro X tc F st t h;exact nope h
 | succ n ih'=>
   intro X tc F st t h0
   have ih:=fun st t h=>ih' F st t h
   have E:=fun e t h=>sndX aO F.toFits e t h
   rcases Bs h0 with h | rfl
   case inr=>exact Gi
   cases st with
   | Assign tgs e pos=>
     delta trSb at h;dsimp only at h;exact Gx F h
   | Raise e c pos=>
     delta trSb at h;dsimp only at h;exact ul F h
   | Try body hs orelse fin pos=>
     cases orelse with
     | cons _ _=>exact nope h
     | nil=>
       cases fin with
       | cons _ _=>exact nope h
       | nil=>
         delta trSb at h;dsimp only at h;exact yW F (fun{Y} FY s t h=>ih' FY s t h) h
   | Expr e pos=>
     delta trSb at h;dsimp only at h;exact N8 F h
   | If c a b pos=>
     delta trSb at h;dsimp only at h
     cases e1:trE aO tc c with
     | none=>rw[e1]at h;cases h
     | some u=>
       cases e2:trSs (trS n tc) a with
       | none=>simp[e1,e2]at h
       | some sa=>
         cases e3:trSs (trS n tc) b with
         | none=>simp[e1,e2,e3]at h
         | some sb=>
           simp only[e1,e2,e3,Rq,RJ,Rf]at h;split at h
           ·subst h;exact LQ (E c u e1).2 (mZ ih e2) (mZ ih e3)
           ·subst h;exact Oo (E c u e1).2 (mZ ih e2) (mZ ih e3)
   | For tg iter body orelse pos=>
     cases orelse with
     | cons _ _=>exact nope h
     | nil=>
       delta trSb at h;dsimp only at h
       cases e1:trTg tc tg with
       | none=>rw[e1]at h;cases h
       | some g=>
         cases e2:trI tc (trE aO tc) (nZ tg) iter with
         | none=>simp[e1,e2]at h
         | some it=>
           cases e3:trSs (trS n tc) body with
           | none=>simp[e1,e2,e3]at h
           | some sb=>
             simp[e1,e2,e3]at h;subst h;obtain⟨gg,hg⟩:=Qp F e1;obtain⟨hi,hs⟩:=v9 F.toFits E tg e2 false;exact Jt (passes F) F.calm hg hi (mZ ih e3) hs
   | While c body orelse pos=>
     cases orelse with
     | cons _ _=>exact nope h
     | nil=>exact nope h
   | Return v pos=>
     cases v with
     | none=>
       delta trSb at h;simp only[Rf]at h;subst h;exact Gy
     | some e=>
       delta trSb at h;dsimp only at h
       cases e1:trE aO tc e with
       | none=>rw[e1]at h;cases h
       | some u=>
         rw[e1]at h;simp only[Rq]at h;split at h
         ·cases h
         rename_i hc;cases h
         by_cases hv:∃i,u=.var i
         ·obtain⟨i,rfl⟩:=hv
          cases e with
          | Name x px=>
            rw[show aO=39+1 from rfl,zm]at e1;split at e1
            ·rename_i hv
             obtain⟨h1,h2,h3⟩:=dW F.toFits hv
             cases e2:b8 tc.N x with
             | none=>rw[e2]at e1;cases e1
             | some j=>
               rw[e2]at e1;cases e1;exact Fy (by rw[F.N];exact aW e2) h1 h2 h3
            ·split at e1
             ·split at e1<;>cases e1
             ·cases e1
          | _=>simp[JD,isName]at hc
         ·exact Dq (fun i z=>hv ⟨i,z⟩) ((E e u e1).1 false)
   | Pass pos=>delta trSb at h;simp only[Rf]at h;subst h;exact Fz
   | Break pos=>delta trSb at h;simp only[Rf]at h;subst h;exact Oc
   | Continue pos=>delta trSb at h;simp only[Rf]at h;subst h;exact Er
   | _=>exact nope h
end
end Z
namespace Z
open PySem PySem.Spec PyProof.Rows L2
structure Df where
 name:Str
 qual:Str
 st:Stmt
 N:List Str
 ps:List Str
 fd:Fd
noncomputable def glOf:Nat->List Df->List (Str×Gk)
 | _,[]=>[]
 | i,d::l=>(d.name,.fn i d.ps.length)::glOf (i+1) l
theorem rB:∀{l:List Df} {i:Nat},(glOf i l).lookup x=some (.fn j np)->∃d k,j=i+k/\l[k]?=some d/\d.name=x/\d.ps.length=np
 | [],_,h=>by simp[glOf]at h
 | d::l,i,h=>by
   simp only[glOf,SQ]at h
   cases e:(x==d.name)with
   | true=>
     rw[e]at h;simp only[Rf,Gk.fn.injEq]at h;exact⟨d,0,by omega,rfl,(eq_of_beq e).symm,h.2⟩
   | false=>
     rw[e]at h;obtain⟨d',k,h1,h2,h3⟩:=rB h;exact⟨d',k+1,by omega,by simpa using h2,h3⟩
def NoFn(cs:List (Str×Gk)):Prop:=∀p∈cs,∀i np,p.2≠.fn i np
theorem lookup_append:∀{l m:List (Str×α)},(l++m).lookup x=(l.lookup x).or (m.lookup x)
 | [],m=>by simp
 | (y,g)::l,m=>by
   simp only[V9,SQ];cases (x==y)
   ·exact lookup_append
   ·rfl
theorem lookup_mem:∀{l:List (Str×α)},l.lookup x=some v->(x,v)∈l
 | [],h=>by simp at h
 | (y,g)::l,h=>by
   simp only[SQ]at h
   cases e:(x==y)with
   | true=>
     rw[e]at h;cases h;have:=eq_of_beq e;subst this;exact Rg
   | false=>rw[e]at h;exact Rb _ (lookup_mem h)
theorem oF(hc:NoFn cs)(h:(glOf 0 l++cs).lookup x=some (.fn j np)):∃d k,j=0+k/\l[k]?=some d/\d.name=x/\d.ps.length=np:=by
 rw[lookup_append]at h
 cases e:(glOf 0 l).lookup x with
 | some q=>
   rw[e]at h;cases h;exact rB e
 | none=>
   rw[e]at h;exact absurd rfl (hc _ (lookup_mem h) j np)
structure DfOk(gl:List (Str×Gk))(d:Df):Prop where
 sc:FnScope d.N d.ps (aF d.st)
 np:d.ps.length=d.fd.np
 ns:d.N.length=d.fd.ns
 tr:trSs (trS 40 ⟨d.N,aF d.st,gl⟩) (bB d.st)=some d.fd.body\/d.fd.body=lq
section
variable{P:Rz}{w:RT}{K:Ra}{mg:Str->Option Value}{base:Rk}{W:Wd}{p:Prg}{w0:Nat}{gl:List (Str×Gk)}
def DfAt(K:Ra)(mg:Str->Option Value)(d:Df):Prop:=∃f fd,Fun K d.name d.qual d.st f fd/\Binds K fd d.ps []/\mg d.name=some (.ref f)
def yM(P:Rz)(w:RT)(K:Ra)(mg:Str->Option Value)(base:Rk)(W:Wd)(p:Prg)(w0:Nat)(gl:List (Str×Gk))(n:Nat):Prop :=
 (∀x i np,gl.lookup x=some (.fn i np)->∃f fd ps,mg x=some (.ref f)/\RL K (.ref f)=true/\Binds K fd ps []/\FnOk P w K mg base (CXZ P w base W) n f fd ps (spB W ((orc p w0 n).fn i) np)) /\
 ∀x v i np,gl.lookup ("!d":Str)=some (.dfl x v)->gl.lookup x=some (.fn i np)->∃f fd ps vs,mg x=some (.ref f)/\RL K (.ref f)=true/\Binds K fd ps vs/\Vals [.int v] vs/\FnOk P w K mg base (CXZ P w base W) n f fd ps (spB W ((orc p w0 n).fn i) np)
theorem v4(p:Prg)(w0:Nat):∀n,(orc p w0 n).sub=p.sub
 | 0=>rfl
 | _+1=>rfl
theorem zj(o:Orc)(np ns:Nat)(args:List D):bf o ⟨np,ns,lq⟩ args=.stuck:=by
 unfold bf;split
 ·simp[lq,mY,evSs,evS,ev,SO.of]
 ·rfl
theorem qO(p:Prg)(w0:Nat):∀n,(orc p w0 n).init=p.init
 | 0=>rfl
 | _+1=>rfl
theorem rN(p:Prg)(w0:Nat):∀n,(orc p w0 n).meth=p.meth
 | 0=>rfl
 | _+1=>rfl
def MsOk(P:Rz)(w:RT)(K:Ra)(mg:Str->Option Value)(base:Rk)(W:Wd)(p:Prg)(w0:Nat)(ms:List Df)(ad:Nat->Addr)(b n:Nat):Prop :=
 ∀i d,ms[i]?=some d->∃fd,Binds K fd d.ps []/\FnOk P w K mg base (CXZ P w base W) n (ad i) fd d.ps (spB W ((orc p w0 n).fn (b+i)) d.ps.length)/\FnOk P w K mg base (CXZ P w base W) (n-1) (ad i) fd d.ps (spI W ((orc p w0 n).ini (b+i)) d.ps.length)
structure ClFacts(K:Ra)(mg:Str->Option Value)(W:Wd)(p:Prg)(gl:List (Str×Gk))(ms:List Df)(ad:Nat->Addr)(b:Nat):Prop where
 nm:∀x c,iy gl x=some c->mg x=some (.ref (W.CT c))
 is:∀x c',iy gl x=some c'->∀c,p.sub c c'=true->Uy K (.ref (W.CT c)) (W.CT c')=true
 fld:∀fl f,gl.lookup ("!f":Str)=some (.names fl)->f∈fl->∀c,(p.init c).isSome=true->Cls K (W.CT c)/\NoAttr K (W.CT c) (strV f)
 ini:∀c f,p.init c=some f->∃i d,f=b+i/\ms[i]?=some d/\Mk K (W.CT c) (ad i)/\ClsFn K (W.CT c) "__init__" (ad i)
 mt:∀c m f,p.meth c m=some f->∃i d,f=b+i/\ms[i]?=some d/\Cls K (W.CT c)/\Meth K (W.CT c) (strV m) (ad i)
theorem Et(h:bf o d ds=.ok r):ds.length=d.np:=by
 unfold bf at h;split at h
 ·assumption
 ·cases h
theorem Bp(h:cz o d s ds=.ok y):ds.length+1=d.np:=by
 unfold cz at h;split at h
 ·assumption
 ·cases h
section
variable{ms:List Df}{ad:Nat->Addr}{b:Nat}
theorem xu(C:ClFacts K mg W p gl ms ad b)(M:MsOk P w K mg base W p w0 ms ad b n)(hok:∀(i:Nat) (d:Df),ms[i]?=some d->DfOk gl d)(hf:∀(i:Nat) (d:Df),ms[i]?=some d->p.fns[b+i]?=some d.fd):ObjFacts P w K mg base W gl (orc p w0 n) n:=by
 refine⟨C.nm,fun x c' h c e=>C.is x c' h c (by rw[v4]at e;exact e),fun fl f h1 h2 c h3=>C.fld fl f h1 h2 c (by rw[qO]at h3;exact h3),fun c f h=>?_,fun c m f h=>?_⟩
 ·rw[qO]at h
  obtain⟨i,d,rfl,h1,h2,h3⟩:=C.ini c f h;obtain⟨fd,g1,g2,g3⟩:=M i d h1;refine⟨ad i,fd,d.ps,d.ps.length,h2,h3,g1,fun s a y e=>?_,?_⟩
  ·match n,e with
   | 0,e=>cases e
   | 1,e=>cases e
   | m+2,e=>
     rw[fC (hf i d h1)]at e;rw[Bp e,(hok i d h1).np]
  ·cases n with
   | zero=>exact .inl fun _ _=>rfl
   | succ m=>exact .inr ⟨m,by omega,ok0I g3⟩
 ·rw[rN]at h
  obtain⟨i,d,rfl,h1,h2,h3⟩:=C.mt c m f h;obtain⟨fd,g1,g2,g3⟩:=M i d h1;refine⟨d.ps.length,ad i,fd,d.ps,h2,h3,g1,fun a y e=>?_,ok0 g2⟩
  cases n with
  | zero=>cases e
  | succ m=>
    rw[aN (hf i d h1)]at e;rw[Et e,(hok i d h1).np]
def BJ(P:Rz)(w:RT)(K:Ra)(mg:Str->Option Value)(base:Rk)(W:Wd)(o:Orc)(n:Nat):Prop:=∀c m f,o.meth c m=some f->∃np fa fd ps,Cls K (W.CT c)/\Meth K (W.CT c) (strV m) fa/\Binds K fd ps []/\(∀ds,o.fn f ds≠.stuck->ds.length=np)/\FnOk P w K mg base (CXZ P w base W) n fa fd ps (spB W (o.fn f) np)
theorem Hb(C:ClFacts K mg W p gl ms ad b)(M:MsOk P w K mg base W p w0 ms ad b n)(hok:∀(i:Nat) (d:Df),ms[i]?=some d->DfOk gl d)(hf:∀(i:Nat) (d:Df),ms[i]?=some d->p.fns[b+i]?=some d.fd):BJ P w K mg base W (orc p w0 n) n:=by
 intro c m f h;rw[rN]at h;obtain⟨i,d,rfl,h1,h2,h3⟩:=C.mt c m f h;obtain⟨fd,g1,g2,g3⟩:=M i d h1;refine⟨d.ps.length,ad i,fd,d.ps,h2,h3,g1,fun a e=>?_,g2⟩
 cases n with
 | zero=>exact absurd rfl e
 | succ m=>
   rw[aN (hf i d h1)]at e;unfold bf at e;split at e
   ·rename_i q;rw[q,(hok i d h1).np]
   ·exact absurd rfl e
structure Ground(P:Rz)(w:RT)(K:Ra)(mg:Str->Option Value)(W:Wd)(p:Prg)(gl:List (Str×Gk)):Prop where
 hk:W.K=K
 hgb:∀x∈bltNames,gl.lookup x=none->mg x=none
 hgv:∀x d,gl.lookup x=some (.val d)->∃u v,mg x=some u/\RelV v u/\∀G,Rep W G d v
 hgd:∀x ks vs,gl.lookup x=some (.dct ks vs)->∃ad,mg x=some (.ref ad)/\KDct P w W ad ks vs
 xf:XFacts K mg W p.sub (clOf gl)
 hdf:∀x v i np,gl.lookup ("!d":Str)=some (.dfl x v)->gl.lookup x=some (.fn i np)->∃d f fd vs,p.fns[i]?=some d.fd/\DfOk gl d/\d.ps.length=np/\Fun K d.name d.qual d.st f fd/\Binds K fd d.ps vs/\Vals [.int v] vs/\mg x=some (.ref f)
theorem yt(G:Ground P w K mg W p gl)(ok:DfOk gl d)(tr:trSs (trS 40 ⟨d.N,aF d.st,gl⟩) (bB d.st)=some d.fd.body)(ih:yM P w K mg base W p w0 gl n)(ob:ObjFacts P w K mg base W gl (orc p w0 n) n)(mb:BJ P w K mg base W (orc p w0 n) n)
 (cdv:Value) (A:RV) (outer:List Env) (s:Shared) (H:Hp) (E:XK) (hr:Room n (A.deeper (Wr d.qual (aF d.st) s.heap.objs.size f cdv))) :
 PSs (cxX P w K mg base W d.N d.qual d.st f cdv A outer s H E) (bB d.st) (tS (cxX P w K mg base W d.N d.qual d.st f cdv A outer s H E) W (evSs (orc p w0 n) d.fd.body)):=by
 have FT:FitsS (cxX P w K mg base W d.N d.qual d.st f cdv A outer s H E) W ⟨d.N,aF d.st,gl⟩ (orc p w0 n) n :=
  ⟨⟨rfl,ok.sc.nd,rfl,G.hk,hr,rfl,fun x i np h=>(let⟨f,fd,ps,h1,h2,h3,h4⟩:=ih.1 x i np h;⟨f,fd,ps,h1,h2,h3,ok0 h4⟩),G.hgb,G.hgv,G.hgd,by rw[v4];exact G.xf,fun x v i np h h'=>(let⟨f,fd,ps,vs,h1,h2,h3,h5,h4⟩:=ih.2 x v i np h h';⟨f,fd,ps,vs,h1,h2,h3,h5,ok0 h4⟩),ob⟩,fun _=>rfl,wX,rfl,rfl,ih.1,mb⟩
 exact mZ (sndS 40 FT) tr
theorem lr(G:Ground P w K mg W p gl)(F:Fun K d.name d.qual d.st f fd)(ok:DfOk gl d)(hi:p.fns[i]?=some d.fd)(ih:yM P w K mg base W p w0 gl n)(ob:ObjFacts P w K mg base W gl (orc p w0 n) n)(mb:BJ P w K mg base W (orc p w0 n) n) :
 FnOk P w K mg base (CXZ P w base W) (n+1) f fd d.ps (spB W ((orc p w0 (n+1)).fn i) d.ps.length):=by
 have e:(orc p w0 (n+1)).fn i=bf (orc p w0 n) ⟨d.ps.length,d.N.length,d.fd.body⟩:=by
  funext a
  have e2:d.fd=⟨d.ps.length,d.N.length,d.fd.body⟩:=by
   rw[ok.np,ok.ns]
  show(match p.fns[i]? with | some d=>bf (orc p w0 n) d a | none=>.stuck)=_;rw[hi,<-e2]
 rw[e];rcases ok.tr with tr | hole
 case inr=>
  refine⟨fun vs H Q E q=>q.elim (·.1) (·.1),fun A outer s H args us vs Q E _ _ _ _ q=>?_⟩;rcases q with⟨_,_,_,_,_,_,r,e,_⟩ | ⟨_,_,_,_,_,_,r,e,_⟩<;>(rw[hole,zj]at e;cases e)
 exact vd F ok.sc rfl rfl (fun cdv A outer s H E hr=>yt G ok tr ih ob mb cdv A outer s H E hr) G.hk
theorem z7(o:Orc)(np ns:Nat)(s:D)(args:List D):cz o ⟨np,ns,lq⟩ s args=.stuck:=by
 unfold cz;split
 ·simp[lq,mY,evSs,evS,ev,SO.of]
 ·rfl
theorem zT(G:Ground P w K mg W p gl)(F:Fun K d.name d.qual d.st f fd)(ok:DfOk gl d)(hi:p.fns[i]?=some d.fd)(ih:yM P w K mg base W p w0 gl n)(ob:ObjFacts P w K mg base W gl (orc p w0 n) n)(mb:BJ P w K mg base W (orc p w0 n) n) :
 FnOk P w K mg base (CXZ P w base W) (n+1) f fd d.ps (spI W ((orc p w0 (n+2)).ini i) d.ps.length):=by
 have e:(orc p w0 (n+2)).ini i=cz (orc p w0 n) ⟨d.ps.length,d.N.length,d.fd.body⟩:=by
  funext s a
  have e2:d.fd=⟨d.ps.length,d.N.length,d.fd.body⟩:=by
   rw[ok.np,ok.ns]
  show(match p.fns[i]? with | some d=>cz (orc p w0 n) d s a | none=>.stuck)=_;rw[hi,<-e2]
 rw[e];rcases ok.tr with tr | hole
 case inr=>
  refine⟨fun vs H Q E q=>q.1,fun A outer s H args us vs Q E _ _ _ _ q=>?_⟩;obtain⟨_,_,_,_,_,_,_,_,_,_,_,_,_,e,_⟩:=q;rw[hole,z7]at e;cases e
 exact wz F ok.sc rfl rfl (fun cdv A outer s H E hr=>yt G ok tr ih ob mb cdv A outer s H E hr) G.hk
theorem w5(hp:np=ps.length)(h:∀a,g a=.stuck):FnOk P w K mg base (CXZ P w base W) k f fd ps (spB W g np):=by
 refine⟨fun vs H Q E q=>by rw[<-hp];exact q.elim (·.1) (·.1),fun A outer s H args us vs Q E _ _ _ _ q=>?_⟩;rcases q with⟨_,_,_,_,_,_,r,e,_⟩ | ⟨_,_,_,_,_,_,r,e,_⟩<;>(rw[h]at e;cases e)
theorem Dm(hp:np=ps.length)(h:∀s a,g s a=.stuck):FnOk P w K mg base (CXZ P w base W) k f fd ps (spI W g np):=by
 refine⟨fun vs H Q E q=>by rw[<-hp];exact q.1,fun A outer s H args us vs Q E _ _ _ _ q=>?_⟩;obtain⟨_,_,_,_,_,_,_,_,_,_,_,_,_,e,_⟩:=q;rw[h]at e;cases e
theorem zV(hcs:NoFn cs)(G:Ground P w K mg W p (glOf 0 ds++cs))(hp:p.fns=(ds++ms).map (·.fd))(hok:∀d∈ds,DfOk (glOf 0 ds++cs) d)(hat:∀d∈ds,DfAt K mg d)
 (C:ClFacts K mg W p (glOf 0 ds++cs) ms ad ds.length) (hmo:∀d∈ms,DfOk (glOf 0 ds++cs) d) (hma:∀i d,ms[i]?=some d->∃fd,Fun K d.name d.qual d.st (ad i) fd/\Binds K fd d.ps []) :
 ∀n m,m<=n->yM P w K mg base W p w0 (glOf 0 ds++cs) m/\MsOk P w K mg base W p w0 ms ad ds.length m:=by
 have hf:∀i d,ms[i]?=some d->p.fns[ds.length+i]?=some d.fd:=fun i d h=>by
  rw[hp,RK,Sq (by omega),Nat.add_sub_cancel_left,h];rfl
 have hmo':∀i d,ms[i]?=some d->DfOk (glOf 0 ds++cs) d:=fun i d h=>hmo d (Sx h)
 have zero:yM P w K mg base W p w0 (glOf 0 ds++cs) 0/\MsOk P w K mg base W p w0 ms ad ds.length 0:=by
  refine⟨⟨fun x i np h=>?_,fun x v i np h h'=>?_⟩,fun i d h=>?_⟩
  ·obtain⟨d,k,h1,h2,h3,h4⟩:=oF hcs h
   obtain⟨f,fd,F,b,m⟩:=hat d (Sx h2);exact⟨f,fd,d.ps,by rw[<-h3];exact m,F.kp,b,w5 h4.symm fun _=>rfl⟩
  ·obtain⟨d,f,fd,vs,h1,h2,h3,F,b,hv,m⟩:=G.hdf x v i np h h'
   exact⟨f,fd,d.ps,vs,m,F.kp,b,hv,w5 h3.symm fun _=>rfl⟩
  ·obtain⟨fd,F,b⟩:=hma i d h
   exact⟨fd,b,w5 rfl fun _=>rfl,Dm rfl fun _ _=>rfl⟩
 intro n
 induction n with
 | zero=>
   intro m hm
   obtain rfl:m=0:=by omega
   exact zero
 | succ n ih=>
   intro m hm
   by_cases hle:m<=n
   ·exact ih m hle
   obtain rfl:m=n+1:=by omega
   obtain⟨a1,m1⟩:=ih n (Nat.le_refl _);have ob:=xu C m1 hmo' hf;have mb:=Hb C m1 hmo' hf;refine⟨⟨fun x i np h=>?_,fun x v i np h h'=>?_⟩,fun i d h=>?_⟩
   ·obtain⟨d,k,h1,h2,h3,h4⟩:=oF hcs h
    obtain⟨f,fd,F,b,m⟩:=hat d (Sx h2);refine⟨f,fd,d.ps,by rw[<-h3];exact m,F.kp,b,?_⟩;have hlt:k<ds.length:=(Ry.mp h2).1;have:=lr (i:=i) G F (hok d (Sx h2)) (by rw[hp,RK,h1,Nat.zero_add,Td hlt,h2];rfl) a1 ob mb;rw[h4]at this;exact this
   ·obtain⟨d,f,fd,vs,h1,h2,h3,F,b,hv,m⟩:=G.hdf x v i np h h'
    refine⟨f,fd,d.ps,vs,m,F.kp,b,hv,?_⟩;have:=lr (i:=i) G F h2 h1 a1 ob mb;rw[h3]at this;exact this
   ·obtain⟨fd,F,b⟩:=hma i d h
    refine⟨fd,b,lr G F (hmo' i d h) (hf i d h) a1 ob mb,?_⟩
    cases n with
    | zero=>exact Dm rfl fun _ _=>rfl
    | succ k=>
      obtain⟨a2,m2⟩:=ih k (by omega);exact zT G F (hmo' i d h) (hf i d h) a2 (xu C m2 hmo' hf) (Hb C m2 hmo' hf)
theorem K7(hcs:NoFn cs)(G:Ground P w K mg W p (glOf 0 ds++cs))(hp:p.fns=(ds++ms).map (·.fd))(hok:∀d∈ds,DfOk (glOf 0 ds++cs) d)(hat:∀d∈ds,DfAt K mg d)
 (C:ClFacts K mg W p (glOf 0 ds++cs) ms ad ds.length) (hmo:∀d∈ms,DfOk (glOf 0 ds++cs) d) (hma:∀i d,ms[i]?=some d->∃fd,Fun K d.name d.qual d.st (ad i) fd/\Binds K fd d.ps [])
 (F:Fun K d.name d.qual d.st f fd) (ok:DfOk (glOf 0 ds++cs) d) (hi:p.fns[i]?=some d.fd):FnOk P w K mg base CX0 (n+1) f fd d.ps (spFn W ((orc p w0 (n+1)).fn i) d.ps.length):=by
 obtain⟨a1,m1⟩:=zV (base:=base) (w0:=w0) hcs G hp hok hat C hmo hma n n (Nat.le_refl _)
 have hmo':∀(i:Nat) (d:Df),ms[i]?=some d->DfOk (glOf 0 ds++cs) d:=fun i d h=>hmo d (Sx h)
 have hf:∀(i:Nat) (d:Df),ms[i]?=some d->p.fns[ds.length+i]?=some d.fd:=fun i d h=>by rw[hp,RK,Sq (by omega),Nat.add_sub_cancel_left,h];rfl
 exact ok0 (lr G F ok hi a1 (xu C m1 hmo' hf) (Hb C m1 hmo' hf))
end
end
structure CsOk(P:Rz)(w:RT)(W:Wd)(mg:Str->Option Value)(q:Str×Gk):Prop where
 val:∀d,q.2=.val d->∃u v,mg q.1=some u/\RelV v u/\∀G,Rep W G d v
 dct:∀ks vs,q.2=.dct ks vs->∃ad,mg q.1=some (.ref ad)/\KDct P w W ad ks vs
theorem dY:∀{l:List Df} {i:Nat},(glOf i l).lookup x=some g->∃j np,g=.fn j np
 | [],_,h=>by simp[glOf]at h
 | d::l,i,h=>by
   simp only[glOf,SQ]at h
   cases e:(x==d.name)with
   | true=>rw[e]at h;cases h;exact⟨_,_,rfl⟩
   | false=>rw[e]at h;exact dY h
theorem Lk(h:∀q∈cs,CsOk P w W mg q):(∀x d,(glOf 0 ds++cs).lookup x=some (.val d)->∃u v,mg x=some u/\RelV v u/\∀G,Rep W G d v) /\
 ∀x ks vs,(glOf 0 ds++cs).lookup x=some (.dct ks vs)->∃ad,mg x=some (.ref ad)/\KDct P w W ad ks vs:=by
 have key:∀x g,(glOf 0 ds++cs).lookup x=some g->(∀j np,g≠.fn j np)->(x,g)∈cs:=fun x g e hn=>by
  rw[lookup_append]at e
  cases e1:(glOf 0 ds).lookup x with
  | some q=>
    rw[e1]at e;cases e;obtain⟨j,np,rfl⟩:=dY e1;exact absurd rfl (hn j np)
  | none=>rw[e1]at e;exact lookup_mem e
 exact⟨fun x d e=>(h _ (key x _ e (by simp))).val d rfl,fun x ks vs e=>(h _ (key x _ e (by simp))).dct ks vs rfl⟩
theorem O3(h:q.any p=true):∃b,q=some b/\p b=true:=by
 cases q with
 | none=>cases h
 | some b=>exact⟨b,rfl,h⟩
noncomputable def ctOf(l:List Addr)(c:Nat):Addr:=l.getD c 0
theorem yP{P:Str->Nat->Prop}{ds:List Df}{cs:List (Str×Gk)}(h:∀q∈cs,∀c,q.2=.cls c->P q.1 c):∀x c,clOf (glOf 0 ds++cs) x=some c->P x c:=fun x c e=>by
 unfold clOf at e
 cases e0:(glOf 0 ds++cs).lookup x with
 | none=>rw[e0]at e;cases e
 | some g=>
   rw[e0]at e
   cases g with
   | cls c'=>
     cases e;rw[lookup_append]at e0
     cases e1:(glOf 0 ds).lookup x with
     | some q=>
       rw[e1]at e0;cases e0;obtain⟨j,np,z⟩:=dY e1;cases z
     | none=>rw[e1]at e0;exact h _ (lookup_mem e0) c rfl
   | _=>cases e
noncomputable def bodyOf:Stmt->List Stmt
 | .ClassDef _ _ _ b _ _ _ _ _ _ _=>b
 | _=>[]
theorem wJ{P:Str->Nat->Prop}{ds:List Df}{cs:List (Str×Gk)}(h:∀q∈cs,∀c,q.2=.ocl c->P q.1 c):∀x c,iy (glOf 0 ds++cs) x=some c->P x c:=fun x c e=>by
 unfold iy at e
 cases e0:(glOf 0 ds++cs).lookup x with
 | none=>rw[e0]at e;cases e
 | some g=>
   rw[e0]at e
   cases g with
   | ocl c'=>
     cases e;rw[lookup_append]at e0
     cases e1:(glOf 0 ds).lookup x with
     | some q=>
       rw[e1]at e0;cases e0;obtain⟨j,np,z⟩:=dY e1;cases z
     | none=>rw[e1]at e0;exact h _ (lookup_mem e0) c rfl
   | _=>cases e
theorem Nz{K:Ra}{C:Addr}(h:(V5 K C Str.empty&&Vj K C&&VP K C&&decide (RP K (.ref C) "__setattr__"=some (some (.builtin "object.__setattr__"))))=true):Cls K C:=by
 simp only[Bool.and_eq_true,decide_eq_true_eq]at h;exact⟨h.1.1.1,h.1.1.2,h.1.2,h.2⟩
theorem Nv{K:Ra}{C f:Addr}{m:Str}(h:(decide (RP K (.ref C) m=some (some (.ref f)))&&Vi K (.ref f)&&RL K (.ref f))=true):Meth K C m f:=by
 simp only[Bool.and_eq_true,decide_eq_true_eq]at h;exact⟨h.1.1,h.1.2,h.2⟩
theorem mk_k{K:Ra}{C f:Addr}(h:(Wb K C&&decide (RP K (.ref C) "__init__"=some (some (.ref f)))&&Vi K (.ref f)&&RL K (.ref C))=true):Mk K C f:=by
 simp only[Bool.and_eq_true,decide_eq_true_eq]at h;exact⟨h.1.1.1,h.1.1.2,h.1.2,h.2⟩
theorem Mm{K:Ra}{C:Addr}{fl:List Str}(h:(fl.all fun f=>decide (RP K (.ref C) f=some none))=true):∀f∈fl,NoAttr K C f:=fun f hf=>by
 rw[S8]at h;exact of_decide_eq_true (p:=RP K (.ref C) f=some none) (h f hf)
theorem oA:∀ns:List Int,Reps W G (ns.map .int) (ns.map V.int)
 | []=>by simp only[RQ,Reps]
 | n::ns=>by simp only[R8,Reps,Rep];exact⟨trivial,oA ns⟩
def spZ(K:Ra)(p:Prg)(n i:Nat):Sp:=fun vs H Q E=>∃w0,∀CT,spFn ⟨K,CT⟩ ((orc p w0 n).fn i) 1 vs H Q E
theorem IW{K:Ra}{p:Prg}{n i:Nat}{H:Hp}{a:Addr}{ns:List Int}(hp:∃w0,(orc p w0 n).fn i [.lst (ns.map .int)]=.ok (false,.bl true))(hS:SqL K H a (ns.map V.int)):spZ K p n i [.ref a] H (fun v _=>v=.bl true) fun _ _ _=>False:=by
 obtain⟨w0,e⟩:=hp;refine⟨w0,fun CT=>⟨rfl,fun _=>False,[.lst (ns.map .int)],fun _ z=>z.elim,fun _ z=>z.elim,?_,_,e,fun v H' s q=>?_⟩⟩
 ·simp only[Reps,Rep]
  refine⟨⟨a,_,rfl,?_,oA ns⟩,trivial⟩
  have:Same H (vis H fun _=>False):=fun b o h=>bK h fun z=>z
  exact this.seq hS
 ·have:=q.look
  simp only[RepT,Rep]at this;exact this
theorem walkZ{l:PySem.W.OpenLaw}{q:Rz}{loose:List Str}{XP:(Str->Option Value)->Rk->Prop}{YP:RT->Rk->Prop}{d:DefRec}{K:Xe->Ra}{p:Prg}{n i:Nat}{x:Str}
 (hn:l.most=some 63) (hdf:d.params.defaults=[]) (hr:Room n WL) (hY:∀(w:RT) (h:Rk),YP w h->(K w.params).In h)
 (F:∀(w:RT) (mg:Str->Option Value) (fa:Addr) (h:Rk),(K w.params).In h->h.Ns Sh mg->mg d.name=some (.ref fa) ->
  ∃(fd:V0) (CT:Nat->Addr),(∀(s:Shared) (u:Value),X4 s fd ⟨[u],[]⟩ [(x,u)])/\∀(base:Rk) (w0:Nat),FnOk l.prog w (K w.params) mg base CX0 n fa fd [x] (spFn ⟨K w.params,CT⟩ ((orc p w0 n).fn i) 1))
 (hp:∀ns:List Int,ns.length<=63->∃w0,(orc p w0 n).fn i [.lst (ns.map .int)]=.ok (false,.bl true)) :
 PySem.W.WalkO q loose XP YP l.row.toRowW d [] (fun f vs=>PySem.call f vs):=by
 refine L2.walk_of (n:=63) (k:=n) (x:=x) (CX:=fun _=>CX0) (sp:=fun w=>spZ (K w.params) p n i) hn (by decide) hdf hr hY (fun w mg fa h KX G hm=>?_) (fun w H a ns hl _ hS=>IW (hp ns hl) hS) fun _ _ _ _ _ z=>z
 obtain⟨fd,CT,hb,hF⟩:=F w mg fa h KX G hm;refine⟨fd,hb,fun base _ _=>⟨fun vs H Q E ⟨w0,q⟩=>(hF base w0).len vs H Q E (q CT),fun A outer s H args us vs Q E hr he hb hv ⟨w0,hs⟩=>(hF base w0).run A outer s H args us vs Q E hr he hb hv (hs CT)⟩⟩
def pB(d:Df):Prop:=∀(kV doc pm:Value) (an:Option Addr) (cdv ct:Value) (us:List Value),us.length=d.ps.length->bindArgs (Uc d.name d.qual (bU d.st) (bB d.st) (aF d.st) .none kV doc pm an cdv ct) ⟨us,[]⟩=pure (d.ps.zip us)
theorem Pj{K:Ra}{d:Df}{f:Addr}{od an:Option Addr}{sl:Array (Option Value)}{oc kV dc pm cd ct:Value}(l:K.lookup f=some ⟨oc,od,.func (Uc d.name d.qual (bU d.st) (bB d.st) (aF d.st) .none kV dc pm an cd ct),sl⟩)(c:V4 K cd d.qual=true)(k:RL K (.ref f)=true)
 (hb:pB d):∃fd,Fun K d.name d.qual d.st f fd/\Binds K fd d.ps []:=⟨_,yO l c k,Binds.all (hb kV dc pm an cd ct)⟩
theorem Qf{K:Ra}{h:Rk}{mg:Str->Option Value}{d:Df}{f:Addr}{od an:Option Addr}{sl:Array (Option Value)}{oc kV dc pm cd ct:Value}(X:K.In h)(G:h.Ns Sh mg)
 (a:VF K Sh d.name=some (some (.ref f))) (l:K.lookup f=some ⟨oc,od,.func (Uc d.name d.qual (bU d.st) (bB d.st) (aF d.st) .none kV dc pm an cd ct),sl⟩) (c:V4 K cd d.qual=true) (k:RL K (.ref f)=true)
 (hb:pB d):DfAt K mg d :=
 ⟨f,_,yO l c k,Binds.all (hb kV dc pm an cd ct),Wo X G a⟩
end Z
namespace Z
open PySem PySem.Spec PyProof.Rows L2
def mO:SL->Bool
 | .cons (.expr (.m0 .get (.cst .non))) .nil=>true
 | _=>false
noncomputable def scB(d:Df):Bool:=decide ((aF d.st).kind=.function)&&!(aF d.st).isCoroutine&&!(aF d.st).isGenerator&&decide d.N.Nodup&&decide (d.N.take d.ps.length=d.ps)&&(d.ps.all fun x=>decide ((aF d.st).names.lookup x=some .local)||decide ((aF d.st).names.lookup x=some .cell))&&((aF d.st).names.all fun y=>!decide (y.2=.free))&&decide (d.ps.length=d.fd.np)&&decide (d.N.length=d.fd.ns)
noncomputable def trq(gl:List (Str×Gk))(d:Df):Option SL:=if mO d.fd.body then none else trSs (trS 40 ⟨d.N,aF d.st,gl⟩) (bB d.st)
noncomputable def trr(d:Df):Option SL:=if mO d.fd.body then none else some d.fd.body
theorem yC(h:mO l=true):l=lq:=by
 unfold mO at h;split at h
 ·rfl
 ·cases h
theorem il:∀{l:List α},l.map f=l.map g->∀d∈l,f d=g d
 | [],_,d,hd=>by cases hd
 | x::l,h,d,hd=>by
   simp only[R8,Tq]at h;rcases Rh.mp hd with rfl | hd
   ·exact h.1
   ·exact il h.2 d hd
theorem El{gl:List (Str×Gk)}{l:List Df}(h1:l.all scB=true)(h2:l.map (trq gl)=l.map trr):∀d∈l,DfOk gl d:=fun d hd=>by
 have e:=il h2 d hd;have s:=S8.mp h1 d hd;simp only[scB,Bool.and_eq_true,Bool.not_eq_true',decide_eq_true_eq,S8,Bool.or_eq_true,decide_eq_false_iff_not]at s;obtain⟨⟨⟨⟨⟨⟨⟨⟨s1,s2⟩,s3⟩,s4⟩,s5⟩,s6⟩,s7⟩,s8⟩,s9⟩:=s;refine⟨⟨s1,s2,s3,s4,s5,s6,s7⟩,s8,s9,?_⟩
 cases hh:mO d.fd.body with
 | true=>exact .inr (yC hh)
 | false=>
   simp only[trq,trr,hh,Bool.false_eq_true,if_false]at e;exact .inl e
noncomputable def bnA(d:Df)(kV doc pm:Value)(an:Option Addr)(cdv ct:Value)(us:List Value):Sem (List (Str×Value)):=bindArgs (Uc d.name d.qual (bU d.st) (bB d.st) (aF d.st) .none kV doc pm an cdv ct) ⟨us,[]⟩
theorem Dj{l:List Df}(h:∀(kV doc pm:Value) (an:Option Addr) (cdv ct:Value) (g:Nat->Value),(l.map fun d=>bnA d kV doc pm an cdv ct ((RG d.ps.length).map g))=l.map fun d=>pure (d.ps.zip ((RG d.ps.length).map g))):∀d∈l,pB d:=fun d hd kV doc pm an cdv ct us hl=>by
 have e:=il (h kV doc pm an cdv ct fun i=>us.getD i .none) d hd
 have eu:(RG d.ps.length).map (fun i=>us.getD i Value.none)=us:=by
  rw[<-hl]
  apply List.ext_getElem
  ·simp
  ·intro i h1 h2
   simp[Rm h2]
 rw[eu]at e;exact e
abbrev Pl4:=Addr×Addr×Str×Tok
noncomputable def fnO(d:Df)(q:Pl4):Obj:=⟨.type "function",none,.func (Uc d.name d.qual (bU d.st) (bB d.st) (aF d.st) .none .none .none (.str q.2.2.1 q.2.2.2) none (.ref q.2.1) .none),#[]⟩
theorem CP:∀{l:List α} {t:List β} {d:α},l.length<=t.length->d∈l->∃q,(d,q)∈l.zip t
 | _::l,q::t,d,hl,hd=>by
   rcases Rh.mp hd with rfl | hd
   ·exact⟨q,by simp⟩
   ·obtain⟨q',h⟩:=CP (l:=l) (t:=t) (by simpa using hl) hd
    exact⟨q',by simp[h]⟩
theorem at_of{K:Ra}{h:Rk}{mg:Str->Option Value}{l:List Df}{t:List Pl4}(X:K.In h)(G:h.Ns Sh mg)(hb:∀d∈l,pB d)(hl:l.length<=t.length)
 (e:((l.zip t).map fun p=>(VF K Sh p.1.name,K.lookup p.2.1,V4 K (.ref p.2.2.1) p.1.qual,RL K (.ref p.2.1)))=(l.zip t).map fun p=>(some (some (.ref p.2.1)),some (fnO p.1 p.2),true,true)):∀d∈l,DfAt K mg d:=fun d hd=>by
 obtain⟨q,hq⟩:=CP hl hd;have e:=il e (d,q) hq;simp only[Vs]at e;exact Qf X G e.1 e.2.1 e.2.2.1 e.2.2.2 (hb d hd)
theorem Qv{K:Ra}{l:List Df}{t:List Pl4}(hb:∀d∈l,pB d)
 (e:((l.zip t).map fun p=>(K.lookup p.2.1,V4 K (.ref p.2.2.1) p.1.qual,RL K (.ref p.2.1)))=(l.zip t).map fun p=>(some (fnO p.1 p.2),true,true)) (hl:l.length=t.length) (i:Nat) (d:Df) (hd:l[i]?=some d):∃fd,Fun K d.name d.qual d.st ((t.map (·.1)).getD i 0) fd/\Binds K fd d.ps []:=by
 have hi:=(Ry.mp hd).1;have hq:t[i]?=some (t[i]'(by omega)):=Rm _
 have hz:(l.zip t)[i]?=some (d,t[i]'(by omega)):=by rw[List.getElem?_zip_eq_some];exact⟨hd,hq⟩
 have e:=il e _ (Sx hz);simp only[Vs]at e
 have ea:(t.map (·.1)).getD i 0=(t[i]'(by omega)).1:=by simp[hi,<-hl]
 rw[ea];exact Pj e.1 e.2.1 e.2.2 (hb d (Sx hd))
section
variable{K:Ra}{h:Rk}{mg:Str->Option Value}{ds ms:List Df}{cs:List (Str×Gk)}{CT:Nat->Addr}{p:Prg}
noncomputable def csB(q:Str×Gk):Bool:=match q.2 with
 | .val _=>false
 | .dct _ _=>false
 | .fn _ _=>false
 | _=>true
theorem JW(h:cs.all csB=true):(∀q∈cs,CsOk P w W mg q)/\NoFn cs:=by
 refine⟨fun q hq=>⟨fun d e=>?_,fun ks vs e=>?_⟩,fun q hq i np e=>?_⟩<;>(have:=S8.mp h q hq;simp[csB,e]at this)
theorem Q6(X:K.In h)(G:h.Ns Sh mg)(e:(bltNames.map fun x=>VF K Sh x)=bltNames.map fun _=>some none){gl:List (Str×Gk)}:∀x∈bltNames,gl.lookup x=none->mg x=none:=fun x hx _=>PySem.W.mg_none_of X G (il e x hx)
noncomputable def nmB(K:Ra)(CT:Nat->Addr)(q:Str×Gk):Bool:=match q.2 with
 | .cls c=>decide (VF K Sh q.1=some (some (.ref (CT c))))&&(xIn K (CT c)).isSome
 | .ocl c=>decide (VF K Sh q.1=some (some (.ref (CT c))))
 | _=>true
noncomputable def exF(K:Ra)(C:Addr):=(RP K (.ref C) "__getattribute__",RP K (.ref C) "__getattr__",PySem.W.findObj K C none "__class__",PySem.W.mroIn K C (.type "object"),PySem.W.mroIn K C (.type "BaseException"),(PySem.W.clsIn K C).isSome,PySem.W.subIn K (.ref C) (.type "ValueError"))
noncomputable def prB(K:Ra)(CT:Nat->Addr)(sub:Nat->Nat->Bool)(r:Nat×Nat)(q:Str×Gk):Bool:=match q.2 with
 | .cls c'=>(!decide (r.1=r.2)||(if sub r.1 c' then Uy K (.ref (CT r.1)) (CT c')else xNot K (CT r.1) (CT c')))&&(!decide (r.2=c')||(xIn K (CT r.1)).any fun b=>(Value.ref (CT r.1)::b).contains (.ref (CT c')))
 | .ocl c'=>!decide (r.2=c')||Uy K (.ref (CT r.1)) (CT c')
 | _=>true
theorem vH{prs:List (Nat×Nat)}(hs:∀c c',p.sub c c'=true->(c,c')∈prs)(h2:(prs.all fun r=>cs.all (prB K CT p.sub r))=true){c c':Nat}(e:p.sub c c'=true){q:Str×Gk}(hq:q∈cs):prB K CT p.sub (c,c') q=true:=S8.mp (S8.mp h2 _ (hs c c' e)) q hq
theorem QJ(X:K.In h)(G:h.Ns Sh mg){prs:List (Nat×Nat)}(hs:∀c c',p.sub c c'=true->(c,c')∈prs)(h1:cs.all (nmB K CT)=true)(h2:(prs.all fun r=>cs.all (prB K CT p.sub r))=true)
 (h3:(prs.map fun r=>if r.1=r.2 then some (exF K (CT r.1))else none)=prs.map fun r=>if r.1=r.2 then some (some (some (.builtin "BaseException.__getattribute__")),some none,some (.bind (.builtin "getset_descriptor.__get__") (.builtin "object.__class__")),some true,some true,true,some true)else none):XFacts K mg ⟨K,CT⟩ p.sub (clOf (glOf 0 ds++cs)):=by
 refine⟨yP (P:=fun x c=>mg x=some (.ref (CT c))/\∃bm,xIn K (CT c)=some bm) fun q hq c e=>?_,fun c e=>?_,fun x c c' e es=>?_,fun x c c' e es=>?_⟩
 ·have:=S8.mp h1 q hq
  simp only[nmB,e,Bool.and_eq_true,decide_eq_true_eq]at this;exact⟨Wo X G this.1,U4.mp this.2⟩
 ·have:=il h3 _ (hs c c e)
  simp only[if_true,Rf,exF,Vs]at this;obtain⟨a1,a2,a3,a4,a5,a6,a7⟩:=this;exact⟨⟨a1,a2,a3,a4,a5,a6⟩,a7⟩
 ·exact yP (P:=fun _ c'=>(if p.sub c c' then Uy K (.ref (CT c)) (CT c')else xNot K (CT c) (CT c'))=true) (fun q hq c' e'=>by
   have:=vH (K:=K) (CT:=CT) hs h2 es hq;simp only[prB,e',Bool.and_eq_true,decide_true,Bool.not_true,Bool.false_or]at this
   exact this.1) x c' e
 ·exact O3 (yP (P:=fun _ c2=>p.sub c c2=true->((xIn K (CT c)).any fun b=>(Value.ref (CT c)::b).contains (.ref (CT c2)))=true) (fun q hq c2 e' es=>by
   have:=vH (K:=K) (CT:=CT) hs h2 es hq;simp only[prB,e',Bool.and_eq_true,decide_true,Bool.not_true,Bool.false_or]at this
   exact this.2) x c' e es)
noncomputable def clB(K:Ra)(C:Addr):Bool:=V5 K C Str.empty&&Vj K C&&VP K C&&decide (RP K (.ref C) "__setattr__"=some (some (.builtin "object.__setattr__")))
noncomputable def inF(K:Ra)(C f:Addr):=(VN K (.ref C) "__getattribute__",PySem.W.readsIn K C (.type "type"),PySem.W.findCls K (.ref C) (.type "type") "__init__",RL K (.ref f),W3 (.ref f),(Wb K C&&decide (RP K (.ref C) "__init__"=some (some (.ref f)))&&Vi K (.ref f)&&RL K (.ref C)))
theorem Px(X:K.In h)(G:h.Ns Sh mg){fl:List (List Nat)}{itab:List (Nat×Nat)}{mtab:List (Nat×List Nat×Nat)}{ad:Nat->Addr}{b:Nat}{prs:List (Nat×Nat)}(hs:∀c c',p.sub c c'=true->(c,c')∈prs)(h1:cs.all (nmB K CT)=true)(h2:(prs.all fun r=>cs.all (prB K CT p.sub r))=true)
 (hf:(glOf 0 ds++cs).lookup ("!f":Str)=some (.names fl)) (hi:p.init=gJ itab) (hm:p.meth=tabOf mtab)
 (e1:(itab.all fun r=>clB K (CT r.1)&&((fl.map strV).all fun f=>decide (RP K (.ref (CT r.1)) f=some none))&&decide (b<=r.2)&&(ms[r.2-b]?).isSome)=true)
 (e2:(itab.map fun r=>inF K (CT r.1) (ad (r.2-b)))=itab.map fun r=>(some (some (.builtin "type.__getattribute__")),true,some (.val (.ref (ad (r.2-b)))),true,true,true))
 (e3:(mtab.all fun r=>clB K (CT r.1)&&(decide (RP K (.ref (CT r.1)) (strV r.2.1)=some (some (.ref (ad (r.2.2-b)))))&&Vi K (.ref (ad (r.2.2-b)))&&RL K (.ref (ad (r.2.2-b))))&&decide (b<=r.2.2)&&(ms[r.2.2-b]?).isSome)=true):ClFacts K mg ⟨K,CT⟩ p (glOf 0 ds++cs) ms ad b:=by
 refine⟨wJ (P:=fun x c=>mg x=some (.ref (CT c))) fun q hq c e=>?_,fun x c' e c es=>?_,fun fl' f g1 g2 c g3=>?_,fun c f g=>?_,fun c m f g=>?_⟩
 ·have:=S8.mp h1 q hq
  simp only[nmB,e,decide_eq_true_eq]at this;exact Wo X G this
 ·exact wJ (P:=fun _ c2=>p.sub c c2=true->Uy K (.ref (CT c)) (CT c2)=true) (fun q hq c2 e' es=>by
   have:=vH (K:=K) (CT:=CT) hs h2 es hq
   simpa only[prB,e',decide_true,Bool.not_true,Bool.false_or]using this) x c' e es
 ·rw[hf]at g1
  cases g1;rw[hi]at g3;obtain⟨j,g3⟩:=U4.mp g3;have:=S8.mp e1 _ (eE g3);simp only[Bool.and_eq_true]at this;exact⟨Nz this.1.1.1,Mm this.1.1.2 _ (TF g2)⟩
 ·rw[hi]at g
  have t:=S8.mp e1 _ (eE g);have u:=il e2 _ (eE g);simp only[Bool.and_eq_true,decide_eq_true_eq]at t;simp only[inF,Vs]at u;obtain⟨d,hd⟩:=U4.mp t.2;exact⟨f-b,d,(Nat.add_sub_cancel' t.1.2).symm,hd,mk_k u.2.2.2.2.2,u.1,⟨_,u.2.1,u.2.2.1⟩,u.2.2.2.2.1,u.2.2.2.1⟩
 ·rw[hm]at g
  have t:=S8.mp e3 _ (nW g);simp only[Bool.and_eq_true]at t;obtain⟨d,hd⟩:=U4.mp t.2;exact⟨f-b,d,(Nat.add_sub_cancel' (of_decide_eq_true t.1.2)).symm,hd,Nz t.1.1.1,Nv (by simp only[Bool.and_eq_true];exact t.1.1.2)⟩
end
end Z
namespace KG
open Z
theorem aq{o:Orc}{s:S}{l:SL}{δ δ':Dst}(h:evS o s δ=.nx δ'):evSs o (.cons s l) δ=evSs o l δ':=by simp only[evSs,h]
theorem aD(a b:Int)(hb:0<b):0<=a.fmod b/\a.fmod b<b:=⟨Int.fmod_nonneg_of_pos a hb,Int.fmod_lt_of_pos a hb⟩
noncomputable def L26:List Nat:=[97,98,99,100,101,102,103,104,105,106,107,108,109,110,111,112,113,114,115,116,117,118,119,120,121,122]
noncomputable def S36:List Nat:=L26++[48,49,50,51,52,53,54,55,56,57]
theorem vz:L26.length=26:=rfl
theorem xr:S36.length=36:=rfl
noncomputable def lt(j:Int):Nat:=L26.getD (j.fmod 26).toNat 0
noncomputable def sg(j:Int):Nat:=S36.getD (j.fmod 36).toNat 0
theorem yL(x:List Nat)(j:Int)(h0:0<=j)(h1:j<x.length):idxD (.str x) (.int j)=.ok (false,.str [x.getD j.toNat 0]):=by
 have hn:j.toNat<x.length:=by omega
 simp only[idxD,place,if_pos h0,if_pos h1,Rq,XR];rw[Rm hn];simp[Ss,Rm hn]
theorem Dw(j:Int):idxD (.str L26) (.int (j.fmod 26))=.ok (false,.str [lt j]):=by
 obtain⟨h1,h2⟩:=aD j 26 (by omega);exact yL L26 _ h1 (by rw[vz];omega)
theorem Dg(j:Int):idxD (.str S36) (.int (j.fmod 36))=.ok (false,.str [sg j]):=by
 obtain⟨h1,h2⟩:=aD j 36 (by omega);exact yL S36 _ h1 (by rw[xr];omega)
theorem kJ{f c:List D->R (Bool×D)}{g:D->D}:∀{l:List D},(∀d∈l,c [d]=.ok (false,.bl true))->(∀d∈l,∃w,f [d]=.ok (w,g d))->bA f c 1 false l=.ok (l.map g)
 | [],_,_=>rfl
 | d::l,hc,hf=>by
   obtain⟨w,e⟩:=hf d Rg;have ih:=kJ (fun d h=>hc d (Rb _ h)) (fun d h=>hf d (Rb _ h));simp only[bA,takes,Bool.false_eq_true,if_false,XR,XS,hc d Rg,truth,if_true,e,ih,R8]
theorem iT{f c:List D->R (Bool×D)}{g:D->D}{q:D->Bool}:∀{l:List D},(∀d∈l,c [d]=.ok (false,.bl (q d)))->(∀d∈l,q d=true->∃w,f [d]=.ok (w,g d))->bA f c 1 false l=.ok ((l.filter q).map g)
 | [],_,_=>rfl
 | d::l,hc,hf=>by
   have ih:=iT (fun d h=>hc d (Rb _ h)) (fun d h=>hf d (Rb _ h))
   cases hq:q d with
   | true=>
     obtain⟨w,e⟩:=hf d Rg hq;simp only[bA,takes,Bool.false_eq_true,if_false,XR,XS,hc d Rg,truth,hq,if_true,e,ih,List.filter_cons_of_pos hq,R8]
   | false=>
     simp only[bA,takes,Bool.false_eq_true,if_false,XR,XS,hc d Rg,truth,hq,ih,List.filter_cons_of_neg (show ¬q d=true by simp[hq])]
def cG(cell base:Int):Int:=if(base.fdiv 8).fmod 2=1 then 1+(base+cell).fmod 8 else 1+base.fmod 8
noncomputable def iu(cell base:Int):List Nat:=((RG (cG cell base).toNat).map fun(k:Nat)=>sg (base.fdiv 3+5*(k:Int))).set 0 (lt (base.fdiv 3))
noncomputable def dD(cell base:Int):Int:=(base.fdiv 16).fmod (cG cell base)
def ik(cell base:Int):List Nat:=if dD cell base=0 then(iu cell base).set 0 (lt (base.fdiv 5+cell))else(iu cell base).set (dD cell base).toNat (sg (base.fdiv 5+cell))
def jE:List (List Nat):=[[97,110,100],[111,114],[110,111,116],[115,111,109,101],[97,108,108],[97,108,105,107,101],[98,121]]
noncomputable def nm(cell base:Int):List Nat:=if ik cell base∈jE then ik cell base++[57]else ik cell base
theorem kY(cell base:Int):1<=cG cell base/\cG cell base<=8:=by
 unfold cG;have h1:=aD (base+cell) 8 (by omega);have h2:=aD base 8 (by omega);split<;>omega
noncomputable def nmS0:S:=(Y8 2 (XD (Y0 L26)))
noncomputable def nmS1:S:=(Y8 3 (XM .add (XC 2) (XD (Y0 [48,49,50,51,52,53,54,55,56,57]))))
noncomputable def nmS2:S:=(Y8 4 (XM .add (XD (XH 1)) (XM .mod (XC 1) (XD (XH 8)))))
noncomputable def nmS3:S:=(Y7 (XM .eq (XM .mod (XM .fdiv (XC 1) (XD (XH 8))) (XD (XH 2))) (XD (XH 1))) (XJ (Y8 4 (XM .add (XD (XH 1)) (XM .mod (XM .add (XC 1) (XC 0)) (XD (XH 8))))) XN) XN)
noncomputable def nmS4:S:=(Y8 5 (Yj [1,3] 1 false (Yn (XC 4)) (XD (Yb true)) (XX (XC 2) (XM .mod (XM .add (XM .fdiv (XC 1) (XD (XH 3))) (XM .mul (XD (XH 5)) (XC 0))) (XD (XH 36))))))
noncomputable def nmS5:S:=(Yo 5 (XD (XH 0)) (XX (XC 2) (XM .mod (XM .fdiv (XC 1) (XD (XH 3))) (XD (XH 26)))))
noncomputable def nmS6:S:=(Y8 6 (XM .mod (XM .fdiv (XC 1) (XD (XH 16))) (XC 4)))
noncomputable def nmS7:S:=(Y7 (XM .eq (XC 6) (XD (XH 0))) (XJ (Yo 5 (XD (XH 0)) (XX (XC 2) (XM .mod (XM .add (XM .fdiv (XC 1) (XD (XH 5))) (XC 0)) (XD (XH 26))))) XN) (XJ (Yo 5 (XC 6) (XX (XC 3) (XM .mod (XM .add (XM .fdiv (XC 1) (XD (XH 5))) (XC 0)) (XD (XH 36))))) XN))
noncomputable def nmS8:S:=(Y8 7 (T.m1 .join (XD (Y0 [])) (XC 5)))
noncomputable def nmS9:S:=(Y7 (XM .in (XC 7) (Yd (XF (XD (Y0 [97,110,100])) (XF (XD (Y0 [111,114])) (XF (XD (Y0 [110,111,116])) (XF (XD (Y0 [115,111,109,101])) (XF (XD (Y0 [97,108,108])) (XF (XD (Y0 [97,108,105,107,101])) (XF (XD (Y0 [98,121])) XQ))))))))) (XJ (Y6 (XM .add (XC 7) (XD (Y0 [57])))) XN) XN)
def G6:S:=(Y6 (XC 7))
noncomputable def nmFd:Fd:=⟨2,8,(XJ nmS0 (XJ nmS1 (XJ nmS2 (XJ nmS3 (XJ nmS4 (XJ nmS5 (XJ nmS6 (XJ nmS7 (XJ nmS8 (XJ nmS9 (XJ G6 XN)))))))))))⟩
theorem log8:Nat.log2 8<9000:=by decide
theorem log3:Nat.log2 3<9000:=by decide
theorem QL:Nat.log2 16<9000:=by decide
theorem log5:Nat.log2 5<9000:=by decide
theorem mul5(k:Int):dG 5 k=true:=by
 have:bits 5<=64:=by decide
 simp[dG,this]
section
variable(o:Orc)(cell base:Int)
theorem nm0(a b c d e f:Option Slot):evS o nmS0 [some (.sh,.int cell),some (.sh,.int base),a,b,c,d,e,f]=.nx [some (.sh,.int cell),some (.sh,.int base),some (.sh,.str L26),b,c,d,e,f]:=by
 simp[nmS0,evS,evF,ev,SO.of,setSlot,aA]
theorem nm1(b c d e f:Option Slot):evS o nmS1 [some (.sh,.int cell),some (.sh,.int base),some (.sh,.str L26),b,c,d,e,f]=.nx [some (.sh,.int cell),some (.sh,.int base),some (.sh,.str L26),some (.sh,.str S36),c,d,e,f]:=by
 simp[nmS1,evS,evF,ev,SO.of,setSlot,aA,o2,XS,Y5,size,S36,L26]
theorem nm2(c d e f:Option Slot):evS o nmS2 [some (.sh,.int cell),some (.sh,.int base),some (.sh,.str L26),some (.sh,.str S36),c,d,e,f]=.nx [some (.sh,.int cell),some (.sh,.int base),some (.sh,.str L26),some (.sh,.str S36),some (.sh,.int (1+base.fmod 8)),d,e,f]:=by
 simp[nmS2,evS,evF,ev,SO.of,setSlot,aA,o2,XS,Y5,arith]
theorem nm3(d e f:Option Slot):evS o nmS3 [some (.sh,.int cell),some (.sh,.int base),some (.sh,.str L26),some (.sh,.str S36),some (.sh,.int (1+base.fmod 8)),d,e,f]=.nx [some (.sh,.int cell),some (.sh,.int base),some (.sh,.str L26),some (.sh,.str S36),some (.sh,.int (cG cell base)),d,e,f]:=by
 unfold cG;generalize 1+base.fmod 8=z
 by_cases h:(base.fdiv 8).fmod 2=1
 ·rw[if_pos h]
  simp[nmS3,evSs,evS,evF,ev,SO.of,setSlot,aA,o2,XS,Y5,arith,eqA,eqS,XR,truth,h,log8]
 ·rw[if_neg h]
  simp[nmS3,evSs,evS,evF,ev,SO.of,setSlot,aA,o2,XS,Y5,arith,eqA,eqS,XR,truth,h,log8]
noncomputable def strD(l:List Nat):List D:=l.map fun c=>.str [c]
theorem nm4(e f:Option Slot)(z:Int)(hz:1<=z/\z<=8):evS o nmS4 [some (.sh,.int cell),some (.sh,.int base),some (.sh,.str L26),some (.sh,.str S36),some (.sh,.int z),none,e,f]=.nx [some (.sh,.int cell),some (.sh,.int base),some (.sh,.str L26),some (.sh,.str S36),some (.sh,.int z),some (.ow,.lst (strD ((RG z.toNat).map fun(k:Nat)=>sg (base.fdiv 3+5*(k:Int))))),e,f]:=by
 have hr:inR z=true:=by simp[inR];omega
 have hcg:bA (fun x=>ev o ((x++[XH base,Y0 S36]).map fun d=>some (Own.sh,d)) false (XX (XC 2) (XM .mod (XM .add (XM .fdiv (XC 1) (XD (XH 3))) (XM .mul (XD (XH 5)) (XC 0))) (XD (XH 36))))) (fun x=>ev o ((x++[XH base,Y0 S36]).map fun d=>some (Own.sh,d)) true (XD (Yb true))) 1 false (rngD 0 z)=.ok (strD ((RG z.toNat).map fun(k:Nat)=>sg (base.fdiv 3+5*(k:Int)))):=by
  rw[kJ (g:=fun d=>match d with | .int k=>.str [sg (base.fdiv 3+5*k)] | _=>.non)]
  ·simp[rngD,strD]
  ·intro d _
   simp[ev]
  ·intro d hd
   obtain⟨k,_,rfl⟩:=RB.mp hd;refine⟨false,?_⟩;simp[ev,o2,XS,arith,Y5,log3,mul5,Dg]
 have hsz:(strD ((RG z.toNat).map fun(k:Nat)=>sg (base.fdiv 3+5*(k:Int)))).length<=16777216:=by
  simp[strD];omega
 generalize strD ((RG z.toNat).map fun(k:Nat)=>sg (base.fdiv 3+5*(k:Int)))=row at hcg hsz
 have he:ev o [some (.sh,.int cell),some (.sh,.int base),some (.sh,.str L26),some (.sh,.str S36),some (.sh,.int z),none,e,f] false (Yj [1,3] 1 false (Yn (XC 4)) (XD (Yb true)) (XX (XC 2) (XM .mod (XM .add (XM .fdiv (XC 1) (XD (XH 3))) (XM .mul (XD (XH 5)) (XC 0))) (XD (XH 36)))))=.ok (true,.lst row):=by
  rw[ev]
  have h1:evI o [some (.sh,.int cell),some (.sh,.int base),some (.sh,.str L26),some (.sh,.str S36),some (.sh,.int z),none,e,f] true (Yn (XC 4))=.ok (rngD 0 z):=by simp[evI,ev,XS,Y5,hr]
  have h2:cA [some (.sh,.int cell),some (.sh,.int base),some (.sh,.str L26),some (.sh,.str S36),some (.sh,.int z),none,e,f] [1,3]=some [.int base,.str S36]:=by simp[cA,um]
  rw[h1,h2];simp only[XS,XR];rw[hcg];simp[Y5,size,hsz,isOwn]
 simp only[nmS4,evS,evF,he];simp[SO.of,setSlot,aA]
theorem kj(l:List Nat)(n c:Nat):(strD l).set n (.str [c])=strD (l.set n c):=by
 simp[strD,List.map_set]
theorem rE(l:List Nat):(strD l).length=l.length:=by simp[strD]
theorem nm5(e f:Option Slot)(z:Option Slot)(r:List Nat)(hr:0<r.length):evS o nmS5 [some (.sh,.int cell),some (.sh,.int base),some (.sh,.str L26),some (.sh,.str S36),z,some (.ow,.lst (strD r)),e,f]=.nx [some (.sh,.int cell),some (.sh,.int base),some (.sh,.str L26),some (.sh,.str S36),z,some (.ow,.lst (strD (r.set 0 (lt (base.fdiv 3))))),e,f]:=by
 have hr':0<(strD r).length:=by rw[rE];omega
 simp[nmS5,evS,evF,ev,SO.of,aA,o2,XS,Y5,arith,log3,Dw,ownD,putItem,place,hr',kj]
theorem nm6(f:Option Slot)(r:Option Slot)(z:Int)(hz:1<=z):evS o nmS6 [some (.sh,.int cell),some (.sh,.int base),some (.sh,.str L26),some (.sh,.str S36),some (.sh,.int z),r,none,f]=.nx [some (.sh,.int cell),some (.sh,.int base),some (.sh,.str L26),some (.sh,.str S36),some (.sh,.int z),r,some (.sh,.int ((base.fdiv 16).fmod z)),f]:=by
 have:z≠0:=by omega
 simp[nmS6,evS,evF,ev,SO.of,setSlot,aA,o2,XS,Y5,arith,QL,this]
theorem nm7(f z:Option Slot)(r:List Nat)(q:Int)(hq:0<=q/\q<r.length):evS o nmS7 [some (.sh,.int cell),some (.sh,.int base),some (.sh,.str L26),some (.sh,.str S36),z,some (.ow,.lst (strD r)),some (.sh,.int q),f] =
 .nx [some (.sh,.int cell),some (.sh,.int base),some (.sh,.str L26),some (.sh,.str S36),z,some (.ow,.lst (strD (if q=0 then r.set 0 (lt (base.fdiv 5+cell))else r.set q.toNat (sg (base.fdiv 5+cell))))),some (.sh,.int q),f]:=by
 have hr':q<((strD r).length:Int):=by rw[rE];exact hq.2
 by_cases h:q=0
 ·subst h
  have hr':0<(strD r).length:=by omega
  simp[nmS7,evSs,evS,evF,ev,SO.of,aA,o2,XS,Y5,arith,eqA,eqS,XR,truth,log5,Dw,ownD,putItem,place,hr',kj]
 ·simp[nmS7,evSs,evS,evF,ev,SO.of,aA,o2,XS,Y5,arith,eqA,eqS,XR,truth,log5,Dg,ownD,putItem,place,hr',hq.1,h,kj]
theorem jj:∀l:List Nat,strsOf (strD l)=some (l.map fun c=>[c])
 | []=>rfl
 | c::l=>by
   have:=jj l;simp only[strD,R8,strsOf]at this ⊢;rw[this];rfl
theorem jN:∀l:List Nat,jw [] (l.map fun c=>[c])=l
 | []=>rfl
 | [c]=>rfl
 | c::d::l=>by
   have:=jN (d::l);simp only[R8,jw]at this ⊢;rw[this];rfl
theorem sV:∀l:List Nat,((l.map fun c=>[c]).map T3).sum=l.length
 | []=>rfl
 | c::l=>by
   have:=sV l;simp only[R8,List.sum_cons,Rv,Sy]at this ⊢;omega
theorem xN(l:List Nat):(List.map (T3∘fun c=>[c]) l).sum=l.length:=by
 have:=sV l
 rwa [SM]at this
theorem nm8(z q a b c d:Option Slot)(r:List Nat)(hr:r.length<=8):evS o nmS8 [a,b,c,d,z,some (.ow,.lst (strD r)),q,none]=.nx [a,b,c,d,z,some (.ow,.lst (strD r)),q,some (.sh,.str r)]:=by
 have hs:size r.length=true:=by simp[size];omega
 simp[nmS8,evS,evF,ev,SO.of,setSlot,aA,XS,m1D,jj,xN,jN,XR,hs]
theorem inS_strs(x:List Nat):∀l:List (List Nat),inS (.str x) (l.map Y0)=some (decide (x∈l))
 | []=>rfl
 | y::l=>by
   simp only[R8,inS,inS_strs x l,eqS]
   by_cases h:y=x
   ·simp[h]
   ·have:¬x=y:=fun z=>h z.symm
    simp[h,this]
theorem nm9(z q a b c d:Option Slot)(r:List Nat)(w:Option Slot)(hr:r.length<=8)(k:SL):evSs o (XJ nmS9 (XJ G6 XN)) [a,b,c,d,z,w,q,some (.sh,.str r)]=.rt false (.str (if r∈jE then r++[57]else r)) [a,b,c,d,z,w,q,some (.sh,.str r)]:=by
 have hs:size (r.length+1)=true:=by simp[size];omega
 have hin:=inS_strs r jE;simp only[jE,R8,RQ]at hin
 have h7:size 7=true:=by decide
 have ht:ev o [a,b,c,d,z,w,q,some (.sh,.str r)] true (XM .in (XC 7) (Yd (XF (XD (Y0 [97,110,100])) (XF (XD (Y0 [111,114])) (XF (XD (Y0 [110,111,116])) (XF (XD (Y0 [115,111,109,101])) (XF (XD (Y0 [97,108,108])) (XF (XD (Y0 [97,108,105,107,101])) (XF (XD (Y0 [98,121])) XQ)))))))))=.ok (false,.bl (decide (r∈jE))):=by
  simp only[ev,evL,XS,aM,Bool.or_self,Y5,Rv,Sy,Nat.zero_add,Nat.reduceAdd,h7,Bool.not_false,Bool.and_self,if_true,o2,isIn,fu,hin,RJ,XR,List.getElem?_cons_succ,List.getElem?_cons_zero]
  rfl
 by_cases h:r∈jE
 ·have h9:evS o nmS9 [a,b,c,d,z,w,q,some (.sh,.str r)]=.rt false (.str (r++[57])) [a,b,c,d,z,w,q,some (.sh,.str r)]:=by
   simp only[nmS9,evS];rw[ht];simp[XS,truth,XR,SO.of,h,evSs,evS,evF,ev,o2,Y5,hs]
  simp only[evSs,h9,if_pos h]
 ·have h9:evS o nmS9 [a,b,c,d,z,w,q,some (.sh,.str r)]=.nx [a,b,c,d,z,w,q,some (.sh,.str r)]:=by
   simp only[nmS9,evS];rw[ht];simp[XS,truth,XR,SO.of,h,evSs]
  simp only[evSs,h9,if_neg h,G6,evS];simp
theorem An{o:Orc}{f:Fd}{args:List D}{w:Bool}{d:D}{δ:Dst}(ha:args.length=f.np)(h:evSs o f.body (args.map (fun d=>some (Own.sh,d))++RW (f.ns-f.np) none)=.rt w d δ):bf o f args=.ok (w,d):=by
 simp only[bf,ha,if_true,h]
theorem NP:bf o nmFd [.int cell,.int base]=.ok (false,.str (nm cell base)):=by
 have hz:=kY cell base
 have hrow:(iu cell base).length=(cG cell base).toNat:=by simp[iu]
 have hp:=aD (base.fdiv 16) (cG cell base) (by omega)
 have h0:0<((RG (cG cell base).toNat).map fun(k:Nat)=>sg (base.fdiv 3+5*(k:Int))).length:=by simp;omega
 have hl2:(if dD cell base=0 then(iu cell base).set 0 (lt (base.fdiv 5+cell))else(iu cell base).set (dD cell base).toNat (sg (base.fdiv 5+cell))).length<=8:=by
  split<;>(rw[List.length_set,hrow];omega)
 refine An rfl (δ:=?_) ?_
 rotate_left
 refine(aq (nm0 o cell base _ _ _ _ _ _)).trans ?_;refine(aq (nm1 o cell base _ _ _ _ _)).trans ?_;refine(aq (nm2 o cell base _ _ _ _)).trans ?_;refine(aq (nm3 o cell base _ _ _)).trans ?_;refine(aq (nm4 o cell base _ _ _ hz)).trans ?_;refine(aq (nm5 o cell base _ _ _ _ h0)).trans ?_;refine(aq (nm6 o cell base _ _ _ hz.1)).trans ?_;refine(aq (nm7 o cell base _ _ (iu cell base) (dD cell base) (by rw[hrow];unfold dD;omega))).trans ?_;refine(aq (nm8 o _ _ _ _ _ _ _ hl2)).trans ?_;exact nm9 o _ _ _ _ _ _ _ _ hl2 .nil
theorem Kz:(nm cell base).length<=9:=by
 have hz:=kY cell base
 have hrow:(iu cell base).length=(cG cell base).toNat:=by simp[iu]
 have h2:(ik cell base).length<=8:=by
  unfold ik;split<;>(rw[List.length_set,hrow];omega)
 unfold nm;split
 ·rw[Rx];simp;omega
 ·omega
end
end KG
namespace KG
open Z
theorem au(ha:args.length=f.np)(h0:args.map (fun d=>some (Own.sh,d))++RW (f.ns-f.np) none=δ0)(h:∃δ,evSs o f.body δ0=.rt w d δ):bf o f args=.ok (w,d):=by
 obtain⟨δ,h⟩:=h;simp only[bf,ha,if_true,h0,h]
theorem stp(δ':Dst)(h:evS o s δ=.nx δ')(k:∃δ1,evSs o l δ'=.rt w d δ1):∃δ1,evSs o (.cons s l) δ=.rt w d δ1:=by
 obtain⟨δ1,k⟩:=k;exact⟨δ1,(aq h).trans k⟩
theorem stpR(h:evS o s δ=.rt w d δ'):∃δ1,evSs o (.cons s l) δ=.rt w d δ1:=⟨δ',by simp only[evSs,h]⟩
noncomputable def isV:T->Bool
 | .var _=>true
 | _=>false
theorem retE(hv:isV e=false):evS o (.ret e) δ=SO.of (evF o δ e).1 (evF o δ e).2 fun r=>.rt r.1 r.2 (evF o δ e).1:=by cases e<;>first | rfl | exact nomatch hv
theorem forE(h:bV δ it=δ1):evS o (.for_ tg tp it b) δ=SO.of δ1 (evI o δ1 false it) fun l=>bG (evSs o b) tg tp l δ1:=by subst h;simp only[evS]
noncomputable def cellFd:Fd:=⟨2,2,(XJ (Y7 (XM .lt (XC 1) (Y9 .len (XC 0))) (XJ (Y6 (XX (XC 0) (XC 1))) XN) XN) (XJ (Y6 (XD (XH 0))) XN))⟩
theorem Br(o:Orc)(ns:List Int)(k:Nat):bf o cellFd [.lst (ns.map .int),.int (k:Int)]=.ok (false,.int (ns.getD k 0)):=by
 by_cases h:k<ns.length
 ·have h':(k:Int)<(ns.length:Int):=by omega
  have h0:(0:Int)<=k:=by omega
  simp[bf,cellFd,evSs,evS,evF,ev,XS,o2,b1D,arith,truth,XR,SO.of,h,h',idxD,place,h0,Ss,Rm h]
 ·have h':¬(k:Int)<(ns.length:Int):=by omega
  have h2:ns[k]?=none:=Vu (by omega);simp[bf,cellFd,evSs,evS,evF,ev,XS,o2,b1D,arith,truth,XR,SO.of,h,h',Ss,h2]
noncomputable def PR:List Int:=[271828183,314159269,161803399,141421357,173205081,223606797,244948975,264575131,331662479,360555127]
def Ia:S:=(Y8 3 (Ye (XF (XD (XH 271828183)) (XF (XD (XH 314159269)) (XF (XD (XH 161803399)) (XF (XD (XH 141421357)) (XF (XD (XH 173205081)) XQ)))))))
def HW:S:=(Y8 3 (XM .add (XC 3) (Ye (XF (XD (XH 223606797)) (XF (XD (XH 244948975)) (XF (XD (XH 264575131)) (XF (XD (XH 331662479)) (XF (XD (XH 360555127)) XQ))))))))
def Gb:S:=(Y6 (XM .mod (XM .mod (XM .mul (XM .add (XC 0) (XD (XH 1))) (XX (XC 3) (XC 1))) (XD (XH 1000000007))) (XC 2)))
noncomputable def mixFd:Fd:=⟨3,4,(XJ Ia (XJ HW (XJ Gb XN)))⟩
noncomputable def mixV(c:Int)(k:Nat)(m:Int):Int:=(((c+1)*PR.getD k 0).fmod 1000000007).fmod m
theorem Fg:∀p∈PR,bits p<=64:=by decide
theorem Ba(k:Nat)(hk:k<10):bits (PR.getD k 0)<=64:=by
 apply Fg
 rw[Ss,Rm (show k<PR.length from hk)];exact Uh _
theorem idx_int(x:List Int)(k:Nat)(h:k<x.length):idxD (.lst (x.map .int)) (.int (k:Int))=.ok (false,.int (x.getD k 0)):=by
 have h0:(0:Int)<=k:=by omega
 simp[idxD,place,h0,h,XR,Ss,Rm h]
theorem mix2(o:Orc)(c m:Int)(k:Nat)(hk:k<10)(hm:m≠0):evS o Gb [some (.sh,.int c),some (.sh,.int k),some (.sh,.int m),some (.ow,.lst (PR.map .int))]=.rt false (.int (mixV c k m)) [some (.sh,.int c),some (.sh,.int k),some (.sh,.int m),some (.ow,.lst (PR.map .int))]:=by
 have hi:=idx_int PR k hk;have hb:=Ba k hk;unfold mixV;generalize PR.getD k 0=p at hi hb;generalize PR.map XH=L at hi
 have hm':dG (c+1) p=true:=by simp[dG,hb]
 simp[Gb,evS,evF,ev,XS,o2,arith,hi,Y5,hm,hm',SO.of]
theorem Hf(o:Orc)(c m:Int)(k:Nat)(hk:k<10)(hm:m≠0):bf o mixFd [.int c,.int (k:Int),.int m]=.ok (false,.int (mixV c k m)):=by
 refine au rfl (δ0:=[some (.sh,.int c),some (.sh,.int k),some (.sh,.int m),none]) rfl ?_;refine stp (s:=Ia) [some (.sh,.int c),some (.sh,.int k),some (.sh,.int m),some (.ow,.lst [.int 271828183,.int 314159269,.int 161803399,.int 141421357,.int 173205081])] ?_ ?_
 ·simp[Ia,evS,evF,ev,evL,aM,XS,Y5,size,SO.of,setSlot,aA]
 refine stp (s:=HW) [some (.sh,.int c),some (.sh,.int k),some (.sh,.int m),some (.ow,.lst (PR.map .int))] ?_ ?_
 ·simp[HW,evS,evF,ev,evL,aM,XS,Y5,size,SO.of,setSlot,aA,o2,PR]
 exact stpR (mix2 o c m k hk hm)
theorem cO(c:Int)(k:Nat)(m:Int)(hm:0<m):0<=mixV c k m/\mixV c k m<m:=aD _ m hm
noncomputable def numFd:Fd:=⟨1,2,(XJ (Y7 (XM .eq (XM .mod (XC 0) (XD (XH 2))) (XD (XH 0))) (XJ (Y6 (XM .sub (XM .mod (XM .fdiv (XC 0) (XD (XH 2))) (XD (XH 15))) (XD (XH 7)))) XN) XN) (XJ (Y8 1 (XM .add (XM .mod (XM .fdiv (XC 0) (XD (XH 4))) (XM .pow (XD (XH 10)) (XD (XH 20)))) (XM .mul (XM .mod (XM .fdiv (XC 0) (XD (XH 4))) (XD (XH 3))) (XM .pow (XD (XH 10)) (XD (XH 19)))))) (XJ (Y6 (XM .sub (XC 1) (XM .mul (XM .mul (XD (XH 2)) (XC 1)) (XM .mod (XM .fdiv (XC 0) (XD (XH 2))) (XD (XH 2)))))) XN)))⟩
def oO(c:Int):Int:=(c.fdiv 4).fmod 100000000000000000000+(c.fdiv 4).fmod 3*10000000000000000000
noncomputable def numV(c:Int):Int:=if c.fmod 2=0 then(c.fdiv 2).fmod 15-7 else oO c-2*oO c*(c.fdiv 2).fmod 2
theorem M8(o:Orc)(c:Int):ev o [some (.sh,.int c),none] false (XM .add (XM .mod (XM .fdiv (XC 0) (XD (XH 4))) (XM .pow (XD (XH 10)) (XD (XH 20)))) (XM .mul (XM .mod (XM .fdiv (XC 0) (XD (XH 4))) (XD (XH 3))) (XM .pow (XD (XH 10)) (XD (XH 19)))))=.ok (false,.int (oO c)):=by
 have l4:Nat.log2 4<9000:=by decide
 have p20:arith .pow 10 20=.ok (false,.int 100000000000000000000):=by rfl
 have p19:arith .pow 10 19=.ok (false,.int 10000000000000000000):=by rfl
 have hb:bits 10000000000000000000<=64:=by decide
 have hm:∀x,dG x 10000000000000000000=true:=fun x=>by simp[dG,hb]
 have md:arith .mod (c.fdiv 4) 100000000000000000000=.ok (false,.int ((c.fdiv 4).fmod 100000000000000000000)):=by simp[arith,Y5]
 have mu:∀x,arith .mul x 10000000000000000000=.ok (false,.int (x*10000000000000000000)):=fun x=>by simp[arith,Y5,hm]
 have ad:∀x y,arith .add x y=.ok (false,.int (x+y)):=fun x y=>rfl
 have m3:∀x,arith .mod x 3=.ok (false,.int (x.fmod 3)):=fun x=>by simp[arith,Y5]
 have d4:arith .fdiv c 4=.ok (false,.int (c.fdiv 4)):=by simp[arith,Y5,l4]
 unfold oO;generalize (100000000000000000000:Int)=A at p20 md ⊢;generalize (10000000000000000000:Int)=B at p19 mu ⊢;simp[ev,XS,o2,d4,p20,p19,md,mu,ad,m3]
theorem zJ(o:Orc)(c v:Int):ev o [some (.sh,.int c),some (.sh,.int v)] false (XM .sub (XC 1) (XM .mul (XM .mul (XD (XH 2)) (XC 1)) (XM .mod (XM .fdiv (XC 0) (XD (XH 2))) (XD (XH 2)))))=.ok (false,.int (v-2*v*(c.fdiv 2).fmod 2)):=by
 have l2:Nat.log2 2<9000:=by decide
 have b2:bits 2<=64:=by decide
 have m2:dG 2 v=true:=by simp[dG,b2]
 have hq:=aD (c.fdiv 2) 2 (by omega)
 have m3:dG (2*v) ((c.fdiv 2).fmod 2)=true:=by
  have:(c.fdiv 2).fmod 2=0\/(c.fdiv 2).fmod 2=1:=by omega
  have b0:bits 0<=64:=by decide
  have b1:bits 1<=64:=by decide
  rcases this with e | e<;>simp[dG,e,b0,b1]
 simp[ev,XS,o2,arith,Y5,l2,m2,m3]
theorem Ga(o:Orc)(c:Int):bf o numFd [.int c]=.ok (false,.int (numV c)):=by
 unfold numV
 by_cases h:c.fmod 2=0
 ·rw[if_pos h]
  have l2:Nat.log2 2<9000:=by decide
  simp[bf,numFd,evSs,evS,evF,ev,XS,o2,arith,Y5,eqA,eqS,XR,truth,SO.of,h,l2]
 ·rw[if_neg h]
  have hv:=M8 o c;generalize oO c=v at hv ⊢;have hr:=zJ o c v;generalize v-2*v*(c.fdiv 2).fmod 2=r at hr ⊢;refine au rfl (δ0:=[some (.sh,.int c),none]) rfl ?_;refine stp [some (.sh,.int c),none] ?_ ?_
  ·simp[evSs,evS,ev,XS,o2,arith,Y5,eqA,eqS,XR,truth,SO.of,h]
  refine stp [some (.sh,.int c),some (.sh,.int v)] ?_ ?_
  ·simp only[evS,evF,hv]
   simp[SO.of,setSlot,aA]
  refine stpR (δ':=[some (.sh,.int c),some (.sh,.int v)]) ?_;simp only[evS,evF,hr,SO.of]
noncomputable def sameFd(ix:Nat):Fd:=⟨2,2,(XJ (Y7 (Yq (XC 1) .tup) (XJ (Y7 (Yp (Yi (Yq (XC 0) .tup)) (XM .ne (Y9 .len (XC 0)) (Y9 .len (XC 1)))) (XJ (Y6 (XD (Yb false))) XN) XN) (XJ (Y6 (Y9 .all (Yj [1,0] 1 false (Yn (Y9 .len (XC 1))) (XD (Yb true)) (Y4 ix (XF (XX (XC 2) (XC 0)) (XF (XX (XC 1) (XC 0)) XQ)))))) XN)) XN) (XJ (Y7 (Yq (XC 1) .str) (XJ (Y6 (Ys (Yq (XC 0) .str) (XM .eq (XC 0) (XC 1)))) XN) XN) (XJ (Y6 (Ys (Yq (XC 0) .int) (Ys (Yi (Yq (XC 0) .bool)) (XM .eq (XC 0) (XC 1))))) XN)))⟩
noncomputable def okT:Nat->D->Prop
 | _,.int _=>True
 | _,.str _=>True
 | n+1,.tup l=>l.length<=1000000/\∀d∈l,okT n d
 | _,_=>False
theorem same_int(o:Orc)(ix:Nat)(i:Int):bf o (sameFd ix) [.int i,.int i]=.ok (false,.bl true):=by
 simp[bf,sameFd,evSs,evS,evF,ev,XS,isD,XR,truth,SO.of,o2,eqA,eqS,bN]
theorem same_str(o:Orc)(ix:Nat)(i:List Nat):bf o (sameFd ix) [.str i,.str i]=.ok (false,.bl true):=by
 simp[bf,sameFd,evSs,evS,evF,ev,XS,isD,XR,truth,SO.of,o2,eqA,eqS,bN]
theorem ie:∀n:Nat,boolsOf (RW n (.bl true))=some (RW n true)
 | 0=>rfl
 | n+1=>by simp[List.replicate_succ,boolsOf,ie n]
theorem Hu(x:List D)(k:Nat)(h:k<x.length):idxD (.tup x) (.int (k:Int))=.ok (false,x[k]):=by
 have h0:(0:Int)<=k:=by omega
 simp[idxD,place,h0,h,XR,Rm h]
theorem nG:∀n:Nat,immL (RW n (.bl true))=true
 | 0=>rfl
 | n+1=>by simp[List.replicate_succ,immL,D.imm,nG n]
theorem bx(o:Orc)(ix:Nat)(l:List D)(hl:l.length<=1000000)(h:∀d∈l,o.fn ix [d,d]=.ok (false,.bl true)):bf o (sameFd ix) [.tup l,.tup l]=.ok (false,.bl true):=by
 have hr:inR (l.length:Int)=true:=by simp[inR];omega
 have hcg:bA (fun x=>ev o ((x++[YB l,YB l]).map fun d=>some (Own.sh,d)) false (Y4 ix (XF (XX (XC 2) (XC 0)) (XF (XX (XC 1) (XC 0)) XQ)))) (fun x=>ev o ((x++[YB l,YB l]).map fun d=>some (Own.sh,d)) true (XD (Yb true))) 1 false (rngD 0 l.length)=.ok (RW l.length (.bl true)):=by
  rw[kJ (g:=fun d=>.bl true)]
  ·rw[List.map_const'];simp[rngD]
  ·intro d _
   simp[ev]
  ·intro d hd
   obtain⟨k,hk,rfl⟩:=RB.mp hd
   have hk':k<l.length:=by have:=Tw.mp hk;omega
   refine⟨false,?_⟩;simp[ev,evL,XS,Hu l k hk',aM,h _ (Uh hk'),lent]
 have hs:size l.length=true:=by simp[size];omega
 have he:ev o [some (.sh,.tup l),some (.sh,.tup l)] true (Yj [1,0] 1 false (Yn (Y9 .len (XC 1))) (XD (Yb true)) (Y4 ix (XF (XX (XC 2) (XC 0)) (XF (XX (XC 1) (XC 0)) XQ))))=.ok (true,.lst (RW l.length (.bl true))):=by
  rw[ev]
  have h1:evI o [some (.sh,.tup l),some (.sh,.tup l)] true (Yn (Y9 .len (XC 1)))=.ok (rngD 0 l.length):=by simp[evI,ev,XS,Y5,b1D,hr]
  have h2:cA [some (.sh,.tup l),some (.sh,.tup l)] [1,0]=some [.tup l,.tup l]:=by simp[cA,um]
  rw[h1,h2];simp only[XS,XR];rw[hcg];simp[Y5,hs,nG]
 refine au rfl (δ0:=[some (.sh,.tup l),some (.sh,.tup l)]) rfl ?_;refine stpR (δ':=[some (.sh,.tup l),some (.sh,.tup l)]) ?_;rw[evS]
 have hc:((ev o [some (.sh,.tup l),some (.sh,.tup l)] true (Yq (XC 1) .tup)).bind fun x=>XR (truth x.2))=.ok true:=by simp[ev,XS,isD,XR,truth]
 rw[hc];simp only[SO.of,if_true];rw[aq (δ':=[some (.sh,.tup l),some (.sh,.tup l)])]
 ·have he2:ev o [some (.sh,.tup l),some (.sh,.tup l)] false (Y9 .all (Yj [1,0] 1 false (Yn (Y9 .len (XC 1))) (XD (Yb true)) (Y4 ix (XF (XX (XC 2) (XC 0)) (XF (XX (XC 1) (XC 0)) XQ)))))=.ok (false,.bl true):=by
   rw[ev,he];simp[XS,b1D,ie,XR]
  simp only[evSs,evS,evF,he2,SO.of]
 ·simp[evSs,evS,ev,XS,isD,XR,truth,SO.of,o2,eqA,eqS,bN,b1D]
theorem same_refl(P:Prg)(w ix:Nat)(hP:P.fns[ix]?=some (sameFd ix)):∀(n:Nat) (d:D) (m:Nat),okT n d->n<m->(orc P w m).fn ix [d,d]=.ok (false,.bl true):=by
 intro n
 induction n with
 | zero=>
   intro d m h hm
   obtain⟨m,rfl⟩:∃k,m=k+1:=⟨m-1,by omega⟩
   cases d<;>simp only[okT]at h
   ·rw[aN hP];exact same_int _ _ _
   ·rw[aN hP];exact same_str _ _ _
 | succ n ih=>
   intro d m h hm
   obtain⟨m,rfl⟩:∃k,m=k+1:=⟨m-1,by omega⟩
   cases d<;>simp only[okT]at h
   ·rw[aN hP];exact same_int _ _ _
   ·rw[aN hP];exact same_str _ _ _
   ·rw[aN hP]
    exact bx _ _ _ h.1 fun d hd=>ih d m (h.2 d hd) (by omega)
end KG
namespace KG
open Z
theorem cX(x:List Nat):∀l,(insS x l).Perm (x::l)
 | []=>Ud _
 | y::l=>by
   simp only[insS];split
   ·exact Ud _
   ·exact((cX x l).cons y).trans (Ua.swap x y l)
theorem sortS_perm:∀l,(eG l).Perm l
 | []=>Ud _
 | x::l=>(cX x _).trans ((sortS_perm l).cons x)
theorem fG [DecidableEq α]:∀{l m:List α},l.Nodup->(∀x∈l,x∈m)->l.length<=m.length
 | [],_,_,_=>by simp
 | a::l,m,hn,hs=>by
   have ha:a∈m:=hs a Rg;have hn':=Sd.mp hn
   have:=fG (m:=m.erase a) hn'.2 fun x hx=>(List.mem_erase_of_ne (show x≠a from fun e=>hn'.1 (e▸hx))).mpr (hs x (Rb _ hx))
   rw[List.length_erase_of_mem ha]at this;have hp:0<m.length:=List.length_pos_of_mem ha;simp only[Rv];omega
abbrev Pair:=List Nat×Int
noncomputable def addP:List Pair->Pair->List Pair
 | [],p=>[p]
 | (x,v)::m,p=>if x=p.1 then(x,v+p.2)::m else(x,v)::addP m p
noncomputable def ksD(m:List Pair):List DK:=m.map fun p=>.s p.1
noncomputable def vsD(m:List Pair):List D:=m.map fun p=>.int p.2
noncomputable def aK:List Pair->List Nat->Option Int
 | [],_=>none
 | (x,v)::m,n=>if x=n then some v else aK m n
theorem rP(n:List Nat):∀m:List Pair,look (ksD m) (vsD m) (.s n)=(aK m n).map .int
 | []=>rfl
 | (x,v)::m=>by
   have ih:=rP n m;simp only[ksD,vsD,R8,look,aK]at ih ⊢
   by_cases h:x=n
   ·simp[h]
   ·simp[h,ih]
theorem wI(p:Pair):∀m:List Pair,bL (ksD m) (.s p.1)=ksD (addP m p)
 | []=>rfl
 | (x,v)::m=>by
   have ih:=wI p m;simp only[ksD,R8,bL,addP]at ih ⊢
   by_cases h:x=p.1
   ·simp[h]
   ·simp[h,ih]
theorem DN(p:Pair):∀m:List Pair,putV (ksD m) (vsD m) (.s p.1) (.int ((aK m p.1).getD 0+p.2))=vsD (addP m p)
 | []=>by simp[ksD,vsD,putV,addP,aK]
 | (x,v)::m=>by
   have ih:=DN p m;simp only[ksD,vsD,R8,putV,addP,aK]at ih ⊢
   by_cases h:x=p.1
   ·simp[h]
   ·simp[h,ih]
noncomputable def tot(l:List Pair)(n:List Nat):Int:=((l.filter fun p=>p.1=n).map (·.2)).sum
noncomputable def gather(l:List Pair):List Pair:=l.foldl addP []
theorem gG(p:Pair)(n:List Nat):∀m,aK (addP m p) n=if p.1=n then some ((aK m n).getD 0+p.2)else aK m n
 | []=>by simp[addP,aK]
 | (x,v)::m=>by
   have ih:=gG p n m;simp only[addP]
   by_cases h:x=p.1
   ·simp only[h,if_true,aK]
    by_cases h2:p.1=n<;>simp[h2]
   ·simp only[h,if_false,aK]
    by_cases h2:x=n
    ·have:¬p.1=n:=fun e=>h (h2.trans e.symm)
     simp[h2,this]
    ·simp[h2,ih]
theorem iZ(p:Pair)(n:List Nat):∀m:List Pair,n∈(addP m p).map (·.1)↔n=p.1\/n∈m.map (·.1)
 | []=>by simp[addP]
 | (x,v)::m=>by
   have ih:=iZ p n m;simp only[addP]
   by_cases h:x=p.1
   ·simp[h]
   ·simp only[h,if_false,R8,Rh,ih]
    constructor
    all_goals(rintro(h | h | h)<;>simp[h])
theorem gD(p:Pair):∀m:List Pair,(m.map (·.1)).Nodup->((addP m p).map (·.1)).Nodup
 | [],_=>by simp[addP]
 | (x,v)::m,hn=>by
   have hn':=Sd.mp (by simpa using hn:(x::m.map (·.1)).Nodup);simp only[addP]
   by_cases h:x=p.1
   ·simpa[h]using hn
   ·simp only[h,if_false,R8]
    refine Sd.mpr ⟨?_,gD p m hn'.2⟩;rw[iZ]
    rintro(e | e)
    ·exact h e
    ·exact hn'.1 e
theorem sY(p:Pair):∀m:List Pair,(addP m p).length<=m.length+1
 | []=>by simp[addP]
 | (x,v)::m=>by
   have:=sY p m;simp only[addP];split<;>simp only[Rv]<;>omega
theorem cR:∀(l m:List Pair),(m.map (·.1)).Nodup->((l.foldl addP m).map (·.1)).Nodup/\(∀n,n∈(l.foldl addP m).map (·.1)↔n∈l.map (·.1)\/n∈m.map (·.1))/\∀n,(aK (l.foldl addP m) n).getD 0=(aK m n).getD 0+tot l n
 | [],m,hn=>by simp[hn,tot]
 | p::l,m,hn=>by
   obtain⟨h1,h2,h3⟩:=cR l (addP m p) (gD p m hn);refine⟨h1,fun n=>?_,fun n=>?_⟩
   ·rw[VG,h2,iZ]
    simp only[R8,Rh]
    constructor
    ·rintro(h | h | h)<;>simp[h]
    ·rintro((h | h) | h)<;>simp[h]
   ·rw[VG,h3,gG]
    by_cases h:p.1=n
    ·simp[h,tot];omega
    ·simp[h,tot]
theorem oG(n:List Nat):∀m:List Pair,n∈m.map (·.1)->∃v,aK m n=some v
 | [],h=>by simp at h
 | (x,v)::m,h=>by
   simp only[aK]
   by_cases e:x=n
   ·exact⟨v,by simp[e]⟩
   ·obtain⟨v',h'⟩:=oG n m (by
     simp only[R8,Rh]at h;rcases h with h | h
     ·exact absurd h.symm e
     ·exact h)
    exact⟨v',by simp[e,h']⟩
noncomputable def keysOf(l:List Pair):List (List Nat):=(gather l).map (·.1)
theorem cF(l:List Pair):(keysOf l).Nodup:=(cR l [] (by simp)).1
theorem gm(l:List Pair)(n:List Nat):n∈keysOf l↔n∈l.map (·.1):=by
 have:=(cR l [] (by simp)).2.1 n;simpa[keysOf,gather]using this
theorem oZ(l:List Pair)(n:List Nat)(h:n∈keysOf l):aK (gather l) n=some (tot l n):=by
 obtain⟨v,hv⟩:=oG n (gather l) h;have:=(cR l [] (by simp)).2.2 n;rw[show l.foldl addP []=gather l from rfl,hv]at this;simp[aK]at this;rw[hv,this]
noncomputable def prD(p:Pair):D:=.tup [.str p.1,.int p.2]
noncomputable def sumL(l:List Pair):List Pair:=((eG (keysOf l)).filter fun n=>tot l n≠0).map fun n=>(n,tot l n)
noncomputable def sumD(c:Int)(l:List Pair):D:=.tup [.int c,.tup ((sumL l).map prD)]
theorem iI:∀m:List Pair,strsOf ((ksD m).map keyD)=some (m.map (·.1))
 | []=>rfl
 | p::m=>by
   have:=iI m;simp only[ksD,R8,SM,keyD,strsOf]at this ⊢;rw[this];rfl
end KG
namespace KG
open Z
theorem pJ(n:List Nat):tot [] n=0:=rfl
theorem fJ(p:Pair)(l:List Pair)(n:List Nat):tot (p::l) n=(if p.1=n then p.2 else 0)+tot l n:=by
 by_cases h:p.1=n<;>simp[tot,h]
theorem uq(l m:List Pair)(n:List Nat):tot (l++m) n=tot l n+tot m n:=by
 induction l with
 | nil=>simp[pJ]
 | cons p l ih=>rw[V9,fJ,fJ,ih];omega
theorem qF(l:List Pair)(n:List Nat)(h:n∉l.map (·.1)):tot l n=0:=by
 induction l with
 | nil=>rfl
 | cons p l ih=>
   simp only[R8,Rh,not_or]at h;rw[fJ,ih h.2,if_neg fun e=>h.1 e.symm];rfl
theorem lE(l:List Pair)(p:Pair):p∈sumL l↔tot l p.1=p.2/\p.2≠0:=by
 constructor
 ·intro h
  obtain⟨n,hn,rfl⟩:=RB.mp h;have:=(Ve.mp hn).2;exact⟨rfl,by simpa using this⟩
 ·rintro⟨h1,h2⟩
  refine RB.mpr ⟨p.1,Ve.mpr ⟨?_,by simp[h1,h2]⟩,by rw[h1]⟩;rw[(sortS_perm _).mem_iff,gm]
  apply Classical.byContradiction
  intro hx;exact h2 (h1▸qF l _ hx)
theorem qQ(m:List Pair)(hn:(m.map (·.1)).Nodup)(n:List Nat):(aK m n).getD 0=tot m n:=by
 induction m with
 | nil=>rfl
 | cons p m ih=>
   obtain⟨h1,h2⟩:=Sd.mp (by simpa using hn:(p.1::m.map (·.1)).Nodup);obtain⟨x,v⟩:=p;rw[fJ];simp only[aK]
   by_cases h:x=n
   ·subst h
    simp only[if_true,Ug];rw[qF m _ h1];omega
   ·simp only[h,if_false]
    rw[ih h2];omega
theorem uK(N:List (List Nat))(l:List Pair)(h:∀p∈l,p.1∈N):(keysOf l).length<=N.length:=by
 apply fG (cF l)
 intro x hx;rw[gm]at hx;obtain⟨p,hp,rfl⟩:=RB.mp hx;exact h p hp
theorem G4(N:List (List Nat))(l:List Pair)(h:∀p∈l,p.1∈N):∀p∈sumL l,p.1∈N:=by
 intro p hp;obtain⟨h1,h2⟩:=(lE l p).mp hp
 apply Classical.byContradiction
 intro hx;refine h2 (h1▸qF l _ fun z=>?_);obtain⟨q,hq,e⟩:=RB.mp z;exact hx (e▸h q hq)
def Bd(x:Int):Prop:=x.natAbs<2 ^ 70
theorem vZ(h:Bd x):bits x<=70:=by
 unfold bits;split
 ·omega
 ·rename_i hx
  have h0:x.natAbs≠0:=by omega
  have:=(Nat.log2_lt h0).mpr h;omega
theorem Nb(hx:Bd x)(hy:Bd y):dG x y=true:=by
 have h1:=vZ hx;have h2:=vZ hy
 have:bits x+bits y<=134217728:=by omega
 simp[dG,this]
theorem zc(c:Int):0<=oO c/\oO c<=120000000000000000000:=by
 unfold oO;have h1:=aD (c.fdiv 4) 100000000000000000000 (by omega);have h2:=aD (c.fdiv 4) 3 (by omega);omega
theorem lG(c:Int):Bd (numV c):=by
 unfold numV Bd;have hz:=zc c;have h2:=aD (c.fdiv 2) 2 (by omega);have h15:=aD (c.fdiv 2) 15 (by omega)
 have hp:(2:Nat) ^ 70=1180591620717411303424:=by decide
 rw[hp];split
 ·omega
 ·have:(c.fdiv 2).fmod 2=0\/(c.fdiv 2).fmod 2=1:=by omega
  rcases this with e | e<;>rw[e]<;>omega
end KG
namespace KG
open Z
noncomputable abbrev dctP(m:List Pair):D:=.dct (ksD m) (vsD m)
theorem KD(m:List Pair)(p:Pair)(hm:m.length<=100000):putItem (dctP m) (.str p.1) (.int ((aK m p.1).getD 0+p.2))=some (dctP (addP m p)):=by
 have:(ksD m).length<=100000:=by simpa[ksD]using hm
 simp only[putItem,keyOf,Rq,this,if_true,wI,DN]
theorem tE(m:List Pair)(hm:m.length<64):b1D .sorted (dctP m)=.ok (true,.lst ((eG (m.map (·.1))).map .str)):=by
 have:(m.map (·.1)).length<64:=by simpa using hm
 simp only[b1D,rZ,Rq,iI,this,if_true,XR]
noncomputable def cmC:T:=(XM .ne (XX (XC 1) (XC 0)) (XD (XH 0)))
noncomputable def cmE:T:=(Yd (XF (XC 0) (XF (XX (XC 1) (XC 0)) XQ)))
theorem Ni(l:List Pair)(n:List Nat)(h:n∈keysOf l):idxD (dctP (gather l)) (.str n)=.ok (false,.int (tot l n)):=by
 simp only[idxD,keyOf,Rq,rP,oZ l n h,RJ,XR]
theorem Pn:size 2=true:=by decide
theorem Bf(o:Orc)(l:List Pair):bA (fun x=>ev o ((x++[dctP (gather l)]).map fun d=>some (Own.sh,d)) false cmE) (fun x=>ev o ((x++[dctP (gather l)]).map fun d=>some (Own.sh,d)) true cmC) 1 false ((eG (keysOf l)).map .str)=.ok ((sumL l).map prD):=by
 rw[iT (g:=fun d=>match d with | .str n=>prD (n,tot l n) | _=>.non) (q:=fun d=>match d with | .str n=>decide (tot l n≠0) | _=>false)]
 ·rw[List.filter_map]
  simp[sumL,Function.comp_def]
 ·intro d hd
  obtain⟨n,hn,rfl⟩:=RB.mp hd;have hk:n∈keysOf l:=(sortS_perm _).mem_iff.mp hn;have hi:=Ni l n hk;generalize dctP (gather l)=X at hi;simp[cmC,ev,XS,hi,o2,eqA,eqS,XR]
 ·intro d hd _
  obtain⟨n,hn,rfl⟩:=RB.mp hd;have hk:n∈keysOf l:=(sortS_perm _).mem_iff.mp hn;have hi:=Ni l n hk;generalize dctP (gather l)=X at hi;refine⟨false,?_⟩;simp[cmE,ev,evL,aM,isOwn,XS,hi,Y5,Pn,prD]
theorem rQ:∀l:List Pair,immL (l.map prD)=true
 | []=>rfl
 | p::l=>by simp[immL,prD,D.imm,rQ l]
theorem lM(l:List Pair):(sumL l).length<=(keysOf l).length:=by
 unfold sumL;rw[Rw];refine Nat.le_trans (List.length_filter_le _ _) ?_;rw[(sortS_perm _).length_eq];exact Nat.le_refl _
theorem qM(p:Pair):takes 2 true (prD p)=some [.str p.1,.int p.2]:=by simp[takes,prD]
theorem pH(c:Int)(l:List Pair)(hk:(keysOf l).length<64):okT 3 (sumD c l):=by
 have:=lM l;refine⟨by simp,?_⟩;intro d hd;simp only[Rh,RZ,or_false]at hd;rcases hd with rfl | rfl
 ·trivial
 ·refine⟨by simp;omega,?_⟩
  intro d hd;obtain⟨p,_,rfl⟩:=RB.mp hd;refine⟨by simp,?_⟩;intro d hd;simp only[Rh,RZ,or_false]at hd;rcases hd with rfl | rfl<;>trivial
theorem fY:∀{l:List α},(∀d∈l,c [a d]=.ok (false,.bl true))->(∀d∈l,∃w,f [a d]=.ok (w,g d))->bA f c 1 false (l.map a)=.ok (l.map g)
 | [],_,_=>rfl
 | d::l,hc,hf=>by
   obtain⟨w,h⟩:=hf d Rg;have ih:=fY (l:=l) (fun x hx=>hc x (Rb _ hx)) (fun x hx=>hf x (Rb _ hx));simp only[R8,bA,takes,Bool.false_eq_true,if_false,XR,XS,hc d Rg,truth,if_true,h,ih]
theorem jd(o:Orc)(δ:Dst)(lk:Bool)(it:TI)(caps:List Nat)(cs l r:List D)(m:Nat)(tg:Bool)(c e:T)(hI:evI o δ true it=.ok l)(hs:cA δ caps=some cs)(ho:(caps.all fun i=>!isOwn δ i)=true)(hr:r.length<=1000)
 (hc:bA (fun x=>ev o ((x++cs).map fun d=>some (Own.sh,d)) false e) (fun x=>ev o ((x++cs).map fun d=>some (Own.sh,d)) true c) m tg l=.ok r):ev o δ lk (Yj caps m tg it c e)=.ok (true,.lst r):=by
 rw[ev,hI,hs];simp only[XS,XR];rw[hc]
 have hz:size r.length=true:=by simp[size];omega
 simp only[ho,hz,Y5];simp
theorem aX(h:ev o δ false e=.ok (w,d))(hs:setSlot δ i w d=some δ'):evS o (.set i e) δ=.nx δ':=by
 simp only[evS,evF,h,SO.of,hs,RJ,aA]
theorem cD(h:ev o δ true c=.ok (w,.bl b)):evS o (.ifs c x y) δ=if b=true then evSs o x δ else evSs o y δ:=by
 simp only[evS,h,XS,truth,XR,SO.of]
theorem eqi(h:ev o δ true a=.ok (w,.int x)):ev o δ true (XM .eq a (XD (XH y)))=.ok (false,.bl (decide (x=y))):=by
 simp only[ev,h,XS,o2,eqA,eqS,RJ,XR]
theorem aB(ha:ev o δ true a=.ok (w1,x))(hb:ev o δ true b=.ok (w2,y)):ev o δ lk (XM p a b)=o2 p x y:=by
 simp only[ev,ha,hb,XS]
theorem aj(h:δ[i]?=some (some (.sh,d))):ev o δ lk (XC i)=.ok (false,d):=by simp only[ev,h]
theorem ak:ev o δ lk (XD d)=.ok (false,d):=by simp only[ev]
section
variable{o:Orc}{δ:Dst}{lk:Bool}
theorem aa(hk:aM δ t=false)(h:ev o δ false t=.ok (w,x))(hl:evL o δ l=.ok (false,xs)):evL o δ (.cons t l)=.ok (false,x::xs):=by
 simp only[evL,hk,h,hl,XS,Bool.or_false]
theorem aL(hl:evL o δ l=.ok (false,xs))(h:o.fn f xs=.ok (w,x)):ev o δ lk (Y4 f l)=.ok (w,x):=by
 simp only[ev,hl,XS,h,lent,Bool.false_eq_true,if_false]
theorem bY(hl:evL o δ l=.ok (false,xs))(hz:size xs.length=true):ev o δ lk (Yd l)=.ok (false,.tup xs):=by
 simp only[ev,hl,XS,hz,Bool.not_false,Bool.and_self,Y5,if_true]
theorem dU(hl:evL o δ l=.ok (false,xs))(hz:size xs.length=true):ev o δ lk (Ye l)=.ok (true,.lst xs):=by
 simp only[ev,hl,XS,hz,Bool.not_false,Bool.and_self,Y5,if_true]
theorem ww(ha:ev o δ true a=.ok (w,.bl true))(hb:ev o δ true b=.ok (w',.bl c)):ev o δ lk (Ys a b)=.ok (false,.bl c):=by simp only[ev,ha,hb,XS,bN]
theorem Qm(ha:ev o δ true a=.ok (w,.bl false)):ev o δ lk (Ys a b)=.ok (false,.bl false):=by simp only[ev,ha,XS]
theorem ifN(h:ev o δ true c=.ok (w,.bl false)):evS o (.ifs c x .nil) δ=.nx δ:=by rw[cD h];rfl
theorem pY(h:a.length+b.length<=1000):o2 .add (.lst a) (.lst b)=.ok (true,.lst (a++b)):=by
 have:size (a.length+b.length)=true:=decide_eq_true (Nat.le_trans h (by decide));simp only[o2,this,Y5,if_true]
theorem retR(h:ev o δ false e=.ok (w,d))(hv:isV e=false):evS o (.ret e) δ=.rt w d δ:=by
 rw[retE hv];simp only[evF,h,SO.of]
theorem ifR(h:ev o δ true c=.ok (b,.bl true))(k:evS o s δ=.rt w d δ'):evS o (.ifs c (.cons s l) y) δ=.rt w d δ':=by
 rw[cD h];simp only[if_true,evSs,k]
end
theorem oH(ha:ev o δ true a=.ok (w1,x))(hl:ev o δ true lo=.ok (w2,y))(hh:ev o δ true hi=.ok (w3,z))(bl:bnd lo y=some l)(bh:bnd hi z=some h)(hr:slcD x l h=some r):ev o δ lk (Yv a lo hi)=.ok r:=by
 simp only[ev,ha,hl,hh,XS,bl,bh,Rq,hr,XR]
theorem Ky(ha:ev o δ true a=.ok (w1,x))(hc:ev o δ true c=.ok (w2,y)):ev o δ lk (T.b2 b a c)=b2D b x y:=by simp only[ev,ha,hc,XS]
theorem gj(ha:ev o δ true a=.ok (w1,x)):ev o δ lk (Y9 b a)=b1D b x:=by simp only[ev,ha,XS]
end KG
namespace KG
open Z
theorem KZ(c:Int)(n:Nat)(h0:n≠0)(h:n.log2<9000):arith .fdiv c (n:Int)=.ok (false,.int (c.fdiv n)):=by
 have:(n:Int)≠0:=by omega
 simp[arith,Y5,h0,h]
def R3(c:Int):Int:=if c.fmod 3=0 then(c.fdiv 3).fmod 15-7 else(c.fdiv 3).fmod 2000000000000000000000000000000000000000000000000000000000001-1000000000000000000000000000000000000000000000000000000000000
def Bq(x:Int):Prop:=x.natAbs<2 ^ 1000
set_option exponentiation.threshold 400 in
set_option exponentiation.threshold 400 in
theorem iU(m:List Pair)(n:List Nat)(h:n∉m.map (·.1)):bL (ksD m) (.s n)=ksD m++[.s n]/\∀v,putV (ksD m) (vsD m) (.s n) v=vsD m++[v]:=by
 induction m with
 | nil=>exact⟨rfl,fun v=>rfl⟩
 | cons p m ih=>
   simp only[R8,Rh,not_or]at h;obtain⟨i1,i2⟩:=ih h.2
   have ne:¬(Yh p.1=Yh n):=fun e=>h.1 (by cases e;rfl)
   refine⟨?_,fun v=>?_⟩
   ·show(if Yh p.1=Yh n then _ else _)=_
    rw[if_neg ne];show Yh p.1::bL (ksD m) (.s n)=_;rw[i1];rfl
   ·show(if Yh p.1=Yh n then _ else _)=_
    rw[if_neg ne];show XH p.2::putV (ksD m) (vsD m) (.s n) v=_;rw[i2 v];rfl
section
variable{o:Orc}{inum icell:Nat}{ns:List Int}(hc:∀k:Nat,o.fn icell [.lst (ns.map .int),.int (k:Int)]=.ok (false,.int (ns.getD k 0)))(hn:∀c,o.fn inum [.int c]=.ok (false,.int (R3 c)))
include hc hn
end
def Q0(x key:Int):Int:=if x.fmod 5=1 then(key+1)*(1-2*(x.fdiv 5).fmod 2)else((x.fdiv 5).fmod 7-3)*(1+(x.fdiv 35).fmod 4)
structure PtOk(N:List (List Nat))(m:List Pair):Prop where
 keys:m.map (·.1)=N
 nd:N.Nodup
 le:N.length<=4
 bd:∀p∈m,Bq p.2
theorem PtOk.len(P:PtOk N m):m.length<=4:=by
 have:=congrArg T3 P.keys;have h:=P.le;simp at this;omega
theorem fO:∀(m:List Pair) (n:List Nat),n∈m.map (·.1)->∃v,(n,v)∈m/\look (ksD m) (vsD m) (.s n)=some (.int v)
 | [],_,h=>by simp at h
 | p::m,n,h=>by
   by_cases e:p.1=n
   ·exact⟨p.2,by subst e;simp,by simp[ksD,vsD,look,e]⟩
   ·obtain⟨v,h1,h2⟩:=fO m n (by simpa[T5 e]using h)
    exact⟨v,Rb _ h1,by simp only[ksD,vsD,R8,look,Yh.injEq,e,if_false];exact h2⟩
theorem PtOk.get(P:PtOk N m)(h:n∈N):∃v,Bq v/\idxD (dctP m) (.str n)=.ok (false,.int v):=by
 obtain⟨v,h1,h2⟩:=fO m n (by rw[P.keys];exact h);exact⟨v,P.bd _ h1,by simp[idxD,dctP,keyOf,h2,XR]⟩
theorem PtOk.sorted(P:PtOk N m):b1D .sorted (dctP m)=.ok (true,.lst ((eG N).map .str)):=by
 rw[<-P.keys];exact tE m (by have:=P.len;omega)
section
variable{o:Orc}{imany inear:Nat}(hm:∀x k:Int,o.fn imany [.int x,.int k]=.ok (false,.int (Q0 x k)))(hnr:∀c:Int,∃v,o.fn inear [.int c]=.ok (false,.int v))
variable{N:List (List Nat)}{m:List Pair}(P:PtOk N m){sp:Int}(hsp:0<sp/\sp<=100000000000000000000)
include hm P hsp
include hnr
end
set_option exponentiation.threshold 400 in
noncomputable abbrev st4(cell:Int)(M:D)(sp:Int)(a:Option Slot):Dst:=[some (.sh,.int cell),some (.sh,M),some (.sh,.int sp),a]
end KG
namespace KG
open Z
noncomputable def sbB(imix inum iname:Nat):SL:=(XJ (Y8 4 (XM .sub (Y4 imix (XF (XC 0) (XF (XM .add (XD (XH 1)) (XC 3)) (XF (XD (XH 15)) XQ)))) (XD (XH 7)))) (XJ (Y7 (XM .eq (Y4 imix (XF (XC 0) (XF (XD (XH 7)) (XF (XD (XH 8)) XQ)))) (XC 3)) (XJ (Y8 4 (Y4 inum (XF (XC 0) XQ))) XN) XN) (XJ (Yo 2 (Y4 iname (XF (Y4 imix (XF (XC 0) (XF (XM .add (XD (XH 4)) (XC 3)) (XF (XD (XH 5)) XQ)))) (XF (XC 1) XQ))) (XC 4)) XN)))
noncomputable def sbC(imix:Nat):S:=(Y8 5 (XM .sub (Y4 imix (XF (XC 0) (XF (XD (XH 8)) (XF (XD (XH 21)) XQ)))) (XD (XH 10))))
noncomputable def sbD(imix inum:Nat):S:=(Y7 (XM .eq (Y4 imix (XF (XC 0) (XF (XD (XH 9)) (XF (XD (XH 4)) XQ)))) (XD (XH 0))) (XJ (Y8 5 (Y4 inum (XF (XM .fdiv (XC 0) (XD (XH 3))) XQ))) XN) XN)
noncomputable def sbE:T:=(Yd (XF (XC 5) (XF (Y9 .tuple (Yj [2] 1 false (Yc (Y9 .sorted (XC 2))) cmC cmE)) XQ)))
noncomputable def sbI(imix:Nat):T:=Y4 imix (XF (XC 0) (XF (XD (XH 0)) (XF (XD (XH 4)) XQ)))
noncomputable def sbFd(imix inum iname:Nat):Fd:=⟨2,6,(XJ (Y8 2 (Yy [] XQ)) (XJ (Yk [3] false (Yn (sbI imix)) (sbB imix inum iname)) (XJ (sbC imix) (XJ (sbD imix inum) (XJ (Y6 sbE) XN)))))⟩
noncomputable def N5(base:Int):List (List Nat):=(RG 5).map fun(j:Nat)=>nm (j:Int) base
theorem wZ(base:Int):(N5 base).length=5:=by simp[N5]
theorem Iz(c base:Int)(h:0<=c/\c<5):nm c base∈N5 base:=by
 refine RB.mpr ⟨c.toNat,Tw.mpr (by omega),?_⟩;show nm (c.toNat:Int) base=_;rw[Int.toNat_of_nonneg h.1]
structure Shr(base:Int)(k:Nat)(l:List Pair):Prop where
 nm:∀p∈l,p.1∈N5 base
 tot:∀n,Bd (tot l n)
 len:l.length<=k
theorem Fj(l:List Pair)(n:List Nat)(v:Int)(hl:l.length<=1000):putItem (dctP (gather l)) (.str n) (.int v)=some (dctP (gather (l++[(n,v-tot l n)]))):=by
 have hg:(gather l).length<=100000:=by
  have:=(fG (cF l) (fun x hx=>(gm l x).mp hx))
  simp[keysOf]at this;omega
 have h:=KD (gather l) (n,v-tot l n) hg;have h3:=(cR l [] (by simp)).2.2 n
 have e:(aK (gather l) n).getD 0=tot l n:=by
  rw[qQ (gather l) (cF l)];have h4:=qQ (gather l) (cF l) n;rw[<-h4];show(aK (l.foldl addP []) n).getD 0=_;rw[h3];simp[aK,tot]
 simp only[e]at h;rw[show tot l n+(v-tot l n)=v by omega]at h;rw[h];simp[gather,List.foldl_append]
theorem Shr.put(h:Shr base k l)(hn:n∈N5 base)(hv:Bd v):Shr base (k+1) (l++[(n,v-KG.tot l n)])where
 nm:=fun p hp=>(T6.mp hp).elim (h.nm p) fun hp=>by simp only[Vh]at hp;subst hp;exact hn
 tot:=fun x=>by
  rw[uq,fJ,pJ]
  by_cases e:n=x
  ·subst e;rw[if_pos rfl,show KG.tot l n+(v-KG.tot l n+0)=v by omega];exact hv
  ·rw[if_neg e,show KG.tot l x+(0+0)=KG.tot l x by omega];exact h.tot x
 len:=by have:=h.len;simp;omega
theorem lL(h:x.natAbs<=1000):Bd x:=Nat.lt_of_le_of_lt h (by decide)
section
variable{o:Orc}{imix inum iname:Nat}(hmix:∀(c:Int) (k:Nat) (m:Int),k<10->m≠0->o.fn imix [.int c,.int (k:Int),.int m]=.ok (false,.int (mixV c k m)))(hnum:∀c,o.fn inum [.int c]=.ok (false,.int (numV c)))(hname:∀c b,o.fn iname [.int c,.int b]=.ok (false,.str (nm c b)))
include hmix hnum hname
theorem Fv(cell base:Int)(k j:Nat)(hj:j<4)(l:List Pair)(hl:Shr base k l)(hk:k<=1000)(d e:Option Slot):∃l' d',Shr base (k+1) l'/\evSs o (sbB imix inum iname) [some (.sh,.int cell),some (.sh,.int base),some (.ow,dctP (gather l)),some (.sh,.int (j:Int)),d,e]=.nx [some (.sh,.int cell),some (.sh,.int base),some (.ow,dctP (gather l')),some (.sh,.int (j:Int)),d',e]:=by
 have m1:=hmix cell (1+j) 15 (by omega) (by omega);have m2:=hmix cell 7 8 (by omega) (by omega);have m3:=hmix cell (4+j) 5 (by omega) (by omega);have r1:=cO cell (1+j) 15 (by omega);have r3:=cO cell (4+j) 5 (by omega);rw[show((1+j:Nat):Int)=1+(j:Int) by omega]at m1;rw[show((4+j:Nat):Int)=4+(j:Int) by omega]at m3;generalize mixV cell (1+j) 15=a1 at m1 r1;generalize mixV cell (4+j) 5=a3 at m3 r3;generalize mixV cell 7 8=a2 at m2;have hn:=hname a3 base;have hN:=Iz a3 base r3;generalize nm a3 base=n at hn hN;have hv:=hnum cell;have hvb:=lG cell;generalize numV cell=v at hv hvb
 have z:∀x:Int,putItem (dctP (gather l)) (.str n) (.int x)=some (dctP (gather (l++[(n,x-tot l n)]))):=fun x=>Fj l n x (by have:=hl.len;omega)
 have w:=fun(x:Int) (hx:Bd x)=>hl.put hN hx
 have m2':o.fn imix [.int cell,.int 7,.int 8]=.ok (false,.int a2):=m2
 by_cases h:a2=j
 ·refine⟨_,some (.sh,.int v),w v hvb,?_⟩
  have z1:=z v;generalize dctP (gather (l++[(n,v-tot l n)]))=Y at z1 ⊢;generalize dctP (gather l)=X at z1 ⊢;rw[sbB,aq (δ':=[some (.sh,.int cell),some (.sh,.int base),some (.ow,X),some (.sh,.int (j:Int)),some (.sh,.int (a1-7)),e]) (by simp[evS,evF,ev,evL,aM,isOwn,XS,o2,arith,m1,lent,SO.of,setSlot,aA])];rw[aq (δ':=[some (.sh,.int cell),some (.sh,.int base),some (.ow,X),some (.sh,.int (j:Int)),some (.sh,.int v),e]) (by simp[evS,evSs,evF,ev,evL,aM,isOwn,XS,o2,arith,m2',hv,h,eqA,eqS,bN,truth,XR,lent,SO.of,setSlot,aA])];rw[aq (δ':=[some (.sh,.int cell),some (.sh,.int base),some (.ow,Y),some (.sh,.int (j:Int)),some (.sh,.int v),e]) (by simp[evS,evF,ev,evL,aM,isOwn,XS,o2,arith,m3,hn,lent,SO.of,ownD,z1,aA])]
  rfl
 ·refine⟨_,some (.sh,.int (a1-7)),w (a1-7) (lL (by omega)),?_⟩
  have z1:=z (a1-7);generalize dctP (gather (l++[(n,(a1-7)-tot l n)]))=Y at z1 ⊢;generalize dctP (gather l)=X at z1 ⊢;rw[sbB,aq (δ':=[some (.sh,.int cell),some (.sh,.int base),some (.ow,X),some (.sh,.int (j:Int)),some (.sh,.int (a1-7)),e]) (by simp[evS,evF,ev,evL,aM,isOwn,XS,o2,arith,m1,lent,SO.of,setSlot,aA])];rw[aq (δ':=[some (.sh,.int cell),some (.sh,.int base),some (.ow,X),some (.sh,.int (j:Int)),some (.sh,.int (a1-7)),e]) (by simp[evS,evSs,evF,ev,evL,aM,isOwn,XS,o2,arith,m2',hv,h,eqA,eqS,bN,truth,XR,lent,SO.of,setSlot,aA])];rw[aq (δ':=[some (.sh,.int cell),some (.sh,.int base),some (.ow,Y),some (.sh,.int (j:Int)),some (.sh,.int (a1-7)),e]) (by simp[evS,evF,ev,evL,aM,isOwn,XS,o2,arith,m3,hn,lent,SO.of,ownD,z1,aA])]
  rfl
theorem Dl(cell base:Int)(e:Option Slot):∀(js:List Nat) (k:Nat) (l:List Pair) (c d:Option Slot),(∀j∈js,j<4)->Shr base k l->k+js.length<=1000->∃l' c' d',Shr base (k+js.length) l'/\bG (evSs o (sbB imix inum iname)) [3] false (js.map fun(j:Nat)=>XH (j:Int)) [some (.sh,.int cell),some (.sh,.int base),some (.ow,dctP (gather l)),c,d,e]=.nx [some (.sh,.int cell),some (.sh,.int base),some (.ow,dctP (gather l')),c',d',e]
 | [],k,l,c,d,_,hl,_=>⟨l,c,d,hl,rfl⟩
 | j::js,k,l,c,d,hj,hl,hk=>by
   simp only[Rv]at hk;obtain⟨l1,d1,g1,b1⟩:=Fv hmix hnum hname cell base k j (hj j Rg) l hl (by omega) d e;obtain⟨l2,c2,d2,g2,b2⟩:=Dl cell base e js (k+1) l1 (some (.sh,.int (j:Int))) d1 (fun x hx=>hj x (Rb _ hx)) g1 (by omega);refine⟨l2,c2,d2,by simpa[Nat.add_assoc,Nat.add_comm 1]using g2,?_⟩
   have hs:aG [some (.sh,.int cell),some (.sh,.int base),some (.ow,dctP (gather l)),c,d,e] [3] [.int (j:Int)]=some [some (.sh,.int cell),some (.sh,.int base),some (.ow,dctP (gather l)),some (.sh,.int (j:Int)),d,e]:=by simp[aG,setSlot]
   have ht:takes 1 false (.int (j:Int))=some [.int (j:Int)]:=by simp[takes]
   simp only[R8,bG,Rv,Sy,Nat.zero_add,ht,hs,b1];exact b2
end
theorem Ck(o:Orc)(c:Int)(a b d e:Option Slot)(l:List Pair)(hk:(keysOf l).length<64):ev o [a,b,some (.ow,dctP (gather l)),d,e,some (.sh,.int c)] false sbE=.ok (false,sumD c l):=by
 have hg:=Bf o l;have hs:=tE (gather l) (by simpa[keysOf]using hk);have hi:=rQ (sumL l)
 have hz:size ((sumL l).map prD).length=true:=by
  have:=lM l;simp[size];omega
 have hx:ev o [a,b,some (.ow,dctP (gather l)),d,e,some (.sh,.int c)] true (Yj [2] 1 false (Yc (Y9 .sorted (XC 2))) cmC cmE)=.ok (true,.lst ((sumL l).map prD)):=by
  rw[show(gather l).map (·.1)=keysOf l from rfl]at hs;rw[ev]
  have h1:evI o [a,b,some (.ow,dctP (gather l)),d,e,some (.sh,.int c)] true (Yc (Y9 .sorted (XC 2)))=.ok ((eG (keysOf l)).map .str):=by
   generalize dctP (gather l)=X at hs;simp[evI,ev,XS,hs,o9,XR]
  have h2:cA [a,b,some (.ow,dctP (gather l)),d,e,some (.sh,.int c)] [2]=some [dctP (gather l)]:=by simp[cA,um]
  rw[h1,h2];simp only[XS,XR];rw[hg];simp only[Y5,hz,hi,Bool.true_or,Bool.and_self,if_true]
 unfold sumD;generalize (sumL l).map prD=L at hx;generalize dctP (gather l)=X at hx
 have hb:ev o [a,b,some (.ow,X),d,e,some (.sh,.int c)] false (Y9 .tuple (Yj [2] 1 false (Yc (Y9 .sorted (XC 2))) cmC cmE))=.ok (false,.tup L):=by
  rw[ev,hx];rfl
 have h0:ev o [a,b,some (.ow,X),d,e,some (.sh,.int c)] false (XC 5)=.ok (false,.int c):=by simp[ev]
 exact bY (aa rfl h0 (aa rfl hb rfl)) rfl
section
variable{o:Orc}{imix inum iname:Nat}(hmix:∀(c:Int) (k:Nat) (m:Int),k<10->m≠0->o.fn imix [.int c,.int (k:Int),.int m]=.ok (false,.int (mixV c k m)))(hnum:∀c,o.fn inum [.int c]=.ok (false,.int (numV c)))(hname:∀c b,o.fn iname [.int c,.int b]=.ok (false,.str (nm c b)))
include hmix hnum hname
theorem wk(cell base:Int):∃c l,Bd c/\Shr base 3 l/\bf o (sbFd imix inum iname) [.int cell,.int base]=.ok (false,sumD c l):=by
 have m0:=hmix cell 0 4 (by omega) (by omega);have r0:=cO cell 0 4 (by omega);generalize mixV cell 0 4=n at m0 r0;obtain⟨n,rfl⟩:=Int.eq_ofNat_of_zero_le r0.1
 have hn:n<4:=by omega
 have m0':o.fn imix [.int cell,.int 0,.int 4]=.ok (false,.int (n:Int)):=m0;have m8:o.fn imix [.int cell,.int 8,.int 21]=.ok (false,.int (mixV cell 8 21)):=hmix cell 8 21 (by omega) (by omega);have m9:o.fn imix [.int cell,.int 9,.int 4]=.ok (false,.int (mixV cell 9 4)):=hmix cell 9 4 (by omega) (by omega);have r8:=cO cell 8 21 (by omega);generalize mixV cell 8 21=c8 at m8 r8;generalize mixV cell 9 4=c9 at m9;obtain⟨l,c',d',g,hf⟩:=Dl hmix hnum hname cell base none (RG n) 0 [] none none (fun j hj=>by have:=Tw.mp hj;omega) ⟨by simp,fun n=>lL (by simp[pJ]),by simp⟩ (by simp;omega)
 have hk:(keysOf l).length<64:=by
  have:=uK (N5 base) l g.nm;rw[wZ]at this;omega
 have hv:=hnum (cell.fdiv 3);have hvb:=lG (cell.fdiv 3);generalize numV (cell.fdiv 3)=v at hv hvb
 have g3:Shr base 3 l:=⟨g.nm,g.tot,by have:=g.len;simp at this;omega⟩
 have fin:∀c,Bd c->(∀δ0:Option Slot,∃δ',evSs o (XJ (sbD imix inum) (XJ (Y6 sbE) XN)) [some (.sh,.int cell),some (.sh,.int base),some (.ow,dctP (gather l)),c',d',some (.sh,.int (c8-10))]=.rt false (sumD c l) δ')->∃c l,Bd c/\Shr base 3 l/\bf o (sbFd imix inum iname) [.int cell,.int base]=.ok (false,sumD c l):=fun c hc h=>by
  refine⟨c,l,hc,g3,?_⟩;refine au rfl (δ0:=[some (.sh,.int cell),some (.sh,.int base),none,none,none,none]) rfl ?_;refine stp [some (.sh,.int cell),some (.sh,.int base),some (.ow,dctP []),none,none,none] ?_ ?_
  ·simp[evS,evF,ev,evL,XS,Y5,SO.of,setSlot,aA,dctP,ksD,vsD]
  refine stp [some (.sh,.int cell),some (.sh,.int base),some (.ow,dctP (gather l)),c',d',none] ?_ ?_
  ·have h1:evI o [some (.sh,.int cell),some (.sh,.int base),some (.ow,dctP []),none,none,none] false (Yn (sbI imix))=.ok ((RG n).map fun(j:Nat)=>XH (j:Int)):=by
    have h2:ev o [some (.sh,.int cell),some (.sh,.int base),some (.ow,dctP []),none,none,none] true (sbI imix)=.ok (false,.int (n:Int)):=aL (aa rfl (aj rfl) (aa rfl ak (aa rfl ak rfl))) m0';simp only[evI,h2,XS]
    have:inR (n:Int)=true:=by simp[inR];omega
    simp[this,Y5,rngD]
   rw[forE (δ1:=[some (.sh,.int cell),some (.sh,.int base),some (.ow,dctP []),none,none,none]) rfl,h1];exact hf
  refine stp [some (.sh,.int cell),some (.sh,.int base),some (.ow,dctP (gather l)),c',d',some (.sh,.int (c8-10))] ?_ ?_
  ·exact aX (aB (aL (aa rfl (aj rfl) (aa rfl ak (aa rfl ak rfl))) m8) ak) rfl
  exact h none
 have lk0:ev o [some (.sh,.int cell),some (.sh,.int base),some (.ow,dctP (gather l)),c',d',some (.sh,.int (c8-10))] true (XM .eq (Y4 imix (XF (XC 0) (XF (XD (XH 9)) (XF (XD (XH 4)) XQ)))) (XD (XH 0)))=.ok (false,.bl (decide (c9=0))):=eqi (aL (aa rfl (aj rfl) (aa rfl ak (aa rfl ak rfl))) m9)
 by_cases h9:c9=0
 ·refine fin v hvb fun _=>stp [some (.sh,.int cell),some (.sh,.int base),some (.ow,dctP (gather l)),c',d',some (.sh,.int v)] ?_ (stpR (retR (Ck o v _ _ _ _ l hk) rfl))
  rw[sbD,cD lk0,if_pos (by simpa using h9)];have hd:ev o [some (.sh,.int cell),some (.sh,.int base),some (.ow,dctP (gather l)),c',d',some (.sh,.int (c8-10))] false (XM .fdiv (XC 0) (XD (XH 3)))=.ok (false,.int (cell.fdiv 3)):=(aB (aj rfl) ak).trans (show o2 .fdiv (.int cell) (.int 3)=_ from KZ cell 3 (by decide) (by decide));rw[aq (aX (aL (aa rfl hd rfl) hv) rfl)]
  rfl
 ·refine fin (c8-10) (lL (by omega)) fun _=>stp [some (.sh,.int cell),some (.sh,.int base),some (.ow,dctP (gather l)),c',d',some (.sh,.int (c8-10))] ?_ (stpR (retR (Ck o (c8-10) _ _ _ _ l hk) rfl))
  rw[sbD,cD lk0,if_neg (by simpa using h9)]
  rfl
end
end KG
namespace KG
open Z
noncomputable def valP(m:List Pair)(c:Int)(L:List Pair):Int:=L.foldl (fun t p=>t+p.2*(aK m p.1).getD 0) c
theorem n8(m:List Pair)(c:Int)(p:Pair)(L:List Pair):valP m c (p::L)=valP m (c+p.2*(aK m p.1).getD 0) L:=rfl
theorem zp(m:List Pair)(n:List Nat)(v:Int)(h:aK m n=some v):idxD (dctP m) (.str n)=.ok (false,.int v):=by
 have:=rP n m;rw[h]at this;simp[idxD,dctP,keyOf,this,XR]
theorem qe(n:List Nat):∀m:List Pair,(Yh n∈ksD m)↔(aK m n).isSome
 | []=>by simp[ksD,aK]
 | (x,v)::m=>by
   have ih:=qe n m;simp only[ksD,R8,Rh,aK]at ih ⊢
   by_cases h:x=n
   ·simp[h]
   ·have h':¬n=x:=fun e=>h e.symm
    simp[h,h',ih]
theorem pX(m:List Pair)(n:List Nat):o2 .notin (.str n) (dctP m)=.ok (false,.bl !(aK m n).isSome):=by
 have h:=qe n m;simp only[o2,isIn,dctP,keyOf,Option.map,XR]
 by_cases e:(aK m n).isSome
 ·simp[e,h.mpr e]
 ·have e':Yh n∉ksD m:=fun x=>e (h.mp x)
  simp[e',e]
noncomputable def lvB:SL:=(XJ (Y8 2 (XM .add (XC 2) (XM .mul (XC 4) (XX (XC 1) (XC 3))))) XN)
noncomputable def lvFd:Fd:=⟨2,5,(XJ (Y8 2 (XX (XC 0) (XD (XH 0)))) (XJ (Yk [3,4] true (Yc (XX (XC 0) (XD (XH 1)))) lvB) (XJ (Y6 (XC 2)) XN)))⟩
noncomputable def cvC:T:=XM .notin (XC 3) (XC 1)
noncomputable def cvX(cls:Nat):S:=YF cls (YC (XF (XC 3) (XF (XD (Y0 [32,104,97,115,32,110,111,32,118,97,108,117,101])) XQ)))
noncomputable def cvB(cls:Nat):SL:=(XJ (Y7 cvC (XJ (cvX cls) XN) XN) lvB)
noncomputable def cvFd(cls:Nat):Fd:=⟨2,5,(XJ (Y8 2 (XX (XC 0) (XD (XH 0)))) (XJ (Yk [3,4] true (Yc (XX (XC 0) (XD (XH 1)))) (cvB cls)) (XJ (Y6 (XC 2)) XN)))⟩
theorem vN(o:Orc)(a:Option Slot)(m:List Pair)(t v:Int)(p:Pair)(h:aK m p.1=some v)(hm:dG p.2 v=true):evSs o lvB [a,some (.sh,dctP m),some (.sh,.int t),some (.sh,.str p.1),some (.sh,.int p.2)]=.nx [a,some (.sh,dctP m),some (.sh,.int (t+p.2*(aK m p.1).getD 0)),some (.sh,.str p.1),some (.sh,.int p.2)]:=by
 have hi:=zp m p.1 v h;rw[h];generalize dctP m=X at hi ⊢;rw[lvB,aq (aX (w:=false) (d:=.int (t+p.2*v)) (by simp[ev,XS,hi,o2,arith,hm,Y5]) rfl)]
 rfl
theorem HJ(o:Orc)(cls:Nat)(a:Option Slot)(m:List Pair)(t v:Int)(p:Pair)(h:aK m p.1=some v)(hm:dG p.2 v=true):evSs o (cvB cls) [a,some (.sh,dctP m),some (.sh,.int t),some (.sh,.str p.1),some (.sh,.int p.2)]=.nx [a,some (.sh,dctP m),some (.sh,.int (t+p.2*(aK m p.1).getD 0)),some (.sh,.str p.1),some (.sh,.int p.2)]:=by
 have hn:=pX m p.1;rw[h]at hn;have e:ev o [a,some (.sh,dctP m),some (.sh,.int t),some (.sh,.str p.1),some (.sh,.int p.2)] true cvC=.ok (false,.bl false):=(aB (aj rfl) (aj rfl)).trans hn;rw[cvB,aq (ifN e)];exact vN o a m t v p h hm
def Has(m:List Pair)(L:List Pair):Prop:=∀p∈L,∃v,aK m p.1=some v/\dG p.2 v=true
theorem Dd(o:Orc)(a:Option Slot)(m:List Pair):∀(L:List Pair) (t:Int) (c d:Option Slot),Has m L->∃c' d',bG (evSs o lvB) [3,4] true (L.map prD) [a,some (.sh,dctP m),some (.sh,.int t),c,d]=.nx [a,some (.sh,dctP m),some (.sh,.int (valP m t L)),c',d']
 | [],t,c,d,_=>⟨c,d,rfl⟩
 | p::L,t,c,d,h=>by
   obtain⟨v,h1,h2⟩:=h p Rg
   obtain⟨c',d',ih⟩:=Dd o a m L (t+p.2*(aK m p.1).getD 0) (some (.sh,.str p.1)) (some (.sh,.int p.2)) fun q hq=>h q (Rb _ hq)
   refine⟨c',d',?_⟩
   have hs:aG [a,some (.sh,dctP m),some (.sh,.int t),c,d] [3,4] [.str p.1,.int p.2]=some [a,some (.sh,dctP m),some (.sh,.int t),some (.sh,.str p.1),some (.sh,.int p.2)]:=by simp[aG,setSlot]
   simp only[R8,bG,Rv,Sy,Nat.zero_add,Nat.reduceAdd,qM,hs,vN o a m t v p h1 h2,n8];exact ih
theorem Cp(o:Orc)(cls:Nat)(a:Option Slot)(m:List Pair):∀(L:List Pair) (t:Int) (c d:Option Slot),Has m L->∃c' d',bG (evSs o (cvB cls)) [3,4] true (L.map prD) [a,some (.sh,dctP m),some (.sh,.int t),c,d]=.nx [a,some (.sh,dctP m),some (.sh,.int (valP m t L)),c',d']
 | [],t,c,d,_=>⟨c,d,rfl⟩
 | p::L,t,c,d,h=>by
   obtain⟨v,h1,h2⟩:=h p Rg
   obtain⟨c',d',ih⟩:=Cp o cls a m L (t+p.2*(aK m p.1).getD 0) (some (.sh,.str p.1)) (some (.sh,.int p.2)) fun q hq=>h q (Rb _ hq)
   refine⟨c',d',?_⟩
   have hs:aG [a,some (.sh,dctP m),some (.sh,.int t),c,d] [3,4] [.str p.1,.int p.2]=some [a,some (.sh,dctP m),some (.sh,.int t),some (.sh,.str p.1),some (.sh,.int p.2)]:=by simp[aG,setSlot]
   simp only[R8,bG,Rv,Sy,Nat.zero_add,Nat.reduceAdd,qM,hs,HJ o cls a m t v p h1 h2,n8];exact ih
noncomputable def sumT(c:Int)(L:List Pair):D:=.tup [.int c,.tup (L.map prD)]
section
variable(o:Orc)(c:Int)(m L:List Pair)
theorem v_start(a b d:Option Slot):evS o (Y8 2 (XX (XC 0) (XD (XH 0)))) [some (.sh,sumT c L),some (.sh,dctP m),a,b,d]=.nx [some (.sh,sumT c L),some (.sh,dctP m),some (.sh,.int c),b,d]:=by
 rw[sumT];generalize L.map prD=X;generalize dctP m=Y;simp[evS,evF,ev,XS,idxD,place,XR,SO.of,setSlot,aA]
theorem v_items(t b d:Option Slot):evI o [some (.sh,sumT c L),some (.sh,dctP m),t,b,d] false (Yc (XX (XC 0) (XD (XH 1))))=.ok (L.map prD):=by
 rw[sumT];generalize L.map prD=X;generalize dctP m=Y;simp[evI,ev,XS,idxD,place,XR,o9]
theorem Mu(h:Has m L):bf o lvFd [sumT c L,dctP m]=.ok (false,.int (valP m c L)):=by
 obtain⟨c',d',hf⟩:=Dd o (some (.sh,sumT c L)) m L c none none h;refine au rfl (δ0:=[some (.sh,sumT c L),some (.sh,dctP m),none,none,none]) rfl ?_;refine stp _ (v_start o c m L _ _ _) ?_;refine stp [some (.sh,sumT c L),some (.sh,dctP m),some (.sh,.int (valP m c L)),c',d'] ?_ (stpR (by rfl));have:=v_items o c m L (some (.sh,.int c)) none none;have hsh:bV [some (.sh,sumT c L),some (.sh,dctP m),some (.sh,.int c),none,none] (Yc (XX (XC 0) (XD (XH 1))))=[some (.sh,sumT c L),some (.sh,dctP m),some (.sh,.int c),none,none]:=rfl;rw[forE hsh,this];exact hf
theorem MN(cls:Nat)(h:Has m L):bf o (cvFd cls) [sumT c L,dctP m]=.ok (false,.int (valP m c L)):=by
 obtain⟨c',d',hf⟩:=Cp o cls (some (.sh,sumT c L)) m L c none none h;refine au rfl (δ0:=[some (.sh,sumT c L),some (.sh,dctP m),none,none,none]) rfl ?_;refine stp _ (v_start o c m L _ _ _) ?_;refine stp [some (.sh,sumT c L),some (.sh,dctP m),some (.sh,.int (valP m c L)),c',d'] ?_ (stpR (by rfl));have:=v_items o c m L (some (.sh,.int c)) none none;have hsh:bV [some (.sh,sumT c L),some (.sh,dctP m),some (.sh,.int c),none,none] (Yc (XX (XC 0) (XD (XH 1))))=[some (.sh,sumT c L),some (.sh,dctP m),some (.sh,.int c),none,none]:=rfl;rw[forE hsh,this];exact hf
end
noncomputable def worth(f:List Nat->Int)(l:List Pair)(N:List (List Nat)):Int:=(N.map fun n=>tot l n*f n).sum
noncomputable def eV(m:List Pair)(n:List Nat):List Pair:=match m with
 | []=>[]
 | p::m=>if p.1=n then m else p::eV m n
theorem rF(n:List Nat):∀m:List Pair,cJ (ksD m) (.s n)=ksD (eV m n)/\jy (ksD m) (vsD m) (.s n)=vsD (eV m n)
 | []=>⟨rfl,rfl⟩
 | (x,v)::m=>by
   have ih:=rF n m;simp only[ksD,vsD,R8,cJ,jy,eV]at ih ⊢
   by_cases h:x=n
   ·simp[h]
   ·simp[h,ih]
theorem jW(n x:List Nat):∀m:List Pair,(m.map (·.1)).Nodup->aK (eV m n) x=if x=n then none else aK m x
 | [],_=>by simp[eV,aK]
 | (y,v)::m,h=>by
   have h':=Sd.mp h;have ih:=jW n x m h'.2;simp only[eV,aK]
   by_cases e:y=n
   ·subst e
    simp only[if_true]
    by_cases e2:x=y
    ·subst e2
     rw[if_pos rfl]
     cases hl:aK m x with
     | none=>rfl
     | some u=>
       exact absurd (show x∈m.map (·.1)from by
        have:Yh x∈ksD m:=(qe x m).mpr (by simp[hl]);obtain⟨q,hq,e⟩:=RB.mp this
        exact RB.mpr ⟨q,hq,by simpa using e⟩) h'.1
    ·rw[if_neg e2,if_neg (fun e=>e2 e.symm)]
   ·simp only[e,if_false,aK,ih]
    by_cases e3:y=x
    ·subst e3;simp[e]
    ·simp[e3]
end KG
namespace KG
open Z
theorem ix{x:List Nat}{k c:Nat}(h:x[k]?=some c):idxD (.str x) (.int (k:Int))=.ok (false,.str [c]):=by
 have hk:=(Ry.mp h).1
 have h0:(0:Int)<=k:=by omega
 have h1:(k:Int)<x.length:=by omega
 simp only[idxD,place,h0,h1,if_true,Int.toNat_natCast,Rq,h,RJ,XR]
theorem o_lt(a b:Int):o2 .lt (.int a) (.int b)=.ok (false,.bl (decide (a<b))):=rfl
theorem o_gt(a b:Int):o2 .gt (.int a) (.int b)=.ok (false,.bl (decide (b<a))):=rfl
theorem Le(a b:List Nat):o2 .eq (.str a) (.str b)=.ok (false,.bl (decide (a=b))):=rfl
theorem j6(a b:Int):o2 .add (.int a) (.int b)=.ok (false,.int (a+b)):=rfl
theorem bj(ha:ev o δ true a=.ok (w1,x))(hi:ev o δ true i=.ok (w2,y)):ev o δ lk (XX a i)=idxD x y:=by simp only[ev,ha,hi,XS]
theorem iD(n m:Nat):clip n (m:Int)=min m n:=by unfold clip;rw[if_pos (Int.natCast_nonneg m),Int.toNat_natCast]
theorem ifF(h:ev o δ true c=.ok (w,.bl b))(hb:b=false):evS o (.ifs c x .nil) δ=.nx δ:=by subst hb;exact ifN h
theorem ifT(h:ev o δ true c=.ok (w,.bl b))(hb:b=true)(k:evS o s δ=.rt w' d δ'):evS o (.ifs c (.cons s l) y) δ=.rt w' d δ':=by subst hb;exact ifR h k
theorem BL(h:ev o δ true e=.ok r):evS o (.raise c e) δ=.ex c δ:=by simp only[evS,h,SO.of]
theorem HR(h:evS o s δ=.ex c δ'):evSs o (.cons s l) δ=.ex c δ':=by simp only[evSs,h]
theorem Oz(ha:ev o δ true a=.ok (w,.bl true)):ev o δ lk (Yp a b)=.ok (false,.bl true):=by simp only[ev,ha,XS]
theorem Pr(ha:ev o δ true a=.ok (w,.bl false))(hb:ev o δ true b=.ok (w',.bl c)):ev o δ lk (Yp a b)=.ok (false,.bl c):=by simp only[ev,ha,hb,XS,bN]
theorem jz(ha:ev o δ true a=.ok (w,.bl c))(hb:ev o δ true b=.ok (w',.bl c')):ev o δ lk (Yp a b)=.ok (false,.bl (c||c')):=by
 cases c
 ·exact Pr ha hb
 ·exact Oz ha
theorem ifS(h:ev o δ true c=.ok (w,.bl b))(k:ev o δ false e=.ok (w',d))(hs:setSlot δ i w' d=some δ'):evS o (.ifs c (.cons (.set i e) .nil) .nil) δ=.nx (if b then δ' else δ):=by
 cases b
 ·exact ifN h
 ·rw[cD h,if_pos rfl,aq (aX k hs)];rfl
theorem Ka(hs:bV δ it=δ)(hi:evI o δ false it=.ok l)(h:bG (evSs o b) tg false l δ=.nx δ'):evS o (.for_ tg false it b) δ=.nx δ':=by
 rw[forE hs,hi];exact h
theorem iw(a b:Int)(h:b≠0):o2 .mod (.int a) (.int b)=.ok (false,.int (a.fmod b)):=by simp only[o2,arith,decide_eq_true h,Y5,if_true]
theorem gZ(a b:Int)(h:(decide (b≠0)&&decide (b.natAbs.log2<9000))=true):o2 .fdiv (.int a) (.int b)=.ok (false,.int (a.fdiv b)):=by simp only[o2,arith,h,Y5,if_true]
theorem pK(a b:Int):o2 .eq (.int a) (.int b)=.ok (false,.bl (decide (a=b))):=rfl
theorem rng0(n:Nat):rngD 0 (n:Int)=(RG n).map fun(k:Nat)=>XH (k:Int):=by simp[rngD]
theorem wB{o:Orc}{δ:Dst}{lk:Bool}{t:T}{w:Bool}{n:Nat}(h:ev o δ true t=.ok (w,.int (n:Int)))(hn:n<=100000):evI o δ lk (Yn t)=.ok ((RG n).map fun(k:Nat)=>XH (k:Int)):=by
 have:inR (n:Int)=true:=by simp[inR];omega
 rw[evI,h];simp only[XS,this,Y5,if_true,rng0]
theorem bz(h:δ[i]?=some (some (.ow,d))):ev o δ true (XC i)=.ok (false,d):=by simp only[ev,h,if_true]
theorem HN(h:a.length+b.length<=16777216):o2 .add (.str a) (.str b)=.ok (false,.str (a++b)):=by
 have:size (a.length+b.length)=true:=decide_eq_true h;simp only[o2,this,Y5,if_true]
theorem p8(h0:0<=k)(h:l[k.toNat]?=some d):idxD (.lst l) (.int k)=.ok (false,d):=by
 have hk:=(Ry.mp h).1
 have h1:k<l.length:=by omega
 simp only[idxD,place,h0,h1,if_true,Rq,h,RJ,XR]
theorem getD_mem{α:Type}{l:List α}{n:Nat}{d:α}(h:n<l.length):l.getD n d∈l:=by
 rw[Ss,Rm h];exact Uh h
theorem tR(ha:args.length=f.np)(h0:args.map (fun d=>some (Own.sh,d))++RW (f.ns-f.np) none=δ0)(h:∃δ,evSs o f.body δ0=.ex c δ):bf o f args=.exc c:=by
 obtain⟨δ,h⟩:=h;simp only[bf,ha,if_true,h0,h]
theorem stpE(h:evS o s δ=.ex c δ'):∃δ1,evSs o (.cons s l) δ=.ex c δ1:=⟨δ',by simp only[evSs,h]⟩
section
variable{o:Orc}{δ:Dst}{lk:Bool}
theorem iR(hk:aM δ t=true)(h:ev o δ true t=.ok (w,x))(hl:evL o δ l=.ok (b,xs)):evL o δ (.cons t l)=.ok (true,x::xs):=by
 simp only[evL,hk,h,hl,XS,Bool.true_or]
theorem oV(hk:aM δ t=false)(h:ev o δ false t=.ok (w,x))(hl:evL o δ l=.ok (b,xs)):evL o δ (.cons t l)=.ok (b,x::xs):=by
 simp only[evL,hk,h,hl,XS,Bool.false_or]
theorem lY(hl:evL o δ l=.ok (true,xs))(h:o.fn f xs=.ok (w,x))(hi:x.imm=true):ev o δ lk (Y4 f l)=.ok (w,x):=by
 simp only[ev,hl,XS,h,lent,if_true,hi]
theorem cI(h:ev o δ true a=.ok (w,.bl b)):ev o δ lk (Yi a)=.ok (false,.bl !b):=by simp only[ev,h,XS,truth,XR]
theorem Om(ha:ev o δ true a=.ok (w,x))(hb:ev o δ true b=.ok (w',y)):ev o δ lk (T.m1 m a b)=m1D m x y:=by simp only[ev,ha,hb,XS]
theorem Ce(it:TI)(l r:List D)(c e:T)(hI:evI o δ true it=.ok l)(hr:r.length<=100000)
 (hc:bA (fun x=>ev o ((x++[]).map fun d=>some (Own.sh,d)) false e) (fun x=>ev o ((x++[]).map fun d=>some (Own.sh,d)) true c) 1 false l=.ok r):ev o δ lk (Yj [] 1 false it c e)=.ok (true,.lst r):=by
 have h2:cA δ []=some []:=rfl;rw[ev,hI,h2];simp only[XS,XR];rw[hc]
 have hz:size r.length=true:=by simp[size];omega
 simp only[hz,Y5];simp
end
theorem jm(he:ev o δ false e=.ok (w,d))(hk:ev o δ true k=.ok (w',kd))(ho:ownD δ i=some (q,c))(hp:putItem c kd d=some c'):evS o (.seti i k e) δ=.nx (δ.set i (some (q,c'))):=by
 simp only[evS,evF,he,SO.of,hk,ho,Rq,hp,RJ,aA]
theorem Dn(he:ev o δ false e=.ok (w,d))(ho:ownD δ i=some (q,.lst l))(hz:l.length+1<=100000):evS o (.append i e) δ=.nx (δ.set i (some (q,.lst (l++[d])))):=by
 have:size (l.length+1)=true:=decide_eq_true (by omega);simp only[evS,evF,he,SO.of,ho,Rq,this,if_true,aA]
theorem neg1:ev o δ lk (Yt (XD (XH 1)))=.ok (false,.int (-1)):=by simp only[ev,XS]
theorem jJ:place (n+1) (-1)=some n:=by
 unfold place;rw[if_neg (by omega),if_pos (by omega)]
 congr 1
 omega
theorem lg(a:List D)(x v:D):putItem (.lst (a++[x])) (.int (-1)) v=some (.lst (a++[v])):=by
 simp only[putItem,Rx,Rv,Sy,jJ,RJ];simp
theorem kZ(a:List D)(x:D):idxD (.lst (a++[x])) (.int (-1))=.ok (false,x):=by
 simp only[idxD,Rx,Rv,Sy,jJ,Rq];simp[XR]
end KG
namespace KG
open Z
inductive Stt where
 | least (c:Int) (l:List Pair)
 | rest (m c:Int) (l:List Pair)
 | nt (s:Stt)
 | grp (w:Bool) (ss:List Stt)
 | trn (w:Bool) (x:List Nat) (s:Stt)
def dO:List Nat:=[108,101,97,115,116]
def oM:List Nat:=[114,101,115,116]
noncomputable def sNot:List Nat:=[110,111,116]
noncomputable def sAnd:List Nat:=[97,110,100]
noncomputable def sOr:List Nat:=[111,114]
def Og:List Nat:=[115,111,109,101]
noncomputable def sAll:List Nat:=[97,108,108]
noncomputable def gw(w:Bool):List Nat:=if w then sOr else sAnd
noncomputable def tww(w:Bool):List Nat:=if w then sAll else Og
noncomputable abbrev smT(c:Int)(l:List Pair):D:=.tup [.int c,.tup (l.map prD)]
mutual
noncomputable def toD:Stt->D
 | .least c l=>.tup [.str dO,smT c l]
 | .rest m c l=>.tup [.str oM,.int m,smT c l]
 | .nt s=>.tup [.str sNot,toD s]
 | .grp w ss=>.tup [.str (gw w),.tup (toDs ss)]
 | .trn w x s=>.tup [.str (tww w),.str x,toD s]
noncomputable def toDs:List Stt->List D
 | []=>[]
 | s::ss=>toD s::toDs ss
end
theorem dq:∀ss:List Stt,toDs ss=ss.map toD
 | []=>by rw[toDs];rfl
 | s::ss=>by rw[toDs,dq ss];rfl
def Lw(l:List Pair):Prop:=l.length<=1000/\∀p∈l,Bd p.2
noncomputable def wf:Nat->Stt->Prop
 | _,.least _ l=>Lw l
 | _,.rest _ _ l=>Lw l
 | n+1,.nt s=>wf n s
 | n+1,.grp _ ss=>ss.length<=100/\∀s∈ss,wf n s
 | n+1,.trn _ _ s=>wf n s
 | 0,_=>False
theorem qD:∀{n m:Nat} {s:Stt},wf n s->n<=m->wf m s:=by
 intro n
 induction n with
 | zero=>
   intro m s h _;cases s<;>simp only[wf]at h
   all_goals(cases m<;>exact h)
 | succ n ih=>
   intro m s h hm
   obtain⟨m,rfl⟩:∃k,m=k+1:=⟨m-1,by omega⟩
   cases s with
   | least c l=>exact h
   | rest a c l=>exact h
   | nt s=>simp only[wf]at h ⊢;exact ih h (by omega)
   | grp w ss=>simp only[wf]at h ⊢;exact⟨h.1,fun s hs=>ih (h.2 s hs) (by omega)⟩
   | trn w x s=>simp only[wf]at h ⊢;exact ih h (by omega)
theorem yc:∀(r:List Int) (y:Int),y<=r.foldl (fun m z=>if z>m then z else m) y/\(∀z∈r,z<=r.foldl (fun m z=>if z>m then z else m) y)/\(∀b,y<=b->(∀z∈r,z<=b)->r.foldl (fun m z=>if z>m then z else m) y<=b)
 | [],y=>⟨Int.le_refl _,fun z hz=>by simp at hz,fun b h _=>h⟩
 | x::r,y=>by
   obtain⟨h1,h2,h3⟩:=yc r (if x>y then x else y)
   have q1:x<=(if x>y then x else y)/\y<=(if x>y then x else y):=by split<;>omega
   have q2:∀b,y<=b->x<=b->(if x>y then x else y)<=b:=fun b h h'=>by split<;>omega
   rw[VG];generalize (if x>y then x else y)=q at *;refine⟨by omega,fun z hz=>?_,fun b hb hz=>h3 b (q2 b hb (hz x Rg)) fun z h=>hz z (Rb _ h)⟩;rcases Rh.mp hz with rfl | hz
   ·omega
   ·exact h2 z hz
theorem ints_map(r:List Int):intsOf (r.map .int)=some r:=by
 induction r with
 | nil=>rfl
 | cons x r ih=>simp[intsOf,ih]
theorem tK(y:Int)(r:List Int):b1D .max (.lst ((y::r).map .int))=.ok (false,.int (r.foldl (fun m z=>if z>m then z else m) y)):=by
 simp only[b1D,ints_map,Rq,XR]
noncomputable def abFd(imix isum:Nat):Fd:=⟨2,3,(XJ (Y7 (XM .gt (XM .mod (XC 0) (XD (XH 3))) (XD (XH 0))) (XJ (Y6 (Yd (XF (XD (Y0 [108,101,97,115,116])) (XF (Y4 isum (XF (XM .fdiv (XC 0) (XD (XH 3))) (XF (XC 1) XQ))) XQ)))) XN) XN) (XJ (Y8 2 (XM .add (XD (XH 1)) (Y4 imix (XF (XC 0) (XF (XD (XH 9)) (XF (XD (XH 12)) XQ)))))) (XJ (Y7 (XM .eq (XM .mod (XC 0) (XD (XH 4))) (XD (XH 3))) (XJ (Y8 2 (XM .add (XD (XH 1)) (XM .mod (XM .fdiv (XC 0) (XD (XH 12))) (XM .pow (XD (XH 10)) (XD (XH 30)))))) XN) XN) (XJ (Y6 (Yd (XF (XD (Y0 [114,101,115,116])) (XF (XC 2) (XF (Y4 isum (XF (XM .fdiv (XC 0) (XD (XH 3))) (XF (XC 1) XQ))) XQ))))) XN))))⟩
noncomputable def P30:Int:=1000000000000000000000000000000
theorem Qu:o2 .pow (.int 10) (.int 30)=.ok (false,.int P30):=by rfl
theorem M9:P30≠0:=by decide
end KG
namespace KG
open Z
noncomputable def tbS0:S:=(Y8 6 (XM .mod (XC 5) (XD (XH 7))))
noncomputable def tbC:T:=(Yp (XM .gt (XC 6) (XD (XH 3))) (Yp (XM .eq (Y9 .len (XC 3)) (XD (XH 0))) (Yp (XM .gt (Y9 .max (XC 4)) (XD (XH 12))) (Ys (XM .eq (XC 6) (XD (XH 1))) (Yi (XC 2))))))
noncomputable def tbA1(iatom:Nat):S:=(S.append 3 (Y4 iatom (XF (XM .fdiv (XC 5) (XD (XH 7))) (XF (XC 1) XQ))))
noncomputable def tbA2:S:=(S.append 4 (XD (XH 0)))
noncomputable def tbN1:S:=(Yo 3 (Yt (XD (XH 1))) (Yd (XF (XD (Y0 [110,111,116])) (XF (XX (XC 3) (Yt (XD (XH 1)))) XQ))))
noncomputable def tbN2:S:=(Yo 4 (Yt (XD (XH 1))) (XM .add (XX (XC 4) (Yt (XD (XH 1)))) (XD (XH 1))))
noncomputable def tbT1(iname:Nat):S:=(Yo 3 (Yt (XD (XH 1))) (Yd (XF (XX (Ye (XF (XD (Y0 [115,111,109,101])) (XF (XD (Y0 [97,108,108])) XQ))) (XM .mod (XM .fdiv (XC 5) (XD (XH 7))) (XD (XH 2)))) (XF (Y4 iname (XF (XM .mod (XM .fdiv (XC 5) (XD (XH 14))) (XD (XH 5))) (XF (XC 1) XQ))) (XF (XX (XC 3) (Yt (XD (XH 1)))) XQ)))))
noncomputable def tbG1:S:=(Y8 7 (XM .sub (Y9 .len (XC 3)) (T.b2 .min (XM .mod (XM .fdiv (XC 5) (XD (XH 7))) (XD (XH 4))) (Y9 .len (XC 3)))))
noncomputable def tbG2:S:=(Y8 3 (XM .add (Yv (XC 3) (XD Yw) (XC 7)) (Ye (XF (Yd (XF (XX (Ye (XF (XD (Y0 [97,110,100])) (XF (XD (Y0 [111,114])) XQ))) (XM .sub (XC 6) (XD (XH 2)))) (XF (Y9 .tuple (Yv (XC 3) (XC 7) (XD Yw))) XQ))) XQ))))
noncomputable def tbG3:S:=(Y8 4 (XM .add (Yv (XC 4) (XD Yw) (XM .add (XC 7) (XD (XH 1)))) (Ye (XF (XM .add (XD (XH 1)) (Y9 .max (XM .add (Ye (XF (XD (XH 0)) XQ)) (Yv (XC 4) (XM .add (XC 7) (XD (XH 1))) (XD Yw))))) XQ))))
noncomputable def tbI(iatom iname:Nat):S:=(Y7 tbC (XJ (tbA1 iatom) (XJ tbA2 XN)) (XJ (Y7 (XM .eq (XC 6) (XD (XH 0))) (XJ tbN1 (XJ tbN2 XN)) (XJ (Y7 (XM .eq (XC 6) (XD (XH 1))) (XJ (tbT1 iname) (XJ tbN2 XN)) (XJ tbG1 (XJ tbG2 (XJ tbG3 XN)))) XN)) XN))
noncomputable def tbB(iatom iname:Nat):SL:=(XJ tbS0 (XJ (tbI iatom iname) XN))
noncomputable def tbFd(iatom iname:Nat):Fd:=⟨3,8,(XJ (Y8 3 (Ye XQ)) (XJ (Y8 4 (Ye (XF (XD (XH 0)) XQ))) (XJ (Yk [5] false (Yc (XC 0)) (tbB iatom iname)) (XJ (Y7 (XM .eq (Y9 .len (XC 3)) (XD (XH 1))) (XJ (Y6 (XX (XC 3) (XD (XH 0)))) XN) XN) (XJ (Y6 (Yd (XF (XX (Ye (XF (XD (Y0 [97,110,100])) (XF (XD (Y0 [111,114])) XQ))) (XM .mod (XC 1) (XD (XH 2)))) (XF (Y9 .tuple (XC 3)) XQ)))) XN)))))⟩
abbrev It:=Int×Stt
noncomputable def rwD(it:List It):List D:=it.map fun q=>toD q.2
noncomputable def dpI(it:List It):List Int:=it.map fun q=>q.1
noncomputable def dpD(it:List It):List D:=((0:Int)::dpI it).map .int
mutual
noncomputable def sz:Stt->Nat
 | .least _ _=>1
 | .rest _ _ _=>1
 | .nt s=>sz s+1
 | .grp _ ss=>szs ss+1
 | .trn _ _ s=>sz s+1
noncomputable def szs:List Stt->Nat
 | []=>0
 | s::ss=>sz s+szs ss
end
theorem kh(a b:List Stt):szs (a++b)=szs a+szs b:=by
 induction a with
 | nil=>simp[szs]
 | cons x a ih=>simp only[V9,szs,ih];omega
structure Cl(Φ:Int->Bool->Stt->Prop):Prop where
 nt:∀base t s,Φ base t s->Φ base t (.nt s)
 grp:∀base t w ss,(∀s∈ss,Φ base t s)->Φ base t (.grp w ss)
 trn:∀base w c s,0<=c->c<5->Φ base true s->Φ base true (.trn w (nm c base) s)
structure Inv7(Φ:Stt->Prop)(k:Nat)(it:List It):Prop where
 wf:∀q∈it,0<=q.1/\q.1<=13/\KG.wf q.1.toNat q.2
 len:it.length<=100
 ph:∀q∈it,Φ q.2
 sz:szs (it.map (·.2))<=k
noncomputable def mxD(it:List It):Int:=(dpI it).foldl (fun m z=>if z>m then z else m) 0
theorem iM(a b:List It):rwD (a++b)=rwD a++rwD b:=by simp[rwD]
theorem kE(a:List It)(q:It):dpD (a++[q])=dpD a++[.int q.1]:=by simp[dpD,dpI]
theorem jx(a:List It):(rwD a).length=a.length:=by simp[rwD]
theorem wY(a:List It):(dpD a).length=a.length+1:=by simp[dpD,dpI]
theorem De(l:List D)(m:Nat):slcD (.lst l) none (some (m:Int))=some (true,.lst (l.take m)):=by
 simp only[slcD,uC,jT,iD,cut,List.drop_zero];rw[<-List.take_eq_take_min]
theorem Dp(l:List D)(m:Nat)(h:m<=l.length):slcD (.lst l) (some (m:Int)) none=some (true,.lst (l.drop m)):=by
 simp only[slcD,uC,jT,iD,cut,List.take_length,Nat.min_eq_left h]
theorem lO{o:Orc}{δ:Dst}{lk:Bool}{t:T}{w:Bool}{i:Int}{x y:List Nat}{b:Bool}(h:ev o δ true t=.ok (w,.int i))(hi:i=if b then 1 else 0):ev o δ lk (XX (Ye (XF (XD (Y0 x)) (XF (XD (Y0 y)) XQ))) t)=.ok (false,.str (if b then y else x)):=by
 subst hi;refine(bj (dU (xs:=[.str x,.str y]) (aa rfl ak (aa rfl ak rfl)) rfl) h).trans ?_;cases b<;>rfl
section
variable{o:Orc}{iatom iname:Nat}{Φ:Int->Bool->Stt->Prop}(C:Cl Φ)(hatom:∀cell base:Int,∃s,wf 0 s/\sz s=1/\(∀t,Φ base t s)/\o.fn iatom [.int cell,.int base]=.ok (false,toD s))(hname:∀c b,o.fn iname [.int c,.int b]=.ok (false,.str (nm c b)))
noncomputable abbrev stB(A:Option Slot)(base:Int)(turns:Bool)(it:List It)(cell:Int)(w f:Option Slot):Dst:=[A,some (.sh,.int base),some (.sh,.bl turns),some (.ow,.lst (rwD it)),some (.ow,.lst (dpD it)),some (.sh,.int cell),w,f]
theorem Gu(A:Option Slot)(base:Int)(turns:Bool)(it:List It)(cell way:Int)(f:Option Slot):ev o (stB A base turns it cell (some (.sh,.int way)) f) true tbC=.ok (false,.bl (decide (3<way)||(decide ((it.length:Int)=0)||(decide (12<mxD it)||(decide (way=1)&&!turns))))):=by
 have e1:ev o (stB A base turns it cell (some (.sh,.int way)) f) true (XM .gt (XC 6) (XD (XH 3)))=.ok (false,.bl (decide (3<way))):=(aB (aj rfl) ak).trans (o_gt _ _)
 have hl:b1D .len (.lst (rwD it))=.ok (false,.int (it.length:Int)):=by simp only[b1D,jx]
 have e2:ev o (stB A base turns it cell (some (.sh,.int way)) f) true (XM .eq (Y9 .len (XC 3)) (XD (XH 0)))=.ok (false,.bl (decide ((it.length:Int)=0))):=(aB ((gj (bz rfl)).trans hl) ak).trans (pK _ _);have e3:ev o (stB A base turns it cell (some (.sh,.int way)) f) true (XM .gt (Y9 .max (XC 4)) (XD (XH 12)))=.ok (false,.bl (decide (12<mxD it))):=(aB ((gj (bz rfl)).trans (tK _ _)) ak).trans (o_gt _ _)
 have e4:ev o (stB A base turns it cell (some (.sh,.int way)) f) true (Ys (XM .eq (XC 6) (XD (XH 1))) (Yi (XC 2)))=.ok (false,.bl (decide (way=1)&&!turns)):=by
  have q:ev o (stB A base turns it cell (some (.sh,.int way)) f) true (XM .eq (XC 6) (XD (XH 1)))=.ok (false,.bl (decide (way=1))):=(aB (aj rfl) ak).trans (pK _ _)
  by_cases h:way=1
  ·rw[decide_eq_true h]at q ⊢
   exact(ww q (cI (aj rfl))).trans (by simp)
  ·rw[decide_eq_false h]at q ⊢
   exact Qm q
 exact jz e1 (jz e2 (jz e3 e4))
theorem uX(h:it≠[]):∃a d s,it=a++[(d,s)]:=by
 refine⟨it.dropLast,(it.getLast h).1,(it.getLast h).2,?_⟩;exact(List.dropLast_concat_getLast h).symm
include C hatom hname
theorem G9(A:Option Slot)(base:Int)(turns:Bool)(k0:Nat)(it:List It)(I:Inv7 (Φ base turns) k0 it)(hl:it.length+1<=100)(cell:Int)(w f:Option Slot) :
 ∃it' w' f',Inv7 (Φ base turns) (k0+1) it'/\it'.length<=it.length+1/\evSs o (tbB iatom iname) (stB A base turns it cell w f)=.nx (stB A base turns it' cell w' f'):=by
 have r7:=aD cell 7 (by decide);have s0:evS o tbS0 (stB A base turns it cell w f)=.nx (stB A base turns it cell (some (.sh,.int (cell.fmod 7))) f):=aX ((aB (aj rfl) ak).trans (iw _ 7 (by decide))) rfl;generalize cell.fmod 7=way at s0 r7;have hc:=Gu (o:=o) A base turns it cell way f
 have fin:∀{it':List It} {w' f':Option Slot},evS o (tbI iatom iname) (stB A base turns it cell (some (.sh,.int way)) f)=.nx (stB A base turns it' cell w' f')->evSs o (tbB iatom iname) (stB A base turns it cell w f)=.nx (stB A base turns it' cell w' f'):=fun{it' w' f'} h=>by
  rw[tbB,aq s0,aq h]
  rfl
 by_cases hb:(decide (3<way)||(decide ((it.length:Int)=0)||(decide (12<mxD it)||(decide (way=1)&&!turns))))=true
 ·obtain⟨s,hs,hz,hp,ha⟩:=hatom (cell.fdiv 7) base
  refine⟨it++[(0,s)],some (.sh,.int way),f,⟨fun q hq=>?_,by simpa using hl,fun q hq=>?_,?_⟩,by simp,fin ?_⟩
  ·rcases T6.mp hq with hq | hq
   ·exact I.wf q hq
   ·have:q=(0,s):=by simpa using hq
    subst this;exact⟨Int.le_refl _,(by decide:(0:Int)<=13),hs⟩
  ·rcases T6.mp hq with hq | hq
   ·exact I.ph q hq
   ·have:q=(0,s):=by simpa using hq
    subst this;exact hp turns
  ·have:=I.sz
   rw[Up,kh];simp only[R8,RQ,szs,hz];omega
  ·have a1:evS o (tbA1 iatom) (stB A base turns it cell (some (.sh,.int way)) f)=.nx [A,some (.sh,.int base),some (.sh,.bl turns),some (.ow,.lst (rwD it++[toD s])),some (.ow,.lst (dpD it)),some (.sh,.int cell),some (.sh,.int way),f]:=Dn (aL (aa rfl ((aB (aj rfl) ak).trans (gZ _ 7 (by decide))) (aa rfl (aj rfl) rfl)) ha) rfl (by rw[jx];omega)
   have a2:evS o tbA2 [A,some (.sh,.int base),some (.sh,.bl turns),some (.ow,.lst (rwD it++[toD s])),some (.ow,.lst (dpD it)),some (.sh,.int cell),some (.sh,.int way),f]=.nx [A,some (.sh,.int base),some (.sh,.bl turns),some (.ow,.lst (rwD it++[toD s])),some (.ow,.lst (dpD it++[.int 0])),some (.sh,.int cell),some (.sh,.int way),f]:=Dn ak rfl (by rw[wY];omega);rw[tbI,cD hc,if_pos hb,aq a1,aq a2];rw[evSs,stB,iM,kE]
   rfl
 have hb:(decide (3<way)||(decide ((it.length:Int)=0)||(decide (12<mxD it)||(decide (way=1)&&!turns))))=false:=by simpa using hb
 simp only[Bool.or_eq_false_iff,decide_eq_false_iff_not]at hb;obtain⟨b1,b2,b3,b4⟩:=hb
 have hne:it≠[]:=fun z=>b2 (by rw[z];rfl)
 have hmx:=yc (dpI it) 0
 have h12:∀q∈it,q.1<=12:=fun q hq=>by
  have h1:=hmx.2.1 q.1 (TF hq)
  have h2:mxD it<=12:=by omega
  unfold mxD at h2;omega
 have hcF:(decide (3<way)||(decide ((it.length:Int)=0)||(decide (12<mxD it)||(decide (way=1)&&!turns))))=false:=by
  simp only[Bool.or_eq_false_iff,decide_eq_false_iff_not];exact⟨b1,b2,b3,b4⟩
 rw[hcF]at hc
 have go:∀{it':List It} {w' f':Option Slot},evSs o (XJ (Y7 (XM .eq (XC 6) (XD (XH 0))) (XJ tbN1 (XJ tbN2 XN)) (XJ (Y7 (XM .eq (XC 6) (XD (XH 1))) (XJ (tbT1 iname) (XJ tbN2 XN)) (XJ tbG1 (XJ tbG2 (XJ tbG3 XN)))) XN)) XN) (stB A base turns it cell (some (.sh,.int way)) f)=.nx (stB A base turns it' cell w' f')->evSs o (tbB iatom iname) (stB A base turns it cell w f)=.nx (stB A base turns it' cell w' f'):=fun{it' w' f'} h=>fin (by rw[tbI,cD hc,if_neg (by decide)];exact h)
 have ew:∀k:Int,ev o (stB A base turns it cell (some (.sh,.int way)) f) true (XM .eq (XC 6) (XD (XH k)))=.ok (false,.bl (decide (way=k))):=fun k=>(aB (aj rfl) ak).trans (pK _ _)
 have deeper:∀(a:List It) (d:Int) (s x:Stt),it=a++[(d,s)]->evS o tbN2 [A,some (.sh,.int base),some (.sh,.bl turns),some (.ow,.lst (rwD a++[toD x])),some (.ow,.lst (dpD it)),some (.sh,.int cell),some (.sh,.int way),f]=.nx (stB A base turns (a++[(d+1,x)]) cell (some (.sh,.int way)) f):=fun a d s x e=>by
  rw[e,kE];have h1:evS o tbN2 [A,some (.sh,.int base),some (.sh,.bl turns),some (.ow,.lst (rwD a++[toD x])),some (.ow,.lst (dpD a++[.int d])),some (.sh,.int cell),some (.sh,.int way),f]=.nx _:=jm ((aB ((bj (bz rfl) neg1).trans (kZ _ _)) ak).trans (j6 _ _)) neg1 rfl (lg _ _ _);rw[h1,stB,iM,kE]
  rfl
 have inv1:∀(a:List It) (d:Int) (s x:Stt),it=a++[(d,s)]->(wf d.toNat s->wf (d.toNat+1) x)->sz x=sz s+1->(Φ base turns s->Φ base turns x)->Inv7 (Φ base turns) (k0+1) (a++[(d+1,x)]):=fun a d s x e hx hz hp=>by
  subst e;refine⟨fun q hq=>?_,by simpa using I.len,fun q hq=>?_,?_⟩
  rotate_left
  ·rcases T6.mp hq with hq | hq
   ·exact I.ph q (U5 _ hq)
   ·have:q=(d+1,x):=by simpa using hq
    subst this;exact hp (I.ph (d,s) (by simp))
  ·have:=I.sz
   rw[Up,kh]at this ⊢;simp only[R8,RQ,szs,hz]at this ⊢;omega
  rcases T6.mp hq with hq | hq
  ·exact I.wf q (U5 _ hq)
  ·have:q=(d+1,x):=by simpa using hq
   subst this;obtain⟨g1,g2,g3⟩:=I.wf (d,s) (by simp);have g4:=h12 (d,s) (by simp);simp only at g1 g2 g3 g4;refine⟨by simp only;omega,by simp only;omega,?_⟩
   have:(d+1).toNat=d.toNat+1:=by omega
   simp only[this];exact hx g3
 by_cases w0:way=0
 ·obtain⟨a,d,s,e⟩:=uX hne
  refine⟨a++[(d+1,.nt s)],some (.sh,.int way),f,inv1 a d s (.nt s) e (fun h=>by simp only[wf];exact h) (by rw[sz]) (C.nt base turns s),by rw[e];simp,go ?_⟩
  have h1:evS o tbN1 (stB A base turns it cell (some (.sh,.int way)) f)=.nx [A,some (.sh,.int base),some (.sh,.bl turns),some (.ow,.lst (rwD a++[toD (.nt s)])),some (.ow,.lst (dpD it)),some (.sh,.int cell),some (.sh,.int way),f]:=by
   have er:rwD it=rwD a++[toD s]:=by rw[e,iM];rfl
   rw[stB,er,toD];exact jm (bY (xs:=[.str sNot,toD s]) (aa rfl ak (aa rfl ((bj (bz rfl) neg1).trans (kZ _ _)) rfl)) rfl) neg1 rfl (lg _ _ _)
  have h2:evS o (Y7 (XM .eq (XC 6) (XD (XH 0))) (XJ tbN1 (XJ tbN2 XN)) (XJ (Y7 (XM .eq (XC 6) (XD (XH 1))) (XJ (tbT1 iname) (XJ tbN2 XN)) (XJ tbG1 (XJ tbG2 (XJ tbG3 XN)))) XN)) (stB A base turns it cell (some (.sh,.int way)) f)=.nx (stB A base turns (a++[(d+1,.nt s)]) cell (some (.sh,.int way)) f):=by
   rw[cD (ew 0),if_pos (decide_eq_true w0),aq h1,aq (deeper a d s _ e)]
   rfl
  rw[aq h2]
  rfl
 have go2:∀{it':List It} {w' f':Option Slot},evS o (Y7 (XM .eq (XC 6) (XD (XH 1))) (XJ (tbT1 iname) (XJ tbN2 XN)) (XJ tbG1 (XJ tbG2 (XJ tbG3 XN)))) (stB A base turns it cell (some (.sh,.int way)) f)=.nx (stB A base turns it' cell w' f')->evSs o (tbB iatom iname) (stB A base turns it cell w f)=.nx (stB A base turns it' cell w' f'):=fun{it' w' f'} h=>go (by
  have h2:evS o (Y7 (XM .eq (XC 6) (XD (XH 0))) (XJ tbN1 (XJ tbN2 XN)) (XJ (Y7 (XM .eq (XC 6) (XD (XH 1))) (XJ (tbT1 iname) (XJ tbN2 XN)) (XJ tbG1 (XJ tbG2 (XJ tbG3 XN)))) XN)) (stB A base turns it cell (some (.sh,.int way)) f)=.nx (stB A base turns it' cell w' f'):=by
   rw[cD (ew 0),if_neg (by simp[w0]),aq h]
   rfl
  rw[aq h2]
  rfl)
 by_cases w1:way=1
 ·obtain⟨a,d,s,e⟩:=uX hne
  have r2:=aD (cell.fdiv 7) 2 (by decide)
  have hw2:(cell.fdiv 7).fmod 2=if decide ((cell.fdiv 7).fmod 2=1)then 1 else 0:=by
   by_cases z:(cell.fdiv 7).fmod 2=1
   ·simp[z]
   ·simp[z];omega
  generalize hbw:decide ((cell.fdiv 7).fmod 2=1)=bw at hw2;have hn:=hname ((cell.fdiv 14).fmod 5) base;have r5:=aD (cell.fdiv 14) 5 (by decide)
  have ht:turns=true:=by
   rw[decide_eq_true w1,Bool.true_and]at b4;simpa using b4
  have hpt:Φ base turns s->Φ base turns (.trn bw (nm ((cell.fdiv 14).fmod 5) base) s):=by
   rw[ht];exact C.trn base bw _ s r5.1 r5.2
  generalize nm ((cell.fdiv 14).fmod 5) base=x at hn hpt;refine⟨a++[(d+1,.trn bw x s)],some (.sh,.int way),f,inv1 a d s (.trn bw x s) e (fun h=>by simp only[wf];exact h) (by rw[sz]) hpt,by rw[e];simp,go2 ?_⟩
  have h1:evS o (tbT1 iname) (stB A base turns it cell (some (.sh,.int way)) f)=.nx [A,some (.sh,.int base),some (.sh,.bl turns),some (.ow,.lst (rwD a++[toD (.trn bw x s)])),some (.ow,.lst (dpD it)),some (.sh,.int cell),some (.sh,.int way),f]:=by
   have er:rwD it=rwD a++[toD s]:=by rw[e,iM];rfl
   rw[stB,er,toD];refine jm (bY (xs:=[.str (tww bw),.str x,toD s]) (aa rfl (lO (b:=bw) ((aB ((aB (aj rfl) ak).trans (gZ _ 7 (by decide))) ak).trans (iw _ 2 (by decide))) hw2) (aa rfl (aL (aa rfl ((aB ((aB (aj rfl) ak).trans (gZ _ 14 (by decide))) ak).trans (iw _ 5 (by decide))) (aa rfl (aj rfl) rfl)) hn) (aa rfl ((bj (bz rfl) neg1).trans (kZ _ _)) rfl))) rfl) neg1 rfl (lg _ _ _)
  rw[cD (ew 1),if_pos (decide_eq_true w1),aq h1,aq (deeper a d s _ e)]
  rfl
 have r4:=aD (cell.fdiv 7) 4 (by decide)
 obtain⟨k,hk,hkl⟩:∃k:Nat,(it.length:Int)-(if(it.length:Int)<(cell.fdiv 7).fmod 4 then(it.length:Int)else(cell.fdiv 7).fmod 4)=(k:Int)/\k<=it.length:=by
  refine⟨((it.length:Int)-(if(it.length:Int)<(cell.fdiv 7).fmod 4 then(it.length:Int)else(cell.fdiv 7).fmod 4)).toNat,?_,?_⟩<;>split<;>omega
 have hw2:way-2=if decide (way=3)then 1 else 0:=by
  by_cases z:way=3
  ·simp[z]
  ·simp[z];omega
 generalize hbw:decide (way=3)=bw at hw2;have hmk:=yc (dpI (it.drop k)) 0;generalize hM:(dpI (it.drop k)).foldl (fun m z=>if z>m then z else m) 0=M at hmk
 have hM12:M<=12:=hmk.2.2 12 (by decide) fun z hz=>by
  obtain⟨q,hq,rfl⟩:=RB.mp hz;exact h12 q (List.mem_of_mem_drop hq)
 refine⟨it.take k++[(1+M,.grp bw ((it.drop k).map (·.2)))],some (.sh,.int way),some (.sh,.int (k:Int)),⟨fun q hq=>?_,?_,fun q hq=>?_,?_⟩,?_,go2 ?_⟩
 ·rcases T6.mp hq with hq | hq
  ·exact I.wf q (List.mem_of_mem_take hq)
  ·have:q=(1+M,.grp bw ((it.drop k).map (·.2))):=by simpa using hq
   subst this;refine⟨by simp only;omega,by simp only;omega,?_⟩
   have:(1+M).toNat=M.toNat+1:=by omega
   simp only[this,wf];refine⟨by have:=I.len;simp;omega,fun s hs=>?_⟩;obtain⟨q,hq,rfl⟩:=RB.mp hs;obtain⟨g1,g2,g3⟩:=I.wf q (List.mem_of_mem_drop hq);refine qD g3 ?_;have:=hmk.2.1 q.1 (TF hq);omega
 ·have:=I.len
  simp;omega
 ·rcases T6.mp hq with hq | hq
  ·exact I.ph q (List.mem_of_mem_take hq)
  ·have:q=(1+M,.grp bw ((it.drop k).map (·.2))):=by simpa using hq
   subst this
   refine C.grp base turns bw _ fun s hs=>?_
   obtain⟨q,hq,rfl⟩:=RB.mp hs;exact I.ph q (List.mem_of_mem_drop hq)
 ·have:=I.sz
  rw[<-List.take_append_drop k it,Up,kh]at this;rw[Up,kh];simp only[R8,RQ,szs,sz];omega
 ·simp;omega
 have hlen:b1D .len (.lst (rwD it))=.ok (false,.int (it.length:Int)):=by simp only[b1D,jx]
 have g1:evS o tbG1 (stB A base turns it cell (some (.sh,.int way)) f)=.nx (stB A base turns it cell (some (.sh,.int way)) (some (.sh,.int (k:Int)))):=by
  have:=aX (o:=o) (δ:=stB A base turns it cell (some (.sh,.int way)) f) (i:=7) (e:=(XM .sub (Y9 .len (XC 3)) (T.b2 .min (XM .mod (XM .fdiv (XC 5) (XD (XH 7))) (XD (XH 4))) (Y9 .len (XC 3))))) ((aB ((gj (bz rfl)).trans hlen) ((Ky ((aB ((aB (aj rfl) ak).trans (gZ _ 7 (by decide))) ak).trans (iw _ 4 (by decide))) ((gj (bz rfl)).trans hlen)).trans (show b2D .min (.int _) (.int _)=.ok (false,.int (if _<_ then _ else _))from rfl))).trans (show o2 .sub (.int _) (.int _)=.ok (false,.int (_-_))from rfl)) rfl;rw[tbG1,this,hk]
  rfl
 have tt:b1D .tuple (.lst (rwD (it.drop k)))=.ok (false,.tup (toDs ((it.drop k).map (·.2)))):=by
  rw[dq,SM];rfl
 have g2:evS o tbG2 (stB A base turns it cell (some (.sh,.int way)) (some (.sh,.int (k:Int))))=.nx [A,some (.sh,.int base),some (.sh,.bl turns),some (.ow,.lst (rwD (it.take k)++[toD (.grp bw ((it.drop k).map (·.2)))])),some (.ow,.lst (dpD it)),some (.sh,.int cell),some (.sh,.int way),some (.sh,.int (k:Int))]:=by
  have h1:slcD (.lst (rwD it)) none (some (k:Int))=some (true,.lst (rwD (it.take k))):=by rw[De];simp[rwD,List.map_take]
  have h2:slcD (.lst (rwD it)) (some (k:Int)) none=some (true,.lst (rwD (it.drop k))):=by rw[Dp _ _ (by rw[jx];exact hkl)];simp[rwD,List.map_drop]
  rw[toD];refine aX ((aB (oH (bz rfl) ak (aj rfl) rfl rfl h1) (dU (xs:=[.tup [.str (gw bw),.tup (toDs ((it.drop k).map (·.2)))]]) (aa rfl (bY (xs:=[.str (gw bw),.tup (toDs ((it.drop k).map (·.2)))]) (aa rfl (lO (b:=bw) ((aB (aj rfl) ak).trans (show o2 .sub (.int _) (.int _)=.ok (false,.int (_-_))from rfl)) hw2) (aa rfl ((gj (oH (bz rfl) (aj rfl) ak rfl rfl h2)).trans tt) rfl)) rfl) rfl) rfl)).trans (pY (by have:=I.len;simp[rwD];omega))) rfl
 have g3:evS o tbG3 [A,some (.sh,.int base),some (.sh,.bl turns),some (.ow,.lst (rwD (it.take k)++[toD (.grp bw ((it.drop k).map (·.2)))])),some (.ow,.lst (dpD it)),some (.sh,.int cell),some (.sh,.int way),some (.sh,.int (k:Int))]=.nx (stB A base turns (it.take k++[(1+M,.grp bw ((it.drop k).map (·.2)))]) cell (some (.sh,.int way)) (some (.sh,.int (k:Int)))):=by
  have hk1:((k:Int)+1)=((k+1:Nat):Int):=by omega
  have h1:slcD (.lst (dpD it)) none (some ((k:Int)+1))=some (true,.lst (dpD (it.take k))):=by rw[hk1,De];simp[dpD,dpI,List.map_take]
  have h2:slcD (.lst (dpD it)) (some ((k:Int)+1)) none=some (true,.lst ((dpI (it.drop k)).map .int)):=by rw[hk1,Dp _ _ (by rw[wY];omega)];simp[dpD,dpI,List.map_drop]
  have h3:o2 .add (.lst [.int 0]) (.lst ((dpI (it.drop k)).map .int))=.ok (true,.lst (((0:Int)::dpI (it.drop k)).map .int)):=pY (by have:=I.len;simp[dpI];omega)
  have h4:b1D .max (.lst (((0:Int)::dpI (it.drop k)).map .int))=.ok (false,.int M):=by rw[tK,hM]
  have:=aX (o:=o) (δ:=[A,some (.sh,.int base),some (.sh,.bl turns),some (.ow,.lst (rwD (it.take k)++[toD (.grp bw ((it.drop k).map (·.2)))])),some (.ow,.lst (dpD it)),some (.sh,.int cell),some (.sh,.int way),some (.sh,.int (k:Int))]) (i:=4) (e:=(XM .add (Yv (XC 4) (XD Yw) (XM .add (XC 7) (XD (XH 1)))) (Ye (XF (XM .add (XD (XH 1)) (Y9 .max (XM .add (Ye (XF (XD (XH 0)) XQ)) (Yv (XC 4) (XM .add (XC 7) (XD (XH 1))) (XD Yw))))) XQ)))) ((aB (oH (bz rfl) ak ((aB (aj rfl) ak).trans (j6 _ _)) rfl rfl h1) (dU (xs:=[.int (1+M)]) (aa rfl ((aB ak ((gj ((aB (dU (xs:=[.int 0]) (aa rfl ak rfl) rfl) (oH (bz rfl) ((aB (aj rfl) ak).trans (j6 _ _)) ak rfl rfl h2)).trans h3)).trans h4)).trans (j6 _ _)) rfl) rfl)).trans (pY (by have:=I.len;simp[dpD,dpI];omega))) rfl;rw[tbG3,this,stB,iM,kE]
  rfl
 rw[cD (ew 1),if_neg (by simp[w1]),aq g1,aq g2,aq g3]
 rfl
end
end KG
namespace KG
open Z
section
variable{o:Orc}{iatom iname:Nat}{Φ:Int->Bool->Stt->Prop}(C:Cl Φ)(hatom:∀cell base:Int,∃s,wf 0 s/\sz s=1/\(∀t,Φ base t s)/\o.fn iatom [.int cell,.int base]=.ok (false,toD s))(hname:∀c b,o.fn iname [.int c,.int b]=.ok (false,.str (nm c b)))
include C hatom hname
theorem CZ(A:Option Slot)(base:Int)(turns:Bool):∀(cells:List Int) (k:Nat) (it:List It) (c w f:Option Slot),Inv7 (Φ base turns) k it->it.length+cells.length<=100 ->
 ∃it' c' w' f',Inv7 (Φ base turns) (k+cells.length) it'/\bG (evSs o (tbB iatom iname)) [5] false (cells.map .int) [A,some (.sh,.int base),some (.sh,.bl turns),some (.ow,.lst (rwD it)),some (.ow,.lst (dpD it)),c,w,f]=.nx [A,some (.sh,.int base),some (.sh,.bl turns),some (.ow,.lst (rwD it')),some (.ow,.lst (dpD it')),c',w',f']
 | [],k,it,c,w,f,I,_=>⟨it,c,w,f,I,rfl⟩
 | x::cells,k,it,c,w,f,I,hl=>by
   simp only[Rv]at hl;obtain⟨it1,w1,f1,I1,l1,e1⟩:=G9 C hatom hname A base turns k it I (by omega) x w f;obtain⟨it',c',w',f',I',e2⟩:=CZ A base turns cells (k+1) it1 (some (.sh,.int x)) w1 f1 I1 (by omega);refine⟨it',c',w',f',by rw[Rv,show k+(cells.length+1)=k+1+cells.length by omega];exact I',?_⟩;have hs:aG [A,some (.sh,.int base),some (.sh,.bl turns),some (.ow,.lst (rwD it)),some (.ow,.lst (dpD it)),c,w,f] [5] [.int x]=some (stB A base turns it x w f):=rfl;simp only[R8,bG,takes,Bool.false_eq_true,if_false,Rv,Sy,hs,e1];exact e2
theorem tX(cells:List Int)(base:Int)(turns:Bool)(hc:cells.length<=100):∃s,wf 14 s/\sz s<=cells.length+1/\Φ base turns s/\bf o (tbFd iatom iname) [.lst (cells.map .int),.int base,.bl turns]=.ok (false,toD s):=by
 obtain⟨it,c',w',f',I,hf⟩:=CZ C hatom hname (some (.sh,.lst (cells.map .int))) base turns cells 0 [] none none none ⟨by simp,by simp,by simp,by simp[szs]⟩ (by simpa using hc)
 have hI:evI o [some (.sh,.lst (cells.map .int)),some (.sh,.int base),some (.sh,.bl turns),some (.ow,.lst (rwD [])),some (.ow,.lst (dpD [])),none,none,none] false (Yc (XC 0))=.ok (cells.map .int):=by rw[evI,aj rfl];rfl
 have hlen:b1D .len (.lst (rwD it))=.ok (false,.int (it.length:Int)):=by simp only[b1D,jx]
 have e1:ev o [some (.sh,.lst (cells.map .int)),some (.sh,.int base),some (.sh,.bl turns),some (.ow,.lst (rwD it)),some (.ow,.lst (dpD it)),c',w',f'] true (XM .eq (Y9 .len (XC 3)) (XD (XH 1)))=.ok (false,.bl (decide ((it.length:Int)=1))):=(aB ((gj (bz rfl)).trans hlen) ak).trans (pK _ _)
 have pre:∀s,(∃δ1,evSs o (XJ (Y7 (XM .eq (Y9 .len (XC 3)) (XD (XH 1))) (XJ (Y6 (XX (XC 3) (XD (XH 0)))) XN) XN) (XJ (Y6 (Yd (XF (XX (Ye (XF (XD (Y0 [97,110,100])) (XF (XD (Y0 [111,114])) XQ))) (XM .mod (XC 1) (XD (XH 2)))) (XF (Y9 .tuple (XC 3)) XQ)))) XN)) [some (.sh,.lst (cells.map .int)),some (.sh,.int base),some (.sh,.bl turns),some (.ow,.lst (rwD it)),some (.ow,.lst (dpD it)),c',w',f']=.rt false (toD s) δ1)->bf o (tbFd iatom iname) [.lst (cells.map .int),.int base,.bl turns]=.ok (false,toD s):=fun s h=>
  au rfl rfl (stp [some (.sh,.lst (cells.map .int)),some (.sh,.int base),some (.sh,.bl turns),some (.ow,.lst []),none,none,none,none] (aX (dU (xs:=[]) rfl rfl) rfl) (stp [some (.sh,.lst (cells.map .int)),some (.sh,.int base),some (.sh,.bl turns),some (.ow,.lst (rwD [])),some (.ow,.lst (dpD [])),none,none,none] (aX (dU (xs:=[.int 0]) (aa rfl ak rfl) rfl) rfl) (stp _ (Ka rfl hI hf) h)))
 by_cases h:(it.length:Int)=1
 ·match it,h,I,hlen,e1,pre with
  | [q],h,I,hlen,e1,pre=>
    obtain⟨g1,g2,g3⟩:=I.wf q (by simp);refine⟨q.2,qD g3 (by omega),by have:=I.sz;simp only[R8,RQ,szs]at this;omega,I.ph q (by simp),pre _ (stpR (ifT e1 (decide_eq_true h) (retR ((bj (bz rfl) ak).trans (p8 (d:=toD q.2) (by decide) rfl)) rfl)))⟩
  | [],h,_,_,_,_=>simp at h
  | _::_::_,h,_,_,_,_=>simp at h;omega
 ·have r2:=aD base 2 (by decide)
  have hw2:base.fmod 2=if decide (base.fmod 2=1)then 1 else 0:=by
   by_cases z:base.fmod 2=1
   ·simp[z]
   ·simp[z];omega
  generalize hbw:decide (base.fmod 2=1)=bw at hw2
  have tt:b1D .tuple (.lst (rwD it))=.ok (false,.tup (toDs (it.map (·.2)))):=by
   rw[dq,SM];rfl
  have hT:ev o [some (.sh,.lst (cells.map .int)),some (.sh,.int base),some (.sh,.bl turns),some (.ow,.lst (rwD it)),some (.ow,.lst (dpD it)),c',w',f'] false (Yd (XF (XX (Ye (XF (XD (Y0 [97,110,100])) (XF (XD (Y0 [111,114])) XQ))) (XM .mod (XC 1) (XD (XH 2)))) (XF (Y9 .tuple (XC 3)) XQ)))=.ok (false,.tup [.str (gw bw),.tup (toDs (it.map (·.2)))]) :=
   bY (xs:=[.str (gw bw),.tup (toDs (it.map (·.2)))]) (aa rfl (lO (b:=bw) ((aB (aj rfl) ak).trans (iw _ 2 (by decide))) hw2) (aa rfl ((gj (bz rfl)).trans tt) rfl)) rfl
  refine⟨.grp bw (it.map (·.2)),?_,by have:=I.sz;rw[sz];omega,C.grp base turns bw _ fun s hs=>?_,pre _ (stp _ (ifF e1 (decide_eq_false h)) ?_)⟩
  ·simp only[wf]
   refine⟨by have:=I.len;simpa using this,fun s hs=>?_⟩;obtain⟨q,hq,rfl⟩:=RB.mp hs;obtain⟨g1,g2,g3⟩:=I.wf q hq;exact qD g3 (by omega)
  ·obtain⟨q,hq,rfl⟩:=RB.mp hs
   exact I.ph q hq
  ·rw[toD]
   exact stpR (retR hT rfl)
end
noncomputable def kS:List Nat:=[115,116,97,116,101,109,101,110,116]
noncomputable def kT:List Nat:=[116,111,116,97,108]
noncomputable def kD:List Nat:=[100,105,118,105,115,111,114]
noncomputable def kP:List Nat:=[112,97,114,116]
noncomputable def kW:List Nat:=[119,111,114,100]
noncomputable def kPs:List Nat:=[112,97,114,116,115]
noncomputable def kN:List Nat:=[110,97,109,101]
mutual
noncomputable def aC:Stt->D
 | .least c l=>.obj 2 [kS,kT] [toD (.least c l),smT c l]
 | .rest m c l=>.obj 3 [kS,kT,kD] [toD (.rest m c l),smT c l,.int m]
 | .nt s=>.obj 4 [kS,kP] [toD (.nt s),aC s]
 | .grp w ss=>.obj (if w then 7 else 6) [kS,kW,kPs] [toD (.grp w ss),.str (gw w),.lst (iH ss)]
 | .trn w x s=>.obj 8 [kS,kW,kN,kP] [toD (.trn w x s),.str (tww w),.str x,aC s]
noncomputable def iH:List Stt->List D
 | []=>[]
 | s::ss=>aC s::iH ss
end
theorem cQ:∀ss:List Stt,iH ss=ss.map aC
 | []=>by rw[iH];rfl
 | s::ss=>by rw[iH,cQ ss];rfl
noncomputable def iniB:Fd:=⟨2,2,(XJ (Yu 0 [115,116,97,116,101,109,101,110,116] (XC 1)) XN)⟩
noncomputable def iniA:Fd:=⟨3,3,(XJ (Yz 0 (XF (XC 1) XQ)) (XJ (Yu 0 [116,111,116,97,108] (XC 2)) XN))⟩
noncomputable def iniR:Fd:=⟨4,4,(XJ (Yz 1 (XF (XC 1) (XF (XC 3) XQ))) (XJ (Yu 0 [100,105,118,105,115,111,114] (XC 2)) XN))⟩
noncomputable def iniN:Fd:=⟨3,3,(XJ (Yz 0 (XF (XC 1) XQ)) (XJ (Yu 0 [112,97,114,116] (XC 2)) XN))⟩
noncomputable def iniM:Fd:=⟨4,4,(XJ (Yz 0 (XF (XC 1) XQ)) (XJ (Yu 0 [119,111,114,100] (XC 2)) (XJ (Yu 0 [112,97,114,116,115] (XC 3)) XN)))⟩
noncomputable def iniX:Fd:=⟨5,5,(XJ (Yz 0 (XF (XC 1) XQ)) (XJ (Yu 0 [119,111,114,100] (XC 2)) (XJ (Yu 0 [110,97,109,101] (XC 3)) (XJ (Yu 0 [112,97,114,116] (XC 4)) XN))))⟩
noncomputable def trFd(itree:Nat):Fd:=⟨1,2,(XJ (Y8 1 (XX (XC 0) (XD (XH 0)))) (XJ (Y7 (XM .eq (XC 1) (XD (Y0 [108,101,97,115,116]))) (XJ (Y6 (Yx 2 (XF (XC 0) (XF (XX (XC 0) (XD (XH 1))) XQ)))) XN) XN) (XJ (Y7 (XM .eq (XC 1) (XD (Y0 [114,101,115,116]))) (XJ (Y6 (Yx 3 (XF (XC 0) (XF (XX (XC 0) (XD (XH 1))) (XF (XX (XC 0) (XD (XH 2))) XQ))))) XN) XN) (XJ (Y7 (XM .eq (XC 1) (XD (Y0 [110,111,116]))) (XJ (Y6 (Yx 4 (XF (XC 0) (XF (Y4 itree (XF (XX (XC 0) (XD (XH 1))) XQ)) XQ)))) XN) XN) (XJ (Y7 (XM .eq (XC 1) (XD (Y0 [97,110,100]))) (XJ (Y6 (Yx 6 (XF (XC 0) (XF (XC 1) (XF (Yj [] 1 false (Yc (XX (XC 0) (XD (XH 1)))) (XD (Yb true)) (Y4 itree (XF (XC 0) XQ))) XQ))))) XN) XN) (XJ (Y7 (XM .eq (XC 1) (XD (Y0 [111,114]))) (XJ (Y6 (Yx 7 (XF (XC 0) (XF (XC 1) (XF (Yj [] 1 false (Yc (XX (XC 0) (XD (XH 1)))) (XD (Yb true)) (Y4 itree (XF (XC 0) XQ))) XQ))))) XN) XN) (XJ (Y6 (Yx 8 (XF (XC 0) (XF (XC 1) (XF (XX (XC 0) (XD (XH 1))) (XF (Y4 itree (XF (XX (XC 0) (XD (XH 2))) XQ)) XQ)))))) XN)))))))⟩
structure Trees(P:Prg)(i0 i1 i3 i4 i5 i8:Nat):Prop where
 b:P.fns[i0]?=some iniB
 a:P.fns[i1]?=some iniA
 r:P.fns[i3]?=some iniR
 n:P.fns[i4]?=some iniN
 m:P.fns[i5]?=some iniM
 x:P.fns[i8]?=some iniX
 i:P.init=gJ [(0,i0),(1,i1),(2,i1),(3,i3),(4,i4),(5,i5),(6,i5),(7,i5),(8,i8)]
section
variable{P:Prg}{w i0 i1 i3 i4 i5 i8:Nat}(C:Trees P i0 i1 i3 i4 i5 i8)
include C
theorem gK(n:Nat):(orc P w n).init=gJ [(0,i0),(1,i1),(2,i1),(3,i3),(4,i4),(5,i5),(6,i5),(7,i5),(8,i8)]:=by
 cases n<;>exact C.i
theorem Aq(n:Nat)(c:Nat)(hc:c<=8)(ns:List (List Nat))(hn:ns.length<800)(vs:List D)(a:D)(h0:ns=[])(hv:vs=[]):(orc P w (n+2)).ini i0 (.obj c ns vs) [a]=.ok (.obj c [kS] [a]):=by
 subst h0 hv;rw[fC C.b]
 have hi:((orc P w n).init c).isSome=true:=by
  rw[gK C]
  have:c=0\/c=1\/c=2\/c=3\/c=4\/c=5\/c=6\/c=7\/c=8:=by omega
  rcases this with rfl | rfl | rfl | rfl | rfl | rfl | rfl | rfl | rfl<;>rfl
 simp[cz,iniB,evSs,evS,evF,ev,SO.of,aA,ownD,cB,hi,selfOf,kS,bL,putV]
omit C in
theorem dR(ha:args.length+1=f.np)(h0:some (Own.me,self)::(args.map (fun d=>some (Own.sh,d))++RW (f.ns-f.np) none)=δ0)(h:evSs o f.body δ0=.nx δ)(hs:selfOf δ=.ok d):cz o f self args=.ok d:=by
 simp only[cz,ha,if_true,h0,h,hs]
omit C in
theorem iniS(h0:ownD δ 0=some (.me,d))(hl:evL o δ l=.ok (false,xs))(hi:o.init c=some f)(h:o.ini f d xs=.ok d'):evS o (.ini c l) δ=.nx (δ.set 0 (some (.me,d'))):=by
 simp only[evS,hl,h0,hi,h,XS,XR,Y5,Bool.not_false,if_true,SO.of]
omit C in
theorem mj{o:Orc}{δ:Dst}{f:List Nat}{e:T}{w:Bool}{v d d':D}(h0:ownD δ 0=some (.me,d))(he:ev o δ false e=.ok (w,v))(hp:cB (fun c=>(o.init c).isSome) d f v=some d'):evS o (.setf 0 f e) δ=.nx (δ.set 0 (some (.me,d'))):=by
 simp only[evS,evF,he,SO.of,h0,Rq,hp,RJ,aA]
theorem has(n c:Nat)(hc:c<=8):((orc P w n).init c).isSome=true:=by
 rw[gK C]
 have:c=0\/c=1\/c=2\/c=3\/c=4\/c=5\/c=6\/c=7\/c=8:=by omega
 rcases this with rfl | rfl | rfl | rfl | rfl | rfl | rfl | rfl | rfl<;>rfl
theorem Nx(n c:Nat)(hc:c<=8)(a t:D):(orc P w (n+4)).ini i1 (.obj c [] []) [a,t]=.ok (.obj c [kS,kT] [a,t]):=by
 rw[fC C.a];have h1:=Aq (w:=w) C n c hc [] (by decide) [] a rfl rfl;have hh:=has (w:=w) C (n+2) c hc
 have hi:(orc P w (n+2)).init 0=some i0:=by rw[gK C];rfl
 refine dR rfl rfl ((aq (iniS rfl (aa rfl (aj rfl) rfl) hi h1)).trans (aq (mj rfl (aj rfl) (d':=.obj c [kS,kT] [a,t]) ?_))) rfl;simp[cB,hh,bL,putV,kS,kT]
theorem PP(n:Nat)(a m t:D):(orc P w (n+6)).ini i3 (.obj 3 [] []) [a,m,t]=.ok (.obj 3 [kS,kT,kD] [a,t,m]):=by
 rw[fC C.r];have h1:=Nx (w:=w) C n 3 (by decide) a t;have hh:=has (w:=w) C (n+4) 3 (by decide)
 have hi:(orc P w (n+4)).init 1=some i1:=by rw[gK C];rfl
 refine dR rfl rfl ((aq (iniS rfl (aa rfl (aj rfl) (aa rfl (aj rfl) rfl)) hi h1)).trans (aq (mj rfl (aj rfl) (d':=.obj 3 [kS,kT,kD] [a,t,m]) ?_))) rfl;simp[cB,hh,bL,putV,kS,kT,kD]
theorem PX(n:Nat)(a t:D):(orc P w (n+4)).ini i4 (.obj 4 [] []) [a,t]=.ok (.obj 4 [kS,kP] [a,t]):=by
 rw[fC C.n];have h1:=Aq (w:=w) C n 4 (by decide) [] (by decide) [] a rfl rfl;have hh:=has (w:=w) C (n+2) 4 (by decide)
 have hi:(orc P w (n+2)).init 0=some i0:=by rw[gK C];rfl
 refine dR rfl rfl ((aq (iniS rfl (aa rfl (aj rfl) rfl) hi h1)).trans (aq (mj rfl (aj rfl) (d':=.obj 4 [kS,kP] [a,t]) ?_))) rfl;simp[cB,hh,bL,putV,kS,kP]
theorem PK(n c:Nat)(hc:c<=8)(a x t:D):(orc P w (n+4)).ini i5 (.obj c [] []) [a,x,t]=.ok (.obj c [kS,kW,kPs] [a,x,t]):=by
 rw[fC C.m];have h1:=Aq (w:=w) C n c hc [] (by decide) [] a rfl rfl;have hh:=has (w:=w) C (n+2) c hc
 have hi:(orc P w (n+2)).init 0=some i0:=by rw[gK C];rfl
 refine dR rfl rfl ((aq (iniS rfl (aa rfl (aj rfl) rfl) hi h1)).trans ((aq (mj rfl (aj rfl) (d':=.obj c [kS,kW] [a,x]) ?_)).trans (aq (mj rfl (aj rfl) (d':=.obj c [kS,kW,kPs] [a,x,t]) ?_)))) rfl
 ·simp[cB,hh,bL,putV,kS,kW]
 ·simp[cB,hh,bL,putV,kS,kW,kPs]
theorem PB(n:Nat)(a x y t:D):(orc P w (n+4)).ini i8 (.obj 8 [] []) [a,x,y,t]=.ok (.obj 8 [kS,kW,kN,kP] [a,x,y,t]):=by
 rw[fC C.x];have h1:=Aq (w:=w) C n 8 (by decide) [] (by decide) [] a rfl rfl;have hh:=has (w:=w) C (n+2) 8 (by decide)
 have hi:(orc P w (n+2)).init 0=some i0:=by rw[gK C];rfl
 refine dR rfl rfl ((aq (iniS rfl (aa rfl (aj rfl) rfl) hi h1)).trans ((aq (mj rfl (aj rfl) (d':=.obj 8 [kS,kW] [a,x]) ?_)).trans ((aq (mj rfl (aj rfl) (d':=.obj 8 [kS,kW,kN] [a,x,y]) ?_)).trans (aq (mj rfl (aj rfl) (d':=.obj 8 [kS,kW,kN,kP] [a,x,y,t]) ?_))))) rfl
 ·simp[cB,hh,bL,putV,kS,kW]
 ·simp[cB,hh,bL,putV,kS,kW,kN]
 ·simp[cB,hh,bL,putV,kS,kW,kN,kP]
omit C in
theorem ux(hl:evL o δ l=.ok (false,xs))(hi:o.init c=some f)(h:o.ini f (.obj c [] []) xs=.ok d):ev o δ lk (.mk c l)=.ok (true,d):=by
 simp only[ev,hl,hi,h,XS,XR,Y5,Bool.not_false,if_true]
theorem t7(ht:P.fns[itree]?=some (trFd itree)):∀(n:Nat) (s:Stt),wf n s->∀m,n+8<=m->(orc P w m).fn itree [toD s]=.ok (true,aC s):=by
 intro n
 induction n using Nat.strongRecOn with
 | ind n ih=>
 intro s hs m hm
 obtain⟨k,rfl⟩:∃k,m=k+7:=⟨m-7,by omega⟩
 rw[aN ht]
 have ew:∀(t:D) (x y:List Nat),ev (orc P w (k+6)) [some (.sh,t),some (.sh,.str x)] true (XM .eq (XC 1) (XD (Y0 y)))=.ok (false,.bl (decide (x=y))):=fun t x y=>(aB (aj rfl) ak).trans (Le _ _)
 have hi:∀c f,gJ [(0,i0),(1,i1),(2,i1),(3,i3),(4,i4),(5,i5),(6,i5),(7,i5),(8,i8)] c=some f->(orc P w (k+6)).init c=some f:=fun c f h=>by rw[gK C];exact h
 cases s with
 | least c l=>
   rw[aC];have e0:=ew (toD (.least c l)) dO;have hI:=Nx (w:=w) C (k+2) 2 (by decide) (toD (.least c l)) (smT c l);rw[toD]at e0 hI ⊢;exact au rfl rfl (stp [some (.sh,.tup [.str dO,smT c l]),some (.sh,.str dO)] (aX ((bj (aj rfl) ak).trans rfl) rfl) (stpR (ifT (e0 _) (by decide) (retR (ux (aa rfl (aj rfl) (aa rfl ((bj (aj rfl) ak).trans rfl) rfl)) (hi 2 i1 rfl) hI) rfl))))
 | rest q c l=>
   rw[aC];have e0:=ew (toD (.rest q c l)) oM;have hI:=PP (w:=w) C k (toD (.rest q c l)) (.int q) (smT c l);rw[toD]at e0 hI ⊢;exact au rfl rfl (stp [some (.sh,.tup [.str oM,.int q,smT c l]),some (.sh,.str oM)] (aX ((bj (aj rfl) ak).trans rfl) rfl) (stp _ (ifF (e0 _) (by decide)) (stpR (ifT (e0 _) (by decide) (retR (ux (aa rfl (aj rfl) (aa rfl ((bj (aj rfl) ak).trans rfl) (aa rfl ((bj (aj rfl) ak).trans rfl) rfl))) (hi 3 i3 rfl) hI) rfl)))))
 | nt s=>
   obtain⟨n,rfl⟩:∃j,n=j+1:=by
    cases n with
    | zero=>simp only[wf]at hs
    | succ j=>exact⟨j,rfl⟩
   simp only[wf]at hs;have hc:=ih n (by omega) s hs (k+6) (by omega);rw[aC];have e0:=ew (toD (.nt s)) sNot;have hI:=PX (w:=w) C (k+2) (toD (.nt s)) (aC s);rw[toD]at e0 hI ⊢;exact au rfl rfl (stp [some (.sh,.tup [.str sNot,toD s]),some (.sh,.str sNot)] (aX ((bj (aj rfl) ak).trans rfl) rfl) (stp _ (ifF (e0 _) (by decide)) (stp _ (ifF (e0 _) (by decide)) (stpR (ifT (e0 _) (by decide) (retR (ux (aa rfl (aj rfl) (aa rfl (aL (aa rfl ((bj (aj rfl) ak).trans rfl) rfl) hc) rfl)) (hi 4 i4 rfl) hI) rfl))))))
 | trn b x s=>
   obtain⟨n,rfl⟩:∃j,n=j+1:=by
    cases n with
    | zero=>simp only[wf]at hs
    | succ j=>exact⟨j,rfl⟩
   simp only[wf]at hs;have hc:=ih n (by omega) s hs (k+6) (by omega);rw[aC];have e0:=ew (toD (.trn b x s)) (tww b);have hI:=PB (w:=w) C (k+2) (toD (.trn b x s)) (.str (tww b)) (.str x) (aC s)
   have hw:tww b≠dO/\tww b≠oM/\tww b≠sNot/\tww b≠sAnd/\tww b≠sOr:=by cases b<;>decide
   rw[toD]at e0 hI ⊢;generalize tww b=W at *;exact au rfl rfl (stp [some (.sh,.tup [.str W,.str x,toD s]),some (.sh,.str W)] (aX ((bj (aj rfl) ak).trans rfl) rfl) (stp _ (ifF (e0 _) (decide_eq_false hw.1)) (stp _ (ifF (e0 _) (decide_eq_false hw.2.1)) (stp _ (ifF (e0 _) (decide_eq_false hw.2.2.1)) (stp _ (ifF (e0 _) (decide_eq_false hw.2.2.2.1)) (stp _ (ifF (e0 _) (decide_eq_false hw.2.2.2.2)) (stpR (retR (ux (aa rfl (aj rfl) (aa rfl (aj rfl) (aa rfl ((bj (aj rfl) ak).trans rfl) (aa rfl (aL (aa rfl ((bj (aj rfl) ak).trans rfl) rfl) hc) rfl)))) (hi 8 i8 rfl) hI) rfl))))))))
 | grp b ss=>
   obtain⟨n,rfl⟩:∃j,n=j+1:=by
    cases n with
    | zero=>simp only[wf]at hs
    | succ j=>exact⟨j,rfl⟩
   simp only[wf]at hs
   have hc:∀s∈ss,(orc P w (k+6)).fn itree [toD s]=.ok (true,aC s):=fun s h=>ih n (by omega) s (hs.2 s h) (k+6) (by omega)
   rw[aC];have e0:=ew (toD (.grp b ss)) (gw b);have hI:=PK (w:=w) C (k+2) (if b then 7 else 6) (by cases b<;>decide) (toD (.grp b ss)) (.str (gw b)) (.lst (iH ss));rw[toD]at e0 hI ⊢
   have hcomp:ev (orc P w (k+6)) [some (.sh,.tup [.str (gw b),.tup (toDs ss)]),some (.sh,.str (gw b))] false (Yj [] 1 false (Yc (XX (XC 0) (XD (XH 1)))) (XD (Yb true)) (Y4 itree (XF (XC 0) XQ)))=.ok (true,.lst (iH ss)):=by
    rw[cQ,dq];refine Ce _ (ss.map toD) _ _ _ ?_ (by have:=hs.1;simp;omega) (fY (fun d _=>ak) fun d hd=>⟨true,aL (aa rfl (aj rfl) rfl) (hc d hd)⟩);rw[evI,(bj (aj rfl) ak).trans (show idxD (.tup [.str (gw b),.tup (ss.map toD)]) (.int 1)=.ok (false,.tup (ss.map toD))from rfl)]
    rfl
   cases b with
   | false=>
     exact au rfl rfl (stp [some (.sh,.tup [.str sAnd,.tup (toDs ss)]),some (.sh,.str sAnd)] (aX ((bj (aj rfl) ak).trans rfl) rfl) (stp _ (ifF (e0 _) (by decide)) (stp _ (ifF (e0 _) (by decide)) (stp _ (ifF (e0 _) (by decide)) (stpR (ifT (e0 _) (by decide) (retR (ux (aa rfl (aj rfl) (aa rfl (aj rfl) (aa rfl hcomp rfl))) (hi 6 i5 rfl) hI) rfl)))))))
   | true=>
     exact au rfl rfl (stp [some (.sh,.tup [.str sOr,.tup (toDs ss)]),some (.sh,.str sOr)] (aX ((bj (aj rfl) ak).trans rfl) rfl) (stp _ (ifF (e0 _) (by decide)) (stp _ (ifF (e0 _) (by decide)) (stp _ (ifF (e0 _) (by decide)) (stp _ (ifF (e0 _) (by decide)) (stpR (ifT (e0 _) (by decide) (retR (ux (aa rfl (aj rfl) (aa rfl (aj rfl) (aa rfl hcomp rfl))) (hi 7 i5 rfl) hI) rfl))))))))
end
end KG
namespace KG
open Z
section
variable{o:Orc}{δ δ':Dst}{lk:Bool}
theorem Qh(ha:ev o δ true a=.ok (w1,x))(hb:ev o δ true b=.ok (w2,y))(h:o2 p x y=r):ev o δ lk (XM p a b)=r:=(aB ha hb).trans h
theorem e_b1(ha:ev o δ true a=.ok (w,x))(h:b1D b x=r):ev o δ lk (Y9 b a)=r:=(gj ha).trans h
theorem e_b2(ha:ev o δ true a=.ok (w1,x))(hb:ev o δ true c=.ok (w2,y))(h:b2D b x y=r):ev o δ lk (T.b2 b a c)=r:=(Ky ha hb).trans h
theorem QK(ha:ev o δ true a=.ok (w1,x))(hb:ev o δ true b=.ok (w2,y))(h:idxD x y=r):ev o δ lk (XX a b)=r:=(bj ha hb).trans h
theorem e_m1(ha:ev o δ true a=.ok (w1,x))(hb:ev o δ true b=.ok (w2,y))(h:m1D m x y=r):ev o δ lk (T.m1 m a b)=r:=(Om ha hb).trans h
theorem PL(ha:ev o δ true a=.ok (w,.int i)):ev o δ lk (Yt a)=.ok (false,.int (-i)):=by simp only[ev,ha,XS]
theorem eO(ha:ev o δ true a=.ok (w,.obj c ns vs))(hi:(o.init c).isSome=true)(hl:look (ns.map .s) vs (.s f)=some d):ev o δ lk (Ym a f)=.ok (false,d):=by
 simp only[ev,ha,XS,fldD,hi,hl,Y5,if_true,RJ,XR]
theorem dM(hk:aM δ a=false)(ha:ev o δ false a=.ok (w,x))(hx:x=.obj c ns vs)(hl:evL o δ l=.ok (false,xs))(hn:ns.contains m=false)(hm:o.meth c m=some f)(h:o.fn f (x::xs)=.ok (w',d)):ev o δ lk (Yg m a l)=.ok (w',d):=by
 subst hx;simp only[ev,hk,ha,XS,hl,hn,hm,h,XR,Y5,lent,Bool.not_false,Bool.or_self,Bool.false_eq_true,if_true,if_false]
theorem BV(ha:ev o δ (aM δ a) a=.ok (w,x))(hx:x=.obj c ns vs)(hl:evL o δ l=.ok (b,xs))(hn:ns.contains m=false)(hm:o.meth c m=some f)(h:o.fn f (x::xs)=.ok (w',d))(hi:d.imm=true):ev o δ lk (Yg m a l)=.ok (w',d):=by
 subst hx;simp only[ev,ha,XS,hl,hn,hm,h,XR,Y5,lent,Bool.not_false,if_true,hi,ite_self]
theorem pP:evL o δ XQ=.ok (false,[]):=rfl
theorem DP(h:δ[i]?=some (some (.ow,d))):evS o (.ret (.var i)) δ=.rt true d δ:=by simp only[evS,h]
theorem bW(h:ev o δ lk t=.ok (w,x))(hi:o9 x=some l):evI o δ lk (.val t)=.ok l:=by simp only[evI,h,XS,hi,XR]
theorem fors(hs:bV δ it=δ)(hi:evI o δ false it=.ok l)(h:bG (evSs o b) tg tp l δ=.nx δ'):evS o (.for_ tg tp it b) δ=.nx δ':=by
 rw[forE hs,hi];exact h
theorem ifsT(h:ev o δ true c=.ok (w,.bl b))(hb:b=true)(k:evSs o x δ=r):evS o (.ifs c x y) δ=r:=by subst hb;rw[cD h,if_pos rfl,k]
theorem ifsF(h:ev o δ true c=.ok (w,.bl b))(hb:b=false)(k:evSs o y δ=r):evS o (.ifs c x y) δ=r:=by subst hb;rw[cD h,if_neg (by decide),k]
theorem one(h:evS o s δ=.nx r):evSs o (.cons s .nil) δ=.nx r:=by rw[aq h];rfl
theorem bT(ht:takes tg.length tp d=some ds)(hs:aG δ tg ds=some δ1)(hb:f δ1=.nx δ2)(k:bG f tg tp l δ2=r):bG f tg tp (d::l) δ=r:=by
 simp only[bG,ht,hs,hb,k]
theorem yQ(ha:ev o δ true a=.ok (w,x))(h:isD o ty x=some b):ev o δ lk (Yq a ty)=.ok (false,.bl b):=by simp only[ev,ha,XS,h,RJ,XR]
end
theorem NT(a b:Int):o2 .sub (.int a) (.int b)=.ok (false,.int (a-b)):=rfl
theorem o_le(a b:Int):o2 .le (.int a) (.int b)=.ok (false,.bl (decide (a<=b))):=rfl
theorem o_ge(a b:Int):o2 .ge (.int a) (.int b)=.ok (false,.bl (decide (b<=a))):=rfl
theorem QQ(a b:Int):o2 .ne (.int a) (.int b)=.ok (false,.bl !(decide (a=b))):=rfl
theorem Qs(a b:List Nat):o2 .ne (.str a) (.str b)=.ok (false,.bl !(decide (a=b))):=rfl
theorem dh(h:l[i.toNat]?=some d)(h0:decide (0<=i)=true):idxD (.tup l) (.int i)=.ok (false,d):=by
 have hk:=(Ry.mp h).1;have h0:=of_decide_eq_true h0
 have h1:i<l.length:=by omega
 simp only[idxD,place,h0,h1,if_true,Rq,h,RJ,XR]
theorem zz(h:l[i.toNat]?=some d)(h0:decide (0<=i)=true):idxD (.lst l) (.int i)=.ok (false,d):=p8 (of_decide_eq_true h0) h
theorem Nj(l:List D):b1D .len (.lst l)=.ok (false,.int l.length):=rfl
theorem KC(l:List D):b1D .len (.tup l)=.ok (false,.int l.length):=rfl
theorem Ob(l:List Nat):b1D .len (.str l)=.ok (false,.int l.length):=rfl
theorem Lb(l:List D):b1D .tuple (.lst l)=.ok (false,.tup l):=rfl
end KG
namespace KG
open Z
structure Sok(base c:Int)(l:List Pair):Prop where
 c:Bd c
 len:l.length<=5
 nm:∀p∈l,p.1∈N5 base
 bd:∀p∈l,Bd p.2
 ne:∀p∈l,p.2≠0
mutual
def Fine(base:Int)(t:Bool):Stt->Prop
 | .least c l=>Sok base c l
 | .rest m c l=>1<=m/\m<=P30/\Sok base c l
 | .nt s=>Fine base t s
 | .grp _ ss=>pQ base t ss
 | .trn _ x s=>t=true/\x∈N5 base/\Fine base t s
def pQ(base:Int)(t:Bool):List Stt->Prop
 | []=>True
 | s::ss=>Fine base t s/\pQ base t ss
end
theorem Fines_iff:∀{ss:List Stt},pQ base t ss↔∀s∈ss,Fine base t s
 | []=>by simp[pQ]
 | s::ss=>by simp[pQ,Fines_iff (ss:=ss)]
theorem O9:Cl Fine where
 nt:=fun base t s h=>by rw[Fine];exact h
 grp:=fun base t w ss h=>by rw[Fine];exact Fines_iff.mpr h
 trn:=fun base w c s h0 h5 h=>by rw[Fine];exact⟨rfl,Iz c base ⟨h0,h5⟩,h⟩
theorem Li(hmix:∀(c:Int) (k:Nat) (m:Int),k<10->m≠0->o.fn imix [.int c,.int (k:Int),.int m]=.ok (false,.int (mixV c k m)))(hnum:∀c,o.fn inum [.int c]=.ok (false,.int (numV c)))(hname:∀c b,o.fn iname [.int c,.int b]=.ok (false,.str (nm c b)))(cell base:Int) :
 ∃c l,Sok base c l/\bf o (sbFd imix inum iname) [.int cell,.int base]=.ok (false,smT c l):=by
 obtain⟨c,l,hc,hl,h⟩:=wk hmix hnum hname cell base;refine⟨c,sumL l,⟨hc,?_,G4 _ l hl.nm,fun p hp=>?_,fun p hp=>?_⟩,h⟩
 ·have h1:=lM l
  have h2:=uK (N5 base) l hl.nm;rw[wZ]at h2;omega
 ·rw[<-((lE l p).mp hp).1];exact hl.tot _
 ·exact((lE l p).mp hp).2
theorem Sok.lw{base c:Int}{l:List Pair}(h:Sok base c l):Lw l:=⟨by have:=h.len;omega,h.bd⟩
theorem Es:(0:Int)<P30:=by decide
theorem Gm(hmix:∀(c:Int) (k:Nat) (m:Int),k<10->m≠0->o.fn imix [.int c,.int (k:Int),.int m]=.ok (false,.int (mixV c k m)))(hsum:∀cell base:Int,∃c l,Sok base c l/\o.fn isum [.int cell,.int base]=.ok (false,smT c l))(cell base:Int) :
 ∃s,wf 0 s/\sz s=1/\(∀t,Fine base t s)/\bf o (abFd imix isum) [.int cell,.int base]=.ok (false,toD s):=by
 obtain⟨c,l,hl,hs⟩:=hsum (cell.fdiv 3) base;have m9:o.fn imix [.int cell,.int 9,.int 12]=.ok (false,.int (mixV cell 9 12)):=hmix cell 9 12 (by omega) (by omega);have r9:=cO cell 9 12 (by omega);generalize mixV cell 9 12=m at m9 r9
 have call:∀x:Option Slot,ev o [some (.sh,.int cell),some (.sh,.int base),x] false (Y4 isum (XF (XM .fdiv (XC 0) (XD (XH 3))) (XF (XC 1) XQ)))=.ok (false,smT c l):=fun x=>aL (aa rfl ((aB (aj rfl) ak).trans (gZ _ 3 (by decide))) (aa rfl (aj rfl) rfl)) hs
 have e0:ev o [some (.sh,.int cell),some (.sh,.int base),none] true (XM .gt (XM .mod (XC 0) (XD (XH 3))) (XD (XH 0)))=.ok (false,.bl (decide (0<cell.fmod 3))):=(aB ((aB (aj rfl) ak).trans (iw _ 3 (by decide))) ak).trans (o_gt _ _)
 by_cases h:0<cell.fmod 3
 ·refine⟨.least c l,hl.lw,by rw[sz],fun t=>by rw[Fine];exact hl,?_⟩
  rw[toD];exact au rfl rfl (stpR (ifT e0 (decide_eq_true h) (retR (bY (xs:=[.str dO,smT c l]) (aa rfl ak (aa rfl (call _) rfl)) rfl) rfl)))
 have hE:evS o (Y7 (XM .eq (XM .mod (XC 0) (XD (XH 4))) (XD (XH 3))) (XJ (Y8 2 (XM .add (XD (XH 1)) (XM .mod (XM .fdiv (XC 0) (XD (XH 12))) (XM .pow (XD (XH 10)) (XD (XH 30)))))) XN) XN) [some (.sh,.int cell),some (.sh,.int base),some (.sh,.int (1+m))]=.nx [some (.sh,.int cell),some (.sh,.int base),some (.sh,.int (if cell.fmod 4=3 then 1+(cell.fdiv 12).fmod P30 else 1+m))]:=by
  rw[ifS ((aB ((aB (aj rfl) ak).trans (iw _ 4 (by decide))) ak).trans (pK _ _)) ((aB ak ((aB ((aB (aj rfl) ak).trans (gZ _ 12 (by decide))) ((aB ak ak).trans Qu)).trans (iw _ P30 M9))).trans (j6 _ _)) rfl]
  by_cases h4:cell.fmod 4=3
  ·rw[if_pos (decide_eq_true h4),if_pos h4];rfl
  ·rw[if_neg (by simp[h4]),if_neg h4]
 have hq:1<=(if cell.fmod 4=3 then 1+(cell.fdiv 12).fmod P30 else 1+m)/\(if cell.fmod 4=3 then 1+(cell.fdiv 12).fmod P30 else 1+m)<=P30:=by
  have r:=aD (cell.fdiv 12) P30 Es
  have:(13:Int)<=P30:=by decide
  split<;>omega
 refine⟨.rest (if cell.fmod 4=3 then 1+(cell.fdiv 12).fmod P30 else 1+m) c l,hl.lw,by rw[sz],fun t=>by rw[Fine];exact⟨hq.1,hq.2,hl⟩,?_⟩;rw[toD];generalize (if cell.fmod 4=3 then 1+(cell.fdiv 12).fmod P30 else 1+m)=q at hE;exact au rfl rfl (stp _ (ifF e0 (decide_eq_false h)) (stp [some (.sh,.int cell),some (.sh,.int base),some (.sh,.int (1+m))] (aX ((aB ak (aL (aa rfl (aj rfl) (aa rfl ak (aa rfl ak rfl))) m9)).trans (j6 _ _)) rfl) (stp _ hE (stpR (retR (bY (xs:=[.str oM,.int q,smT c l]) (aa rfl ak (aa rfl (aj rfl) (aa rfl (call _) rfl))) rfl) rfl)))))
structure Dr(P:Prg)(icell imix iname inum isum iatom itold:Nat):Prop where
 c:P.fns[icell]?=some cellFd
 m:P.fns[imix]?=some mixFd
 n:P.fns[iname]?=some nmFd
 u:P.fns[inum]?=some numFd
 s:P.fns[isum]?=some (sbFd imix inum iname)
 a:P.fns[iatom]?=some (abFd imix isum)
 t:P.fns[itold]?=some (tbFd iatom iname)
section
variable{P:Prg}{icell imix iname inum isum iatom itold:Nat}(H:Dr P icell imix iname inum isum iatom itold)(w m:Nat)
include H
theorem qY(ns:List Int)(k:Nat):(orc P w (m+1)).fn icell [.lst (ns.map .int),.int (k:Int)]=.ok (false,.int (ns.getD k 0)):=by
 rw[aN H.c];exact Br _ ns k
theorem Ng(c:Int)(k:Nat)(q:Int)(hk:k<10)(hq:q≠0):(orc P w (m+1)).fn imix [.int c,.int (k:Int),.int q]=.ok (false,.int (mixV c k q)):=by
 rw[aN H.m];exact Hf _ c q k hk hq
theorem vR(c b:Int):(orc P w (m+1)).fn iname [.int c,.int b]=.ok (false,.str (nm c b)):=by
 rw[aN H.n];exact NP _ c b
theorem Ju(c:Int):(orc P w (m+1)).fn inum [.int c]=.ok (false,.int (numV c)):=by
 rw[aN H.u];exact Ga _ c
theorem Np(cell base:Int):∃c l,Sok base c l/\(orc P w (m+2)).fn isum [.int cell,.int base]=.ok (false,smT c l):=by
 rw[aN H.s];exact Li (Ng H w m) (Ju H w m) (vR H w m) cell base
theorem JR(cell base:Int):∃s,wf 0 s/\sz s=1/\(∀t,Fine base t s)/\(orc P w (m+3)).fn iatom [.int cell,.int base]=.ok (false,toD s):=by
 rw[aN H.a];exact Gm (Ng H w (m+1)) (Np H w m) cell base
theorem O1(cells:List Int)(base:Int)(turns:Bool)(hc:cells.length<=100):∃s,wf 14 s/\sz s<=cells.length+1/\Fine base turns s/\(orc P w (m+4)).fn itold [.lst (cells.map .int),.int base,.bl turns]=.ok (false,toD s):=by
 rw[aN H.t];exact tX O9 (JR H w m) (vR H w (m+2)) cells base turns hc
end
noncomputable def okc(c:Nat):Bool:=decide (48<=c/\c<=57)||decide (97<=c/\c<=122)
noncomputable def okl(c:Nat):Bool:=decide (97<=c/\c<=122)
theorem Al(j:Int):lt j∈L26:=by
 have:=aD j 26 (by omega);exact getD_mem (by rw[vz];omega)
theorem Mp(j:Int):sg j∈S36:=by
 have:=aD j 36 (by omega);exact getD_mem (by rw[xr];omega)
theorem rG:∀c∈L26,okl c=true/\okc c=true:=by decide
theorem Ed:∀c∈S36,okc c=true:=by decide
theorem pZ{l:List Nat}{n x:Nat}{f:Nat->Bool}(h:∀c∈l,f c=true)(hx:f x=true):∀c∈l.set n x,f c=true:=fun c hc=>by
 rcases List.mem_or_eq_of_mem_set hc with h' | rfl
 ·exact h c h'
 ·exact hx
theorem Lq(c b:Int):(∀x∈nm c b,okc x=true)/\∃x r,nm c b=x::r/\okl x=true:=by
 have hz:=kY c b
 have h1:(∀x∈iu c b,okc x=true)/\∃x r,iu c b=x::r/\okl x=true:=by
  unfold iu;refine⟨pZ (fun x hx=>?_) (rG _ (Al _)).2,?_⟩
  ·obtain⟨k,_,rfl⟩:=RB.mp hx
   exact Ed _ (Mp _)
  ·obtain⟨n,hn⟩:∃n,(cG c b).toNat=n+1:=⟨(cG c b).toNat-1,by omega⟩
   rw[hn,List.range_succ_eq_map];exact⟨_,_,rfl,(rG _ (Al _)).1⟩
 have h2:(∀x∈ik c b,okc x=true)/\∃x r,ik c b=x::r/\okl x=true:=by
  obtain⟨h1,x,r,e,hx⟩:=h1;unfold ik;split
  ·refine⟨pZ h1 (rG _ (Al _)).2,?_⟩
   rw[e];exact⟨_,_,rfl,(rG _ (Al _)).1⟩
  ·rename_i hp
   have hp0:=aD (b.fdiv 16) (cG c b) (by omega);refine⟨pZ h1 (Ed _ (Mp _)),?_⟩
   obtain⟨n,hn⟩:∃n,(dD c b).toNat=n+1:=⟨(dD c b).toNat-1,by unfold dD at hp ⊢;omega⟩
   rw[e,hn];exact⟨_,_,rfl,hx⟩
 obtain⟨h2,x,r,e,hx⟩:=h2;unfold nm;split
 ·refine⟨fun y hy=>?_,x,r++[57],by rw[e];rfl,hx⟩
  rcases T6.mp hy with h | h
  ·exact h2 y h
  ·have:y=57:=by simpa using h
   subst this;decide
 ·exact⟨h2,x,r,e,hx⟩
theorem Ph(h:x∈N5 base):(∀c∈x,okc c=true)/\(∃c r,x=c::r/\okl c=true)/\x.length<=9:=by
 obtain⟨j,_,rfl⟩:=RB.mp h;exact⟨(Lq _ _).1,(Lq _ _).2,Kz _ _⟩
end KG
namespace P05
open Z
noncomputable def f0:Fd:=KG.cvFd 10
noncomputable def f1:Fd:=⟨2,3,lq⟩
noncomputable def f2:Fd:=⟨2,3,(XJ (Yk [2] false (Yc (XC 0)) (XJ (Y7 (XM .notin (XC 2) (XC 1)) (XJ (YF 10 (YC (XF (XC 2) (XF (XD (Y0 [32,104,97,115,32,110,111,32,118,97,108,117,101])) XQ)))) XN) XN) XN)) XN)⟩
noncomputable def f3:Fd:=KG.trFd 3
noncomputable def f4:Fd:=KG.cellFd
noncomputable def f5:Fd:=KG.mixFd
noncomputable def f6:Fd:=KG.nmFd
noncomputable def f7:Fd:=KG.numFd
noncomputable def f8:Fd:=KG.sbFd 5 7 6
noncomputable def f9:Fd:=KG.abFd 5 8
noncomputable def f10:Fd:=KG.tbFd 9 6
noncomputable def f11:Fd:=KG.sameFd 11
noncomputable def f12:Fd:=KG.lvFd
noncomputable def f13:Fd:=⟨2,3,(XJ (Y7 (XM .eq (XX (XC 0) (XD (XH 0))) (XD (Y0 [108,101,97,115,116]))) (XJ (Y6 (XM .ge (Y4 12 (XF (XX (XC 0) (XD (XH 1))) (XF (XC 1) XQ))) (XD (XH 0)))) XN) XN) (XJ (Y7 (XM .eq (XX (XC 0) (XD (XH 0))) (XD (Y0 [114,101,115,116]))) (XJ (Y6 (XM .eq (XM .mod (Y4 12 (XF (XX (XC 0) (XD (XH 2))) (XF (XC 1) XQ))) (XX (XC 0) (XD (XH 1)))) (XD (XH 0)))) XN) XN) (XJ (Y7 (XM .eq (XX (XC 0) (XD (XH 0))) (XD (Y0 [110,111,116]))) (XJ (Y6 (Yi (Y4 13 (XF (XX (XC 0) (XD (XH 1))) (XF (XC 1) XQ))))) XN) XN) (XJ (Y8 2 (Yj [1] 1 false (Yc (XX (XC 0) (XD (XH 1)))) (XD (Yb true)) (Y4 13 (XF (XC 0) (XF (XC 1) XQ))))) (XJ (Y7 (XM .eq (XX (XC 0) (XD (XH 0))) (XD (Y0 [97,110,100]))) (XJ (Y6 (Y9 .all (XC 2))) XN) XN) (XJ (Y6 (Y9 .any (XC 2))) XN))))))⟩
noncomputable def f14:Fd:=⟨2,4,(XJ (Y7 (XM .eq (XX (XC 0) (XD (XH 0))) (XD (Y0 [108,101,97,115,116]))) (XJ (Y6 (Yj [1] 2 true (Yc (XX (XX (XC 0) (XD (XH 1))) (XD (XH 1)))) (XM .notin (XC 0) (XC 2)) (XC 0))) XN) XN) (XJ (Y7 (XM .eq (XX (XC 0) (XD (XH 0))) (XD (Y0 [114,101,115,116]))) (XJ (Y6 (Yj [1] 2 true (Yc (XX (XX (XC 0) (XD (XH 2))) (XD (XH 1)))) (XM .notin (XC 0) (XC 2)) (XC 0))) XN) XN) (XJ (Y7 (XM .eq (XX (XC 0) (XD (XH 0))) (XD (Y0 [110,111,116]))) (XJ (Y6 (Y4 14 (XF (XX (XC 0) (XD (XH 1))) (XF (XC 1) XQ)))) XN) XN) (XJ (Y7 (Yp (XM .eq (XX (XC 0) (XD (XH 0))) (XD (Y0 [115,111,109,101]))) (XM .eq (XX (XC 0) (XD (XH 0))) (XD (Y0 [97,108,108])))) (XJ (Y6 (Y4 14 (XF (XX (XC 0) (XD (XH 2))) (XF (XM .add (XC 1) (Ye (XF (XX (XC 0) (XD (XH 1))) XQ))) XQ)))) XN) XN) (XJ (Y8 2 (Ye XQ)) (XJ (Yk [3] false (Yc (XX (XC 0) (XD (XH 1)))) (XJ (Y8 2 (XM .add (XC 2) (Y4 14 (XF (XC 3) (XF (XC 1) XQ))))) XN)) (XJ (Y6 (XC 2)) XN)))))))⟩
noncomputable def f15:Fd:=⟨2,2,(XJ (S.try_ (XJ (YD (Yg [119,111,114,116,104] (XC 0) (XF (XC 1) XQ))) XN) 10 none (XJ (Y6 (XD (Yb true))) XN)) (XJ (Y6 (XD (Yb false))) XN))⟩
noncomputable def f16:Fd:=⟨3,4,(XJ (Y8 3 (Yg [119,111,114,116,104] (XC 0) (XF (Y9 .dict (XC 2)) XQ))) (XJ (Y6 (Ys (Yq (XC 3) .bool) (XM .eq (XC 3) (Y4 13 (XF (XC 1) (XF (XC 2) XQ)))))) XN))⟩
noncomputable def f17:Fd:=⟨3,7,(XJ (Y8 3 (Y4 8 (XF (XC 0) (XF (XC 1) XQ)))) (XJ (Yk [4] false (Yc (Yd (XF (Yt (XD (XH 1))) (XF (XD (XH 0)) (XF (XD (XH 1)) XQ))))) (XJ (Y8 5 (Yd (XF (XM .sub (XM .add (XX (XC 3) (XD (XH 0))) (XC 4)) (Y4 12 (XF (XC 3) (XF (XC 2) XQ)))) (XF (XX (XC 3) (XD (XH 1))) XQ)))) (XJ (Yk [6] false (Yc (Ye (XF (Yd (XF (XD (Y0 [108,101,97,115,116])) (XF (XC 5) XQ))) (XF (Yd (XF (XD (Y0 [110,111,116])) (XF (Yd (XF (XD (Y0 [108,101,97,115,116])) (XF (XC 5) XQ))) XQ))) (XF (Yd (XF (XD (Y0 [97,110,100])) (XF (Yd (XF (Yd (XF (XD (Y0 [108,101,97,115,116])) (XF (XC 5) XQ))) XQ)) XQ))) XQ))))) (XJ (Y7 (Yi (Y4 16 (XF (Y4 3 (XF (XC 6) XQ)) (XF (XC 6) (XF (XC 2) XQ))))) (XJ (Y6 (XD (Yb false))) XN) XN) XN)) XN))) (XJ (Y6 (XD (Yb true))) XN)))⟩
noncomputable def f18:Fd:=⟨1,10,(XJ (Y8 1 (Y4 4 (XF (XC 0) (XF (XD (XH 0)) XQ)))) (XJ (Y8 2 (Y4 10 (XF (Yv (XC 0) (XD (XH 11)) (XD (XH 51))) (XF (XC 1) (XF (XD (Yb false)) XQ))))) (XJ (Y8 3 (Yj [1] 1 false (Yn (XD (XH 5))) (XD (Yb true)) (Y4 6 (XF (XC 0) (XF (XC 1) XQ))))) (XJ (Y8 4 (Yy [.s [113,49,113,50,113,51,113,52]] (XF (XD (XH 3)) XQ))) (XJ (Y8 5 (Yy [] XQ)) (XJ (Yk [6] false (Yn (XD (XH 5))) (XJ (Yo 4 (XX (XC 3) (XC 6)) (Y4 7 (XF (Y4 4 (XF (XC 0) (XF (XM .add (XD (XH 1)) (XC 6)) XQ))) XQ))) (XJ (Yo 5 (XX (XC 3) (XC 6)) (Y4 7 (XF (Y4 4 (XF (XC 0) (XF (XM .add (XD (XH 6)) (XC 6)) XQ))) XQ))) XN))) (XJ (Y8 7 (Y4 3 (XF (XC 2) XQ))) (XJ (Y7 (Yp (Yi (Yq (XC 7) (.ocl 0))) (Yi (Y4 11 (XF (Yg [116,111,108,100] (XC 7) XQ) (XF (XC 2) XQ))))) (XJ (Y6 (XD (Yb false))) XN) XN) (XJ (Y7 (Yp (Yi (Y4 16 (XF (XC 7) (XF (XC 2) (XF (XC 4) XQ))))) (Yp (Yi (Y4 16 (XF (XC 7) (XF (XC 2) (XF (XC 5) XQ))))) (Yi (Y4 16 (XF (XC 7) (XF (XC 2) (XF (XC 4) XQ))))))) (XJ (Y6 (XD (Yb false))) XN) XN) (XJ (Y8 8 (XX (XC 3) (XM .mod (XM .fdiv (XC 1) (XD (XH 7))) (XD (XH 5))))) (XJ (S.pop1 none 5 (XC 8)) (XJ (Y7 (XM .in (XC 8) (Y4 14 (XF (XC 2) (XF (Ye XQ) XQ)))) (XJ (Y7 (Yi (Y4 15 (XF (XC 7) (XF (XC 5) XQ)))) (XJ (Y6 (XD (Yb false))) XN) XN) XN) (XJ (Y7 (Yi (Y4 16 (XF (XC 7) (XF (XC 2) (XF (XC 5) XQ))))) (XJ (Y6 (XD (Yb false))) XN) XN) XN)) (XJ (Yk [9] false (TI.rng2 (XD (XH 11)) (XD (XH 15))) (XJ (Y7 (Yi (Y4 17 (XF (XM .add (Y4 4 (XF (XC 0) (XF (XC 9) XQ))) (XC 9)) (XF (XC 1) (XF (XC 4) XQ))))) (XJ (Y6 (XD (Yb false))) XN) XN) XN)) (XJ (Y6 (Ys (Y4 16 (XF (XC 7) (XF (XC 2) (XF (XC 4) XQ)))) (Y4 11 (XF (Yg [116,111,108,100] (XC 7) XQ) (XF (XC 2) XQ))))) XN))))))))))))))⟩
noncomputable def f19:Fd:=KG.iniB
noncomputable def f20:Fd:=⟨1,1,(XJ (Y6 (Ym (XC 0) [115,116,97,116,101,109,101,110,116])) XN)⟩
noncomputable def f21:Fd:=⟨1,1,(XJ (Y6 (Y9 .sortedSet (Yg [117,110,98,111,117,110,100] (XC 0) (XF (Yy [] XQ) XQ)))) XN)⟩
noncomputable def f22:Fd:=⟨2,2,(XJ (YD (Y4 2 (XF (Yg [108,111,111,115,101] (XC 0) XQ) (XF (XC 1) XQ)))) (XJ (Y6 (Yg [104,111,108,100,115] (XC 0) (XF (XC 1) XQ))) XN))⟩
noncomputable def f23:Fd:=KG.iniA
noncomputable def f24:Fd:=⟨2,2,(XJ (Y6 (Yj [1] 1 false (Yc (XX (Ym (XC 0) [116,111,116,97,108]) (XD (XH 1)))) (XM .notin (XX (XC 0) (XD (XH 0))) (XC 1)) (XX (XC 0) (XD (XH 0))))) XN)⟩
noncomputable def f25:Fd:=⟨2,2,(XJ (Y6 (XM .ge (Y4 0 (XF (Ym (XC 0) [116,111,116,97,108]) (XF (XC 1) XQ))) (XD (XH 0)))) XN)⟩
noncomputable def f26:Fd:=KG.iniR
noncomputable def f27:Fd:=⟨2,2,(XJ (Y6 (XM .eq (XM .mod (Y4 0 (XF (Ym (XC 0) [116,111,116,97,108]) (XF (XC 1) XQ))) (Ym (XC 0) [100,105,118,105,115,111,114])) (XD (XH 0)))) XN)⟩
noncomputable def f28:Fd:=KG.iniN
noncomputable def f29:Fd:=⟨2,2,(XJ (Y6 (Yg [117,110,98,111,117,110,100] (Ym (XC 0) [112,97,114,116]) (XF (XC 1) XQ))) XN)⟩
noncomputable def f30:Fd:=⟨2,2,(XJ (Y6 (Yi (Yg [104,111,108,100,115] (Ym (XC 0) [112,97,114,116]) (XF (XC 1) XQ)))) XN)⟩
noncomputable def f31:Fd:=KG.iniM
noncomputable def f32:Fd:=⟨2,4,(XJ (Y8 2 (Ye XQ)) (XJ (Yk [3] false (Yc (Ym (XC 0) [112,97,114,116,115])) (XJ (S.extend 2 (Yg [117,110,98,111,117,110,100] (XC 3) (XF (XC 1) XQ))) XN)) (XJ (Y6 (XC 2)) XN)))⟩
noncomputable def f33:Fd:=⟨2,3,(XJ (Yk [2] false (Yc (Ym (XC 0) [112,97,114,116,115])) (XJ (Y7 (Yi (Yg [104,111,108,100,115] (XC 2) (XF (XC 1) XQ))) (XJ (Y6 (XD (Yb false))) XN) XN) XN)) (XJ (Y6 (XD (Yb true))) XN))⟩
noncomputable def f34:Fd:=⟨2,3,(XJ (Yk [2] false (Yc (Ym (XC 0) [112,97,114,116,115])) (XJ (Y7 (Yg [104,111,108,100,115] (XC 2) (XF (XC 1) XQ)) (XJ (Y6 (XD (Yb true))) XN) XN) XN)) (XJ (Y6 (XD (Yb false))) XN))⟩
noncomputable def f35:Fd:=KG.iniX
noncomputable def f36:Fd:=⟨2,2,lq⟩
noncomputable def f37:Fd:=⟨2,2,lq⟩
noncomputable def mtab:List (Nat×List Nat×Nat):=[(0,[116,111,108,100],20),(0,[108,111,111,115,101],21),(0,[119,111,114,116,104],22),(1,[116,111,108,100],20),(1,[108,111,111,115,101],21),(1,[119,111,114,116,104],22),(1,[117,110,98,111,117,110,100],24),(2,[116,111,108,100],20),(2,[108,111,111,115,101],21),(2,[119,111,114,116,104],22),(2,[117,110,98,111,117,110,100],24),(2,[104,111,108,100,115],25),(3,[116,111,108,100],20),(3,[108,111,111,115,101],21),(3,[119,111,114,116,104],22),(3,[117,110,98,111,117,110,100],24),(3,[104,111,108,100,115],27),(4,[116,111,108,100],20),(4,[108,111,111,115,101],21),(4,[119,111,114,116,104],22),(4,[117,110,98,111,117,110,100],29),(4,[104,111,108,100,115],30),(5,[116,111,108,100],20),(5,[108,111,111,115,101],21),(5,[119,111,114,116,104],22),(5,[117,110,98,111,117,110,100],32),(6,[116,111,108,100],20),(6,[108,111,111,115,101],21),(6,[119,111,114,116,104],22),(6,[117,110,98,111,117,110,100],32),(6,[104,111,108,100,115],33),(7,[116,111,108,100],20),(7,[108,111,111,115,101],21),(7,[119,111,114,116,104],22),(7,[117,110,98,111,117,110,100],32),(7,[104,111,108,100,115],34),(8,[116,111,108,100],20),(8,[108,111,111,115,101],21),(8,[119,111,114,116,104],22),(8,[117,110,98,111,117,110,100],36),(8,[104,111,108,100,115],37)]
noncomputable def itab:List (Nat×Nat):=[(0,19),(1,23),(2,23),(3,26),(4,28),(5,31),(6,31),(7,31),(8,35)]
noncomputable def meth:Nat->List Nat->Option Nat:=tabOf mtab
noncomputable def init:Nat->Option Nat:=gJ itab
noncomputable def sub:Nat->Nat->Bool
 | 1,0=>true
 | 2,0=>true
 | 3,0=>true
 | 4,0=>true
 | 5,0=>true
 | 6,0=>true
 | 7,0=>true
 | 8,0=>true
 | 10,10=>true
 | 10,9=>true
 | _,_=>false
noncomputable def prg:Prg:=⟨[f0,f1,f2,f3,f4,f5,f6,f7,f8,f9,f10,f11,f12,f13,f14,f15,f16,f17,f18,f19,f20,f21,f22,f23,f24,f25,f26,f27,f28,f29,f30,f31,f32,f33,f34,f35,f36,f37],meth,init,sub⟩
def R5:Nat:=18
end P05
namespace K5
open Z KG P05
def Sl(base:Int)(l:List Pair):Prop:=l.length<=5/\∀p∈l,p.1∈N5 base/\Bd p.2
mutual
def Pl(base:Int):Stt->Prop
 | .least _ l=>Sl base l
 | .rest m _ l=>1<=m/\Sl base l
 | .nt s=>Pl base s
 | .grp _ ss=>Pls base ss
 | .trn _ _ _=>False
def Pls(base:Int):List Stt->Prop
 | []=>True
 | s::ss=>Pl base s/\Pls base ss
end
theorem jr:∀{ss:List Stt},Pls base ss->∀s∈ss,Pl base s
 | [],_,s,h=>by cases h
 | x::ss,h,s,hs=>by
   rw[Pls]at h;rcases Rh.mp hs with rfl | hs
   ·exact h.1
   ·exact jr h.2 s hs
mutual
theorem G7:∀s:Stt,Fine base false s->Pl base s
 | .least c l,h=>by rw[Fine]at h;rw[Pl];exact⟨h.len,fun p hp=>⟨h.nm p hp,h.bd p hp⟩⟩
 | .rest m c l,h=>by rw[Fine]at h;rw[Pl];exact⟨h.1,h.2.2.len,fun p hp=>⟨h.2.2.nm p hp,h.2.2.bd p hp⟩⟩
 | .nt s,h=>by rw[Fine]at h;rw[Pl];exact G7 s h
 | .grp _ ss,h=>by rw[Fine]at h;rw[Pl];exact DY ss h
 | .trn _ _ s,h=>by rw[Fine]at h;exact absurd h.1 (by decide)
theorem DY:∀ss:List Stt,pQ base false ss->Pls base ss
 | [],_=>by rw[Pls];trivial
 | s::ss,h=>by rw[pQ]at h;rw[Pls];exact⟨G7 s h.1,DY ss h.2⟩
end
mutual
noncomputable def fr:Stt->List (List Nat)
 | .least _ l=>l.map (·.1)
 | .rest _ _ l=>l.map (·.1)
 | .nt s=>fr s
 | .grp _ ss=>frs ss
 | .trn _ _ s=>fr s
noncomputable def frs:List Stt->List (List Nat)
 | []=>[]
 | s::ss=>fr s++frs ss
end
mutual
theorem mH:∀s:Stt,Pl base s->(∀n∈fr s,n∈N5 base)/\(fr s).length<=5*sz s
 | .least _ l,h=>by
   rw[Pl]at h;rw[fr,sz,Rw];refine⟨fun n hn=>?_,by have:=h.1;omega⟩;obtain⟨p,hp,rfl⟩:=RB.mp hn;exact(h.2 p hp).1
 | .rest _ _ l,h=>by
   rw[Pl]at h;rw[fr,sz,Rw];refine⟨fun n hn=>?_,by have:=h.2.1;omega⟩;obtain⟨p,hp,rfl⟩:=RB.mp hn;exact(h.2.2 p hp).1
 | .nt s,h=>by
   rw[Pl]at h;rw[fr,sz];have:=mH s h;exact⟨this.1,by omega⟩
 | .grp _ ss,h=>by
   rw[Pl]at h;rw[fr,sz];have:=Dk ss h;exact⟨this.1,by omega⟩
 | .trn _ x s,h=>by rw[Pl]at h;exact h.elim
theorem Dk:∀ss:List Stt,Pls base ss->(∀n∈frs ss,n∈N5 base)/\(frs ss).length<=5*szs ss
 | [],_=>by rw[frs,szs];simp
 | s::ss,h=>by
   rw[Pls]at h;rw[frs,szs];have h1:=mH s h.1;have h2:=Dk ss h.2;refine⟨fun n hn=>?_,by rw[Rx];omega⟩;rcases T6.mp hn with hn | hn
   ·exact h1.1 n hn
   ·exact h2.1 n hn
end
mutual
noncomputable def tv(m:List Pair):Stt->Bool
 | .least c l=>decide (0<=valP m c l)
 | .rest q c l=>decide ((valP m c l).fmod q=0)
 | .nt s=>!tv m s
 | .grp w ss=>if w then tvo m ss else tva m ss
 | .trn _ _ s=>tv m s
noncomputable def tva(m:List Pair):List Stt->Bool
 | []=>true
 | s::ss=>tv m s&&tva m ss
noncomputable def tvo(m:List Pair):List Stt->Bool
 | []=>false
 | s::ss=>tv m s||tvo m ss
end
theorem xZ(m:List Pair):∀ss:List Stt,(ss.map (tv m)).all id=tva m ss
 | []=>by rw[tva];rfl
 | s::ss=>by rw[tva,R8,W7,xZ m ss];rfl
theorem uV(m:List Pair):∀ss:List Stt,(ss.map (tv m)).any id=tvo m ss
 | []=>by rw[tvo];rfl
 | s::ss=>by rw[tvo,R8,S6,uV m ss];rfl
def HasN(m:List Pair)(N:List (List Nat)):Prop:=∀n∈N,∃v,aK m n=some v/\Bd v
theorem DX(h:Sl base l)(hn:HasN m (l.map (·.1))):Has m l:=fun p hp=>by
 obtain⟨v,h1,h2⟩:=hn p.1 (TF hp);exact⟨v,h1,Nb (h.2 p hp).2 h2⟩
theorem HasN.app(h:HasN m (a++b)):HasN m a/\HasN m b:=⟨fun n hn=>h n (U5 _ hn),fun n hn=>h n (Su _ hn)⟩
theorem HasN.mem:∀{ss:List Stt},HasN m (frs ss)->∀s∈ss,HasN m (fr s)
 | [],_,s,hs=>by cases hs
 | x::ss,h,s,hs=>by
   rw[frs]at h;rcases Rh.mp hs with rfl | hs
   ·exact h.app.1
   ·exact HasN.mem h.app.2 s hs
theorem yh:∀{ss:List Stt},s∈ss->sz s<=szs ss
 | [],h=>by cases h
 | x::ss,h=>by
   rw[szs];rcases Rh.mp h with rfl | h
   ·omega
   ·have:=yh h;omega
theorem sZ [DecidableEq α](k:α):∀l:List α,k∈cN l↔k∈l
 | []=>by simp[cN]
 | x::l=>by
   have ih:=sZ k l;rw[cN];split
   ·rename_i h
    rw[ih,Rh];exact⟨.inr,fun z=>z.elim (fun e=>e▸h) id⟩
   ·rw[Rh,Rh,ih]
theorem M6 [DecidableEq α]:∀l:List α,(cN l).Nodup
 | []=>Wq
 | x::l=>by
   have ih:=M6 l;rw[cN];split
   ·exact ih
   ·rename_i h
    exact Sd.mpr ⟨fun z=>h ((sZ x l).mp z),ih⟩
noncomputable def nms(l:List (List Nat)):List (List Nat):=eG (cN l)
theorem qd(l:List (List Nat))(k:List Nat):k∈nms l↔k∈l:=(KG.sortS_perm _).mem_iff.trans (sZ k l)
theorem Ex(h:∀n∈l,n∈N5 base):(cN l).length<=5:=by
 have:=fG (M6 l) (m:=N5 base) fun x hx=>h x ((sZ x l).mp hx)
 rw[wZ]at this;exact this
theorem Nm(xs:List (List Nat)):strsOf (xs.map Y0)=some xs:=by
 induction xs with
 | nil=>rfl
 | cons x xs ih=>simp[strsOf,ih]
noncomputable def txs(l:List (List Nat)):D:=.lst (l.map .str)
theorem Ew(h:∀n∈l,n∈N5 base)(hl:l.length<4000):b1D .sortedSet (txs l)=.ok (true,txs (nms l)):=by
 have h5:=Ex h
 have hc:(l.map Y0).length<4000/\(cN l).length<64:=⟨by rw[Rw];exact hl,by omega⟩
 simp only[txs,b1D,ssD,Nm,if_pos hc,XR]
 rfl
end K5
namespace K5
open Z KG P05
theorem trees:Trees prg 19 23 26 28 31 35:=⟨rfl,rfl,rfl,rfl,rfl,rfl,rfl⟩
theorem drs:Dr prg 4 5 6 7 8 9 10:=⟨rfl,rfl,rfl,rfl,rfl,rfl,rfl⟩
theorem mth(w n:Nat):(orc prg w n).meth=prg.meth:=by cases n<;>rfl
theorem subs(w n:Nat):(orc prg w n).sub=prg.sub:=by cases n<;>rfl
theorem K9(n:List Nat):o2 .notin (.str n) (.dct [] [])=.ok (false,.bl true):=by simp[o2,isIn,keyOf,XR]
noncomputable def kU:List Nat:=[117,110,98,111,117,110,100]
noncomputable def kL:List Nat:=[108,111,111,115,101]
noncomputable def kH:List Nat:=[104,111,108,100,115]
noncomputable def kWo:List Nat:=[119,111,114,116,104]
noncomputable def kTo:List Nat:=[116,111,108,100]
noncomputable def ub:Stt->Nat
 | .least _ _=>24
 | .rest _ _ _=>24
 | .nt _=>29
 | .grp _ _=>32
 | .trn _ _ _=>36
noncomputable def hl:Stt->Nat
 | .least _ _=>25
 | .rest _ _ _=>27
 | .nt _=>30
 | .grp w _=>if w then 34 else 33
 | .trn _ _ _=>37
structure At(s:Stt)(c:Nat)(ns:List (List Nat))(vs:List D):Prop where
 e:aC s=.obj c ns vs
 cu:ns.contains kU=false
 mu:prg.meth c kU=some (ub s)
 cl:ns.contains kL=false
 ml:prg.meth c kL=some 21
 ch:ns.contains kH=false
 mh:prg.meth c kH=some (hl s)
 cw:ns.contains kWo=false
 mw:prg.meth c kWo=some 22
 ct:ns.contains kTo=false
 mt:prg.meth c kTo=some 20
 st:look (ns.map .s) vs (.s kS)=some (toD s)
 is:prg.sub c 0=true
 c8:c<=8
theorem at_of(s:Stt):∃c ns vs,At s c ns vs:=by
 cases s with
 | grp w ss=>cases w<;>exact⟨_,_,_,by rw[aC];first | done | rfl,rfl,rfl,rfl,rfl,rfl,rfl,rfl,rfl,rfl,rfl,rfl,rfl,by decide⟩
 | _=>exact⟨_,_,_,by rw[aC],rfl,rfl,rfl,rfl,rfl,rfl,rfl,rfl,rfl,rfl,rfl,rfl,by decide⟩
theorem Ls(he:ev o δ false e=.ok (true,txs b))(ho:ownD δ i=some (q,txs a))(hz:a.length+b.length<=100000):evS o (.extend i e) δ=.nx (δ.set i (some (q,txs (a++b)))):=by
 have:size ((a.map Y0).length+(b.map Y0).length)=true:=by simp[size];omega
 unfold txs at he ho;simp only[evS,evF,he,SO.of,ho,Rq,this,Bool.and_self,if_true,aA,txs,Up]
noncomputable def ubB:SL:=(XJ (S.extend 2 (Yg [117,110,98,111,117,110,100] (XC 3) (XF (XC 1) XQ))) XN)
noncomputable abbrev d0:D:=.dct [] []
theorem Cq(o:Orc)(A:Option Slot)(ho:o.meth=prg.meth):∀(ss:List Stt) (row:List (List Nat)) (p:Option Slot),(∀s∈ss,o.fn (ub s) [aC s,d0]=.ok (true,txs (fr s)))->row.length+(frs ss).length<=100000 ->
 ∃p',bG (evSs o ubB) [3] false (ss.map aC) [A,some (.sh,d0),some (.ow,txs row),p]=.nx [A,some (.sh,d0),some (.ow,txs (row++frs ss)),p']
 | [],row,p,_,_=>⟨p,by rw[frs,Sg];rfl⟩
 | s::ss,row,p,h,hl=>by
   rw[frs,Rx]at hl;obtain⟨p',ih⟩:=Cq o A ho ss (row++fr s) (some (.sh,aC s)) (fun x hx=>h x (Rb _ hx)) (by rw[Rx];omega);obtain⟨c,ns,vs,z⟩:=at_of s;refine⟨p',bT (ds:=[aC s]) rfl rfl (one (Ls (b:=fr s) (dM rfl (aj rfl) z.e (aa rfl (aj rfl) rfl) z.cu (by rw[ho];exact z.mu) (h s Rg)) rfl (by omega))) (ih.trans ?_)⟩;rw[frs,W5]
theorem O7(w:Nat)(base:Int):∀(n:Nat) (s:Stt),wf n s->Pl base s->sz s<=300->∀(m:Nat),n+2<=m->(orc prg w m).fn (ub s) [aC s,d0]=.ok (true,txs (fr s)):=by
 intro n
 induction n using Nat.strongRecOn with
 | ind n ih=>
 intro s hs hf hz m hm
 obtain⟨k,rfl⟩:∃k,m=k+2:=⟨m-2,by omega⟩
 have hi:∀c,c<=8->((orc prg w (k+1)).init c).isSome=true:=fun c h=>has (w:=w) trees (k+1) c h
 have hin:=(mH s hf).2
 have hatom:∀(c:Int) (l:List Pair) (cl:Nat) (ns:List (List Nat)) (vs:List D),cl<=8->look (ns.map .s) vs (.s kT)=some (smT c l)->l.length<=1000->bf (orc prg w (k+1)) f24 [.obj cl ns vs,d0]=.ok (true,txs (l.map (·.1))):=fun c l cl ns vs h1 h2 h3=>by
  refine au rfl rfl (stpR (retR (w:=true) ?_ rfl))
  have e:txs (l.map (·.1))=.lst (l.map fun p=>Y0 p.1):=by rw[txs,SM];rfl
  rw[e];exact jd _ _ _ _ [1] [d0] (l.map prD) _ 1 false _ _ (bW (w:=false) (x:=.tup (l.map prD)) ((bj (eO (aj rfl) (hi cl h1) h2) ak).trans (dh rfl rfl)) rfl) rfl rfl (by rw[Rw];exact h3) (fY (fun p _=>(aB ((bj (aj rfl) ak).trans (dh rfl rfl)) (aj rfl)).trans (K9 p.1)) fun p _=>⟨false,(bj (aj rfl) ak).trans (dh rfl rfl)⟩)
 cases s with
 | least c l=>
   rw[Pl]at hf;rw[fr,ub,aN (d:=f24) rfl,aC];exact hatom c l 2 _ _ (by decide) rfl (by have:=hf.1;omega)
 | rest q c l=>
   rw[Pl]at hf;rw[fr,ub,aN (d:=f24) rfl,aC];exact hatom c l 3 _ _ (by decide) rfl (by have:=hf.2.1;omega)
 | nt s=>
   obtain⟨n,rfl⟩:∃j,n=j+1:=by
    cases n with
    | zero=>simp only[wf]at hs
    | succ j=>exact⟨j,rfl⟩
   simp only[wf]at hs;rw[Pl]at hf;rw[sz]at hz;have hc:=ih n (by omega) s hs hf (by omega) (k+1) (by omega);obtain⟨c,ns,vs,z⟩:=at_of s;rw[fr,ub,aN (d:=f29) rfl,aC];exact au rfl rfl (stpR (retR (dM rfl (eO (aj rfl) (hi 4 (by decide)) rfl) z.e (aa rfl (aj rfl) rfl) z.cu (by rw[mth];exact z.mu) hc) rfl))
 | trn b x s=>rw[Pl]at hf;exact hf.elim
 | grp b ss=>
   obtain⟨n,rfl⟩:∃j,n=j+1:=by
    cases n with
    | zero=>simp only[wf]at hs
    | succ j=>exact⟨j,rfl⟩
   simp only[wf]at hs;rw[Pl]at hf;rw[fr]at hin;rw[sz]at hz hin
   have hc:∀s∈ss,(orc prg w (k+1)).fn (ub s) [aC s,d0]=.ok (true,txs (fr s)):=fun s h=>ih n (by omega) s (hs.2 s h) (jr hf s h) (by have:=yh h;omega) (k+1) (by omega)
   obtain⟨p',hl⟩:=Cq (orc prg w (k+1)) (some (.sh,aC (.grp b ss))) (mth w (k+1)) ss [] none hc (by simp only[Sy];omega);rw[fr,ub,aN (d:=f32) rfl];rw[aC,cQ]at *
   have hcl:(if b then 7 else 6)<=8:=by cases b<;>decide
   generalize (if b then 7 else 6)=cl at *;exact au rfl rfl (stp _ (aX (w:=true) (d:=txs []) (dU (xs:=[]) rfl rfl) rfl) (stp _ (fors rfl (bW (w:=false) (x:=.lst (ss.map aC)) (eO (aj rfl) (hi cl hcl) rfl) rfl) hl) (stpR (DP rfl))))
theorem vq(w:Nat)(base:Int)(n:Nat)(s:Stt)(hs:wf n s)(hf:Pl base s)(hz:sz s<=300)(m:Nat)(hm:n+3<=m):(orc prg w m).fn 21 [aC s]=.ok (true,txs (nms (fr s))):=by
 obtain⟨k,rfl⟩:∃k,m=k+1:=⟨m-1,by omega⟩
 have hc:=O7 w base n s hs hf hz k (by omega);obtain⟨h1,h2⟩:=mH s hf;obtain⟨c,ns,vs,z⟩:=at_of s;rw[aN (d:=f21) rfl];exact au rfl rfl (stpR (retR ((gj (dM rfl (aj rfl) z.e (aa rfl (show ev _ _ false (Yy [] XQ)=.ok (true,d0)from rfl) rfl) z.cu (by rw[mth];exact z.mu) hc)).trans (Ew h1 (by omega))) rfl))
theorem zL(hs:bV δ it=δ)(hi:evI o δ false it=.ok l)(h:bG (evSs o b) tg tp l δ=r):evS o (.for_ tg tp it b) δ=r:=by
 rw[forE hs,hi];exact h
theorem Dz(ht:takes tg.length tp d=some ds)(hs:aG δ tg ds=some δ1)(hb:f δ1=.rt w x δ2):bG f tg tp (d::l) δ=.rt w x δ2:=by
 simp only[bG,ht,hs,hb]
theorem Mg(ht:takes tg.length tp d=some ds)(hs:aG δ tg ds=some δ1)(hb:f δ1=.ex c δ2):bG f tg tp (d::l) δ=.ex c δ2:=by
 simp only[bG,ht,hs,hb]
theorem oneR(h:evS o s δ=.rt w d δ'):evSs o (.cons s .nil) δ=.rt w d δ':=by simp only[evSs,h]
noncomputable def anB:SL:=(XJ (Y7 (Yi (Yg [104,111,108,100,115] (XC 2) (XF (XC 1) XQ))) (XJ (Y6 (XD (Yb false))) XN) XN) XN)
noncomputable def orB:SL:=(XJ (Y7 (Yg [104,111,108,100,115] (XC 2) (XF (XC 1) XQ)) (XJ (Y6 (XD (Yb true))) XN) XN) XN)
section
variable(o:Orc)(ho:o.meth=prg.meth)(m:List Pair)
include ho
theorem yK(s:Stt)(h:o.fn (hl s) [aC s,dctP m]=.ok (false,.bl (tv m s)))(A:Option Slot)(lk:Bool):ev o [A,some (.sh,dctP m),some (.sh,aC s)] lk (Yg [104,111,108,100,115] (XC 2) (XF (XC 1) XQ))=.ok (false,.bl (tv m s)):=by
 obtain⟨c,ns,vs,z⟩:=at_of s;exact dM rfl (aj rfl) z.e (aa rfl (aj rfl) rfl) z.ch (by rw[ho];exact z.mh) h
theorem yG(A:Option Slot):∀(ss:List Stt) (p:Option Slot),(∀s∈ss,o.fn (hl s) [aC s,dctP m]=.ok (false,.bl (tv m s))) ->
 ∃δ,bG (evSs o anB) [2] false (ss.map aC) [A,some (.sh,dctP m),p]=if tva m ss then .nx δ else .rt false (.bl false) δ
 | [],p,_=>⟨_,by rw[tva];rfl⟩
 | s::ss,p,h=>by
   have e:=yK o ho m s (h s Rg) A true;rw[tva,R8]
   cases hs:tv m s with
   | true=>
     rw[hs]at e
     obtain⟨δ,ih⟩:=yG A ss (some (.sh,aC s)) fun x hx=>h x (Rb _ hx)
     exact⟨δ,bT (ds:=[aC s]) rfl rfl (one (ifN (cI e))) ih⟩
   | false=>
     rw[hs]at e;exact⟨_,Dz (ds:=[aC s]) rfl rfl (oneR (ifR (cI e) (retR ak rfl)))⟩
theorem DG(A:Option Slot):∀(ss:List Stt) (p:Option Slot),(∀s∈ss,o.fn (hl s) [aC s,dctP m]=.ok (false,.bl (tv m s))) ->
 ∃δ,bG (evSs o orB) [2] false (ss.map aC) [A,some (.sh,dctP m),p]=if tvo m ss then .rt false (.bl true) δ else .nx δ
 | [],p,_=>⟨_,by rw[tvo];rfl⟩
 | s::ss,p,h=>by
   have e:=yK o ho m s (h s Rg) A true;rw[tvo,R8]
   cases hs:tv m s with
   | false=>
     rw[hs]at e
     obtain⟨δ,ih⟩:=DG A ss (some (.sh,aC s)) fun x hx=>h x (Rb _ hx)
     exact⟨δ,bT (ds:=[aC s]) rfl rfl (one (ifN e)) ih⟩
   | true=>
     rw[hs]at e;exact⟨_,Dz (ds:=[aC s]) rfl rfl (oneR (ifR e (retR ak rfl)))⟩
end
theorem Cm(w k:Nat)(base:Int)(m:List Pair)(c:Int)(l:List Pair)(h:Sl base l)(hn:HasN m (l.map (·.1))):(orc prg w (k+1)).fn 0 [smT c l,dctP m]=.ok (false,.int (valP m c l)):=by
 rw[aN (d:=f0) rfl];exact MN _ c m l 10 (DX h hn)
theorem wC(w:Nat)(base:Int)(m:List Pair):∀(n:Nat) (s:Stt),wf n s->Pl base s->HasN m (fr s)->∀(j:Nat),n+2<=j->(orc prg w j).fn (hl s) [aC s,dctP m]=.ok (false,.bl (tv m s)):=by
 intro n
 induction n using Nat.strongRecOn with
 | ind n ih=>
 intro s hs hf hn j hj
 obtain⟨k,rfl⟩:∃k,j=k+2:=⟨j-2,by omega⟩
 have hi:∀c,c<=8->((orc prg w (k+1)).init c).isSome=true:=fun c h=>has (w:=w) trees (k+1) c h
 cases s with
 | least c l=>
   rw[Pl]at hf;rw[fr]at hn;have hv:=Cm w k base m c l hf hn;rw[tv,hl,aN (d:=f25) rfl,aC];exact au rfl rfl (stpR (retR ((aB (aL (aa rfl (eO (aj rfl) (hi 2 (by decide)) rfl) (aa rfl (aj rfl) rfl)) hv) ak).trans (o_ge _ _)) rfl))
 | rest q c l=>
   rw[Pl]at hf;rw[fr]at hn;have hv:=Cm w k base m c l hf.2 hn
   have hq:q≠0:=by have:=hf.1;omega
   rw[tv,hl,aN (d:=f27) rfl,aC];exact au rfl rfl (stpR (retR ((aB ((aB (aL (aa rfl (eO (aj rfl) (hi 3 (by decide)) rfl) (aa rfl (aj rfl) rfl)) hv) (eO (aj rfl) (hi 3 (by decide)) rfl)).trans (iw _ q hq)) ak).trans (pK _ _)) rfl))
 | nt s=>
   obtain⟨n,rfl⟩:∃j,n=j+1:=by
    cases n with
    | zero=>simp only[wf]at hs
    | succ j=>exact⟨j,rfl⟩
   simp only[wf]at hs;rw[Pl]at hf;rw[fr]at hn;have hc:=ih n (by omega) s hs hf hn (k+1) (by omega);obtain⟨c,ns,vs,z⟩:=at_of s;rw[tv,hl,aN (d:=f30) rfl,aC];exact au rfl rfl (stpR (retR (cI (dM rfl (eO (aj rfl) (hi 4 (by decide)) rfl) z.e (aa rfl (aj rfl) rfl) z.ch (by rw[mth];exact z.mh) hc)) rfl))
 | trn b x s=>rw[Pl]at hf;exact hf.elim
 | grp b ss=>
   obtain⟨n,rfl⟩:∃j,n=j+1:=by
    cases n with
    | zero=>simp only[wf]at hs
    | succ j=>exact⟨j,rfl⟩
   simp only[wf]at hs;rw[Pl]at hf;rw[fr]at hn
   have hc:∀s∈ss,(orc prg w (k+1)).fn (hl s) [aC s,dctP m]=.ok (false,.bl (tv m s)):=fun s h=>ih n (by omega) s (hs.2 s h) (jr hf s h) (hn.mem s h) (k+1) (by omega)
   cases b with
   | false=>
     obtain⟨δ,hfo⟩:=yG (orc prg w (k+1)) (mth w (k+1)) m (some (.sh,aC (.grp false ss))) ss none hc;rw[tv,hl,if_neg Bool.false_ne_true,if_neg Bool.false_ne_true,aN (d:=f33) rfl];rw[aC,cQ]at *;have hfor:=zL (it:=Yc (Ym (XC 0) [112,97,114,116,115])) (δ:=[some (.sh,.obj 6 [kS,kW,kPs] [toD (.grp false ss),.str (gw false),.lst (ss.map aC)]),some (.sh,dctP m),none]) rfl (bW (w:=false) (x:=.lst (ss.map aC)) (eO (aj rfl) (hi 6 (by decide)) rfl) rfl) hfo;refine au rfl rfl ?_
     cases ht:tva m ss with
     | true=>rw[ht,if_pos rfl]at hfor;exact stp _ hfor (stpR (retR ak rfl))
     | false=>rw[ht,if_neg Bool.false_ne_true]at hfor;exact stpR hfor
   | true=>
     obtain⟨δ,hfo⟩:=DG (orc prg w (k+1)) (mth w (k+1)) m (some (.sh,aC (.grp true ss))) ss none hc;rw[tv,hl,if_pos rfl,if_pos rfl,aN (d:=f34) rfl];rw[aC,cQ]at *;have hfor:=zL (it:=Yc (Ym (XC 0) [112,97,114,116,115])) (δ:=[some (.sh,.obj 7 [kS,kW,kPs] [toD (.grp true ss),.str (gw true),.lst (ss.map aC)]),some (.sh,dctP m),none]) rfl (bW (w:=false) (x:=.lst (ss.map aC)) (eO (aj rfl) (hi 7 (by decide)) rfl) rfl) hfo;refine au rfl rfl ?_
     cases ht:tvo m ss with
     | false=>rw[ht,if_neg Bool.false_ne_true]at hfor;exact stp _ hfor (stpR (retR ak rfl))
     | true=>rw[ht,if_pos rfl]at hfor;exact stpR hfor
noncomputable def ckB:SL:=(XJ (Y7 (XM .notin (XC 2) (XC 1)) (XJ (YF 10 (YC (XF (XC 2) (XF (XD (Y0 [32,104,97,115,32,110,111,32,118,97,108,117,101])) XQ)))) XN) XN) XN)
theorem NZ(o:Orc)(A:Option Slot)(m:List Pair):∀(N:List (List Nat)) (p:Option Slot),(∀n∈N,(aK m n).isSome=true)->∃δ,bG (evSs o ckB) [2] false (N.map .str) [A,some (.sh,dctP m),p]=.nx δ
 | [],p,_=>⟨_,rfl⟩
 | n::N,p,h=>by
   obtain⟨δ,ih⟩:=NZ o A m N (some (.sh,.str n)) fun x hx=>h x (Rb _ hx)
   have e:=pX m n;rw[h n Rg]at e;exact⟨δ,bT (ds:=[.str n]) rfl rfl (one (ifN ((aB (aj rfl) (aj rfl)).trans e))) ih⟩
theorem KR(o:Orc)(A:Option Slot)(m:List Pair):∀(N:List (List Nat)) (p:Option Slot),(∀n∈N,n.length<=100)->(∃n∈N,aK m n=none)->∃δ,bG (evSs o ckB) [2] false (N.map .str) [A,some (.sh,dctP m),p]=.ex 10 δ
 | [],p,_,h=>by obtain⟨n,hn,_⟩:=h;cases hn
 | n::N,p,hb,h=>by
   have e:=pX m n
   cases hl:aK m n with
   | some v=>
     rw[hl]at e
     obtain⟨δ,ih⟩:=KR o A m N (some (.sh,.str n)) (fun x hx=>hb x (Rb _ hx)) (by
      obtain⟨q,hq,hn⟩:=h;rcases Rh.mp hq with rfl | hq
      ·rw[hl]at hn;cases hn
      ·exact⟨q,hq,hn⟩)
     exact⟨δ,bT (ds:=[.str n]) rfl rfl (one (ifN ((aB (aj rfl) (aj rfl)).trans e))) ih⟩
   | none=>
     rw[hl]at e;have hl':=hb n Rg
     have hz:size (n++[32,104,97,115,32,110,111,32,118,97,108,117,101]).length=true:=by simp[size];omega
     have ef:ev o [A,some (.sh,dctP m),some (.sh,.str n)] true (YC (XF (XC 2) (XF (XD (Y0 [32,104,97,115,32,110,111,32,118,97,108,117,101])) XQ)))=.ok (false,.str (n++[32,104,97,115,32,110,111,32,118,97,108,117,101])):=by
      rw[ev,aa rfl (aj rfl) (aa rfl ak rfl)];simp only[XS,pR,Option.map,Option.bind,Sg,hz,if_true,XR]
     have ei:ev o [A,some (.sh,dctP m),some (.sh,.str n)] true (XM .notin (XC 2) (XC 1))=.ok (false,.bl true):=(aB (aj rfl) (aj rfl)).trans e;refine⟨[A,some (.sh,dctP m),some (.sh,.str n)],Mg (ds:=[.str n]) rfl rfl ?_⟩;show evSs o ckB [A,some (.sh,dctP m),some (.sh,.str n)]=_;rw[ckB,evSs,cD ei,if_pos rfl,evSs,BL ef]
theorem G3(hl:evL o δ l=.ok (false,xs))(h:o.fn f xs=.ok r):evS o (.expr (.call f l)) δ=.nx δ:=by
 simp only[evS,hl,SO.of,h,XS,lent,Bool.false_eq_true,if_false,SO.ofX]
theorem Hz(hl:evL o δ l=.ok (false,xs))(h:o.fn f xs=.exc c):evS o (.expr (.call f l)) δ=.ex c δ:=by
 simp only[evS,hl,SO.of,h,XS,SO.ofX]
theorem zR(ha:args.length=f.np)(h0:args.map (fun d=>some (Own.sh,d))++RW (f.ns-f.np) none=δ0)(h:∃δ,evSs o f.body δ0=.nx δ):bf o f args=.ok (false,.non):=by
 obtain⟨δ,h⟩:=h;simp only[bf,ha,if_true,h0,h]
theorem Aa(w k:Nat)(m:List Pair)(N:List (List Nat))(h:∀n∈N,(aK m n).isSome=true):(orc prg w (k+1)).fn 2 [txs N,dctP m]=.ok (false,.non):=by
 rw[aN (d:=f2) rfl];obtain⟨δ,hf⟩:=NZ (orc prg w k) (some (.sh,txs N)) m N none h;exact zR rfl rfl ⟨δ,one (zL rfl (bW (w:=false) (x:=txs N) (aj rfl) rfl) hf)⟩
theorem Aw(w k:Nat)(m:List Pair)(N:List (List Nat))(hb:∀n∈N,n.length<=100)(h:∃n∈N,aK m n=none):(orc prg w (k+1)).fn 2 [txs N,dctP m]=.exc 10:=by
 rw[aN (d:=f2) rfl];obtain⟨δ,hf⟩:=KR (orc prg w k) (some (.sh,txs N)) m N none hb h;exact tR rfl rfl (stpE (zL rfl (bW (w:=false) (x:=txs N) (aj rfl) rfl) hf))
section
variable(w:Nat)(base:Int)(m:List Pair)(n:Nat)(s:Stt)(hs:wf n s)(hf:Pl base s)(hz:sz s<=300)(j:Nat)(hj:n+4<=j)
include hs hf hz hj
theorem rD(k:Nat)(e:j=k+1)(δ:Dst)(h0:δ[0]?=some (some (.sh,aC s)))(h1:δ[1]?=some (some (.sh,dctP m))):evL (orc prg w k) δ (XF (Yg [108,111,111,115,101] (XC 0) XQ) (XF (XC 1) XQ))=.ok (false,[txs (nms (fr s)),dctP m]):=by
 obtain⟨c,ns,vs,z⟩:=at_of s;have hlo:=vq w base n s hs hf hz k (by omega)
 have k0:aM δ (XC 0)=false:=by simp only[aM,isOwn,h0]
 have k1:aM δ (XC 1)=false:=by simp only[aM,isOwn,h1]
 exact aa rfl (dM k0 (aj h0) z.e pP z.cl (by rw[mth];exact z.ml) hlo) (aa k1 (aj h1) rfl)
theorem xR(hn:HasN m (fr s)):(orc prg w j).fn 22 [aC s,dctP m]=.ok (false,.bl (tv m s)):=by
 obtain⟨k,rfl⟩:∃k,j=k+2:=⟨j-2,by omega⟩
 have hck:=Aa w k m (nms (fr s)) fun x hx=>by
  obtain⟨v,h1,_⟩:=hn x ((qd _ x).mp hx);rw[h1];rfl
 have hh:=wC w base m n s hs hf hn (k+1) (by omega);have hl:=rD w base m n s hs hf hz (k+2) hj (k+1) rfl [some (.sh,aC s),some (.sh,dctP m)] rfl rfl;obtain⟨c,ns,vs,z⟩:=at_of s;rw[aN (d:=f22) rfl];exact au rfl rfl (stp _ (G3 hl hck) (stpR (retR (dM rfl (aj rfl) z.e (aa rfl (aj rfl) rfl) z.ch (by rw[mth];exact z.mh) hh) rfl)))
theorem BP(hn:∃x∈fr s,aK m x=none):(orc prg w j).fn 22 [aC s,dctP m]=.exc 10:=by
 obtain⟨k,rfl⟩:∃k,j=k+2:=⟨j-2,by omega⟩
 have hb:∀x∈nms (fr s),x.length<=100:=fun x hx=>by
  have:=(Ph ((mH s hf).1 x ((qd _ x).mp hx))).2.2;omega
 obtain⟨x,hx,hx'⟩:=hn;have hck:=Aw w k m (nms (fr s)) hb ⟨x,(qd _ x).mpr hx,hx'⟩;have hl:=rD w base m n s hs hf hz (k+2) hj (k+1) rfl [some (.sh,aC s),some (.sh,dctP m)] rfl rfl;rw[aN (d:=f22) rfl];exact tR rfl rfl (stpE (Hz hl hck))
end
theorem zq(w k:Nat)(s:Stt):(orc prg w (k+1)).fn 20 [aC s]=.ok (false,toD s):=by
 obtain⟨c,ns,vs,z⟩:=at_of s;rw[aN (d:=f20) rfl];have hi:((orc prg w k).init c).isSome=true:=has (w:=w) trees k c z.c8;exact au rfl rfl (stpR (retR (eO ((aj rfl).trans (by rw[z.e])) hi z.st) rfl))
end K5
namespace K5
open Z KG P05
local macro_rules | `(tactic| array_get_dec)=>`(tactic| first | assumption | exact aj rfl | exact bz rfl | exact ak | exact neg1 | (refine' Qh ?a ?b ?c;(case a=>array_get_dec);(case b=>array_get_dec);(case c=>sizeOf_list_dec)) | (refine' e_b1 ?a ?c;(case a=>array_get_dec);(case c=>sizeOf_list_dec)) | (refine' QK ?a ?b ?c;(case a=>array_get_dec);(case b=>array_get_dec);(case c=>sizeOf_list_dec)) | (refine' PL ?a;(case a=>array_get_dec)) | (refine' cI ?a;(case a=>array_get_dec)) | (refine' bY ?a ?b;(case a=>array_mem_dec);(case b=>exact rfl)) | (refine' dU ?a ?b;(case a=>array_mem_dec);(case b=>exact rfl)) | (refine' aL ?a ?b;(case a=>array_mem_dec);(case b=>assumption)) | (refine' e_m1 ?a ?b ?c;(case a=>array_get_dec);(case b=>array_get_dec);(case c=>sizeOf_list_dec)) | (refine' e_b2 ?a ?b ?c;(case a=>array_get_dec);(case b=>array_get_dec);(case c=>sizeOf_list_dec)) | (refine' oH ?a ?b ?c ?d ?e ?f;(case a=>array_get_dec);(case b=>array_get_dec);(case c=>array_get_dec);(case d=>exact rfl);(case e=>exact rfl);(case f=>sizeOf_list_dec)) | (refine' yQ ?a ?b;(case a=>array_get_dec);(case b=>exact rfl)))
local macro_rules | `(tactic| array_mem_dec)=>`(tactic| first | exact pP | (refine' aa rfl ?a ?b;(case a=>array_get_dec);(case b=>array_mem_dec)))
local macro_rules | `(tactic| sizeOf_list_dec)=>`(tactic| first | assumption | exact j6 _ _ | exact NT _ _ | exact o_lt _ _ | exact o_gt _ _ | exact o_le _ _ | exact o_ge _ _ | exact pK _ _ | exact Le _ _ | exact QQ _ _ | exact Qs _ _ | exact iw _ _ (by decide) | exact gZ _ _ (by decide) | exact dh rfl rfl | exact zz rfl rfl | exact Nj _ | exact KC _ | exact Ob _ | exact Lb _ | (refine' HN ?_;(try simp only[Rx,Rv,Sy]);omega))
mutual
theorem kO:∀s:Stt,(toD s).imm=true
 | .least c l=>by rw[toD];simp[D.imm,immL,rQ]
 | .rest m c l=>by rw[toD];simp[D.imm,immL,rQ]
 | .nt s=>by rw[toD];simp[D.imm,immL,kO s]
 | .grp w ss=>by rw[toD];simp[D.imm,immL,qK ss]
 | .trn w x s=>by rw[toD];simp[D.imm,immL,kO s]
theorem qK:∀ss:List Stt,immL (toDs ss)=true
 | []=>by rw[toDs];rfl
 | s::ss=>by rw[toDs];simp[immL,kO s,qK ss]
end
theorem fU:∀{n m:Nat} {d:D},okT n d->n<=m->okT m d:=by
 intro n
 induction n with
 | zero=>
   intro m d h _;cases d<;>simp only[okT]at h<;>(cases m<;>trivial)
 | succ n ih=>
   intro m d h hm
   obtain⟨m,rfl⟩:∃k,m=k+1:=⟨m-1,by omega⟩
   cases d<;>simp only[okT]at h ⊢;exact⟨h.1,fun d hd=>ih (h.2 d hd) (by omega)⟩
theorem pH(c:Int)(l:List Pair)(hl:Lw l):okT 3 (smT c l):=by
 refine⟨by simp,?_⟩;intro d hd;simp only[Rh,RZ,or_false]at hd;rcases hd with rfl | rfl
 ·trivial
 ·refine⟨by have:=hl.1;simp;omega,?_⟩
  intro d hd;obtain⟨p,_,rfl⟩:=RB.mp hd;refine⟨by simp,?_⟩;intro d hd;simp only[Rh,RZ,or_false]at hd;rcases hd with rfl | rfl<;>trivial
theorem Hr:∀(n:Nat) (s:Stt),wf n s->okT (2*n+4) (toD s):=by
 intro n
 induction n using Nat.strongRecOn with
 | ind n ih=>
 intro s hs
 have at0:∀(l:List D),(∀d∈l,okT (2*n+3) d)->l.length<=1000->okT (2*n+4) (.tup l):=fun l h hl=>⟨by omega,h⟩
 cases s with
 | least c l=>
   have hs:Lw l:=by cases n<;>exact hs
   rw[toD];refine at0 _ (fun d hd=>?_) (by simp);simp only[Rh,RZ,or_false]at hd;rcases hd with rfl | rfl
   ·trivial
   ·exact fU (pH c l hs) (by omega)
 | rest q c l=>
   have hs:Lw l:=by cases n<;>exact hs
   rw[toD];refine at0 _ (fun d hd=>?_) (by simp);simp only[Rh,RZ,or_false]at hd;rcases hd with rfl | rfl | rfl
   ·trivial
   ·trivial
   ·exact fU (pH c l hs) (by omega)
 | nt s=>
   obtain⟨n,rfl⟩:∃j,n=j+1:=by
    cases n with
    | zero=>simp only[wf]at hs
    | succ j=>exact⟨j,rfl⟩
   simp only[wf]at hs;rw[toD];refine at0 _ (fun d hd=>?_) (by simp);simp only[Rh,RZ,or_false]at hd;rcases hd with rfl | rfl
   ·trivial
   ·exact fU (ih n (by omega) s hs) (by omega)
 | trn b x s=>
   obtain⟨n,rfl⟩:∃j,n=j+1:=by
    cases n with
    | zero=>simp only[wf]at hs
    | succ j=>exact⟨j,rfl⟩
   simp only[wf]at hs;rw[toD];refine at0 _ (fun d hd=>?_) (by simp);simp only[Rh,RZ,or_false]at hd;rcases hd with rfl | rfl | rfl
   ·trivial
   ·trivial
   ·exact fU (ih n (by omega) s hs) (by omega)
 | grp b ss=>
   obtain⟨n,rfl⟩:∃j,n=j+1:=by
    cases n with
    | zero=>simp only[wf]at hs
    | succ j=>exact⟨j,rfl⟩
   simp only[wf]at hs;rw[toD];refine at0 _ (fun d hd=>?_) (by simp);simp only[Rh,RZ,or_false]at hd;rcases hd with rfl | rfl
   ·trivial
   ·rw[dq]
    refine fU (n:=2*n+5) ⟨by have:=hs.1;simp;omega,fun d hd=>?_⟩ (by omega);obtain⟨s,h,rfl⟩:=RB.mp hd;exact ih n (by omega) s (hs.2 s h)
theorem pC{α:Type}{f c:List D->R (Bool×D)}{m:Nat}{tg:Bool}{a g:α->D}{ts:α->List D}:∀{l:List α},(∀d∈l,takes m tg (a d)=some (ts d))->(∀d∈l,c (ts d)=.ok (false,.bl true))->(∀d∈l,∃w,f (ts d)=.ok (w,g d))->bA f c m tg (l.map a)=.ok (l.map g)
 | [],_,_,_=>rfl
 | d::l,ht,hc,hf=>by
   obtain⟨w,h⟩:=hf d Rg;have ih:=pC (l:=l) (fun x hx=>ht x (Rb _ hx)) (fun x hx=>hc x (Rb _ hx)) (fun x hx=>hf x (Rb _ hx));rw[R8,bA,ht d Rg];simp only[XR,XS,hc d Rg,truth,h,ih,if_true,R8]
theorem Du(n:List Nat):o2 .notin (.str n) (txs [])=.ok (false,.bl true):=by simp[o2,isIn,txs,fu,inS,XR]
theorem Ox(h:a.length+b.length<=100000):o2 .add (txs a) (txs b)=.ok (true,txs (a++b)):=by
 have:size ((a.map Y0).length+(b.map Y0).length)=true:=by simp[size];omega
 simp only[o2,txs,this,Y5,if_true,Up]
noncomputable def frB:SL:=(XJ (Y8 2 (XM .add (XC 2) (Y4 14 (XF (XC 3) (XF (XC 1) XQ))))) XN)
theorem rm(o:Orc)(A:Option Slot):∀(ss:List Stt) (row:List (List Nat)) (p:Option Slot),(∀s∈ss,o.fn 14 [toD s,txs []]=.ok (true,txs (fr s)))->row.length+(frs ss).length<=100000 ->
 ∃p',bG (evSs o frB) [3] false (ss.map toD) [A,some (.sh,txs []),some (.ow,txs row),p]=.nx [A,some (.sh,txs []),some (.ow,txs (row++frs ss)),p']
 | [],row,p,_,_=>⟨p,by rw[frs,Sg];rfl⟩
 | s::ss,row,p,h,hl=>by
   rw[frs,Rx]at hl;obtain⟨p',ih⟩:=rm o A ss (row++fr s) (some (.sh,toD s)) (fun x hx=>h x (Rb _ hx)) (by rw[Rx];omega);have hc:=h s Rg;have ho:=Ox (a:=row) (b:=fr s) (by omega);refine⟨p',bT (ds:=[toD s]) rfl rfl (one (aX (w:=true) (d:=txs (row++fr s)) (by array_get_dec) rfl)) (ih.trans ?_)⟩;rw[frs,W5]
theorem Am(w:Nat)(base:Int):∀(n:Nat) (s:Stt),wf n s->Pl base s->sz s<=300->∀(m:Nat),n+1<=m->(orc prg w m).fn 14 [toD s,txs []]=.ok (true,txs (fr s)):=by
 intro n
 induction n using Nat.strongRecOn with
 | ind n ih=>
 intro s hs hf hz m hm
 obtain⟨k,rfl⟩:∃k,m=k+1:=⟨m-1,by omega⟩
 rw[aN (d:=f14) rfl]
 have e0:∀(x y:List Nat) (r:List D) (b:Option Slot) (q:List (Option Slot)),ev (orc prg w k) (some (.sh,.tup (.str x::r))::b::q) true (XM .eq (XX (XC 0) (XD (XH 0))) (XD (Y0 y)))=.ok (false,.bl (decide (x=y))):=fun x y r b q=>by array_get_dec
 have hin:=(mH s hf).2
 have el:∀l:List Pair,txs (l.map (·.1))=.lst (l.map fun p=>Y0 p.1):=fun l=>by rw[txs,SM];rfl
 cases s with
 | least c l=>
   rw[fr,sz,Rw]at hin;rw[toD,fr,el];refine au rfl rfl (stpR (ifT (e0 _ _ _ _ _) (by decide) (retR (w:=true) ?_ rfl)));refine jd _ _ _ _ [1] [txs []] (l.map prD) _ 2 true _ _ (bW (w:=false) (x:=.tup (l.map prD)) ?_ rfl) rfl rfl ?_ (pC (ts:=fun p:Pair=>[.str p.1,.int p.2]) (fun p _=>rfl) (fun p _=>(aB (aj rfl) (aj rfl)).trans (Du p.1)) fun p _=>⟨false,aj rfl⟩)
   ·array_get_dec
   ·rw[Rw];omega
 | rest q c l=>
   rw[fr,sz,Rw]at hin;rw[toD,fr,el];refine au rfl rfl (stp _ (ifF (e0 _ _ _ _ _) (by decide)) (stpR (ifT (e0 _ _ _ _ _) (by decide) (retR (w:=true) ?_ rfl))));refine jd _ _ _ _ [1] [txs []] (l.map prD) _ 2 true _ _ (bW (w:=false) (x:=.tup (l.map prD)) ?_ rfl) rfl rfl ?_ (pC (ts:=fun p:Pair=>[.str p.1,.int p.2]) (fun p _=>rfl) (fun p _=>(aB (aj rfl) (aj rfl)).trans (Du p.1)) fun p _=>⟨false,aj rfl⟩)
   ·array_get_dec
   ·rw[Rw];omega
 | nt s=>
   obtain⟨n,rfl⟩:∃j,n=j+1:=by
    cases n with
    | zero=>simp only[wf]at hs
    | succ j=>exact⟨j,rfl⟩
   simp only[wf]at hs;rw[Pl]at hf;rw[sz]at hz;have hc:=ih n (by omega) s hs hf (by omega) k (by omega);rw[toD,fr];refine au rfl rfl (stp _ (ifF (e0 _ _ _ _ _) (by decide)) (stp _ (ifF (e0 _ _ _ _ _) (by decide)) (stpR (ifT (e0 _ _ _ _ _) (by decide) (retR (w:=true) ?_ rfl)))))
   array_get_dec
 | trn b x s=>rw[Pl]at hf;exact hf.elim
 | grp b ss=>
   obtain⟨n,rfl⟩:∃j,n=j+1:=by
    cases n with
    | zero=>simp only[wf]at hs
    | succ j=>exact⟨j,rfl⟩
   simp only[wf]at hs;rw[Pl]at hf;rw[fr]at hin;rw[sz]at hz hin
   have hc:∀s∈ss,(orc prg w k).fn 14 [toD s,txs []]=.ok (true,txs (fr s)):=fun s h=>ih n (by omega) s (hs.2 s h) (jr hf s h) (by have:=yh h;omega) k (by omega)
   have hw:gw b≠dO/\gw b≠oM/\gw b≠sNot/\(decide (gw b=Og)||decide (gw b=sAll))=false:=by cases b<;>decide
   obtain⟨p',hl⟩:=rm (orc prg w k) (some (.sh,toD (.grp b ss))) ss [] none hc (by simp only[Sy];omega);rw[toD,dq]at *;rw[fr];generalize gw b=W at *;refine au rfl rfl (stp _ (ifF (e0 _ _ _ _ _) (decide_eq_false hw.1)) (stp _ (ifF (e0 _ _ _ _ _) (decide_eq_false hw.2.1)) (stp _ (ifF (e0 _ _ _ _ _) (decide_eq_false hw.2.2.1)) (stp _ (ifF (jz (e0 _ _ _ _ _) (e0 _ _ _ _ _)) hw.2.2.2) (stp _ (aX (w:=true) (d:=txs []) (dU (xs:=[]) rfl rfl) rfl) (stp _ (fors rfl (bW (w:=false) (x:=.tup (ss.map toD)) ?_ rfl) hl) (stpR (DP rfl))))))))
   array_get_dec
theorem qt(f:α->Bool):∀l:List α,boolsOf (l.map fun s=>Yb (f s))=some (l.map f)
 | []=>rfl
 | x::l=>by simp[boolsOf,qt f l]
theorem qp(w k:Nat)(base:Int)(m:List Pair)(c:Int)(l:List Pair)(h:Sl base l)(hn:HasN m (l.map (·.1))):(orc prg w (k+1)).fn 12 [smT c l,dctP m]=.ok (false,.int (valP m c l)):=by
 rw[aN (d:=f12) rfl];exact Mu _ c m l (DX h hn)
theorem tZ(w:Nat)(base:Int)(m:List Pair):∀(n:Nat) (s:Stt),wf n s->Pl base s->HasN m (fr s)->∀(j:Nat),n+2<=j->(orc prg w j).fn 13 [toD s,dctP m]=.ok (false,.bl (tv m s)):=by
 intro n
 induction n using Nat.strongRecOn with
 | ind n ih=>
 intro s hs hf hn j hj
 obtain⟨k,rfl⟩:∃k,j=k+2:=⟨j-2,by omega⟩
 rw[aN (d:=f13) rfl]
 have e0:∀(x y:List Nat) (r:List D) (b:Option Slot) (q:List (Option Slot)),ev (orc prg w (k+1)) (some (.sh,.tup (.str x::r))::b::q) true (XM .eq (XX (XC 0) (XD (XH 0))) (XD (Y0 y)))=.ok (false,.bl (decide (x=y))):=fun x y r b q=>by array_get_dec
 cases s with
 | least c l=>
   rw[Pl]at hf;rw[fr]at hn;have hv:=qp w k base m c l hf hn;rw[tv,toD];refine au rfl rfl (stpR (ifT (e0 _ _ _ _ _) (by decide) (retR (w:=false) ?_ rfl)));generalize smT c l=q at *
   array_get_dec
 | rest q c l=>
   rw[Pl]at hf;rw[fr]at hn;have hv:=qp w k base m c l hf.2 hn
   have hq:q≠0:=by have:=hf.1;omega
   have hm:=iw (valP m c l) q hq;rw[tv,toD];refine au rfl rfl (stp _ (ifF (e0 _ _ _ _ _) (by decide)) (stpR (ifT (e0 _ _ _ _ _) (by decide) (retR (w:=false) ?_ rfl))));generalize smT c l=q at *
   array_get_dec
 | nt s=>
   obtain⟨n,rfl⟩:∃j,n=j+1:=by
    cases n with
    | zero=>simp only[wf]at hs
    | succ j=>exact⟨j,rfl⟩
   simp only[wf]at hs;rw[Pl]at hf;rw[fr]at hn;have hc:=ih n (by omega) s hs hf hn (k+1) (by omega);rw[tv,toD];refine au rfl rfl (stp _ (ifF (e0 _ _ _ _ _) (by decide)) (stp _ (ifF (e0 _ _ _ _ _) (by decide)) (stpR (ifT (e0 _ _ _ _ _) (by decide) (retR (w:=false) ?_ rfl)))))
   array_get_dec
 | trn b x s=>rw[Pl]at hf;exact hf.elim
 | grp b ss=>
   obtain⟨n,rfl⟩:∃j,n=j+1:=by
    cases n with
    | zero=>simp only[wf]at hs
    | succ j=>exact⟨j,rfl⟩
   simp only[wf]at hs;rw[Pl]at hf;rw[fr]at hn
   have hc:∀s∈ss,(orc prg w (k+1)).fn 13 [toD s,dctP m]=.ok (false,.bl (tv m s)):=fun s h=>ih n (by omega) s (hs.2 s h) (jr hf s h) (hn.mem s h) (k+1) (by omega)
   have hw:gw b≠dO/\gw b≠oM/\gw b≠sNot/\decide (gw b=sAnd)=!b:=by cases b<;>decide
   have hcomp:ev (orc prg w (k+1)) [some (.sh,.tup [.str (gw b),.tup (ss.map toD)]),some (.sh,dctP m),none] false (Yj [1] 1 false (Yc (XX (XC 0) (XD (XH 1)))) (XD (Yb true)) (Y4 13 (XF (XC 0) (XF (XC 1) XQ))))=.ok (true,.lst (ss.map fun s=>Yb (tv m s))):=by
    refine jd _ _ _ _ [1] [dctP m] (ss.map toD) _ 1 false _ _ (bW (w:=false) (x:=.tup (ss.map toD)) ((bj (aj rfl) ak).trans (dh rfl rfl)) rfl) rfl rfl (by have:=hs.1;rw[Rw];omega) (fY (fun d _=>ak) fun d hd=>⟨false,aL (aa rfl (aj rfl) (aa rfl (aj rfl) rfl)) (hc d hd)⟩)
   have hall:b1D .all (.lst (ss.map fun s=>Yb (tv m s)))=.ok (false,.bl (tva m ss)):=by simp only[b1D,qt (tv m),RJ,XR,xZ]
   have hany:b1D .any (.lst (ss.map fun s=>Yb (tv m s)))=.ok (false,.bl (tvo m ss)):=by simp only[b1D,qt (tv m),RJ,XR,uV]
   rw[toD,dq,tv];generalize gw b=W at *;generalize (ss.map fun s=>Yb (tv m s))=X at *;refine au rfl rfl (stp _ (ifF (e0 _ _ _ _ _) (decide_eq_false hw.1)) (stp _ (ifF (e0 _ _ _ _ _) (decide_eq_false hw.2.1)) (stp _ (ifF (e0 _ _ _ _ _) (decide_eq_false hw.2.2.1)) (stp _ (aX hcomp rfl) ?_))))
   cases b with
   | false=>exact stpR (ifT (e0 _ _ _ _ _) hw.2.2.2 (retR ((gj (bz rfl)).trans hall) rfl))
   | true=>exact stp _ (ifF (e0 _ _ _ _ _) hw.2.2.2) (stpR (retR ((gj (bz rfl)).trans hany) rfl))
theorem QH(a:Bool):o2 .eq (.bl a) (.bl a)=.ok (false,.bl true):=by cases a<;>rfl
theorem exM(hk:aM δ a=false)(ha:ev o δ false a=.ok (w,x))(hx:x=.obj c ns vs)(hl:evL o δ l=.ok (false,xs))(hn:ns.contains m=false)(hm:o.meth c m=some f)(h:o.fn f (x::xs)=.exc q):evS o (.expr (.meth m a l)) δ=.ex q δ:=by
 subst hx;simp only[evS,hk,ha,hl,hn,hm,h,XR,SO.of,SO.ofX,XS,Bool.false_eq_true,if_false]
section
variable(w:Nat)(base:Int)(m:List Pair)(n:Nat)(s:Stt)(hs:wf n s)(hf:Pl base s)(hz:sz s<=300)(j:Nat)(hj:n+5<=j)
include hs hf hz hj
theorem nY(hn:HasN m (fr s)):(orc prg w j).fn 16 [aC s,toD s,dctP m]=.ok (false,.bl true):=by
 obtain⟨k,rfl⟩:∃k,j=k+1:=⟨j-1,by omega⟩
 have hw:=xR w base m n s hs hf hz k (by omega) hn;have hl:=tZ w base m n s hs hf hn k (by omega);obtain⟨c,ns,vs,z⟩:=at_of s;rw[aN (d:=f16) rfl];refine au rfl rfl (stp [some (.sh,aC s),some (.sh,toD s),some (.sh,dctP m),some (.sh,.bl (tv m s))] (aX (w:=false) (dM rfl (aj rfl) z.e (aa rfl ((gj (aj rfl)).trans (show b1D .dict (dctP m)=.ok (true,dctP m)from rfl)) rfl) z.cw (by rw[mth];exact z.mw) hw) rfl) (stpR (retR (ww (yQ (aj rfl) rfl) ((aB (aj rfl) (aL (aa rfl (aj rfl) (aa rfl (aj rfl) rfl)) hl)).trans (QH _))) rfl)))
theorem pL(hn:∃x∈fr s,aK m x=none):(orc prg w j).fn 15 [aC s,dctP m]=.ok (false,.bl true):=by
 obtain⟨k,rfl⟩:∃k,j=k+1:=⟨j-1,by omega⟩
 have hw:=BP w base m n s hs hf hz k (by omega) hn;obtain⟨c,ns,vs,z⟩:=at_of s;have hx:evS (orc prg w k) (YD (Yg [119,111,114,116,104] (XC 0) (XF (XC 1) XQ))) [some (.sh,aC s),some (.sh,dctP m)]=.ex 10 [some (.sh,aC s),some (.sh,dctP m)]:=exM rfl (aj rfl) z.e (aa rfl (aj rfl) rfl) z.cw (by rw[mth];exact z.mw) hw
 have hs10:(orc prg w k).sub 10 10=true:=by rw[subs];rfl
 rw[aN (d:=f15) rfl];refine au rfl rfl (stpR (δ':=[some (.sh,aC s),some (.sh,dctP m)]) ?_);have h1:evSs (orc prg w k) (XJ (YD (Yg [119,111,114,116,104] (XC 0) (XF (XC 1) XQ))) XN) [some (.sh,aC s),some (.sh,dctP m)]=.ex 10 [some (.sh,aC s),some (.sh,dctP m)]:=HR hx;show evS _ (S.try_ _ 10 none _) [some (Own.sh,aC s),some (Own.sh,dctP m)]=_;rw[evS,h1];simp only[hs10,if_true];exact oneR (retR ak rfl)
end
noncomputable def edB:SL:=(XJ (Y7 (Yi (Y4 16 (XF (Y4 3 (XF (XC 6) XQ)) (XF (XC 6) (XF (XC 2) XQ))))) (XJ (Y6 (XD (Yb false))) XN) XN) XN)
theorem CQ(w:Nat)(base:Int)(m:List Pair)(hm:HasN m (N5 base))(a b c d e:Option Slot):∀(ss:List Stt) (p:Option Slot),(∀s∈ss,wf 2 s/\Pl base s/\sz s<=300) ->
 ∃p',bG (evSs (orc prg w 40) edB) [6] false (ss.map toD) [a,b,some (.sh,dctP m),c,d,e,p]=.nx [a,b,some (.sh,dctP m),c,d,e,p']
 | [],p,_=>⟨p,rfl⟩
 | s::ss,p,h=>by
   obtain⟨h1,h2,h3⟩:=h s Rg
   obtain⟨p',ih⟩:=CQ w base m hm a b c d e ss (some (.sh,toD s)) fun x hx=>h x (Rb _ hx)
   have ht:=t7 (w:=w) trees (itree:=3) rfl 2 s h1 40 (by omega)
   have hr:=nY w base m 2 s h1 h2 h3 40 (by omega) fun x hx=>hm x ((mH s h2).1 x hx)
   refine⟨p',bT (ds:=[toD s]) rfl rfl (one (ifF (cI (w:=false) (b:=true) ?_) rfl)) ih⟩;exact aL (aa rfl (aL (aa rfl (aj rfl) rfl) ht) (aa rfl (aj rfl) (aa rfl (aj rfl) rfl))) hr
noncomputable def ed2:SL:=(XJ (Y8 5 (Yd (XF (XM .sub (XM .add (XX (XC 3) (XD (XH 0))) (XC 4)) (Y4 12 (XF (XC 3) (XF (XC 2) XQ)))) (XF (XX (XC 3) (XD (XH 1))) XQ)))) (XJ (Yk [6] false (Yc (Ye (XF (Yd (XF (XD (Y0 [108,101,97,115,116])) (XF (XC 5) XQ))) (XF (Yd (XF (XD (Y0 [110,111,116])) (XF (Yd (XF (XD (Y0 [108,101,97,115,116])) (XF (XC 5) XQ))) XQ))) (XF (Yd (XF (XD (Y0 [97,110,100])) (XF (Yd (XF (Yd (XF (XD (Y0 [108,101,97,115,116])) (XF (XC 5) XQ))) XQ)) XQ))) XQ))))) edB) XN))
theorem vo(w:Nat)(base:Int)(m:List Pair)(hm:HasN m (N5 base))(a b:Option Slot)(c:Int)(l:List Pair)(hl:Sl base l):∀(ds:List Int) (d e p:Option Slot),
 ∃d' e' p',bG (evSs (orc prg w 40) ed2) [4] false (ds.map .int) [a,b,some (.sh,dctP m),some (.sh,smT c l),d,e,p]=.nx [a,b,some (.sh,dctP m),some (.sh,smT c l),d',e',p']
 | [],d,e,p=>⟨d,e,p,rfl⟩
 | x::ds,d,e,p=>by
   have hv:=qp w 39 base m c l hl fun n hn=>hm n (by obtain⟨p,hp,rfl⟩:=RB.mp hn;exact(hl.2 p hp).1)
   have hlw:Lw l:=⟨by have:=hl.1;omega,fun p hp=>(hl.2 p hp).2⟩
   let C:=c+x-valP m c l
   have hst:∀s∈[Stt.least C l,.nt (.least C l),.grp false [.least C l]],wf 2 s/\Pl base s/\sz s<=300:=fun s hs=>by
    simp only[Rh,RZ,or_false]at hs;rcases hs with rfl | rfl | rfl
    ·exact⟨hlw,by rw[Pl];exact hl,by rw[sz];omega⟩
    ·exact⟨by simp only[wf];exact hlw,by rw[Pl,Pl];exact hl,by rw[sz,sz];omega⟩
    ·refine⟨?_,by rw[Pl,Pls,Pl,Pls];exact⟨hl,trivial⟩,by rw[sz,szs,sz,szs];omega⟩
     simp only[wf];refine⟨by show 1<=100;decide,fun q hq=>?_⟩;rw[Vh.mp hq];simp only[wf];exact hlw
   obtain⟨p',hf⟩:=CQ w base m hm a b (some (.sh,smT c l)) (some (.sh,.int x)) (some (.sh,smT C l)) _ p hst;obtain⟨d',e',p2,ih⟩:=vo w base m hm a b c l hl ds (some (.sh,.int x)) (some (.sh,smT C l)) p';refine⟨d',e',p2,bT (ds:=[.int x]) rfl rfl ?_ ih⟩
   have s1:evS (orc prg w 40) (Y8 5 (Yd (XF (XM .sub (XM .add (XX (XC 3) (XD (XH 0))) (XC 4)) (Y4 12 (XF (XC 3) (XF (XC 2) XQ)))) (XF (XX (XC 3) (XD (XH 1))) XQ)))) [a,b,some (.sh,dctP m),some (.sh,smT c l),some (.sh,.int x),e,p]=.nx [a,b,some (.sh,dctP m),some (.sh,smT c l),some (.sh,.int x),some (.sh,smT C l),p]:=by
    refine aX (w:=false) (d:=smT C l) (bY (xs:=[.int C,.tup (l.map prD)]) (aa rfl ((aB ((aB ((bj (aj rfl) ak).trans (dh rfl rfl)) (aj rfl)).trans (j6 _ _)) (aL (aa rfl (aj rfl) (aa rfl (aj rfl) rfl)) hv)).trans (NT _ _)) (aa rfl ((bj (aj rfl) ak).trans (dh rfl rfl)) rfl)) rfl) rfl
   refine(aq s1).trans (one (fors rfl (bW (w:=true) (x:=.lst ([Stt.least C l,.nt (.least C l),.grp false [.least C l]].map toD)) ?_ rfl) hf))
   have ed:[Stt.least C l,.nt (.least C l),.grp false [.least C l]].map toD=[.tup [.str dO,smT C l],.tup [.str sNot,.tup [.str dO,smT C l]],.tup [.str sAnd,.tup [.tup [.str dO,smT C l]]]]:=by
    simp only[R8,RQ,toD,toDs];rfl
   rw[ed];generalize smT C l=Q;refine dU (aa rfl (bY (aa rfl ak (aa rfl (aj rfl) rfl)) rfl) (aa rfl (bY (aa rfl ak (aa rfl (bY (aa rfl ak (aa rfl (aj rfl) rfl)) rfl) rfl)) rfl) (aa rfl (bY (aa rfl ak (aa rfl (bY (aa rfl (bY (aa rfl ak (aa rfl (aj rfl) rfl)) rfl) rfl) rfl) rfl)) rfl) rfl))) rfl
theorem Bo(w:Nat)(base:Int)(m:List Pair)(hm:HasN m (N5 base))(cell:Int):(orc prg w 41).fn 17 [.int cell,.int base,dctP m]=.ok (false,.bl true):=by
 obtain⟨c,l,hl,hs⟩:=Np drs w 38 cell base;rw[aN (d:=f17) rfl];obtain⟨d',e',p',hf⟩:=vo w base m hm (some (.sh,.int cell)) (some (.sh,.int base)) c l ⟨hl.len,fun p hp=>⟨hl.nm p hp,hl.bd p hp⟩⟩ [-1,0,1] none none none;refine au rfl rfl (stp _ (aX (w:=false) (d:=smT c l) (aL (aa rfl (aj rfl) (aa rfl (aj rfl) rfl)) hs) rfl) (stp _ (fors rfl (bW (w:=false) (x:=.tup [.int (-1),.int 0,.int 1]) (bY (aa rfl neg1 (aa rfl ak (aa rfl ak rfl))) rfl) rfl) hf) (stpR (retR ak rfl))))
noncomputable def setP(m:List Pair)(n:List Nat)(v:Int):List Pair:=addP m (n,v-(aK m n).getD 0)
theorem sX(m:List Pair)(n x:List Nat)(v:Int):aK (setP m n v) x=if n=x then some v else aK m x:=by
 rw[setP,gG]
 by_cases h:n=x
 ·subst h
  simp only[if_true]
  congr 1;omega
 ·simp only[h,if_false]
structure VD(base:Int)(j:Nat)(m:List Pair):Prop where
 nd:(m.map (·.1)).Nodup
 len:m.length<=j+1
 bd:∀n v,aK m n=some v->Bd v
 has:∀i<j,(aK m (nm (i:Int) base)).isSome=true
theorem VD.put(h:VD base j m)(hv:Bd v):VD base (j+1) (setP m (nm (j:Int) base) v)where
 nd:=gD _ m h.nd
 len:=by have:=sY (nm (j:Int) base,v-(aK m (nm (j:Int) base)).getD 0) m;have:=h.len;unfold setP;omega
 bd:=fun n x e=>by
  rw[sX]at e;split at e
  ·injection e with e;subst e;exact hv
  ·exact h.bd n x e
 has:=fun i hi=>by
  rw[sX];split
  ·rfl
  ·rename_i hne
   have:i≠j:=fun e=>hne (by rw[e])
   exact h.has i (by omega)
theorem VD.hasN(h:VD base 5 m):HasN m (N5 base):=fun n hn=>by
 obtain⟨i,hi,rfl⟩:=RB.mp hn;obtain⟨v,hv⟩:=U4.mp (h.has i (Tw.mp hi));exact⟨v,hv,h.bd _ v hv⟩
theorem CK(n:List Nat)(v:Int)(hm:m.length<=1000):putItem (dctP m) (.str n) (.int v)=some (dctP (setP m n v)):=by
 have h:=KD m (n,v-(aK m n).getD 0) (by omega)
 have e:(aK m n).getD 0+(v-(aK m n).getD 0)=v:=by omega
 simp only[e]at h;exact h
noncomputable abbrev stL(ns:List Int)(base:Int)(s:Stt)(m1 m2:List Pair)(a t g k:Option Slot):Dst:=[some (.sh,.lst (ns.map .int)),some (.sh,.int base),some (.sh,toD s),some (.ow,txs (N5 base)),some (.ow,dctP m1),some (.ow,dctP m2),a,t,g,k]
noncomputable def vB:SL:=(XJ (Yo 4 (XX (XC 3) (XC 6)) (Y4 7 (XF (Y4 4 (XF (XC 0) (XF (XM .add (XD (XH 1)) (XC 6)) XQ))) XQ))) (XJ (Yo 5 (XX (XC 3) (XC 6)) (Y4 7 (XF (Y4 4 (XF (XC 0) (XF (XM .add (XD (XH 6)) (XC 6)) XQ))) XQ))) XN))
theorem Ko(base:Int)(j:Nat)(hj:j<5):idxD (txs (N5 base)) (.int (j:Int))=.ok (false,.str (nm (j:Int) base)):=by
 refine p8 (by omega) ?_
 have:(N5 base)[j]?=some (nm (j:Int) base):=by
  unfold N5;rw[RK,List.getElem?_range hj]
  rfl
 rw[Int.toNat_natCast,RK,this];rfl
theorem v_body(w:Nat)(ns:List Int)(base:Int)(s:Stt)(m1 m2:List Pair)(t g k:Option Slot)(j:Nat)(hj:j<5)(h1:VD base j m1)(h2:VD base j m2) :
 ∃m1' m2',VD base (j+1) m1'/\VD base (j+1) m2'/\evSs (orc prg w 41) vB (stL ns base s m1 m2 (some (.sh,.int (j:Int))) t g k)=.nx (stL ns base s m1' m2' (some (.sh,.int (j:Int))) t g k):=by
 have c1:=qY drs w 40 ns (1+j);have c2:=qY drs w 40 ns (6+j);have u1:=Ju drs w 40 (ns.getD (1+j) 0);have u2:=Ju drs w 40 (ns.getD (6+j) 0);have b1:=lG (ns.getD (1+j) 0);have b2:=lG (ns.getD (6+j) 0)
 have e1:(((1+j:Nat)):Int)=1+(j:Int):=by omega
 have e2:(((6+j:Nat)):Int)=6+(j:Int):=by omega
 rw[e1]at c1;rw[e2]at c2;generalize numV (ns.getD (1+j) 0)=v1 at u1 b1;generalize numV (ns.getD (6+j) 0)=v2 at u2 b2;have hN:=Ko base j hj;have p1:=CK (m:=m1) (nm (j:Int) base) v1 (by have:=h1.len;omega);have p2:=CK (m:=m2) (nm (j:Int) base) v2 (by have:=h2.len;omega);refine⟨_,_,h1.put b1,h2.put b2,?_⟩;refine(aq (jm (aL (aa rfl (aL (aa rfl (aj rfl) (aa rfl ((aB ak (aj rfl)).trans (j6 _ _)) rfl)) c1) rfl) u1) ((bj (bz rfl) (aj rfl)).trans hN) rfl p1)).trans ?_;exact one (jm (aL (aa rfl (aL (aa rfl (aj rfl) (aa rfl ((aB ak (aj rfl)).trans (j6 _ _)) rfl)) c2) rfl) u2) ((bj (bz rfl) (aj rfl)).trans hN) rfl p2)
theorem Od(w:Nat)(ns:List Int)(base:Int)(s:Stt)(t g k:Option Slot):∀(q j:Nat) (m1 m2:List Pair) (a:Option Slot),j+q=5->VD base j m1->VD base j m2 ->
 ∃m1' m2' a',VD base 5 m1'/\VD base 5 m2'/\bG (evSs (orc prg w 41) vB) [6] false ((List.range' j q).map fun(i:Nat)=>XH (i:Int)) (stL ns base s m1 m2 a t g k)=.nx (stL ns base s m1' m2' a' t g k)
 | 0,j,m1,m2,a,e,h1,h2=>by
   have:j=5:=by omega
   subst this;exact⟨m1,m2,a,h1,h2,rfl⟩
 | q+1,j,m1,m2,a,e,h1,h2=>by
   obtain⟨m1',m2',g1,g2,hb⟩:=v_body w ns base s m1 m2 t g k j (by omega) h1 h2;obtain⟨m1'',m2'',a',i1,i2,ih⟩:=Od w ns base s t g k q (j+1) m1' m2' (some (.sh,.int (j:Int))) (by omega) g1 g2;exact⟨m1'',m2'',a',i1,i2,bT (ds:=[.int (j:Int)]) rfl rfl hb ih⟩
noncomputable def cellsV(ns:List Int):List Int:=cut ns (min 11 ns.length) (min 51 ns.length)
theorem vh(ns:List Int)(h:ns.length<=63):(cellsV ns).length<=51:=by
 unfold cellsV cut;simp;omega
theorem yw(ns:List Int):slcD (.lst (ns.map .int)) (some 11) (some 51)=some (true,.lst ((cellsV ns).map .int)):=by
 have h3:clip ns.length 11=min 11 ns.length:=iD ns.length 11;have h5:clip ns.length 51=min 51 ns.length:=iD ns.length 51
 have cm:∀(a b:Nat),cut (ns.map XH) a b=(cut ns a b).map XH:=fun a b=>by simp[cut,List.map_drop,List.map_take]
 simp only[slcD,uC,jT,Rw,h3,h5,cm]
 rfl
noncomputable def edL:SL:=(XJ (Y7 (Yi (Y4 17 (XF (XM .add (Y4 4 (XF (XC 0) (XF (XC 9) XQ))) (XC 9)) (XF (XC 1) (XF (XC 4) XQ))))) (XJ (Y6 (XD (Yb false))) XN) XN) XN)
theorem xU(w:Nat)(ns:List Int)(base:Int)(s:Stt)(m1 m2:List Pair)(hm:HasN m1 (N5 base))(a t g:Option Slot):∀(ks:List Nat) (k:Option Slot),
 ∃k',bG (evSs (orc prg w 41) edL) [9] false (ks.map fun(i:Nat)=>XH (i:Int)) (stL ns base s m1 m2 a t g k)=.nx (stL ns base s m1 m2 a t g k')
 | [],k=>⟨k,rfl⟩
 | j::ks,k=>by
   obtain⟨k',ih⟩:=xU w ns base s m1 m2 hm a t g ks (some (.sh,.int (j:Int)));have c1:=qY drs w 40 ns j;have he:=Bo w base m1 hm (ns.getD j 0+(j:Int));refine⟨k',bT (ds:=[.int (j:Int)]) rfl rfl (one (ifF (cI (w:=false) (b:=true) ?_) rfl)) ih⟩;exact lY (oV rfl ((aB (aL (aa rfl (aj rfl) (aa rfl (aj rfl) rfl)) c1) (aj rfl)).trans (j6 _ _)) (oV rfl (aj rfl) (iR rfl (bz rfl) rfl))) he rfl
theorem Mw(n:List Nat)(l:List (List Nat)):o2 .in (.str n) (txs l)=.ok (false,.bl (decide (n∈l))):=by
 simp only[o2,isIn,txs,fu,if_true,KG.inS_strs,Option.map,XR]
set_option maxHeartbeats 0 in
theorem law_run(w:Nat)(ns:List Int)(h:ns.length<=63):(orc prg w 42).fn 18 [.lst (ns.map .int)]=.ok (false,.bl true):=by
 rw[aN (d:=f18) rfl];have hc0:(orc prg w 41).fn 4 [.lst (ns.map .int),.int 0]=.ok (false,.int (ns.getD 0 0)):=qY drs w 40 ns 0;generalize ns.getD 0 0=base at hc0;have hcl:=vh ns h;have hsl:=yw ns;generalize cellsV ns=cells at hcl hsl;obtain⟨s,hs,hz,hf0,ht⟩:=O1 drs w 37 cells base false (by omega);have hf:=G7 s hf0
 have hz':sz s<=300:=by omega
 have hname:∀c b,(orc prg w 41).fn 6 [.int c,.int b]=.ok (false,.str (nm c b)):=vR drs w 40;have htree:=t7 (w:=w) trees (itree:=3) rfl 14 s hs 41 (by omega);have hfree:=Am w base 14 s hs hf hz' 41 (by omega);have hin:=(mH s hf).1;have hsame:=same_refl prg w 11 rfl 32 (toD s) 41 (Hr 14 s hs) (by omega);have htold:=zq w 40 s;have himm:=kO s;obtain⟨c,fs,vs,z⟩:=at_of s
 have hqb:∀n v,aK [(([113,49,113,50,113,51,113,52]:List Nat),(3:Int))] n=some v->Bd v:=fun n v e=>by
  simp only[aK]at e;split at e
  ·injection e with e;subst e;unfold Bd;decide
  ·exact nomatch e
 have hq:VD base 0 [([113,49,113,50,113,51,113,52],3)]:=⟨by simp,by simp,hqb,fun i hi=>absurd hi (Nat.not_lt_zero i)⟩
 have hq0:VD base 0 []:=⟨by simp,by simp,fun n v e=>by simp[aK]at e,fun i hi=>absurd hi (Nat.not_lt_zero i)⟩
 obtain⟨m1,m2,a6,V1,V2,hfor⟩:=Od w ns base s none none none 5 0 _ _ none rfl hq hq0
 have hr:∀m,HasN m (fr s)->(orc prg w 41).fn 16 [aC s,toD s,dctP m]=.ok (false,.bl true):=fun m hn=>nY w base m 14 s hs hf hz' 41 (by omega) hn
 have hn1:HasN m1 (fr s):=fun n hn=>V1.hasN n (hin n hn)
 have hn2:HasN m2 (fr s):=fun n hn=>V2.hasN n (hin n hn)
 obtain⟨r0,r1⟩:=aD (base.fdiv 7) 5 (by decide)
 obtain⟨j,ej⟩:∃j:Nat,(base.fdiv 7).fmod 5=(j:Int):=⟨((base.fdiv 7).fmod 5).toNat,by omega⟩
 have hj:j<5:=by omega
 have hg:=Ko base j hj;have hgN:nm (j:Int) base∈N5 base:=Iz _ _ ⟨by omega,by omega⟩;generalize nm (j:Int) base=gone at hg hgN;obtain⟨gv,hgv,_⟩:=V2.hasN gone hgN
 have hdrop:=fun x=>jW gone x m2 V2.nd
 have hcg:∀(δ:Dst) (m:List Pair) (i:Nat),δ[7]?=some (some (.ow,aC s))->δ[2]?=some (some (.sh,toD s))->δ[i]?=some (some (.ow,dctP m))->HasN m (fr s)->∀lk,ev (orc prg w 41) δ lk (Y4 16 (XF (XC 7) (XF (XC 2) (XF (XC i) XQ))))=.ok (false,.bl true):=fun δ m i h7 h2 hi hn lk=>by
  have k7:aM δ (XC 7)=true:=by simp only[aM,isOwn,h7]
  have k2:aM δ (XC 2)=false:=by simp only[aM,isOwn,h2]
  have ki:aM δ (XC i)=true:=by simp only[aM,isOwn,hi]
  exact lY (iR k7 (bz h7) (oV k2 (aj h2) (iR ki (bz hi) rfl))) (hr m hn) rfl
 have hcs:∀(δ:Dst),δ[7]?=some (some (.ow,aC s))->δ[2]?=some (some (.sh,toD s))->∀lk,ev (orc prg w 41) δ lk (Y4 11 (XF (Yg [116,111,108,100] (XC 7) XQ) (XF (XC 2) XQ)))=.ok (false,.bl true):=fun δ h7 h2 lk=>by
  have k7:aM δ (XC 7)=true:=by simp only[aM,isOwn,h7]
  have k2:aM δ (XC 2)=false:=by simp only[aM,isOwn,h2]
  exact aL (aa rfl (BV (by rw[k7];exact bz h7) z.e pP z.ct (by rw[mth];exact z.mt) htold himm) (aa k2 (aj h2) rfl)) hsame
 refine au (δ0:=[some (.sh,.lst (ns.map .int)),none,none,none,none,none,none,none,none,none]) rfl rfl ?_;refine stp [some (.sh,.lst (ns.map .int)),some (.sh,.int base),none,none,none,none,none,none,none,none] (aX (w:=false) (d:=.int base) (by array_get_dec) rfl) ?_;refine stp [some (.sh,.lst (ns.map .int)),some (.sh,.int base),some (.sh,toD s),none,none,none,none,none,none,none] (aX (w:=false) (d:=toD s) (by array_get_dec) rfl) ?_;refine stp [some (.sh,.lst (ns.map .int)),some (.sh,.int base),some (.sh,toD s),some (.ow,txs (N5 base)),none,none,none,none,none,none] (aX (w:=true) (d:=txs (N5 base)) ?_ rfl) ?_
 ·have e:txs (N5 base)=.lst ((RG 5).map fun(k:Nat)=>Y0 (nm (k:Int) base)):=by rw[txs,N5,SM];rfl
  rw[e];exact jd _ _ _ _ [1] [.int base] ((RG 5).map fun(k:Nat)=>XH (k:Int)) _ 1 false _ _ (wB (n:=5) ak (by omega)) rfl rfl (by simp) (fY (fun d _=>ak) fun d _=>⟨false,aL (aa rfl (aj rfl) (aa rfl (aj rfl) rfl)) (hname _ _)⟩)
 refine stp [some (.sh,.lst (ns.map .int)),some (.sh,.int base),some (.sh,toD s),some (.ow,txs (N5 base)),some (.ow,dctP [([113,49,113,50,113,51,113,52],3)]),none,none,none,none,none] (aX (w:=true) (d:=dctP [([113,49,113,50,113,51,113,52],3)]) rfl rfl) ?_;refine stp (stL ns base s [([113,49,113,50,113,51,113,52],3)] [] none none none none) (aX (w:=true) (d:=dctP []) rfl rfl) ?_;refine stp (stL ns base s m1 m2 a6 none none none) (fors rfl (wB (n:=5) ak (by omega)) ?_) ?_
 ·rw[List.range_eq_range'];exact hfor
 refine stp (stL ns base s m1 m2 a6 (some (.ow,aC s)) none none) (aX (w:=true) (d:=aC s) (aL (aa rfl (aj rfl) rfl) htree) rfl) ?_
 have hO:isD (orc prg w 41) (.ocl 0) (aC s)=some true:=by
  rw[z.e]
  have:(orc prg w 41).sub c 0=true:=by rw[subs];exact z.is
  simp only[isD,this,if_true]
 refine stp _ (ifF (jz (cI (yQ (bz rfl) hO)) (cI (hcs _ rfl rfl true))) rfl) ?_;refine stp _ (ifF (jz (cI (hcg _ m1 4 rfl rfl rfl hn1 true)) (jz (cI (hcg _ m2 5 rfl rfl rfl hn2 true)) (cI (hcg _ m1 4 rfl rfl rfl hn1 true)))) rfl) ?_;refine stp (stL ns base s m1 m2 a6 (some (.ow,aC s)) (some (.sh,.str gone)) none) (aX (w:=false) (d:=.str gone) ((bj (bz rfl) ((aB ((aB (aj rfl) ak).trans (gZ _ 7 (by decide))) ak).trans ((iw _ 5 (by decide)).trans (by rw[ej])))).trans hg) rfl) ?_;refine stp (stL ns base s m1 (eV m2 gone) a6 (some (.ow,aC s)) (some (.sh,.str gone)) none) ?_ ?_
 ·have hl:look (ksD m2) (vsD m2) (.s gone)=some (.int gv):=by
   have:=rP gone m2;rw[hgv]at this;exact this
  obtain⟨k1,k2⟩:=rF gone m2;have he:ev (orc prg w 41) (stL ns base s m1 m2 a6 (some (.ow,aC s)) (some (.sh,.str gone)) none) true (XC 8)=.ok (false,.str gone):=aj rfl;simp only[evS,he,SO.of,ownD,List.getElem?_cons_succ,List.getElem?_cons_zero,Rq,keyOf,hl,k1,k2,aA,List.set_cons_succ,List.set_cons_zero]
 refine stp (stL ns base s m1 (eV m2 gone) a6 (some (.ow,aC s)) (some (.sh,.str gone)) none) ?_ ?_
 ·have hi:ev (orc prg w 41) (stL ns base s m1 (eV m2 gone) a6 (some (.ow,aC s)) (some (.sh,.str gone)) none) true (XM .in (XC 8) (Y4 14 (XF (XC 2) (XF (Ye XQ) XQ))))=.ok (false,.bl (decide (gone∈fr s))):=(aB (aj rfl) (aL (aa rfl (aj rfl) (aa rfl (dU (xs:=[]) rfl rfl) rfl)) hfree)).trans (Mw gone (fr s))
  by_cases hgf:gone∈fr s
  ·have hx:(orc prg w 41).fn 15 [aC s,dctP (eV m2 gone)]=.ok (false,.bl true):=pL w base (eV m2 gone) 14 s hs hf hz' 41 (by omega) ⟨gone,hgf,by rw[hdrop,if_pos rfl]⟩
   refine ifsT hi (decide_eq_true hgf) (one (ifF (cI (w:=false) (b:=true) ?_) rfl));exact lY (iR rfl (bz rfl) (iR rfl (bz rfl) rfl)) hx rfl
  ·refine ifsF hi (decide_eq_false hgf) (one (ifF (cI (w:=false) (b:=true) ?_) rfl))
   refine hcg _ (eV m2 gone) 5 rfl rfl rfl (fun n hn=>?_) true;obtain⟨v,e1,e2⟩:=hn2 n hn;exact⟨v,by rw[hdrop,if_neg (fun e:n=gone=>hgf (by rw[<-e];exact hn))];exact e1,e2⟩
 obtain⟨k9,hed⟩:=xU w ns base s m1 (eV m2 gone) V1.hasN a6 (some (.ow,aC s)) (some (.sh,.str gone)) [11,12,13,14] none;refine stp (stL ns base s m1 (eV m2 gone) a6 (some (.ow,aC s)) (some (.sh,.str gone)) k9) (fors rfl (show evI _ _ _ (TI.rng2 (XD (XH 11)) (XD (XH 15)))=.ok [.int 11,.int 12,.int 13,.int 14]from rfl) hed) ?_;exact stpR (retR (ww (hcg _ m1 4 rfl rfl rfl hn1 true) (hcs _ rfl rfl true)) rfl)
end K5
namespace P05
open Z
theorem pure(ns:List Int)(h:ns.length<=63):∃w0,(orc prg w0 42).fn 18 [.lst (ns.map .int)]=.ok (false,.bl true):=⟨0,K5.law_run 0 ns h⟩
end P05
namespace KF05
open PySem L2 Z P05
noncomputable def top(i:Nat):Stmt:=PySem.Challenge.pw_sumlaw_k05_plain_worth.main.body.getD i (.Pass ⟨0,0,0,0⟩)
noncomputable def m0:Df:=⟨"__init__","Branch.__init__",(bodyOf (top 9)).getD 0 (.Pass ⟨0,0,0,0⟩),["self","told"],["self","told"],f19⟩
noncomputable def m1:Df:=⟨"told","Branch.told",(bodyOf (top 9)).getD 1 (.Pass ⟨0,0,0,0⟩),["self"],["self"],f20⟩
noncomputable def m2:Df:=⟨"loose","Branch.loose",(bodyOf (top 9)).getD 2 (.Pass ⟨0,0,0,0⟩),["self"],["self"],f21⟩
noncomputable def m3:Df:=⟨"worth","Branch.worth",(bodyOf (top 9)).getD 3 (.Pass ⟨0,0,0,0⟩),["self","values"],["self","values"],f22⟩
noncomputable def m4:Df:=⟨"__init__","Atom.__init__",(bodyOf (top 10)).getD 0 (.Pass ⟨0,0,0,0⟩),["self","told","total"],["self","told","total"],f23⟩
noncomputable def m5:Df:=⟨"unbound","Atom.unbound",(bodyOf (top 10)).getD 1 (.Pass ⟨0,0,0,0⟩),["self","bound"],["self","bound"],f24⟩
noncomputable def m6:Df:=⟨"holds","Least.holds",(bodyOf (top 11)).getD 1 (.Pass ⟨0,0,0,0⟩),["self","values"],["self","values"],f25⟩
noncomputable def m7:Df:=⟨"__init__","Rest.__init__",(bodyOf (top 12)).getD 0 (.Pass ⟨0,0,0,0⟩),["self","told","divisor","total"],["self","told","divisor","total"],f26⟩
noncomputable def m8:Df:=⟨"holds","Rest.holds",(bodyOf (top 12)).getD 2 (.Pass ⟨0,0,0,0⟩),["self","values"],["self","values"],f27⟩
noncomputable def m9:Df:=⟨"__init__","Not.__init__",(bodyOf (top 13)).getD 0 (.Pass ⟨0,0,0,0⟩),["self","told","part"],["self","told","part"],f28⟩
noncomputable def m10:Df:=⟨"unbound","Not.unbound",(bodyOf (top 13)).getD 1 (.Pass ⟨0,0,0,0⟩),["self","bound"],["self","bound"],f29⟩
noncomputable def m11:Df:=⟨"holds","Not.holds",(bodyOf (top 13)).getD 3 (.Pass ⟨0,0,0,0⟩),["self","values"],["self","values"],f30⟩
noncomputable def m12:Df:=⟨"__init__","Many.__init__",(bodyOf (top 14)).getD 0 (.Pass ⟨0,0,0,0⟩),["self","told","word","parts"],["self","told","word","parts"],f31⟩
noncomputable def m13:Df:=⟨"unbound","Many.unbound",(bodyOf (top 14)).getD 1 (.Pass ⟨0,0,0,0⟩),["self","bound","names","part"],["self","bound"],f32⟩
noncomputable def m14:Df:=⟨"holds","And.holds",(bodyOf (top 15)).getD 0 (.Pass ⟨0,0,0,0⟩),["self","values","part"],["self","values"],f33⟩
noncomputable def m15:Df:=⟨"holds","Or.holds",(bodyOf (top 16)).getD 0 (.Pass ⟨0,0,0,0⟩),["self","values","part"],["self","values"],f34⟩
noncomputable def m16:Df:=⟨"__init__","Binder.__init__",(bodyOf (top 17)).getD 0 (.Pass ⟨0,0,0,0⟩),["self","told","word","name","part"],["self","told","word","name","part"],f35⟩
noncomputable def m17:Df:=⟨"unbound","Binder.unbound",(bodyOf (top 17)).getD 1 (.Pass ⟨0,0,0,0⟩),["self","bound"],["self","bound"],f36⟩
noncomputable def m18:Df:=⟨"holds","Binder.holds",(bodyOf (top 17)).getD 3 (.Pass ⟨0,0,0,0⟩),["self","values"],["self","values"],f37⟩
noncomputable def ms:List Df:=[m0,m1,m2,m3,m4,m5,m6,m7,m8,m9,m10,m11,m12,m13,m14,m15,m16,m17,m18]
noncomputable def d0:Df:=⟨"value","value",top 5,["one","values","total","name","k"],["one","values"],f0⟩
noncomputable def d1:Df:=⟨"with_name","with_name",top 7,["bound","name","inner"],["bound","name"],f1⟩
noncomputable def d2:Df:=⟨"check_values","check_values",top 8,["names","values","name"],["names","values"],f2⟩
noncomputable def d3:Df:=⟨"tree_of","tree_of",top 18,["told","word"],["told"],f3⟩
noncomputable def d4:Df:=⟨"_law_cell_at","_law_cell_at",top 20,["_law_script","_law_k"],["_law_script","_law_k"],f4⟩
noncomputable def d5:Df:=⟨"_law_mix","_law_mix",top 21,["_law_cell","_law_k","_law_many","_law_some"],["_law_cell","_law_k","_law_many"],f5⟩
noncomputable def d6:Df:=⟨"_law_name_by","_law_name_by",top 22,["_law_cell","_law_base","_law_letters","_law_signs","_law_size","_law_row","_law_place","_law_name"],["_law_cell","_law_base"],f6⟩
noncomputable def d7:Df:=⟨"_law_number","_law_number",top 23,["_law_cell","_law_size"],["_law_cell"],f7⟩
noncomputable def d8:Df:=⟨"_law_sum_by","_law_sum_by",top 24,["_law_cell","_law_base","_law_shares","_law_j","_law_k","_law_c"],["_law_cell","_law_base"],f8⟩
noncomputable def d9:Df:=⟨"_law_atom_by","_law_atom_by",top 25,["_law_cell","_law_base","_law_m"],["_law_cell","_law_base"],f9⟩
noncomputable def d10:Df:=⟨"_law_told_by","_law_told_by",top 26,["_law_cells","_law_base","_law_turns","_law_row","_law_deeps","_law_cell","_law_way","_law_first"],["_law_cells","_law_base","_law_turns"],f10⟩
noncomputable def d11:Df:=⟨"_law_same","_law_same",top 27,["_law_got","_law_due"],["_law_got","_law_due"],f11⟩
noncomputable def d12:Df:=⟨"_law_value","_law_value",top 28,["_law_one","_law_values","_law_total","_law_name","_law_k"],["_law_one","_law_values"],f12⟩
noncomputable def d13:Df:=⟨"_law_worth","_law_worth",top 29,["_law_told","_law_values","_law_worths"],["_law_told","_law_values"],f13⟩
noncomputable def d14:Df:=⟨"_law_free","_law_free",top 30,["_law_told","_law_bound","_law_row","_law_part"],["_law_told","_law_bound"],f14⟩
noncomputable def d15:Df:=⟨"_law_refused","_law_refused",top 31,["_law_tree","_law_values"],["_law_tree","_law_values"],f15⟩
noncomputable def d16:Df:=⟨"_law_right","_law_right",top 32,["_law_tree","_law_told","_law_values","_law_got"],["_law_tree","_law_told","_law_values"],f16⟩
noncomputable def d17:Df:=⟨"_law_edge_right","_law_edge_right",top 33,["_law_cell","_law_base","_law_values","_law_one","_law_due","_law_edge","_law_told"],["_law_cell","_law_base","_law_values"],f17⟩
noncomputable def d18:Df:=⟨"law","law",top 34,["_law_script","_law_base","_law_told","_law_names","_law_first","_law_second","_law_at","_law_tree","_law_gone","_law_k"],["_law_script"],f18⟩
noncomputable def cs:List (Str×Gk):=[("!f",.names [[115,116,97,116,101,109,101,110,116],[116,111,116,97,108],[100,105,118,105,115,111,114],[112,97,114,116],[119,111,114,100],[112,97,114,116,115],[110,97,109,101]]),("!m",.names [[116,111,108,100],[108,111,111,115,101],[119,111,114,116,104],[117,110,98,111,117,110,100],[104,111,108,100,115]]),("Branch",.ocl 0),("Atom",.ocl 1),("Least",.ocl 2),("Rest",.ocl 3),("Not",.ocl 4),("Many",.ocl 5),("And",.ocl 6),("Or",.ocl 7),("Binder",.ocl 8),("SumError",.cls 9),("NoValue",.cls 10)]
noncomputable def ds:List Df:=[d0,d1,d2,d3,d4,d5,d6,d7,d8,d9,d10,d11,d12,d13,d14,d15,d16,d17,d18]
open PySem.W
noncomputable def ge(P:Xe)(x:Str)(t:Tok)(v:Value):DictEntry:=⟨PyData.keyHash P x,.str x t,v⟩
noncomputable def co(a:Addr)(x:Str)(t:Nat)(l n f:Int)(r:Addr)(b:Bool)(r2:Addr)(v1 v2 v3:Value)(r3:Addr)(u:Nat):Addr×Obj:=(a,⟨.type "code",none,.fields #[.str x t,.str x (t+1),.str "/claim/cut.py" (t+2),.int l 0,.int n 0,.int 0 0,.int 0 0,.int f 0,.ref r,.bool b,.int 181 0,.ref r2,v1,v2,v3,.ref r3,.int u 0,.int l 0,.str "/claim/cut.py" (u+1)],#[]⟩)
noncomputable def fo(a:Addr)(x:Str)(i:Nat)(m:Str)(t:Tok)(c:Addr):Addr×Obj:=(a,⟨.type "function",none,.func (fnOf x x (bU (top i)) (bB (top i)) (aF (top i)) .none .none .none (.str m t) none (.ref c) .none),#[]⟩)
noncomputable def cm(a:Addr)(x q:Str)(t:Nat)(l n f:Int)(r:Addr)(b:Bool)(r2:Addr)(v1 v2 v3:Value)(r3:Addr)(u:Nat):Addr×Obj:=(a,⟨.type "code",none,.fields #[.str x t,.str q (t+1),.str "/claim/cut.py" (t+2),.int l 0,.int n 0,.int 0 0,.int 0 0,.int f 0,.ref r,.bool b,.int 181 0,.ref r2,v1,v2,v3,.ref r3,.int u 0,.int l 0,.str "/claim/cut.py" (u+1)],#[]⟩)
noncomputable def fm(a:Addr)(x q:Str)(st:Stmt)(m:Str)(t:Tok)(c:Addr):Addr×Obj:=(a,⟨.type "function",none,.func (fnOf x q (bU st) (bB st) (aF st) .none .none .none (.str m t) none (.ref c) .none),#[]⟩)
noncomputable def KK:Xe->Frag:=fun P=>[(2,Vz .none none (Wt.dict #[]) #[]),(3,⟨.type "dict",none,.dict #[ge P "__name__" 165 (.str "law_sumlaw_k05_plain_worth" 675),ge P "__doc__" 166 .none,ge P "__package__" 167 .none,ge P "__loader__" 168 (.builtin "__main__.__loader__#opaque"),ge P "__spec__" 169 .none,ge P "__annotations__" 170 (.ref 6),ge P "__builtins__" 171 (.ref 4),ge P "__file__" 173 (.str "/claim/cut.py" 172),ge P "__cached__" 174 .none,ge P "_wall" 193 (.ref 21),ge P "SumError" 213 (.ref 31),ge P "NoValue" 229 (.ref 44),ge P "value" 242 (.ref 53),ge P "with_name" 253 (.ref 60),ge P "check_values" 262 (.ref 67),ge P "Branch" 321 (.ref 112),ge P "Atom" 353 (.ref 138),ge P "Least" 393 (.ref 171),ge P "Rest" 444 (.ref 211),ge P "Not" 502 (.ref 258),ge P "Many" 556 (.ref 298),ge P "And" 581 (.ref 317),ge P "Or" 606 (.ref 336),ge P "Binder" 668 (.ref 383),ge P "tree_of" 674 (.ref 390),ge P "_law_cell_at" 684 (.ref 397),ge P "_law_mix" 694 (.ref 404),ge P "_law_name_by" 700 (.ref 409),ge P "_law_number" 708 (.ref 416),ge P "_law_sum_by" 714 (.ref 421),ge P "_law_atom_by" 723 (.ref 428),ge P "_law_told_by" 737 (.ref 435),ge P "_law_same" 743 (.ref 440),ge P "_law_value" 754 (.ref 447),ge P "_law_worth" 760 (.ref 452),ge P "_law_free" 766 (.ref 457),ge P "_law_refused" 774 (.ref 464),ge P "_law_right" 784 (.ref 471),ge P "_law_edge_right" 797 (.ref 478),ge P "law" 803 (.ref 483)] 40,#[]⟩),co 52 "value" 232 10 2 3 47 true 48 .none (.ref 49) (.ref 50) 51 240,fo 53 "value" 5 "sumlaw.sums" 230 52,co 59 "with_name" 245 18 2 3 54 true 55 .none (.ref 56) (.ref 57) 58 251,fo 60 "with_name" 7 "sumlaw.trees" 243 59,co 66 "check_values" 254 22 2 3 61 true 62 .none (.ref 63) (.ref 64) 65 260,fo 67 "check_values" 8 "sumlaw.trees" 243 66,co 389 "tree_of" 669 143 1 3 386 true 387 .none .none .none 388 672,fo 390 "tree_of" 18 "sumlaw.trees" 243 389,co 396 "_law_cell_at" 677 157 2 3 391 true 392 .none (.ref 393) (.ref 394) 395 682,fo 397 "_law_cell_at" 20 "law_sumlaw_k05_plain_worth" 675 396,co 403 "_law_mix" 685 161 3 3 398 true 399 .none (.ref 400) (.ref 401) 402 692,fo 404 "_law_mix" 21 "law_sumlaw_k05_plain_worth" 675 403,co 408 "_law_name_by" 695 165 2 3 405 true 406 .none .none .none 407 698,fo 409 "_law_name_by" 22 "law_sumlaw_k05_plain_worth" 675 408,co 415 "_law_number" 701 182 1 3 410 true 411 .none (.ref 412) (.ref 413) 414 706,fo 416 "_law_number" 23 "law_sumlaw_k05_plain_worth" 675 415,co 420 "_law_sum_by" 709 187 2 3 417 true 418 .none .none .none 419 712,fo 421 "_law_sum_by" 24 "law_sumlaw_k05_plain_worth" 675 420,co 427 "_law_atom_by" 715 198 2 3 422 true 423 .none (.ref 424) (.ref 425) 426 721,fo 428 "_law_atom_by" 25 "law_sumlaw_k05_plain_worth" 675 427,co 434 "_law_told_by" 724 205 3 3 429 true 430 .none (.ref 431) (.ref 432) 433 735,fo 435 "_law_told_by" 26 "law_sumlaw_k05_plain_worth" 675 434,co 439 "_law_same" 738 226 2 3 436 true 437 .none .none .none 438 741,fo 440 "_law_same" 27 "law_sumlaw_k05_plain_worth" 675 439,co 446 "_law_value" 744 234 2 3 441 true 442 .none (.ref 443) (.ref 444) 445 752,fo 447 "_law_value" 28 "law_sumlaw_k05_plain_worth" 675 446,co 451 "_law_worth" 755 239 2 3 448 true 449 .none .none .none 450 758,fo 452 "_law_worth" 29 "law_sumlaw_k05_plain_worth" 675 451,co 456 "_law_free" 761 250 2 3 453 true 454 .none .none .none 455 764,fo 457 "_law_free" 30 "law_sumlaw_k05_plain_worth" 675 456,co 463 "_law_refused" 767 263 2 3 458 true 459 .none (.ref 460) (.ref 461) 462 772,fo 464 "_law_refused" 31 "law_sumlaw_k05_plain_worth" 675 463,co 470 "_law_right" 775 269 3 3 465 true 466 .none (.ref 467) (.ref 468) 469 782,fo 471 "_law_right" 32 "law_sumlaw_k05_plain_worth" 675 470,co 477 "_law_edge_right" 785 272 3 3 472 true 473 .none (.ref 474) (.ref 475) 476 795,fo 478 "_law_edge_right" 33 "law_sumlaw_k05_plain_worth" 675 477,co 482 "law" 798 280 1 3 479 true 480 .none .none .none 481 801,fo 483 "law" 34 "law_sumlaw_k05_plain_worth" 675 482,cm 80 "__init__" "Branch.__init__" 275 28 2 3 75 true 76 .none (.ref 77) (.ref 78) 79 280,fm 81 "__init__" "Branch.__init__" m0.st "sumlaw.trees" 243 80,cm 87 "told" "Branch.told" 283 31 1 3 82 true 83 .none (.ref 84) (.ref 85) 86 287,fm 88 "told" "Branch.told" m1.st "sumlaw.trees" 243 87,cm 94 "loose" "Branch.loose" 290 34 1 3 89 true 90 .none (.ref 91) (.ref 92) 93 294,fm 95 "loose" "Branch.loose" m2.st "sumlaw.trees" 243 94,cm 101 "worth" "Branch.worth" 297 37 2 3 96 true 97 .none (.ref 98) (.ref 99) 100 302,fm 102 "worth" "Branch.worth" m3.st "sumlaw.trees" 243 101,cm 129 "__init__" "Atom.__init__" 334 45 3 3 124 true 125 .none (.ref 126) (.ref 127) 128 340,fm 130 "__init__" "Atom.__init__" m4.st "sumlaw.trees" 243 129,cm 134 "unbound" "Atom.unbound" 343 49 2 3 131 true 132 .none .none .none 133 346,fm 135 "unbound" "Atom.unbound" m5.st "sumlaw.trees" 243 134,cm 160 "holds" "Least.holds" 373 56 2 3 155 true 156 .none (.ref 157) (.ref 158) 159 378,fm 161 "holds" "Least.holds" m6.st "sumlaw.trees" 243 160,cm 186 "__init__" "Rest.__init__" 406 63 4 3 181 true 182 .none (.ref 183) (.ref 184) 185 413,fm 187 "__init__" "Rest.__init__" m7.st "sumlaw.trees" 243 186,cm 200 "holds" "Rest.holds" 423 70 2 3 195 true 196 .none (.ref 197) (.ref 198) 199 428,fm 201 "holds" "Rest.holds" m8.st "sumlaw.trees" 243 200,cm 226 "__init__" "Not.__init__" 457 77 3 3 221 true 222 .none (.ref 223) (.ref 224) 225 463,fm 227 "__init__" "Not.__init__" m9.st "sumlaw.trees" 243 226,cm 233 "unbound" "Not.unbound" 466 81 2 3 228 true 229 .none (.ref 230) (.ref 231) 232 471,fm 234 "unbound" "Not.unbound" m10.st "sumlaw.trees" 243 233,cm 247 "holds" "Not.holds" 481 87 2 3 242 true 243 .none (.ref 244) (.ref 245) 246 486,fm 248 "holds" "Not.holds" m11.st "sumlaw.trees" 243 247,cm 273 "__init__" "Many.__init__" 515 94 4 3 268 true 269 .none (.ref 270) (.ref 271) 272 522,fm 274 "__init__" "Many.__init__" m12.st "sumlaw.trees" 243 273,cm 280 "unbound" "Many.unbound" 525 99 2 3 275 true 276 .none (.ref 277) (.ref 278) 279 532,fm 281 "unbound" "Many.unbound" m13.st "sumlaw.trees" 243 280,cm 313 "holds" "And.holds" 569 112 2 3 308 true 309 .none (.ref 310) (.ref 311) 312 575,fm 314 "holds" "And.holds" m14.st "sumlaw.trees" 243 313,cm 332 "holds" "Or.holds" 594 119 2 3 327 true 328 .none (.ref 329) (.ref 330) 331 600,fm 333 "holds" "Or.holds" m15.st "sumlaw.trees" 243 332,cm 351 "__init__" "Binder.__init__" 619 126 5 3 346 true 347 .none (.ref 348) (.ref 349) 350 627,fm 352 "__init__" "Binder.__init__" m16.st "sumlaw.trees" 243 351,cm 358 "unbound" "Binder.unbound" 630 132 2 3 353 true 354 .none (.ref 355) (.ref 356) 357 635,fm 359 "unbound" "Binder.unbound" m17.st "sumlaw.trees" 243 358,cm 372 "holds" "Binder.holds" 645 138 2 3 367 true 368 .none (.ref 369) (.ref 370) 371 650,fm 373 "holds" "Binder.holds" m18.st "sumlaw.trees" 243 372,(30,⟨.type "dict",none,.dict #[ge P "__module__" 203 (.str "sumlaw.errors" 194),ge P "__firstlineno__" 207 (.int 5 206),ge P "__static_attributes__" 208 (.ref 29),ge P "__weakref__" 210 (.ref 32),ge P "__doc__" 211 .none] 3,#[]⟩),(31,Vz (.type "type") none (Vo (Ub "SumError" [.type "ValueError"] [.ref 31,.type "ValueError",.type "Exception",.type "BaseException",.type "object"] 30 "SumError" true [] [.ref 44] false none false)) #[R9 (.ref 22),none,R9 (.str "SumError" 196),R9 (.str "SumError" 204),R9 (.builtin "ValueError.__new__"),R9 (.bool true)]),(32,Vz (.type "getset_descriptor") none (WW #[.str "__weakref__" 209,.ref 31,.builtin "ExceptionGroup.__weakref__",.none]) #[]),(43,⟨.type "dict",none,.dict #[ge P "__module__" 221 (.str "sumlaw.errors" 194),ge P "__firstlineno__" 225 (.int 7 224),ge P "__static_attributes__" 226 (.ref 42),ge P "__doc__" 227 .none] 2,#[]⟩),(44,Vz (.type "type") none (Vo (Ub "NoValue" [.ref 31] [.ref 44,.ref 31,.type "ValueError",.type "Exception",.type "BaseException",.type "object"] 43 "NoValue" true [] [] false none false)) #[R9 (.ref 35),none,R9 (.str "NoValue" 214),R9 (.str "NoValue" 222),R9 (.builtin "ValueError.__new__"),R9 (.bool true)]),(111,⟨.type "dict",none,.dict #[ge P "__module__" 270 (.str "sumlaw.trees" 243),ge P "__firstlineno__" 274 (.int 26 273),ge P "__init__" 282 (.ref 81),ge P "told" 289 (.ref 88),ge P "loose" 296 (.ref 95),ge P "worth" 304 (.ref 102),ge P "filled" 312 (.ref 109),ge P "__static_attributes__" 314 (.ref 110),ge P "__dict__" 316 (.ref 113),ge P "__weakref__" 318 (.ref 114),ge P "__doc__" 319 .none] 4,#[]⟩),(112,Vz (.type "type") none (Vo (Ub "Branch" [.type "object"] [.ref 112,.type "object"] 111 "Branch" true [] [.ref 138,.ref 258,.ref 298,.ref 383] false none false)) #[none,none,R9 (.str "Branch" 263),R9 (.str "Branch" 271),R9 (.builtin "object.__new__"),R9 (.bool true)]),(113,Vz (.type "getset_descriptor") none (WW #[.str "__dict__" 315,.ref 112,.builtin "function.__dict__",.builtin "function.__dict__#set"]) #[]),(114,Vz (.type "getset_descriptor") none (WW #[.str "__weakref__" 317,.ref 112,.builtin "ExceptionGroup.__weakref__",.none]) #[]),(137,⟨.type "dict",none,.dict #[ge P "__module__" 329 (.str "sumlaw.trees" 243),ge P "__firstlineno__" 333 (.int 43 332),ge P "__init__" 342 (.ref 130),ge P "unbound" 348 (.ref 135),ge P "__static_attributes__" 350 (.ref 136),ge P "__doc__" 351 .none] 2,#[]⟩),(138,Vz (.type "type") none (Vo (Ub "Atom" [.ref 112] [.ref 138,.ref 112,.type "object"] 137 "Atom" true [] [.ref 171,.ref 211] false none false)) #[R9 (.ref 117),none,R9 (.str "Atom" 322),R9 (.str "Atom" 330),R9 (.builtin "object.__new__"),R9 (.bool true)]),(170,⟨.type "dict",none,.dict #[ge P "__module__" 361 (.str "sumlaw.trees" 243),ge P "__firstlineno__" 365 (.int 51 364),ge P "wording" 372 (.ref 154),ge P "holds" 380 (.ref 161),ge P "put" 389 (.ref 168),ge P "__static_attributes__" 390 (.ref 169),ge P "__doc__" 391 .none] 2,#[]⟩),(171,Vz (.type "type") none (Vo (Ub "Least" [.ref 138] [.ref 171,.ref 138,.ref 112,.type "object"] 170 "Least" true [] [] false none false)) #[R9 (.ref 141),none,R9 (.str "Least" 354),R9 (.str "Least" 362),R9 (.builtin "object.__new__"),R9 (.bool true)]),(210,⟨.type "dict",none,.dict #[ge P "__module__" 401 (.str "sumlaw.trees" 243),ge P "__firstlineno__" 405 (.int 61 404),ge P "__init__" 415 (.ref 187),ge P "wording" 422 (.ref 194),ge P "holds" 430 (.ref 201),ge P "put" 439 (.ref 208),ge P "__static_attributes__" 441 (.ref 209),ge P "__doc__" 442 .none] 2,#[]⟩),(211,Vz (.type "type") none (Vo (Ub "Rest" [.ref 138] [.ref 211,.ref 138,.ref 112,.type "object"] 210 "Rest" true [] [] false none false)) #[R9 (.ref 174),none,R9 (.str "Rest" 394),R9 (.str "Rest" 402),R9 (.builtin "object.__new__"),R9 (.bool true)]),(257,⟨.type "dict",none,.dict #[ge P "__module__" 452 (.str "sumlaw.trees" 243),ge P "__firstlineno__" 456 (.int 75 455),ge P "__init__" 465 (.ref 227),ge P "unbound" 473 (.ref 234),ge P "wording" 480 (.ref 241),ge P "holds" 488 (.ref 248),ge P "put" 497 (.ref 255),ge P "__static_attributes__" 499 (.ref 256),ge P "__doc__" 500 .none] 2,#[]⟩),(258,Vz (.type "type") none (Vo (Ub "Not" [.ref 112] [.ref 258,.ref 112,.type "object"] 257 "Not" true [] [] false none false)) #[R9 (.ref 214),none,R9 (.str "Not" 445),R9 (.str "Not" 453),R9 (.builtin "object.__new__"),R9 (.bool true)]),(297,⟨.type "dict",none,.dict #[ge P "__module__" 510 (.str "sumlaw.trees" 243),ge P "__firstlineno__" 514 (.int 92 513),ge P "__init__" 524 (.ref 274),ge P "unbound" 534 (.ref 281),ge P "wording" 541 (.ref 288),ge P "put" 550 (.ref 295),ge P "__static_attributes__" 553 (.ref 296),ge P "__doc__" 554 .none] 2,#[]⟩),(298,Vz (.type "type") none (Vo (Ub "Many" [.ref 112] [.ref 298,.ref 112,.type "object"] 297 "Many" true [] [.ref 317,.ref 336] false none false)) #[R9 (.ref 261),none,R9 (.str "Many" 503),R9 (.str "Many" 511),R9 (.builtin "object.__new__"),R9 (.bool true)]),(316,⟨.type "dict",none,.dict #[ge P "__module__" 564 (.str "sumlaw.trees" 243),ge P "__firstlineno__" 568 (.int 110 567),ge P "holds" 577 (.ref 314),ge P "__static_attributes__" 578 (.ref 315),ge P "__doc__" 579 .none] 2,#[]⟩),(317,Vz (.type "type") none (Vo (Ub "And" [.ref 298] [.ref 317,.ref 298,.ref 112,.type "object"] 316 "And" true [] [] false none false)) #[R9 (.ref 301),none,R9 (.str "And" 557),R9 (.str "And" 565),R9 (.builtin "object.__new__"),R9 (.bool true)]),(335,⟨.type "dict",none,.dict #[ge P "__module__" 589 (.str "sumlaw.trees" 243),ge P "__firstlineno__" 593 (.int 117 592),ge P "holds" 602 (.ref 333),ge P "__static_attributes__" 603 (.ref 334),ge P "__doc__" 604 .none] 2,#[]⟩),(336,Vz (.type "type") none (Vo (Ub "Or" [.ref 298] [.ref 336,.ref 298,.ref 112,.type "object"] 335 "Or" true [] [] false none false)) #[R9 (.ref 320),none,R9 (.str "Or" 582),R9 (.str "Or" 590),R9 (.builtin "object.__new__"),R9 (.bool true)]),(382,⟨.type "dict",none,.dict #[ge P "__module__" 614 (.str "sumlaw.trees" 243),ge P "__firstlineno__" 618 (.int 124 617),ge P "__init__" 629 (.ref 352),ge P "unbound" 637 (.ref 359),ge P "wording" 644 (.ref 366),ge P "holds" 652 (.ref 373),ge P "put" 661 (.ref 380),ge P "__static_attributes__" 665 (.ref 381),ge P "__doc__" 666 .none] 2,#[]⟩),(383,Vz (.type "type") none (Vo (Ub "Binder" [.ref 112] [.ref 383,.ref 112,.type "object"] 382 "Binder" true [] [] false none false)) #[R9 (.ref 339),none,R9 (.str "Binder" 607),R9 (.str "Binder" 615),R9 (.builtin "object.__new__"),R9 (.bool true)])]
noncomputable def Kas:List Addr:=[2,3,52,53,59,60,66,67,389,390,396,397,403,404,408,409,415,416,420,421,427,428,434,435,439,440,446,447,451,452,456,457,463,464,470,471,477,478,482,483,80,81,87,88,94,95,101,102,129,130,134,135,160,161,186,187,200,201,226,227,233,234,247,248,273,274,280,281,313,314,332,333,351,352,358,359,372,373,30,31,32,43,44,111,112,113,114,137,138,170,171,210,211,257,258,297,298,316,317,335,336,382,383]
noncomputable def cts:List Addr:=[112,138,171,211,258,298,317,336,383,31,44]
noncomputable def u0(a c:Addr):Pl4:=(a,c,"sumlaw.sums",230)
noncomputable def u1(a c:Addr):Pl4:=(a,c,"sumlaw.trees",243)
noncomputable def u2(a c:Addr):Pl4:=(a,c,"law_sumlaw_k05_plain_worth",675)
noncomputable def tds:List Pl4:=[u0 53 52,u1 60 59,u1 67 66,u1 390 389,u2 397 396,u2 404 403,u2 409 408,u2 416 415,u2 421 420,u2 428 427,u2 435 434,u2 440 439,u2 447 446,u2 452 451,u2 457 456,u2 464 463,u2 471 470,u2 478 477,u2 483 482]
noncomputable def tms:List Pl4:=[u1 81 80,u1 88 87,u1 95 94,u1 102 101,u1 130 129,u1 135 134,u1 161 160,u1 187 186,u1 201 200,u1 227 226,u1 234 233,u1 248 247,u1 274 273,u1 281 280,u1 314 313,u1 333 332,u1 352 351,u1 359 358,u1 373 372]
noncomputable def prs:List (Nat×Nat):=[(10,9),(10,10),(1,0),(2,0),(3,0),(4,0),(5,0),(6,0),(7,0),(8,0)]
theorem Ec(c c':Nat)(e:P05.sub c c'=true):(c,c')∈prs:=by
 unfold P05.sub at e
 split at e<;>first | decide | exact absurd e Bool.false_ne_true
theorem oks:∀d∈ds,DfOk (glOf 0 ds++cs) d:=El (by kernel_rfl) (by kernel_rfl)
theorem mos:∀d∈ms,DfOk (glOf 0 ds++cs) d:=El (by kernel_rfl) (by kernel_rfl)
theorem bds:∀d∈ds,pB d:=Dj fun _ _ _ _ _ _ _=>by kernel_rfl
theorem bms:∀d∈ms,pB d:=Dj fun _ _ _ _ _ _ _=>by kernel_rfl
theorem all_mk{lw:PySem.W.OpenLaw}{w:RT}{h:Rk}{mg:Str->Option Value}{fa:Addr}(X:(KK w.params).In h)(G:h.Ns Sh mg)(hfa:mg "law"=some (.ref fa)):∃(fd:V0) (CT:Nat->Addr),(∀(s:Shared) (u:Value),X4 s fd ⟨[u],[]⟩ [("_law_script",u)])/\∀(base:Rk) (w0:Nat),FnOk lw.prog w (KK w.params) mg base CX0 (41+1) fa fd ["_law_script"] (spFn ⟨(KK w.params),CT⟩ ((orc prg w0 (41+1)).fn 18) 1):=by
 have e:=hfa.symm.trans (Wo X G (show nsIn (KK w.params) Sh "law"=some (some (.ref 483)) by kernel_rfl));cases e
 have n1:cs.all (nmB (KK w.params) (ctOf cts))=true:=by kernel_rfl
 have n2:(prs.all fun r=>cs.all (prB (KK w.params) (ctOf cts) P05.prg.sub r))=true:=by kernel_rfl
 obtain⟨hcs,hno⟩:=JW (P:=lw.prog) (w:=w) (W:=⟨(KK w.params),ctOf cts⟩) (mg:=mg) (cs:=cs) (by kernel_rfl);obtain⟨hgv,hgd⟩:=Lk (ds:=ds) hcs
 have hdf:∀x v i np,(glOf 0 ds++cs).lookup ("!d":Str)=some (.dfl x v)->(glOf 0 ds++cs).lookup x=some (.fn i np)->∃d f fd vs,prg.fns[i]?=some d.fd/\DfOk (glOf 0 ds++cs) d/\d.ps.length=np/\Fun (KK w.params) d.name d.qual d.st f fd/\Binds (KK w.params) fd d.ps vs/\L2.Vals [.int v] vs/\mg x=some (.ref f):=by
  intro x v i np h h'
  have e:(glOf 0 ds++cs).lookup ("!d":Str)=none:=by kernel_rfl
  rw[e]at h;cases h
 have GR0:Ground lw.prog w (KK w.params) mg ⟨(KK w.params),ctOf cts⟩ prg (glOf 0 ds++cs):=⟨rfl,Q6 X G (by kernel_rfl),hgv,hgd,QJ X G Ec n1 n2 (by kernel_rfl),hdf⟩
 have CF0:ClFacts (KK w.params) mg ⟨(KK w.params),ctOf cts⟩ P05.prg (glOf 0 ds++cs) ms (fun i=>(tms.map (·.1)).getD i 0) ds.length:=Px X G Ec n1 n2 (fl:=([[115,116,97,116,101,109,101,110,116],[116,111,116,97,108],[100,105,118,105,115,111,114],[112,97,114,116],[119,111,114,100],[112,97,114,116,115],[110,97,109,101]]:List (List Nat))) (by kernel_rfl) rfl rfl (by kernel_rfl) (by kernel_rfl) (by kernel_rfl);refine⟨Uc "law" "law" (bU (top 34)) (bB (top 34)) (aF (top 34)) .none .none .none (.str "law_sumlaw_k05_plain_worth" 675) none (.ref 482) .none,ctOf cts,fun s v=>.of_eq rfl,fun base w0=>?_⟩;exact K7 (d:=d18) (i:=18) (n:=41) (W:=⟨(KK w.params),ctOf cts⟩) (p:=prg) (ds:=ds) (cs:=cs) (ms:=ms) hno GR0 rfl oks (at_of (t:=tds) X G bds (by decide) (by kernel_rfl)) CF0 mos (Qv (t:=tms) bms (by kernel_rfl) rfl) (yO (st:=top 34) (show(KK w.params).lookup 483=some ⟨.type "function",none,.func (fnOf "law" "law" (bU (top 34)) (bB (top 34)) (aF (top 34)) .none .none .none (.str "law_sumlaw_k05_plain_worth" 675) none (.ref 482) .none),#[]⟩ by kernel_rfl) (show codeIn (KK w.params) (.ref 482) "law"=true by kernel_rfl) (by kernel_rfl)) (oks d18 (Sx (i:=18) rfl)) rfl
end KF05
open PySem PySem.W PyProof.Rows
namespace KF05
open PySem PySem.W L2
noncomputable def Q:Rz:={ PySem.Challenge.pw_sumlaw_k05_plain_worth with main:={ PySem.Challenge.pw_sumlaw_k05_plain_worth.main with body:=[0,2,3,5,7,8,9,10,11,12,13,14,15,16,17,18,20,21,22,23,24,25,26,27,28,29,30,31,32,33,34].filterMap fun i=>PySem.Challenge.pw_sumlaw_k05_plain_worth.main.body[i]? } }
theorem Nf:∀P,Kas=(KK P).map (·.1):=fun P=>by kernel_rfl
noncomputable def HH:Hook:=kHook KK Kas Nf
set_option maxHeartbeats 0 in
theorem left:LeftO PySem.Challenge.rw_sumlaw_k05_plain_worth.row.prog Q [] (fun s=>xlAt Q [] s&&recOk (RowW.records (OpenRow.toRowW PySem.Challenge.rw_sumlaw_k05_plain_worth.row)) s) (Hook.obs HH) (Hook.val HH) 8020 :=
 HS (by kernel_rfl) (by kernel_rfl) (fun s=>by kernel_rfl) (fun w os=>by kernel_rfl)
end KF05
set_option maxRecDepth 100000 in
set_option maxHeartbeats 0 in
theorem PySem.Challenge.cw_sumlaw_k05_plain_worth_holds : PySem.Challenge.rw_sumlaw_k05_plain_worth.Holds := by
 refine PySem.W.holds_law (by kernel_rfl) fun said=>?_
 refine PySem.W.holds_open (q:=KF05.Q) (YP:=PySem.W.Hook.says KF05.HH) (XP:=PySem.W.XL KF05.Q []) KF05.left (PySem.W.Hook.of KF05.HH) (PySem.W.Hook.keeps KF05.HH) (fun s e=>PySem.W.xl_of s (Bool.and_eq_true_iff.mp e).1) PySem.W.XL.keeps (by rfl) (by rfl) (by rfl) (fun s e=>PySem.W.recFacts_of (Bool.and_eq_true_iff.mp e).2) (by rfl) (by first | assumption | decide +kernel) (by decide +kernel) ⟨rfl,rfl,rfl,rfl,rfl,by decide +kernel⟩ ?hw ?hc
 case hw=>w_witness2
 case hc=>
  refine Z.walkZ (l:=PySem.Challenge.rw_sumlaw_k05_plain_worth) (p:=P05.prg) (n:=41+1) (i:=18) (x:="_law_script") rfl rfl ⟨rfl,by decide,by decide⟩ (fun w h Y=>PySem.W.kIn_of Y) ?F P05.pure
  case F=>
   intro w mg fa h KX G hmg;exact KF05.all_mk KX G hmg
