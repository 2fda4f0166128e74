import PyProof.Rows.All
import Wide.All
import OpenK.AllK
import Wide.FinOn
import Lean
import PyProof.EqAt
import PyProof.EqKinds
import PyProof.TupleCall
import KE.KEqDict
import PyProof.Draws
import PyProof.Rows.Range3
import KE.KIntText
import PyProof.Rows.SumAny
import PyProof.DictUpdate
import PyProof.RaisesDict
import PySem.Challenge.RW_sumlaw_k11_freely_written
set_option Elab.async false
set_option linter.all false
set_option compiler.extract_closed false
set_option maxRecDepth 100000
set_option autoImplicit true
open PySem.W renaming Frag→QK,keepIn→Rj,findIn→RB,emptyDict→T8,fnOf→Tv,instObj→TQ,kia_one→U9,codeIn→Uk,plainGet→Up,mg_of→Uw,callWith_K→UJ,nsIn→V3,isIn→V4,isFn→V5,hasDictIn→V6,specialIn→Vt,plainOver→Vu,handedIn→VB,makesIn→VH,lookIn→VV
open List renaming map_cons→QL,mem_cons_self→QM,mem_cons_of_mem→QQ,length_append→R4,length_map→R5,length_cons→R6,mem_cons→R8,getElem?_eq_some_iff→R9,size_toArray→Ri,getElem?_eq_getElem→Rn,range→Ru,mem_map→Rx,replicate→Ry,append_nil→RC,map_map→RD,getElem?_set_self→RG,all_eq_true→RJ,mem_of_getElem?→RK,getElem?_map→RM,any_cons→RN,getElem?_set_ne→RQ,getElem?_append_right→RT,getD_eq_getElem?_getD→RV,mem_append_right→RZ,getElem?_append_left→S6,append_assoc→S7,map_nil→S9,mem_append→Sg,lookup_cons→Sq,length→Sx,cons_append→SN,nodup_cons→T3,length_nil→T4,pairwise_cons→T5,length_replicate→Tg,not_mem_nil→Ti,mem_append_left→Tn,take→U5,lookup→Ua,eq_nil_of_length_eq_zero→Ub,range_eq_range'→Ut,length_take→Uu,mem_map_of_mem→Uy,filterMap_cons→Uz,mem_filter→UT,map_append→UV,foldl_cons→UW,find?_cons→V0,range'→V7,getElem?_replicate→V8,range'_succ→Vj,mem_singleton→Vv,getElem_mem→VJ,any_nil→VM,mem_range→W4,sum_cons→Wf,all_cons→Wg,Perm→Wu
open Bool renaming and_eq_true→QR,false_eq_true→QW,not_eq_true'→Rf,or_eq_false_iff→Rp,false_ne_true→Rq,not_false→Sy,or_false→Tw,false_or→Ug,not_true→UL,or_eq_true→V1,eq_iff_iff→V2,and_self→Vm,true_and→Wi,and_true→Wj
open PySem renaming wpAny_bind→QS,starEach→R3,Heap→Rc,wpAny→Rg,wpAny_pure→Rh,model→Rm,Program→Rt,mainGlobals→RW,World→RX,Around→S5,eval→S8,Builtin→Sh,FuncData→Sw,backTo→SQ,NameKind→SX,assignEach→T7,mem_of_lookup→Td,foldedSetIterable→Te,sizeLine_eq→Th,wpAny_mono→Tp,compareOp→Tq,bootBuiltins→Tr,behindInMarks→Tu,keywordEach→TJ,holding→TX,wpAny_truthy_bool→U3,wpAny_newObj_type→U4,sysModules→U6,swapsWith→Uc,binaryOp→Ud,wpAny_Call_Name_kw→Ui,codeAny_mono→Uj,wpAny_passesOwn→Uo,attributeBase→Uq,PassesOwn→Us,strIterType→UG,wpAny_holding→Vb,backToKw→Vc,tupleKind_room_in1→Ve,wpAny_getItem_str_slice→Vg,wpAny_field→Vh,standAt→Vk,Paired→Vl,getMethod→Vp,sliceBounds→Vr,wpAny_loadPart'→Vw,codeAny_builtin→Vx,cLine→Vz,assign→VG,Keyword→VN,plainId_quiet→VP,valueAt→W5,codeAny→W6,post_val_or_str→Wb,letOwnedTupleGo→Wc,wpAny_tryCatch→Wl,callWith→Wm,Within→Wn,tupleKind→Wo,getItem→Wq,callerA→Wr,relabel→Wy,concat_meets→Wz,Data→WF,BindsTo→WK,pyNext→WM,IsPart→WN,wpAny_letGo→WQ,subscripted→WR,atKey→WW,Params→WX,treeTable→X5,noteFrame→X6,bindL→X8,bindC→Xa,setItem→Xd,Code→Xe,IntMulOk→Xh
open Option renaming some→QT,bind_some→R7,map_some→Ro,map_eq_some_iff→SM,isSome_iff_exists→TY
open PySem.Heap renaming get?_push_of_some→QV,lt_size→Rb,get?_push_size→Rv,get?_update_other→Rz,get?_update_self→TF,SameBut→Uv
open Option.some renaming injEq→QX,inj→Sv
open Nat renaming le_refl→Ra,lt_of_lt_of_le→Rk,ne_of_lt→RL,le_trans→RP,add_sub_cancel_left→U8,lt_irrefl→Uh,zero_add→Ux,zero_le→Va,toDigits→W2,log2→W9,ne_of_gt→Wt,succ→X4
open False renaming elim→Rr
open PySem.SeqAt renaming EqAt→Su
open Ne renaming symm→SJ
open Function renaming comp_def→T6
open PySem.F renaming plain_max_loop→T9
open PySem.NameKind renaming free→Tf,cell→W3
open List.cons renaming injEq→Tj,inj→Vd
open PySem.Builtin.Str renaming occurrences→TV
open Int renaming toNat_natCast→U0,natCast_nonneg→Vy,le_refl→VD
open PySem.Txt renaming slice→U7,slice_le→Vn,join→VL
open PySem.Builtin.Slice renaming slicePlaces→Ue
open PySem.Builtin.Tuple renaming tupleExact→Ul
open PySem.Around renaming under_plainId→Um
open True renaming intro→Ur
open PyProof.Rows renaming sortedS→V9,AllBare→Vq,envOfC→VR,IntsAre→Ws,seqObj→Ww,pairsOf→WT,IsTup→Xb,arrOf→Xg
open Sum renaming inr→Vf,inl→We
open Prod.mk renaming injEq→Vi
open Array renaming length_toList→Vo,mk→WY
open PySem.Calls renaming spliced_cons→Vs
open ToString renaming toString→VF
open PySem.Obj renaming mapSeq→W0,mk→W8,mapFields→Wk
open PySem.Paired renaming length→W7
open PySem.ClassData renaming mk→Wa
open Eq renaming symm→Wh
open PySem.Data renaming fields→Wx,seq→WL,cls→X3
open Except renaming ok→WP
open LawfulBEq renaming eq_of_beq→X7
open MonadExcept renaming tryCatch→Xf
open Option renaming some→Z_,none→ZW
open Bool renaming true→ZX,false→ZZ
noncomputable section
namespace L2
open PySem PySem.Spec PyProof.Rows
abbrev Key:=Sum Int Str
noncomputable def oF:Key->Value->Bool
 | .inl k,v=>Value.isInt k v
 | .inr x,v=>Value.isStrOf x v
noncomputable def keyH(w:RX):Key->Int
 | .inl k=>hashInt k
 | .inr x=>hashStr w x
def bc:∀{k:Key}{v:Value},oF k v=ZX->(∃i t,k=We i/\v=Value.int i t)\/(∃x t,k=Vf x/\v=Value.str x t)
 | .inl i,v,h=>by
   obtain⟨t,e⟩:=Value.isInt_shape (k:=i) (v:=v) h;exact .inl ⟨i,t,rfl,e⟩
 | .inr x,v,h=>by
   obtain⟨t,e⟩:=Value.isStrOf_shape (x:=x) (v:=v) h;exact .inr ⟨x,t,rfl,e⟩
def v9(i:Int)(t:Tok):oF (.inl i) (.int i t)=ZX:=by simp[oF,Value.isInt]
def yf(x:Str)(t:Tok):oF (.inr x) (.str x t)=ZX:=by simp[oF,Value.isStrOf]
def Nh(a b:Int):decide ((We a:Key)=We b)=(a==b):=by
 by_cases e:a=b
 .subst e;simp
 .have h:¬(We a:Key)=We b:=λq=>e (We.inj q)
  rw[decide_eq_false h];exact(beq_eq_false_iff_ne.mpr e).symm
def Nq(a b:Str):decide ((Vf a:Key)=Vf b)=decide (a=b):=by
 by_cases e:a=b
 .subst e;simp
 .have h:¬(Vf a:Key)=Vf b:=λq=>e (Vf.inj q)
  rw[decide_eq_false h,decide_eq_false e]
def Kl(a:Int)(b:Str):decide ((We a:Key)=Vf b)=ZZ:=decide_eq_false (λq=>nomatch q)
def Kv(a:Str)(b:Int):decide ((Vf a:Key)=We b)=ZZ:=decide_eq_false (λq=>nomatch q)
noncomputable def bD(prog:Rt)(w:RX):PySem.KeyKind prog w Key where
 is:=oF
 hash:=keyH w
 inj:=λv a b ha hb=>by
  rcases bc ha with⟨i,t,rfl,rfl⟩ | ⟨x,t,rfl,rfl⟩
  .rcases bc hb with⟨j,u,rfl,e⟩ | ⟨y,u,rfl,e⟩
   .injection e with e1 _;rw[e1]
   .exact nomatch e
  .rcases bc hb with⟨j,u,rfl,e⟩ | ⟨y,u,rfl,e⟩
   .exact nomatch e
   .injection e with e1 _;rw[e1]
 byValue:=λk v h=>by
  rcases bc h with⟨i,t,rfl,rfl⟩ | ⟨x,t,rfl,rfl⟩<;>rfl
 pyHash:=λhv h=>by
  rcases bc hv with⟨i,t,rfl,rfl⟩ | ⟨x,t,rfl,rfl⟩
  .exact wpAny_pyHash_int h
  .exact wpAny_pyHash_str h
 eqBool:=λhu hv h=>by
  rcases bc hu with⟨i,t,rfl,rfl⟩ | ⟨x,t,rfl,rfl⟩
  .rcases bc hv with⟨j,u,rfl,rfl⟩ | ⟨y,u,rfl,rfl⟩
   .rw[Nh]at h;exact wpAny_eqBool_int h
   .rw[Kl]at h;exact Su.int_str i t y u _ _ _ _ h
  .rcases bc hv with⟨j,u,rfl,rfl⟩ | ⟨y,u,rfl,rfl⟩
   .rw[Kv]at h;exact Su.str_int x t j u _ _ _ _ h
   .rw[Nq]at h;exact wpAny_eqBool_str h
 «strs»:=λk x t v h=>by
  rcases bc h with⟨i,u,rfl,e⟩ | ⟨y,u,rfl,e⟩
  .exact nomatch e
  .injection e with e1 _
   subst e1;cases v<;>rfl
def pH(prog:Rt)(w:RX)(i:Int)(t:Tok):(bD prog w).is (.inl i) (.int i t)=ZX:=v9 i t
def pR(prog:Rt)(w:RX)(x:Str)(t:Tok):(bD prog w).is (.inr x) (.str x t)=ZX:=yf x t
inductive V where
 | non | bl (b:Bool) | int (i:Int) | str (x:Str) | byt (b:Array UInt8) | flt (b:UInt64) | ref (a:Addr) | ty (n:String)
 deriving DecidableEq
def RelV:V->Value->Prop
 | .non,u=>u=Value.none
 | .bl b,u=>u=Value.bool b
 | .int i,u=>∃t,u=Value.int i t
 | .str x,u=>∃t,u=Value.str x t
 | .byt b,u=>∃t,u=Value.bytes b t
 | .flt b,u=>∃t,u=Value.float b t
 | .ref a,u=>u=Value.ref a
 | .ty n,u=>u=Value.type n
abbrev Vals:List V->List Value->Prop:=Vl RelV
theorem Vals.length(r:Vals xs us):xs.length=us.length:=W7 r
theorem Vals.get:∀{xs:List V}{us:List Value}{i:Nat}{x:V},Vals xs us->xs[i]?=Z_ x->∃u,us[i]?=Z_ u/\RelV x u
 | _,_,_,_,.nil,e=>by simp at e
 | _,_,0,_,.cons r _,e=>by simp at e;subst e;exact⟨_,rfl,r⟩
 | _,_,i+1,x,.cons _ t,e=>by
   obtain⟨u,h1,h2⟩:=Vals.get (i:=i) (x:=x) t (by simpa using e);exact⟨u,by simpa using h1,h2⟩
theorem Vals.set(r:RelV x u):∀{xs:List V}{us:List Value}(i:Nat),Vals xs us->Vals (xs.set i x) (us.set i u)
 | _,_,_,.nil=>.nil
 | _,_,0,.cons _ t=>.cons r t
 | _,_,i+1,.cons q t=>.cons q (Vals.set r i t)
theorem Vals.append:∀{xs ys:List V}{us ws:List Value},Vals xs us->Vals ys ws->Vals (xs++ys) (us++ws)
 | _,_,_,_,.nil,s=>s
 | _,_,_,_,.cons r t,s=>.cons r (Vals.append t s)
theorem Vals.take:∀{xs:List V}{us:List Value}(n:Nat),Vals xs us->Vals (xs.take n) (us.take n)
 | _,_,0,_=>.nil
 | _,_,_+1,.nil=>.nil
 | _,_,n+1,.cons r t=>.cons r (Vals.take n t)
theorem Vals.drop:∀{xs:List V}{us:List Value}(n:Nat),Vals xs us->Vals (xs.drop n) (us.drop n)
 | _,_,0,r=>r
 | _,_,_+1,.nil=>.nil
 | _,_,n+1,.cons _ t=>Vals.drop n t
def RelO:Option V->Option Value->Prop
 | some v,some u=>RelV v u
 | none,none=>True
 | _,_=>False
def KV{κ:Type}:List (κ×V)->List (κ×Value)->Prop:=Vl λ(p:κ×V)(q:κ×Value)=>p.1=q.1/\RelV p.2 q.2
noncomputable def kV:Key->V
 | .inl i=>.int i
 | .inr x=>.str x
inductive HO where
 | lst (xs:List V)
 | tup (xs:List V)
 | dK (kvs:List (Key×V)) (ep:Nat) | dT (kvs:List (List Key×V))
 | set (S:Int->Bool) (n:Nat)
 | ins (C dx:Addr) (fs:List (Str×V))
 | own (x:Addr)
 | xd (fs:List (Str×V))
 | met (f x:Addr)
 | rng (lo hi:Int)
 | frz (o:Obj) (u:HO)
 | tbl (ps:Array Value)
 | ext (φ:Rc->Prop)
abbrev Hp:=Addr->Option HO
noncomputable def upd(H:Hp)(a:Addr)(o:HO):Hp:=λb=>if b=a then some o else H b
def bA:upd H a o a=Z_ o:=by unfold upd;rw[if_pos rfl]
def aX(h:b≠a):upd H a o b=H b:=by unfold upd;rw[if_neg h]
def Oi{H:Hp}{a b:Addr}{o u:HO}(h:H a=Z_ o)(h':H b=Z_ u)(d:o≠u):a≠b:=by
 intro e;subst e;rw[h]at h';exact d (Sv h')
def bJ{H:Hp}{a b:Addr}{o:HO}(h:H a=Z_ o)(h':H b=ZW):a≠b:=by
 intro e;subst e;rw[h]at h';cases h'
section
variable(P:Rt)(w:RX)
def ObjOk(H:Hp)(h:Rc)(a:Addr):HO->Prop
 | .lst xs=>xs.length<=sizeLine/\∃(its:List Value)(n:Nat),Vals xs its/\h.get? a=Z_ { cls:=.type "list",data:=.seq its.toArray n }
 | .tup xs=>xs.length<=sizeLine/\∃its:List Value,Vals xs its/\Xb h a its.toArray
 | .dK kvs ep=>kvs.length<=sizeLine/\(a==U6)=ZZ/\∃vs,KV kvs vs/\h.DictAt (bD P w) a vs ep
 | .dT kvs=>kvs.length<=sizeLine/\(a==U6)=ZZ/\∃xs:List (List Key×Addr×Value),
  Vl (λ(p:List Key×V)(q:List Key×Addr×Value)=>p.1=q.1/\H q.2.1=Z_ (.tup (p.1.map kV))/\RelV p.2 q.2.2) kvs xs /\
  ∃o es ep,h.get? a=Z_ o/\o.ExactDict/\o.data=.dict es ep/\es.toList=xs.map (entryOfKey (Wo (bD P w)))/\(xs.map (·.1)).Nodup
 | .set S n=>h.SetOf (intKind P w) a S n
 | .ins C dx fs=>H dx=Z_ (.own a)/\fs.length<=1000/\dx≠a/\h.get? a=Z_ (TQ C dx) /\
  ∃mA,h.Ns1 dx mA/\(∀f,RelO (fs.lookup f) (mA f))/\Wn mA (fs.map (·.1))
 | .own _=>∃o,h.get? a=Z_ o
 | .xd fs=>∃mA,h.Ns1 a mA/\∀f,RelO (fs.lookup f) (mA f)
 | .rng lo hi=>∃t u v,h.get? a=Z_ { cls:=.type "range",data:=.fields #[.int lo t,.int hi u,.int 1 v] }
 | .frz o u=>h.get? a=Z_ o/\ObjOk H h a u
 | .tbl ps=>h.get? a=Z_ { cls:=.none,data:=.fields ps }
 | .met f x=>h.get? a=Z_ (PySem.W.methodObj (.ref f) (.ref x))
 | .ext φ=>φ h/\(∃o,h.get? a=Z_ o)/\∀h1 h2:Rc,φ h1->(∀o,h1.get? a=Z_ o->h2.get? a=Z_ o)->φ h2
def HOk(H:Hp)(h:Rc):Prop:=∀a o,H a=Z_ o->ObjOk P w H h a o
end
section
variable{P:Rt}{w:RX}{H H':Hp}{h h':Rc}{a:Addr}{o:HO}
theorem ObjOk.lt(x:ObjOk P w H h a o):a<h.objs.size:=by
 cases o with
 | lst xs=>obtain⟨_,_,_,_,e⟩:=x;exact Rb e
 | tup xs=>obtain⟨_,_,_,p⟩:=x;exact p.lt
 | dK kvs ep=>obtain⟨_,_,_,_,o,_,e,_⟩:=x;exact Rb e
 | dT kvs=>obtain⟨_,_,_,_,o,_,_,e,_⟩:=x;exact Rb e
 | set S n=>obtain⟨o,_,_,_,e,_⟩:=x;exact Rb e
 | ins C dx fs=>obtain⟨_,_,_,e,_⟩:=x;exact Rb e
 | own y=>obtain⟨_,e⟩:=x;exact Rb e
 | xd fs=>obtain⟨_,⟨_,_,_,e,_⟩,_⟩:=x;exact Rb e
 | rng lo hi=>obtain⟨_,_,_,e⟩:=x;exact Rb e
 | frz ob u=>obtain⟨e,_⟩:=x;exact Rb e
 | tbl ps=>exact Rb (show h.get? a=Z_ _ from x)
 | met f y=>exact Rb (show h.get? a=Z_ _ from x)
 | ext φ=>obtain⟨_,⟨_,e⟩,_⟩:=x;exact Rb e
theorem Paired.mapP:∀{l₁:List α}{l₂:List β},Vl F l₁ l₂->(∀a b,F a b->G a b)->Vl G l₁ l₂
 | _,_,.nil,_=>.nil
 | _,_,.cons r t,f=>.cons (f _ _ r) (Paired.mapP t f)
def ObjOk.stay(x:ObjOk P w H h a o)(k:∀b u,(b=a\/H b=Z_ (.own a))->h.get? b=Z_ u->h'.get? b=Z_ u)
 (ho:∀b,H b=Z_ (.own a)->H' b=Z_ (.own a))(ht:∀b xs,H b=Z_ (.tup xs)->H' b=Z_ (.tup xs)):ObjOk P w H' h' a o:=by
 induction o with
 | lst xs=>obtain⟨z,its,n,r,e⟩:=x;exact⟨z,its,n,r,k _ _ (.inl rfl) e⟩
 | tup xs=>obtain⟨z,its,r,ob,e,c⟩:=x;exact⟨z,its,r,ob,k _ _ (.inl rfl) e,c⟩
 | dK kvs ep=>obtain⟨z,y,vs,r,ob,es,e,c⟩:=x;exact⟨z,y,vs,r,ob,es,k _ _ (.inl rfl) e,c⟩
 | dT kvs=>
   obtain⟨z,y,xs,r,ob,es,ep,e,c⟩:=x;exact⟨z,y,xs,Paired.mapP r λp q z=>⟨z.1,ht _ _ z.2.1,z.2.2⟩,ob,es,ep,k _ _ (.inl rfl) e,c⟩
 | set S n=>obtain⟨ob,es,ep,t,e,c⟩:=x;exact⟨ob,es,ep,t,k _ _ (.inl rfl) e,c⟩
 | ins C dx fs=>
   obtain⟨d,z,ne,e,mA,⟨od,es,ep,e2,c⟩,r⟩:=x;exact⟨ho _ d,z,ne,k _ _ (.inl rfl) e,mA,⟨od,es,ep,k _ _ (.inr d) e2,c⟩,r⟩
 | own y=>obtain⟨ob,e⟩:=x;exact⟨ob,k _ _ (.inl rfl) e⟩
 | xd fs=>obtain⟨mA,⟨od,es,ep,e,c⟩,r⟩:=x;exact⟨mA,⟨od,es,ep,k _ _ (.inl rfl) e,c⟩,r⟩
 | rng lo hi=>obtain⟨t,u,v,e⟩:=x;exact⟨t,u,v,k _ _ (.inl rfl) e⟩
 | frz ob u ih=>obtain⟨e,q⟩:=x;exact⟨k _ _ (.inl rfl) e,ih q⟩
 | tbl ps=>
   have e:h.get? a=Z_ { cls:=.none,data:=.fields ps }:=x;show h'.get? a=Z_ { cls:=.none,data:=.fields ps };exact k a _ (.inl rfl) e
 | met f y=>
   have e:h.get? a=Z_ (PySem.W.methodObj (.ref f) (.ref y)):=x;show h'.get? a=Z_ (PySem.W.methodObj (.ref f) (.ref y));exact k a _ (.inl rfl) e
 | ext φ=>obtain⟨p,⟨o,e⟩,st⟩:=x;exact⟨st _ _ p λo q=>k _ _ (.inl rfl) q,⟨o,k _ _ (.inl rfl) e⟩,st⟩
theorem HOk.lt(x:HOk P w H h)(e:H a=Z_ o):a<h.objs.size:=(x a o e).lt
def HOk.fresh(x:HOk P w H h)(e:h.objs.size<=a):H a=ZW:=by
 cases q:H a with
 | none=>rfl
 | some u=>exact absurd (Rk (x.lt q) e) (Uh _)
def HOk.kept(x:HOk P w H h)(k:∀b u,h.get? b=Z_ u->h'.get? b=Z_ u):HOk P w H h':=λa o e=>
 (x a o e).stay (λb u _ q=>k b u q) (λ_ q=>q) λ_ _ q=>q
def HOk.laid(x:HOk P w H h)(k:∀b u,h.get? b=Z_ u->h'.get? b=Z_ u)(hp:h.objs.size<=a)(new:ObjOk P w (upd H a o) h' a o):HOk P w (upd H a o) h':=λb u e=>by
 have hn:=x.fresh hp
 by_cases hb:b=a
 .subst hb;rw[bA]at e;cases e;exact new
 .rw[aX hb]at e
  exact(x b u e).stay (λc v _ q=>k c v q) (λc q=>by rw[aX (bJ q hn)];exact q) λc xs q=>by rw[aX (bJ q hn)];exact q
end
def Rd(H:Hp)(a:Addr)(u:HO):Prop:=H a=Z_ u\/∃o,H a=Z_ (.frz o u)
def Rd.ok(r:Rd H a u)(x:HOk P w H h):ObjOk P w H h a u:=by
 rcases r with r | ⟨o,r⟩
 .exact x a u r
 .obtain⟨_,q⟩:=x a _ r
  exact q
def Mut:Option HO->Prop
 | some (.lst _)=>True
 | some (.dK _ _)=>True
 | some (.dT _)=>True
 | some (.set _ _)=>True
 | some (.ins _ _ _)=>True
 | some (.ext _)=>True
 | _=>False
section
variable{P:Rt}{w:RX}{H:Hp}{h h':Rc}{x e:Addr}{o':HO}
def HOk.write(ok:HOk P w H h)(mu:Mut (H x))(he:e=x\/H e=Z_ (.own x))(k:∀b u,b≠e->h.get? b=Z_ u->h'.get? b=Z_ u)(heo:∃u,h'.get? e=Z_ u)
 (new:ObjOk P w (upd H x o') h' x o'):HOk P w (upd H x o') h':=λb u q=>by
 have nown:∀c y,H c=Z_ (.own y)->c≠x:=λc y r z=>by subst z;rw[r]at mu;exact mu
 have ntup:∀c xs,H c=Z_ (.tup xs)->c≠x:=λc xs r z=>by subst z;rw[r]at mu;exact mu
 by_cases hb:b=x
 .subst hb;rw[bA]at q;cases q;exact new
 .rw[aX hb]at q
  by_cases hbe:b=e
  .have q':H b=Z_ (.own x):=by
    rcases he with z | z
    .exact absurd (hbe.trans z) hb
    .rw[hbe];exact z
   rw[q]at q';cases q';obtain⟨v,hv⟩:=heo;exact⟨v,by rw[hbe];exact hv⟩
  .refine(ok b u q).stay (λc v hc r=>k c v ?_ r) (λc r=>by rw[aX (nown c b r)];exact r) λc xs r=>by rw[aX (ntup c xs r)];exact r
   rcases hc with rfl | hc
   .exact hbe
   .rintro rfl
    rcases he with z | z
    .exact nown c b hc z
    .rw[hc]at z;cases z;exact hb rfl
end
structure Un(fs ex:List Addr)(H H':Hp)(h h':Rc):Prop where
 keep:∀b o,h.get? b=Z_ o->H b=ZW->b∉fs->b∉ex->h'.get? b=Z_ o
 slot:∀b o,h.get? b=Z_ o->H b=ZW->b∈fs->b∉ex->∃sl,h'.get? b=Z_ { o with slots:=sl }
 free:∀b o,h.get? b=Z_ o->H b=ZW->b∉ex->H' b=ZW
 there:∀b o,h.get? b=Z_ o->b∉ex->∃o',h'.get? b=Z_ o'
 tups:∀b xs,H b=Z_ (.tup xs)->H' b=Z_ (.tup xs)
 frzs:∀b o u,H b=Z_ (.frz o u)->H' b=Z_ (.frz o u)
 tbls:∀b ps,H b=Z_ (.tbl ps)->∃more,H' b=Z_ (.tbl (ps++more))
section
variable{fs fs' ex ex':List Addr}{H H1 H2:Hp}{h h1 h2 h':Rc}{a x e:Addr}{o:HO}
def Un.any(u:Un fs ex H H1 h h1)(q:h.get? b=Z_ ob)(n:H b=ZW)(hx:b∉ex):∃sl,h1.get? b=Z_ { ob with slots:=sl }:=by
 by_cases hb:b∈fs
 .exact u.slot b ob q n hb hx
 .exact⟨ob.slots,u.keep b ob q n hb hx⟩
def Un.kept(k:∀b u,h.get? b=Z_ u->h'.get? b=Z_ u):Un fs ex H H h h' :=
 ⟨λb ob q _ _ _=>k b ob q,λb ob q _ _ _=>⟨ob.slots,k b ob q⟩,λ_ _ _ n _=>n,λb ob q _=>⟨ob,k b ob q⟩,λ_ _ q=>q,λ_ _ _ q=>q,λ_ ps q=>⟨#[],by rw[q];simp⟩⟩
def Un.refl:Un fs ex H H h h:=Un.kept λ_ _ q=>q
def Un.laid(k:∀b u,h.get? b=Z_ u->h'.get? b=Z_ u)(hp:h.objs.size<=a)(hn:H a=ZW):Un fs ex H (upd H a o) h h' where
 keep:=λb u q _ _ _=>k b u q
 slot:=λb u q _ _ _=>⟨u.slots,k b u q⟩
 free:=λb u q n _=>by rw[aX (RL (Rk (Rb q) hp))];exact n
 there:=λb u q _=>⟨u,k b u q⟩
 tups:=λb xs q=>by rw[aX (bJ q hn)];exact q
 frzs:=λb u xs q=>by rw[aX (bJ q hn)];exact q
 tbls:=λb ps q=>⟨#[],by rw[aX (bJ q hn),q];simp⟩
def Un.write(mu:Mut (H x))(he:e=x\/H e=Z_ (.own x))(k:∀b u,b≠e->h.get? b=Z_ u->h'.get? b=Z_ u)(heo:∃u,h'.get? e=Z_ u):Un fs ex H (upd H x o) h h':=by
 have hx:∀b,H b=ZW->b≠x:=λb n z=>by subst z;rw[n]at mu;exact mu
 have hb:∀b,H b=ZW->b≠e:=λb n z=>by
  subst z;rcases he with r | r
  .exact hx b n r
  .rw[n]at r;cases r
 have hm:∀b u,H b=Z_ u->¬Mut (Z_ u)->b≠x:=λb u q nm z=>by subst z;rw[q]at mu;exact nm mu
 refine⟨λb u q n _ _=>k b u (hb b n) q,λb u q n _ _=>⟨u.slots,k b u (hb b n) q⟩,λb u q n _=>by rw[aX (hx b n)];exact n,λb u q _=>?_,
  λb xs q=>by rw[aX (hm b _ q λz=>z)];exact q,λb u xs q=>by rw[aX (hm b _ q λz=>z)];exact q,λb ps q=>⟨#[],by rw[aX (hm b _ q λz=>z),q];simp⟩⟩
 by_cases hbe:b=e
 .subst hbe;exact heo
 .exact⟨u,k b u hbe q⟩
end
noncomputable def trk(h:Rc)(H:Hp):List Addr:=(Ru h.objs.size).filter λa=>(H a).isSome
noncomputable def hidT(h:Rc)(H:Hp):Rc:=PySem.W.hideAll h (trk h H)
def uK(h:Rc)(H:Hp):(hidT h H).objs.size=h.objs.size:=PySem.W.hideAll_size _ _
def Am(e:h.get? b=Z_ o)(n:H b=ZW):(hidT h H).get? b=Z_ o :=
 PySem.W.hideAll_get _ e λhm=>by
  have q:(H b).isSome=ZX:=(UT.mp hm).2;rw[n]at q;simp at q
def Jx(e:(hidT h H).get? b=Z_ o):h.get? b=Z_ o/\H b=ZW:=by
 have e':h.get? b=Z_ o:=PySem.W.of_hideAll (trk h H) e;refine⟨e',?_⟩
 cases q:H b with
 | none=>rfl
 | some x=>
   have hm:b∈trk h H:=UT.mpr ⟨W4.mpr (Rb e'),by simp[q]⟩;have z:(hidT h H).get? b=ZW:=PySem.W.hideAll_none (trk h H) hm;rw[z]at e;cases e
structure Mod(K:QK)(mg:Str->Option Value)(base:Rc):Prop where
 kin:K.In base
 glob:base.Ns RW mg
 blt:∃mb,base.Ns builtinsNs mb/\∀x:Str,x≠"__name__"->mb x=Tr x
 nolimit:base.NoLimit
structure Cx where
 prog:Rt
 w:RX
 K:QK
 mg:Str->Option Value
 base:Rc
 A:S5
 N:List Str
 s₀:Shared
 H₀:Hp
 env:Env
 outer:List Env
 stack:List Env
 ex:List Addr
 fn:Str->Bool
 calm:Bool
 pn:List (Addr×Obj)
 xe:Value->Shared->Prop
noncomputable def frs(l:List Env):List Addr:=l.filterMap (·.frame)
noncomputable abbrev Cx.fs(X:Cx):List Addr:=frs X.outer
def Vis(sc:Scope)(x:Str):Prop:=sc.names.lookup x=Z_ .local\/sc.names.lookup x=Z_ .cell\/sc.names.lookup x=Z_ .free
def Loc(sc:Scope)(x:Str):Prop:=sc.names.lookup x=Z_ .local\/sc.names.lookup x=Z_ .cell
def Look(env:Env)(h:Rc)(m:Str->Option Value)(x:Str)(u:Value):Prop :=
 (env.kindOf x=Z_ .local/\m x=Z_ u)\/((env.kindOf x=Z_ .cell\/env.kindOf x=Z_ .free)/\∃c,env.cells.lookup x=Z_ c/\h.IsCell c (Z_ u))
structure Cx.Ok(X:Cx):Prop where
 mod:Mod X.K X.mg X.base
 kind:X.env.scope.kind=.function
 glob:X.env.globals=RW
 blt:X.env.builtins=builtinsNs
 above:X.s₀.heap.objs.size<=X.env.locals
 inj:∀x y c,X.env.cells.lookup x=Z_ c->X.env.cells.lookup y=Z_ c->x=y
 has:∀x,(X.env.kindOf x=Z_ .cell\/X.env.kindOf x=Z_ .free)->∃c,X.env.cells.lookup x=Z_ c
 cab:∀x c,X.fn x=ZX->X.env.cells.lookup x=Z_ c->X.s₀.heap.objs.size<=c
 hd:X.calm=ZX->X.A.handled=ZW
 frames:X.A.frames=Z_ X.stack
 stk:X.stack=X.outer\/(X.stack=X.env::X.outer/\X.env.frame=Z_ X.env.locals)
 exf:∀b∈X.ex,b≠X.env.locals/\∀x c,X.env.cells.lookup x=Z_ c->c≠b
 bs:∀b o,X.base.get? b=Z_ o->X.s₀.heap.get? b=Z_ o/\X.H₀ b=ZW
 bsz:X.base.objs.size<=X.s₀.heap.objs.size
 noex:∀b o,X.base.get? b=Z_ o->b∉X.ex
 exfs:∀b∈X.ex,b∉X.fs
 funs:X.s₀.heap.FunFrames X.base X.outer
 frf:∀b∈X.fs,X.H₀ b=ZW
structure Inv(X:Cx)(pins:List (Addr×Obj))(σ:List (Option V))(H:Hp)(s:Shared):Prop where
 ok:X.Ok
 os:s.os=X.s₀.os
 bare:Vq s.gens
 base:Un X.fs X.ex X.H₀ H X.s₀.heap s.heap
 loc:∃m,s.heap.Ns X.env.locals m/\∀(i:Nat)(x:Str)(v:V),X.N[i]?=Z_ x->σ[i]?=Z_ (Z_ v)->Vis X.env.scope x->∃u,RelV v u/\Look X.env s.heap m x u
 cell:∀x c,X.env.cells.lookup x=Z_ c->∃v,s.heap.IsCell c v
 free:H X.env.locals=ZW
 freeC:∀x c,X.env.cells.lookup x=Z_ c->H c=ZW
 pin:∀p∈X.pn++pins,s.heap.get? p.1=Z_ p.2/\H p.1=ZW/\p.1≠X.env.locals/\p.1∉X.fs/\∀v,p.2.data≠.cell v
 hok:HOk X.prog X.w H s.heap
 len:σ.length=X.N.length
section
variable{X:Cx}{pins:List (Addr×Obj)}{σ:List (Option V)}{H H':Hp}{s:Shared}{h':Rc}
def Cx.Ok.nofr(ok:X.Ok)(e:X.base.get? b=Z_ o):b∉X.fs:=λhb=>by
 have:=(ok.funs.mem hb).1;rw[e]at this;cases this
theorem Inv.bs(I:Inv X pins σ H s):∀b o,X.base.get? b=Z_ o->s.heap.get? b=Z_ o/\H b=ZW:=λb o e=>
 ⟨I.base.keep b o (I.ok.bs b o e).1 (I.ok.bs b o e).2 (I.ok.nofr e) (I.ok.noex b o e),I.base.free b o (I.ok.bs b o e).1 (I.ok.bs b o e).2 (I.ok.noex b o e)⟩
def Inv.bk(I:Inv X pins σ H s):∀b o,X.base.get? b=Z_ o->s.heap.get? b=Z_ o:=λb o e=>(I.bs b o e).1
theorem Inv.mod(I:Inv X pins σ H s):Mod X.K X.mg X.base:=I.ok.mod
def Inv.kIn(I:Inv X pins σ H s):X.K.In s.heap:=I.ok.mod.kin.keeps I.bk
theorem Inv.lt(I:Inv X pins σ H s):X.env.locals<s.heap.objs.size:=let⟨_,hn,_⟩:=I.loc;hn.lt
def Inv.sz(I:Inv X pins σ H s):X.s₀.heap.objs.size<=s.heap.objs.size:=RP I.ok.above (Nat.le_of_lt I.lt)
def Inv.nofs(I:Inv X pins σ H s)(h:s.heap.objs.size<=a):a∉X.fs:=λhb=>by
 obtain⟨_,o,ho,_⟩:=I.ok.funs.mem hb;exact absurd (Rk (Rb ho) (RP I.sz h)) (Uh _)
def Inv.cne(I:Inv X pins σ H s):∀x c,X.env.cells.lookup x=Z_ c->c≠X.env.locals:=λx c e z=>by
 obtain⟨v,o,ho,hd⟩:=I.cell x c e;obtain⟨m,⟨o',es,ep,ho',hd',_⟩,_⟩:=I.loc;rw[z,ho']at ho;cases ho;rw[hd']at hd;cases hd
theorem Inv.funs(I:Inv X pins σ H s):s.heap.FunFrames X.base X.outer:=by
 have all:∀(l:List Env),(∀b∈frs l,b∈X.fs)->X.s₀.heap.FunFrames X.base l->s.heap.FunFrames X.base l:=by
  intro l
  induction l with
  | nil=>intro _ _;trivial
  | cons env r ih=>
    intro hs hl;obtain⟨hk,⟨L,o,hf,hn,ho,hd⟩,hr⟩:=hl;have hL:L∈X.fs:=hs L (by unfold frs;rw[Uz,hf];exact QM)
    obtain⟨sl,e⟩:=I.base.slot L o ho (I.ok.frf L hL) hL λz=>I.ok.exfs L z hL
    exact⟨hk,⟨L,_,hf,hn,e,hd⟩,ih (λb hb=>hs b (by unfold frs;rw[Uz,hf];exact QQ _ hb)) hr⟩
 exact all X.outer (λ_ hb=>hb) I.ok.funs
theorem Inv.stack(I:Inv X pins σ H s):s.heap.FunFrames X.base X.stack:=by
 rcases I.ok.stk with e | ⟨e,hf⟩
 .rw[e];exact I.funs
 .rw[e]
  obtain⟨m,hn,_⟩:=I.loc;refine .cons (by rw[I.ok.kind];decide) hf hn ?_ I.funs;exact Rc.get?_none_of_le (RP I.ok.bsz I.ok.above)
def Inv.stkSub(I:Inv X pins σ H s):∀b∈frs X.stack,b∈X.env.locals::X.fs:=λb hb=>by
 rcases I.ok.stk with e | ⟨e,hf⟩
 .rw[e]at hb;exact QQ _ hb
 .rw[e]at hb
  unfold frs at hb;rw[Uz,hf]at hb;exact hb
def Inv.stkFree(I:Inv X pins σ H s):∀b∈frs X.stack,H b=ZW:=λb hb=>by
 rcases R8.mp (I.stkSub b hb)with e | hb
 .rw[e];exact I.free
 .obtain⟨_,o,ho,_⟩:=I.ok.funs.mem hb
  exact I.base.free b o ho (I.ok.frf b hb) λz=>I.ok.exfs b z hb
def Inv.step{g':Array GenState}{t':Nat}{d':Drawn}{ch:List Addr}(I:Inv X pins σ H s)
 (hch:∀b∈ch,(b∈X.ex\/X.s₀.heap.objs.size<=b)/\b≠X.env.locals/\(∀x c,X.env.cells.lookup x=Z_ c->c≠b)/\∀p∈X.pn++pins,p.1≠b)
 (keep:∀b o,b≠X.env.locals->b∉X.fs->b∉ch->s.heap.get? b=Z_ o->H b=ZW->h'.get? b=Z_ o)
 (slot:∀b o,b≠X.env.locals->b∈X.fs->b∉ch->s.heap.get? b=Z_ o->H b=ZW->∃sl,h'.get? b=Z_ { o with slots:=sl })(free:∀b o,b∉ch->s.heap.get? b=Z_ o->H b=ZW->H' b=ZW)
 (there:∀b o,b∉ch->s.heap.get? b=Z_ o->∃o',h'.get? b=Z_ o')
 (tups:∀b xs,H b=Z_ (.tup xs)->H' b=Z_ (.tup xs))(frzs:∀b o u,H b=Z_ (.frz o u)->H' b=Z_ (.frz o u))(tbls:∀b ps,H b=Z_ (.tbl ps)->∃more,H' b=Z_ (.tbl (ps++more)))
 (ns:∀m,s.heap.Ns X.env.locals m->h'.Ns X.env.locals m)(hok:HOk X.prog X.w H' h')(hg:Vq g') :
 Inv X pins σ H' { s with heap:=h',gens:=g',drawn:=d',toks:=t' }:=by
 have neL:∀b o,X.s₀.heap.get? b=Z_ o->b≠X.env.locals:=λb o e=>RL (Rk (Rb e) I.ok.above)
 have neC:∀b o,X.s₀.heap.get? b=Z_ o->b∉X.ex->b∉ch:=λb o e hx hb=>by
  rcases(hch b hb).1 with z | z
  .exact hx z
  .exact absurd (Rk (Rb e) z) (Uh _)
 have cellK:∀x c,X.env.cells.lookup x=Z_ c->∀v,s.heap.IsCell c v->h'.IsCell c v:=λx c e v ⟨o,ho,hd⟩=>by
  have nch:c∉ch:=λz=>(hch c z).2.2.1 x c e rfl
  by_cases hc:c∈X.fs
  .obtain⟨sl,q⟩:=slot c o (I.cne x c e) hc nch ho (I.freeC x c e)
   exact⟨_,q,hd⟩
  .exact⟨o,keep c o (I.cne x c e) hc nch ho (I.freeC x c e),hd⟩
 refine⟨I.ok,I.os,hg,⟨λb o e n hb hx=>?_,λb o e n hb hx=>?_,λb o e n hx=>?_,λb o e hx=>?_,λb xs e=>tups b xs (I.base.tups b xs e),λb o xs e=>frzs b o xs (I.base.frzs b o xs e),λb ps e=>?_⟩,?_,λx c e=>?_,?_,λx c e=>?_,λp hp=>?_,hok,I.len⟩
 .exact keep b o (neL b o e) hb (neC b o e hx) (I.base.keep b o e n hb hx) (I.base.free b o e n hx)
 .obtain⟨sl,e1⟩:=I.base.slot b o e n hb hx
  obtain⟨sl',e2⟩:=slot b _ (neL b o e) hb (neC b o e hx) e1 (I.base.free b o e n hx);exact⟨sl',e2⟩
 .obtain⟨o',e1⟩:=I.base.there b o e hx
  exact free b o' (neC b o e hx) e1 (I.base.free b o e n hx)
 .obtain⟨o',e1⟩:=I.base.there b o e hx
  exact there b o' (neC b o e hx) e1
 .obtain⟨m1,e1⟩:=I.base.tbls b ps e
  obtain⟨m2,e2⟩:=tbls b _ e1;exact⟨m1++m2,by rw[e2,Array.append_assoc]⟩
 .obtain⟨m,hn,hl⟩:=I.loc
  refine⟨m,ns m hn,λi x v e1 e2 e3=>?_⟩;obtain⟨u,r,l⟩:=hl i x v e1 e2 e3;refine⟨u,r,?_⟩;rcases l with l | ⟨k,c,e,z⟩
  .exact .inl l
  .exact .inr ⟨k,c,e,cellK x c e _ z⟩
 .obtain⟨v,z⟩:=I.cell x c e
  exact⟨v,cellK x c e v z⟩
 .obtain⟨m,⟨o,_,_,ho,_⟩,_⟩:=I.loc
  exact free _ o (λz=>(hch _ z).2.1 rfl) ho I.free
 .obtain⟨v,o,ho,hd⟩:=I.cell x c e
  exact free c o (λz=>(hch c z).2.2.1 x c e rfl) ho (I.freeC x c e)
 .obtain⟨e,n,ne,nf,d⟩:=I.pin p hp
  have nch:p.1∉ch:=λz=>(hch p.1 z).2.2.2 p hp rfl
  exact⟨keep p.1 p.2 ne nf nch e n,free p.1 p.2 nch e n,ne,nf,d⟩
def Inv.un{t':Nat}(I:Inv X pins σ H s)(u:Un X.fs [] H H' s.heap h')(hok:HOk X.prog X.w H' h'):Inv X pins σ H' { s with heap:=h',toks:=t' }:=by
 obtain⟨m,⟨o,es,ep,ho,r⟩,_⟩:=id I.loc;obtain⟨sl,hL⟩:=u.any ho I.free (by simp)
 exact I.step (g':=s.gens) (d':=s.drawn) (ch:=[]) (λ_ z=>nomatch z) (λb o _ hb _ e n=>u.keep b o e n hb (by simp)) (λb o _ hb _ e n=>u.slot b o e n hb (by simp)) (λb o _ e n=>u.free b o e n (by simp)) (λb o _ e=>u.there b o e (by simp)) u.tups u.frzs u.tbls (λm' hm=>by
  obtain⟨o',es',ep',ho',r'⟩:=hm;rw[ho]at ho';cases ho'
  exact⟨_,es',ep',hL,r'⟩) hok I.bare
def Inv.call{g':Array GenState}{t':Nat}{d':Drawn}{ch:List Addr}(I:Inv X pins σ H s)(u:Un (frs X.stack) ch H H' s.heap h')(hok:HOk X.prog X.w H' h')(hg:Vq g')
 (hch:∀b∈ch,(b∈X.ex\/X.s₀.heap.objs.size<=b)/\b≠X.env.locals/\(∀x c,X.env.cells.lookup x=Z_ c->c≠b)/\∀p∈X.pn++pins,p.1≠b) :
 Inv X pins σ H' { s with heap:=h',gens:=g',drawn:=d',toks:=t' }:=by
 obtain⟨m,⟨o,es,ep,ho,r⟩,_⟩:=id I.loc
 obtain⟨sl,hL⟩:=u.any ho I.free λz=>(hch _ z).2.1 rfl
 exact I.step (ch:=ch) hch (λb o hL hb hc e n=>u.keep b o e n (λz=>(R8.mp (I.stkSub b z)).elim hL hb) hc) (λb o _ _ hc e n=>u.any e n hc) (λb o hc e n=>u.free b o e n hc) (λb o hc e=>u.there b o e hc) u.tups u.frzs u.tbls (λm' hm=>by
  obtain⟨o',es',ep',ho',r'⟩:=hm;rw[ho]at ho';cases ho'
  exact⟨_,es',ep',hL,r'⟩) hok hg
def Inv.turned{t':Nat}{it:Addr}(I:Inv X pins σ H s)(k:∀b o,b≠it->s.heap.get? b=Z_ o->h'.get? b=Z_ o)(hn:H it=ZW)(hL:it≠X.env.locals)
 (h1:it∈X.ex\/X.s₀.heap.objs.size<=it)(h2:∀x c,X.env.cells.lookup x=Z_ c->c≠it)(h3:∀p∈X.pn++pins,p.1≠it):Inv X pins σ H { s with heap:=h',toks:=t' }:=by
 have nit:∀b u,H b=Z_ u->b≠it:=λb u e z=>by rw[z,hn]at e;cases e
 refine I.step (g':=s.gens) (d':=s.drawn) (ch:=[it]) (λb hb=>?_) (λb o _ _ hc e _=>k b o (λz=>hc (by simp[z])) e) (λb o _ _ hc e _=>⟨o.slots,k b o (λz=>hc (by simp[z])) e⟩) (λ_ _ _ _ n=>n)
  (λb o hc e=>⟨o,k b o (λz=>hc (by simp[z])) e⟩) (λ_ _ e=>e) (λ_ _ _ e=>e) (λb ps e=>⟨#[],by rw[e];simp⟩) (λm hm=>?_) (λb u e=>?_) I.bare
 .have e:b=it:=by simpa using hb
  subst e;exact⟨h1,hL,h2,h3⟩
 .obtain⟨o,es,ep,ho,r⟩:=hm
  exact⟨o,es,ep,k _ o (SJ hL) ho,r⟩
 .refine(I.hok b u e).stay (λc v hc q=>k c v ?_ q) (λ_ q=>q) λ_ _ q=>q
  rcases hc with z | z
  .rw[z];exact nit b u e
  .exact nit c _ z
def Inv.tok(I:Inv X pins σ H s)(t:Nat):Inv X pins σ H { s with toks:=t }:=I.un (h':=s.heap) (t':=t) Un.refl I.hok
theorem Inv.kept(I:Inv X pins σ H s)(k:∀b u,s.heap.get? b=Z_ u->h'.get? b=Z_ u):Inv X pins σ H { s with heap:=h',toks:=t' }:=I.un (Un.kept k) (I.hok.kept k)
theorem Inv.laid(I:Inv X pins σ H s)(k:∀b u,s.heap.get? b=Z_ u->h'.get? b=Z_ u)(hp:s.heap.objs.size<=a)(new:ObjOk X.prog X.w (upd H a o) h' a o) :
 Inv X pins σ (upd H a o) { s with heap:=h',toks:=t' }:=I.un (Un.laid k hp (I.hok.fresh hp)) (I.hok.laid k hp new)
theorem Inv.write(I:Inv X pins σ H s)(mu:Mut (H x))(he:e=x\/H e=Z_ (.own x))(k:∀b u,b≠e->s.heap.get? b=Z_ u->h'.get? b=Z_ u)(heo:∃u,h'.get? e=Z_ u)
 (new:ObjOk X.prog X.w (upd H x o) h' x o):Inv X pins σ (upd H x o) { s with heap:=h',toks:=t' }:=I.un (Un.write mu he k heo) (I.hok.write mu he k heo new)
def Inv.pins_of(I:Inv X pins σ H s)(h:∀p∈pins',s.heap.get? p.1=Z_ p.2/\H p.1=ZW/\p.1≠X.env.locals/\p.1∉X.fs/\∀v,p.2.data≠.cell v):Inv X pins' σ H s :=
 ⟨I.ok,I.os,I.bare,I.base,I.loc,I.cell,I.free,I.freeC,λp hp=>(Sg.mp hp).elim (λz=>I.pin p (Tn _ z)) (h p),I.hok,I.len⟩
def qU{N:List Str}(hN:N.Nodup){i j:Nat}{x:Str}(a:N[i]?=Z_ x)(b:N[j]?=Z_ x):i=j:=by
 obtain⟨h1,e1⟩:=R9.mp a;obtain⟨h2,e2⟩:=R9.mp b;exact(List.getElem_inj hN).mp (e1.trans e2.symm)
noncomputable def oM(I:Inv X pins σ H s)(hN:X.N.Nodup)(hi:X.N[i]?=Z_ x)(hx:Loc X.env.scope x)(r:RelV v u)
 (h:∀s',Inv X pins (σ.set i (Z_ v)) H s'->(∃a,Uv a s.heap s'.heap/\(a=X.env.locals\/X.env.cells.lookup x=Z_ a))->Q () s')(hf:X.fn x=ZX\/X.env.scope.names.lookup x=Z_ .local:=by first | exact .inl rfl | exact .inr rfl | assumption):Rg M A (storeName X.env x u) Q E s:=by
 obtain⟨m,hn,hl⟩:=id I.loc
 have hcls:(X.env.scope.kind==.class||(X.env.scope.kind==.module&&X.env.locals !=X.env.globals))=ZZ:=by rw[I.ok.kind];rfl
 have hiσ:i<σ.length:=by rw[I.len];exact(R9.mp hi).1
 have cne:=I.cne
 have tracked:∀{a:Addr}{h':Rc},(∃o,s.heap.get? a=Z_ o/\H a=ZW)->Uv a s.heap h'->HOk X.prog X.w H h':=λ{a h'} ha hs b ob e=>by
  obtain⟨_,_,hfree⟩:=ha
  refine(I.hok b ob e).stay (λc w' hc q=>(hs.2 c ?_).trans q) (λ_ q=>q) λ_ _ q=>q
  rintro rfl
  rcases hc with rfl | hc
  .rw[hfree]at e;cases e
  .rw[hfree]at hc;cases hc
 rcases hx with hk | hk
 .refine wpAny_storeName_local hk hn (λh' hn' hs=>?_) hcls
  obtain⟨oL,_,_,hoL,_⟩:=id hn;refine h _ ⟨I.ok,I.os,I.bare,⟨λb o e n hb hx=>?_,λb o e n hb hx=>?_,I.base.free,λb o e hx=>?_,I.base.tups,I.base.frzs,I.base.tbls⟩,⟨_,hn',λj y v' e1 e2 e3=>?_⟩,λy c e=>?_,I.free,I.freeC,λp hp=>?_,tracked ⟨oL,hoL,I.free⟩ hs,by simpa using I.len⟩ ⟨_,hs,.inl rfl⟩
  .exact(hs.2 b (RL (Rk (Rb e) I.ok.above))).trans (I.base.keep b o e n hb hx)
  .obtain⟨sl,e1⟩:=I.base.slot b o e n hb hx
   exact⟨sl,(hs.2 b (RL (Rk (Rb e) I.ok.above))).trans e1⟩
  .obtain⟨o',e1⟩:=I.base.there b o e hx
   exact⟨o',(hs.2 b (RL (Rk (Rb e) I.ok.above))).trans e1⟩
  .by_cases hj:j=i
   .subst hj
    rw[hi]at e1;cases e1;rw[RG hiσ]at e2;cases e2;exact⟨u,r,.inl ⟨hk,by simp⟩⟩
   .rw[RQ (SJ hj)]at e2
    obtain⟨u',r',q⟩:=hl j y v' e1 e2 e3;refine⟨u',r',?_⟩;rcases q with⟨k,e⟩ | ⟨k,c,e,z⟩
    .refine .inl ⟨k,?_⟩
     have:y≠x:=λe=>hj (qU hN e1 (e▸hi))
     simp[this,e]
    .exact .inr ⟨k,c,e,z.sameBut hs (cne y c e)⟩
  .obtain⟨w',z⟩:=I.cell y c e
   exact⟨w',z.sameBut hs (cne y c e)⟩
  .obtain⟨e,n,ne,nf,d⟩:=I.pin p hp
   exact⟨(hs.2 p.1 ne).trans e,n,ne,nf,d⟩
 .have hfn:X.fn x=ZX:=by
   rcases hf with z | z
   .exact z
   .rw[z]at hk;cases hk
  obtain⟨c,hc⟩:=I.ok.has x (.inl hk);obtain⟨w',z⟩:=I.cell x c hc;refine wpAny_storeName_cell I.ok.kind hk hc z (λh' hc' hs=>?_);obtain⟨oc,hoc,hocd⟩:=id z;refine h { s with heap:=h' } ⟨I.ok,I.os,I.bare,⟨λb o e n hb hx=>?_,λb o e n hb hx=>?_,I.base.free,λb o e hx=>?_,I.base.tups,I.base.frzs,I.base.tbls⟩,⟨m,hn.sameBut hs (SJ (cne x c hc)),λj y v' e1 e2 e3=>?_⟩,λy c' e=>?_,I.free,I.freeC,λp hp=>?_,tracked ⟨oc,hoc,I.freeC x c hc⟩ hs,by simpa using I.len⟩ ⟨c,hs,.inr hc⟩
  .exact(hs.2 b (RL (Rk (Rb e) (I.ok.cab x c hfn hc)))).trans (I.base.keep b o e n hb hx)
  .obtain⟨sl,e1⟩:=I.base.slot b o e n hb hx
   exact⟨sl,(hs.2 b (RL (Rk (Rb e) (I.ok.cab x c hfn hc)))).trans e1⟩
  .obtain⟨o',e1⟩:=I.base.there b o e hx
   exact⟨o',(hs.2 b (RL (Rk (Rb e) (I.ok.cab x c hfn hc)))).trans e1⟩
  .by_cases hj:j=i
   .subst hj
    rw[hi]at e1;cases e1;rw[RG hiσ]at e2;cases e2;exact⟨u,r,.inr ⟨.inl hk,c,hc,hc'⟩⟩
   .rw[RQ (SJ hj)]at e2
    obtain⟨u',r',q⟩:=hl j y v' e1 e2 e3;refine⟨u',r',?_⟩;rcases q with q | ⟨k,c',e,z'⟩
    .exact .inl q
    .refine .inr ⟨k,c',e,z'.sameBut hs ?_⟩
     rintro rfl
     exact hj (qU hN e1 (I.ok.inj _ _ _ e hc▸hi))
  .by_cases hcc:c'=c
   .subst hcc;exact⟨_,hc'⟩
   .obtain⟨w2,z2⟩:=I.cell y c' e
    exact⟨w2,z2.sameBut hs hcc⟩
  .obtain⟨e,n,ne,nf,d⟩:=I.pin p hp
   refine⟨(hs.2 p.1 ?_).trans e,n,ne,nf,d⟩;intro q;rw[q,hoc]at e;have q':oc=p.2:=Sv e;exact d w' (by rw[<-q'];exact hocd)
noncomputable def sJ(I:Inv X pins σ H s)(hN:X.N.Nodup)(hi:X.N[i]?=Z_ x)(hx:Loc X.env.scope x)(r:RelV v u)
 (h:∀s',Inv X pins (σ.set i (Z_ v)) H s'->Q () s')(hf:X.fn x=ZX\/X.env.scope.names.lookup x=Z_ .local:=by first | exact .inl rfl | exact .inr rfl | assumption):Rg M A (storeName X.env x u) Q E s :=
 oM I hN hi hx r (λs' I' _=>h s' I') hf
def Inv.call'(I:Inv X pins σ H s)(ho:s'.os=s.os)(u:Un (frs X.stack) ch H H' s.heap s'.heap)(hok:HOk X.prog X.w H' s'.heap)(hg:Vq s'.gens)
 (hch:∀b∈ch,(b∈X.ex\/X.s₀.heap.objs.size<=b)/\b≠X.env.locals/\(∀x c,X.env.cells.lookup x=Z_ c->c≠b)/\∀p∈X.pn++pins,p.1≠b):Inv X pins σ H' s':=by
 obtain⟨h',g',d',t',o'⟩:=s';have e:o'=s.os:=ho;subst e;exact I.call (g':=g') (t':=t') (d':=d') u hok hg hch
end
abbrev XK:=Value->Option Addr->Hp->Prop
abbrev St:=List (Option V)
abbrev VK:=V->Hp->Prop
abbrev TE:=St->Hp->VK->Prop
abbrev TT:=St->Hp->(Bool->Hp->Prop)->Prop
abbrev TA:=St->Hp->(List V->Hp->Prop)->Prop
structure Ends where
 nx:St->Hp->Prop
 rt:VK
 bk:St->Hp->Prop:=λ_ _=>False
 ct:St->Hp->Prop:=λ_ _=>False
abbrev TS:=Ends->St->Hp->Prop
def EP(X:Cx)(pins:List (Addr×Obj))(σ:St)(Q:VK)(u:Value)(s':Shared):Prop:=∃v H',Inv X pins σ H' s'/\RelV v u/\Q v H'
def TP(X:Cx)(pins:List (Addr×Obj))(σ:St)(Q:Bool->Hp->Prop)(b:Bool)(s':Shared):Prop:=∃H',Inv X pins σ H' s'/\Q b H'
def AP(X:Cx)(pins:List (Addr×Obj))(σ:St)(Q:List V->Hp->Prop)(us:List Value)(s':Shared):Prop:=∃vs H',Inv X pins σ H' s'/\Vals vs us/\Q vs H'
def SP(X:Cx)(pins:List (Addr×Obj))(D:Ends)(f:Flow)(s':Shared):Prop :=
 match f with
 | .next=>∃σ' H',Inv X pins σ' H' s'/\D.nx σ' H'
 | .brk=>∃σ' H',Inv X pins σ' H' s'/\D.bk σ' H'
 | .cont=>∃σ' H',Inv X pins σ' H' s'/\D.ct σ' H'
 | .ret u=>∃v σ' H',Inv X pins σ' H' s'/\RelV v u/\D.rt v H'
def PE(X:Cx)(e:Expr)(t:TE):Prop :=
 ∀(pins:List (Addr×Obj)) (s:Shared) (σ:St) (H:Hp) (Q:VK),Inv X pins σ H s->t σ H Q->Rg (Rm X.prog X.w) X.A (S8 e X.env) (EP X pins σ Q) X.xe s
def PT(X:Cx)(e:Expr)(t:TT):Prop :=
 ∀(pins:List (Addr×Obj)) (s:Shared) (σ:St) (H:Hp) (Q:Bool->Hp->Prop),Inv X pins σ H s->t σ H Q->Rg (Rm X.prog X.w) X.A (isTrue e X.env (S8 e X.env)) (TP X pins σ Q) X.xe s
def PW(X:Cx)(e:Expr)(t:TT):Prop :=
 ∀(whole:Sem Value) (pins:List (Addr×Obj)) (s:Shared) (σ:St) (H:Hp) (Q:Bool->Hp->Prop),Inv X pins σ H s->t σ H Q->Rg (Rm X.prog X.w) X.A (isTrue e X.env whole) (TP X pins σ Q) X.xe s
def PW.pt{X:Cx}{e:Expr}{t:TT}(h:PW X e t):PT X e t:=h _
def PA(X:Cx)(es:List Expr)(t:TA):Prop :=
 ∀(pos:Pos) (pins:List (Addr×Obj)) (s:Shared) (σ:St) (H:Hp) (Q:List V->Hp->Prop),Inv X pins σ H s->t σ H Q->Rg (Rm X.prog X.w) X.A (spliced (SQ pos (R3 es X.env))) (AP X pins σ Q) X.xe s
def PS(X:Cx)(st:Stmt)(t:TS):Prop :=
 ∀(pins:List (Addr×Obj)) (s:Shared) (σ:St) (H:Hp) (D:Ends),Inv X pins σ H s->t D σ H->Rg (Rm X.prog X.w) X.A (exec st X.env) (SP X pins D) X.xe s
def PSs(X:Cx)(st:List Stmt)(t:TS):Prop :=
 ∀(pins:List (Addr×Obj)) (s:Shared) (σ:St) (H:Hp) (D:Ends),Inv X pins σ H s->t D σ H->Rg (Rm X.prog X.w) X.A (execs st X.env) (SP X pins D) X.xe s
def thn{α:Type}{t:Sem α}{Q Q':α->Shared->Prop}{M:Model}{A:S5}{E:Value->Shared->Prop}{s:Shared}(h:Rg M A t Q E s)(hQ:∀a s,Q a s->Q' a s):Rg M A t Q' E s:=Tp h hQ λ_ _ x=>x
section
variable{X:Cx}
def tVar(i:Nat):TE:=fun σ H Q=>∃v,σ[i]?=Z_ (Z_ v)/\Q v H
def tC(v:V):TE:=λ_ H Q=>Q v H
noncomputable def iw(hN:X.N[i]?=Z_ x)(hv:Vis X.env.scope x)(hd:(x==("__debug__":Str))=ZZ:=by decide)(hcd:(x==("__classdict__":Str))=ZZ:=by decide):PE X (.Name x pos) (tVar i):=by
 intro pins s σ H Q I h;obtain⟨v,e,h⟩:=h;obtain⟨m,hn,hl⟩:=I.loc;obtain⟨u,r,l⟩:=hl i x v hN e hv
 have fin:EP X pins σ Q u s:=⟨v,H,I,r,h⟩
 rcases l with⟨hk,hm⟩ | ⟨hk,c,hc,hcell⟩
 .exact wpAny_Name (wpAny_loadName_local I.ok.kind hk hn hm fin) hd
 .rcases hk with hk | hk
  .exact wpAny_Name (wpAny_loadName_cell I.ok.kind hk hc hcell fin) hd
  .exact wpAny_Name (wpAny_loadName_free I.ok.kind hk hc hcell fin hcd) hd
def Nr:PE X (.Constant (.int i) j pos) (tC (.int i)):=λ_ _ _ H _ I h=>wpAny_Constant_int ⟨.int i,H,I.tok _,⟨_,rfl⟩,h⟩
def M6:PE X (.Constant (.bool b) j pos) (tC (.bl b)):=λ_ _ _ H _ I h=>Constant_bool ⟨.bl b,H,I,rfl,h⟩
def Mh:PE X (.Constant .none j pos) (tC .non):=λ_ _ _ H _ I h=>Constant_none ⟨.non,H,I,rfl,h⟩
def Lk:PE X (.Constant (.str x) j pos) (tC (.str x)):=λ_ _ _ H _ I h=>Calls.Constant_str ⟨.str x,H,I.tok _,⟨_,rfl⟩,h⟩
def Gl(X:Cx)(x:Str):Prop:=X.env.kindOf x=Z_ .globalImplicit
noncomputable def fZ(I:Inv X pins σ H s)(hg:Gl X x)(hm:X.mg x=Z_ u)(h:Q u s)
 (hd:(x==("__debug__":Str))=ZZ:=by decide):Rg (Rm X.prog X.w) X.A (S8 (.Name x pos) X.env) Q E s :=
 Calls.Name_function_global I.ok.kind hg (Calls.loadGlobal_global (by rw[I.ok.glob];exact I.mod.glob.keeps I.bk) hm h) hd
noncomputable def sY(I:Inv X pins σ H s)(hg:Gl X x)(hm:X.mg x=ZW)(hv:Tr x=Z_ u)(h:Q u s)
 (hn:x≠"__name__":=by decide)(hd:(x==("__debug__":Str))=ZZ:=by decide):Rg (Rm X.prog X.w) X.A (S8 (.Name x pos) X.env) Q E s:=by
 obtain⟨mb,h1,h2⟩:=I.mod.blt;exact Calls.Name_function_global I.ok.kind hg (Calls.loadGlobal_builtin (by rw[I.ok.glob];exact I.mod.glob.keeps I.bk) hm (by rw[I.ok.blt];exact h1.keeps I.bk) ((h2 x hn).trans hv) h) hd
noncomputable def HR(hg:Gl X x)(hm:X.mg x=Z_ u)(r:RelV v u)(hd:(x==("__debug__":Str))=ZZ:=by decide):PE X (.Name x pos) (tC v) :=
 λ_ _ _ H _ I h=>fZ I hg hm ⟨v,H,I,r,h⟩ hd
noncomputable def Hb(hg:Gl X x)(hm:X.mg x=ZW)(hv:Tr x=Z_ u)(r:RelV v u)(hn:x≠"__name__":=by decide)(hd:(x==("__debug__":Str))=ZZ:=by decide):PE X (.Name x pos) (tC v) :=
 λ_ _ _ H _ I h=>sY I hg hm hv ⟨v,H,I,r,h⟩ hn hd
variable{a b:Expr}{ta tb:TE}{pos:Pos}
def PC(X:Cx)(op:CmpOp)(a b:Expr)(t:TE):Prop :=
 ∀(pins:List (Addr×Obj)) (s:Shared) (σ:St) (H:Hp) (Q:VK),Inv X pins σ H s->t σ H Q ->
  Rg (Rm X.prog X.w) X.A (S8 a X.env) (λv s₁=>Rg (Rm X.prog X.w) X.A (S8 b X.env) (λu s₂=>Rg (Rm X.prog X.w) X.A (Tq op v u) (EP X pins σ Q) X.xe s₂) X.xe s₁) X.xe s
def tB(t:TE):TT:=fun σ H Q=>t σ H λx H1=>∃c,x=.bl c/\Q c H1
noncomputable def Dk{op:CmpOp}{t:TE}(h:PC X op a b t)(h1:Tu op b=ZZ:=by first | exact nobehind _ (by decide) (by decide) | rfl):PE X (.Compare a [op] [b] pos) t:=λpins s σ H Q I hw=>wpAny_Compare1 (h pins s σ H Q I hw) h1
noncomputable def Ep{op:CmpOp}{t:TE}(h:PC X op a b t)(h1:Tu op b=ZZ:=by first | exact nobehind _ (by decide) (by decide) | rfl):PT X (.Compare a [op] [b] pos) (tB t):=by
 intro pins s σ H Q I hw;refine wpAny_isTrue_Compare1 (thn (h pins s σ H _ I hw) λv s1 h1=>thn h1 λu s2 h2=>thn h2 λc s3 ⟨x,H1,I1,r1,q1⟩=>?_) h1;obtain⟨d,rfl,q⟩:=q1;cases r1;exact U3 ⟨H1,I1,q⟩
variable{tA tB':TT}{rest:List Expr}
def tAnd(t u:TT):TT:=fun σ H Q=>t σ H λc H1=>if c=ZX then u σ H1 Q else Q ZZ H1
def tOr(t u:TT):TT:=fun σ H Q=>t σ H λc H1=>if c=ZX then Q ZX H1 else u σ H1 Q
def tNot(t:TT):TT:=fun σ H Q=>t σ H λc H1=>Q (!c) H1
def HF(ha:PT X a tA):PW X (.BoolOp .And [a] pos) tA:=by
 intro wh pins s σ H Q I h;refine isTrue_and (thn (ha pins s σ H Q I h) λc s1 e=>?_)
 cases c with
 | true=>exact isTrue_and_nil e
 | false=>exact e
def Lj(ha:PT X a tA):PW X (.BoolOp .Or [a] pos) tA:=by
 intro wh pins s σ H Q I h;refine isTrue_or (thn (ha pins s σ H Q I h) λc s1 e=>?_)
 cases c with
 | false=>exact isTrue_or_nil e
 | true=>exact e
def Lh(ha:PT X a tA)(hb:PW X (.BoolOp .And (b::rest) pos) tB'):PW X (.BoolOp .And (a::b::rest) pos) (tAnd tA tB'):=by
 intro wh pins s σ H Q I h;refine isTrue_and (thn (ha pins s σ H _ I h) λc s1 ⟨H1,I1,q1⟩=>?_)
 cases c with
 | true=>exact hb wh pins s1 σ H1 Q I1 q1
 | false=>exact⟨H1,I1,q1⟩
def Q5(ha:PT X a tA)(hb:PW X (.BoolOp .Or (b::rest) pos) tB'):PW X (.BoolOp .Or (a::b::rest) pos) (tOr tA tB'):=by
 intro wh pins s σ H Q I h;refine isTrue_or (thn (ha pins s σ H _ I h) λc s1 ⟨H1,I1,q1⟩=>?_)
 cases c with
 | true=>exact⟨H1,I1,q1⟩
 | false=>exact hb wh pins s1 σ H1 Q I1 q1
def Kd(ha:PT X a tA):PT X (.UnaryOp .Not a pos) (tNot tA):=by
 intro pins s σ H Q I h;exact isTrue_not (ha pins s σ H (λc H1=>Q (!c) H1) I h)
def Oz(ta tb:TE):TE:=fun σ H Q=>ta σ H λx H1=>∃c,x=.bl c/\if c=ZX then tb σ H1 Q else Q (.bl ZZ) H1
def tOrV(ta tb:TE):TE:=fun σ H Q=>ta σ H λx H1=>∃c,x=.bl c/\if c=ZX then Q (.bl ZX) H1 else tb σ H1 Q
def KQ{op}{t:TE}(h:PE X a t):PE X (.BoolOp op [a] pos) t:=λpins s σ H Q I hw=>BoolOp_one (h pins s σ H Q I hw)
def JG(ha:PE X a ta)(hb:PE X (.BoolOp .And (b::rest) pos) tb):PE X (.BoolOp .And (a::b::rest) pos) (Oz ta tb):=by
 intro pins s σ H Q I h;refine BoolOp_and (thn (ha pins s σ H _ I h) λv s1 ⟨x,H1,I1,r1,q1⟩=>?_);obtain⟨c,rfl,q1⟩:=q1;cases r1;refine U3 ?_
 cases c with
 | true=>exact hb pins s1 σ H1 Q I1 q1
 | false=>exact⟨.bl ZZ,H1,I1,rfl,q1⟩
def Q7(ha:PE X a ta)(hb:PE X (.BoolOp .Or (b::rest) pos) tb):PE X (.BoolOp .Or (a::b::rest) pos) (tOrV ta tb):=by
 intro pins s σ H Q I h;refine BoolOp_or (thn (ha pins s σ H _ I h) λv s1 ⟨x,H1,I1,r1,q1⟩=>?_);obtain⟨c,rfl,q1⟩:=q1;cases r1;refine U3 ?_
 cases c with
 | false=>exact hb pins s1 σ H1 Q I1 q1
 | true=>exact⟨.bl ZX,H1,I1,rfl,q1⟩
def tIf(t:TT)(ta tb:TE):TE:=fun σ H Q=>t σ H λc H1=>if c=ZX then ta σ H1 Q else tb σ H1 Q
def rO(hc:PT X c tA)(ha:PE X a ta)(hb:PE X b tb):PE X (.IfExp c a b pos) (tIf tA ta tb):=by
 intro pins s σ H Q I h;refine wpAny_IfExp (thn (hc pins s σ H _ I h) λd s1 ⟨H1,I1,q1⟩=>?_)
 cases d with
 | true=>exact ha pins s1 σ H1 Q I1 q1
 | false=>exact hb pins s1 σ H1 Q I1 q1
end
def SqL(K:QK)(H:Hp)(a:Addr)(xs:List V):Prop :=
 Rd H a (.lst xs) \/
  ∃(o:Obj)(its:Array Value)(n:Nat),K.lookup a=Z_ o/\o.cls=.type "list"/\o.dict=ZW/\o.data=.seq its n/\its.size<=sizeLine/\Vals xs its.toList
def SqT(K:QK)(H:Hp)(a:Addr)(xs:List V):Prop :=
 Rd H a (.tup xs) \/
  ∃(o:Obj)(its:Array Value)(n:Nat),K.lookup a=Z_ o/\o.cls=.type "tuple"/\o.data=.seq its n/\its.size<=sizeLine/\Vals xs its.toList
noncomputable def absV:Value->Option V
 | .none=>some .non
 | .bool b=>some (.bl b)
 | .int i _=>some (.int i)
 | .str x _=>some (.str x)
 | .bytes b _=>some (.byt b)
 | .float b _=>some (.flt b)
 | .ref a=>some (.ref a)
 | .type n=>some (.ty n)
 | _=>none
def RelV.abs(r:RelV x u):absV u=Z_ x:=by
 cases x with
 | non=>cases r;rfl
 | bl _=>cases r;rfl
 | int _=>obtain⟨t,rfl⟩:=r;rfl
 | str _=>obtain⟨t,rfl⟩:=r;rfl
 | byt _=>obtain⟨t,rfl⟩:=r;rfl
 | flt _=>obtain⟨t,rfl⟩:=r;rfl
 | ref _=>cases r;rfl
 | ty _=>cases r;rfl
def RelV.inj(r:RelV x u)(q:RelV y u):x=y:=Sv (r.abs.symm.trans q.abs)
theorem Vals.inj:∀{xs ys:List V}{us:List Value},Vals xs us->Vals ys us->xs=ys
 | _,_,_,.nil,.nil=>rfl
 | _,_,_,.cons r t,.cons r' t'=>by rw[r.inj r',Vals.inj t t']
section
variable{X:Cx}{pins:List (Addr×Obj)}{σ:St}{H:Hp}{s:Shared}{a:Addr}{xs ys:List V}
def SqL.of{K:QK}(h:H a=Z_ (.lst xs)):SqL K H a xs:=.inl (.inl h)
def Inv.list(I:Inv X pins σ H s)(h:SqL X.K H a xs):∃its:List Value,Vals xs its/\PlainL s.heap a its.toArray/\xs.length<=sizeLine:=by
 rcases h with h | ⟨o,its,n,hk,hc,hd,hs,hz,r⟩
 .obtain⟨z,its,n,r,e⟩:=h.ok I.hok
  exact⟨its,r,⟨_,n,e,rfl,rfl,rfl⟩,z⟩
 .refine⟨its.toList,r,⟨o,n,I.kIn a o hk,hc,hd,by simpa using hs⟩,?_⟩
  have e:=r.length;simp only[Vo]at e;omega
def Inv.tuple(I:Inv X pins σ H s)(h:SqT X.K H a xs):∃its:List Value,Vals xs its/\Xb s.heap a its.toArray/\xs.length<=sizeLine:=by
 rcases h with h | ⟨o,its,n,hk,hc,hs,hz,r⟩
 .obtain⟨z,its,r,p⟩:=h.ok I.hok
  exact⟨its,r,p,z⟩
 .refine⟨its.toList,r,⟨o,I.kIn a o hk,hc,n,by simpa using hs⟩,?_⟩
  have e:=r.length;simp only[Vo]at e;omega
def Inv.list_inj(I:Inv X pins σ H s)(h:SqL X.K H a xs)(h':SqL X.K H a ys):xs=ys:=by
 obtain⟨its,r,⟨o,n,e,_,_,d⟩,_⟩:=I.list h;obtain⟨its',r',⟨o',n',e',_,_,d'⟩,_⟩:=I.list h';rw[e]at e';cases e';rw[d]at d';injection d' with d1 _
 have:its=its':=by simpa using congrArg Array.toList d1
 subst this;exact r.inj r'
def Inv.tuple_inj(I:Inv X pins σ H s)(h:SqT X.K H a xs)(h':SqT X.K H a ys):xs=ys:=by
 obtain⟨its,r,⟨o,e,_,n,d⟩,_⟩:=I.tuple h;obtain⟨its',r',⟨o',e',_,n',d'⟩,_⟩:=I.tuple h';rw[e]at e';cases e';rw[d]at d';injection d' with d1 _
 have:its=its':=by simpa using congrArg Array.toList d1
 subst this;exact r.inj r'
end
noncomputable abbrev Cx.wish(X:Cx)(E:Value->Shared->Prop):Cx:={ X with xe:=E }
noncomputable abbrev Cx.nox(X:Cx):Cx:=X.wish λ_ _=>False
theorem Cx.Ok.wish{X:Cx}(ok:X.Ok)(E:Value->Shared->Prop):(X.wish E).Ok :=
 ⟨ok.mod,ok.kind,ok.glob,ok.blt,ok.above,ok.inj,ok.has,ok.cab,ok.hd,ok.frames,ok.stk,ok.exf,ok.bs,ok.bsz,ok.noex,ok.exfs,ok.funs,ok.frf⟩
def Cx.Ok.unwish{X:Cx}{E:Value->Shared->Prop}(ok:(X.wish E).Ok):X.Ok :=
 ⟨ok.mod,ok.kind,ok.glob,ok.blt,ok.above,ok.inj,ok.has,ok.cab,ok.hd,ok.frames,ok.stk,ok.exf,ok.bs,ok.bsz,ok.noex,ok.exfs,ok.funs,ok.frf⟩
section
variable{X:Cx}{pins:List (Addr×Obj)}{σ:St}{H:Hp}{s:Shared}{E:Value->Shared->Prop}
theorem Inv.wish(I:Inv X pins σ H s)(E:Value->Shared->Prop):Inv (X.wish E) pins σ H s:=⟨I.ok.wish E,I.os,I.bare,I.base,I.loc,I.cell,I.free,I.freeC,I.pin,I.hok,I.len⟩
theorem Inv.unwish(I:Inv (X.wish E) pins σ H s):Inv X pins σ H s:=⟨I.ok.unwish,I.os,I.bare,I.base,I.loc,I.cell,I.free,I.freeC,I.pin,I.hok,I.len⟩
theorem SP.unwish{D:Ends}{f:Flow}{s':Shared}(h:SP (X.wish E) pins D f s'):SP X pins D f s':=by
 cases f with
 | next=>obtain⟨σ',H',I,q⟩:=h;exact⟨σ',H',I.unwish,q⟩
 | brk=>obtain⟨σ',H',I,q⟩:=h;exact⟨σ',H',I.unwish,q⟩
 | cont=>obtain⟨σ',H',I,q⟩:=h;exact⟨σ',H',I.unwish,q⟩
 | ret u=>obtain⟨v,σ',H',I,r,q⟩:=h;exact⟨v,σ',H',I.unwish,r,q⟩
theorem PE.nox{e:Expr}{t:TE}(h:PE X.nox e t):PE X e t:=λpins s σ H Q I hw=>
 Tp (h pins s σ H Q (I.wish _) hw) (λ_ _ ⟨v,H',I',r,q⟩=>⟨v,H',I'.unwish,r,q⟩) λ_ _ z=>Rr z
theorem PT.nox{e:Expr}{t:TT}(h:PT X.nox e t):PT X e t:=λpins s σ H Q I hw=>
 Tp (h pins s σ H Q (I.wish _) hw) (λ_ _ ⟨H',I',q⟩=>⟨H',I'.unwish,q⟩) λ_ _ z=>Rr z
end
section
variable{X:Cx}{st:Stmt}{rest:List Stmt}{t u:TS}{e:Expr}{te:TE}{pos:Pos}
def Pq:TS:=λD σ H=>D.nx σ H
def tSeq(t u:TS):TS:=λD σ H=>t { D with nx:=u D } σ H
def vo:PSs X [] Pq:=λ_ _ σ H _ I h=>wpAny_execs_nil ⟨σ,H,I,h⟩
def zA(h1:PS X st t)(h2:PSs X rest u):PSs X (st::rest) (tSeq t u):=by
 intro pins s σ H D I h;refine wpAny_execs_cons (thn (h1 pins s σ H { D with nx:=u D } I h) λf s1 q=>?_)
 cases f with
 | next=>
   obtain⟨σ',H',I',q⟩:=q;exact h2 pins s1 σ' H' D I' q
 | ret v=>exact q
 | brk=>exact q
 | cont=>exact q
def Inv.quiet(I:Inv X pins σ H s):interactive X.env=ZZ:=by simp[interactive,I.ok.kind]
def PP(te:TE):TS:=λD σ H=>te σ H λ_ H1=>D.nx σ H1
noncomputable def qp(he:PE X e te)(hs:Uc e none pos.line X.env=pure ZZ:=by rfl):PS X (.Expr e pos) (PP te):=by
 intro pins s σ H D I h;exact wpAny_Expr_any (thn (he pins s σ H _ I h) λv s1 ⟨x,H1,I1,r1,q1⟩=>⟨σ,H1,I1,q1⟩) I.quiet hs
def tRet(te:TE):TS:=λD σ H=>te σ H D.rt
def vB(he:PE X e te):PS X (.Return (Z_ e) pos) (tRet te):=by
 intro pins s σ H D I h;exact wpAny_Return_some (thn (he pins s σ H _ I h) λv s1 ⟨x,H1,I1,r1,q1⟩=>⟨x,σ,H1,I1,r1,q1⟩)
def tIfS(c:TT)(t u:TS):TS:=λD σ H=>c σ H λb H1=>if b=ZX then t D σ H1 else u D σ H1
def Qw(hc:PT X c tc)(ha:PSs X a t)(hb:PSs X b u):PS X (.If c a b pos) (tIfS tc t u):=by
 intro pins s σ H D I h;refine wpAny_If (thn (hc pins s σ H _ I h) λd s1 ⟨H1,I1,q1⟩=>?_)
 cases d with
 | true=>exact ha pins s1 σ H1 D I1 q1
 | false=>exact hb pins s1 σ H1 D I1 q1
end
abbrev TG:=V->St->Hp->(St->Hp->Prop)->Prop
abbrev TGs:=List V->St->Hp->(St->Hp->Prop)->Prop
def PG(X:Cx)(target:Expr)(t:TG):Prop :=
 ∀(pins:List (Addr×Obj)) (s:Shared) (σ:St) (H:Hp) (v:V) (u:Value) (Q:St->Hp->Prop),Inv X pins σ H s->RelV v u->t v σ H Q ->
  Rg (Rm X.prog X.w) X.A (VG target X.env u) (λ_ s'=>∃σ' H',Inv X pins σ' H' s'/\Q σ' H') X.xe s
def PGs(X:Cx)(ts:List Expr)(t:TGs):Prop :=
 ∀(pins:List (Addr×Obj)) (s:Shared) (σ:St) (H:Hp) (vs:List V) (us:List Value) (Q:St->Hp->Prop),Inv X pins σ H s->Vals vs us->t vs σ H Q ->
  Rg (Rm X.prog X.w) X.A (assignInOrder ((T7 ts X.env).map (·.2)) us) (λ_ s'=>∃σ' H',Inv X pins σ' H' s'/\Q σ' H') X.xe s
abbrev TSet:=V->V->V->Hp->(Hp->Prop)->Prop
def PSet(X:Cx)(t:TSet):Prop :=
 ∀(pins:List (Addr×Obj)) (s:Shared) (σ:St) (H:Hp) (o i v:V) (ov iv u:Value) (Q:Hp->Prop),Inv X pins σ H s->RelV o ov->RelV i iv->RelV v u->t o i v H Q ->
  Rg (Rm X.prog X.w) X.A (Xd ov iv u) (λ_ s'=>∃H',Inv X pins σ H' s'/\Q H') X.xe s
section
variable{X:Cx}{pos:Pos}
def tY(i:Nat):TG:=λv σ H Q=>Q (σ.set i (Z_ v)) H
noncomputable def mH(hN:X.N.Nodup)(hi:X.N[i]?=Z_ x)(hx:Loc X.env.scope x)(hf:X.fn x=ZX\/X.env.scope.names.lookup x=Z_ .local:=by first | exact .inl rfl | exact .inr rfl | assumption):PG X (.Name x pos) (tY i):=by
 intro pins s σ H v u Q I r h;exact wpAny_assign_Name (sJ I hN hi hx r (λs' I'=>⟨_,H,I',h⟩) hf)
def gNil:TGs:=λvs σ H Q=>vs=[]/\Q σ H
def Lr(t:TG)(u:TGs):TGs:=λvs σ H Q=>∃v r,vs=v::r/\t v σ H fun σ' H'=>u r σ' H' Q
def yj:PGs X [] gNil:=by
 intro pins s σ H vs us Q I r h;obtain⟨e,h⟩:=h;subst e;cases r;exact assignInOrder_nil ⟨σ,H,I,h⟩
noncomputable def tK{e:Expr}{es:List Expr}{t:TG}{u:TGs}(h1:PG X e t)(h2:PGs X es u)
 (hs:(T7 (e::es) X.env).map (·.2)=VG e X.env::(T7 es X.env).map (·.2):=by rfl):PGs X (e::es) (Lr t u):=by
 intro pins s σ H vs us Q I r h;obtain⟨v,vr,e1,h⟩:=h;subst e1
 cases r with
 | cons r rr=>
   rw[hs];refine assignInOrder_cons (thn (h1 pins s σ H _ _ _ I r h) λ_ s1 ⟨σ1,H1,I1,q1⟩=>?_);exact h2 pins s1 σ1 H1 _ _ Q I1 rr q1
def gTup(K:QK)(n:Nat)(t:TGs):TG:=λv σ H Q=>∃a xs,v=.ref a/\SqT K H a xs/\xs.length=n/\t xs σ H Q
noncomputable def Ej{es:List Expr}{k:Nat}{t:TGs}{n:Nat}(hc:X.calm=ZX)(h:PGs X es t)
 (hn:(T7 es X.env).length=n:=by rfl)(hst:(T7 es X.env).findIdx? (·.1)=ZW:=by rfl):PG X (.Tuple es k pos) (gTup X.K n t):=by
 intro pins s σ H v u Q I r hw;obtain⟨a,xs,e1,hq,hl,hw⟩:=hw;subst e1;cases r;obtain⟨its,rv,ht,hz⟩:=I.tuple hq
 refine assign_Tuple_tuple (I.ok.hd hc) ht (by simp[hn,<-hl,rv.length]) hst λh' hx=>?_
 have I1:Inv X pins σ H { s with heap:=h' }:=I.kept (t':=s.toks) λb o e=>hx b o (RL (Rb e)) e
 exact h pins _ σ H xs _ Q I1 (by simpa using rv) hw
def gSub(to ti:TE)(t:TSet):TG:=λv σ H Q=>to σ H λo H1=>ti σ H1 λi H2=>t o i v H2 λH3=>Q σ H3
noncomputable def JC{o i:Expr}{to ti:TE}{t:TSet}(ho:PE X o to)(hi:PE X i ti)(hs:PSet X t)
 (ha:∀v,VG (.Subscript o i pos) X.env v=(do
  let ov <-TX [v] (S8 o X.env)
  let iv <-TX [v,ov] (S8 i X.env)
  Vk pos
  TX [v,ov,iv] (Xd ov iv v)
  release [v,ov,iv] []):=by intro _;rfl):PG X (.Subscript o i pos) (gSub to ti t):=by
 intro pins s σ H v u Q I r h;rw[ha];refine QS (Vb (thn (ho pins s σ H _ I h) λov s1 ⟨x,H1,I1,r1,q1⟩=>?_));refine QS (Vb (thn (hi pins s1 σ H1 _ I1 q1) λiv s2 ⟨y,H2,I2,r2,q2⟩=>?_));refine QS (wpAny_standAt (QS (Vb (thn (hs pins s2 σ H2 x y v ov iv u _ I2 r1 r2 r q2) λ_ s3 ⟨H3,I3,q3⟩=>?_))));exact wpAny_release ⟨σ,H3,I3,q3⟩
def tAsg(te:TE)(g:TG):TS:=λD σ H=>te σ H λx H1=>g x σ H1 D.nx
noncomputable def Li(he:PE X e te)(hg:PG X tg g)(hs:swapsWithSole [tg] e pos.line X.env=pure ZZ:=by rfl)(hw:swappedStores [tg] e X.env=pure none:=by rfl)
 (h1:(T7 [tg] X.env).map (·.2)=[VG tg X.env]:=by rfl):PS X (.Assign [tg] e pos) (tAsg te g):=by
 intro pins s σ H D I h;refine wpAny_Assign_stores (thn (he pins s σ H _ I h) λv s1 ⟨x,H1,I1,r1,q1⟩=>?_) hs hw;rw[h1]
 exact thn (hg pins s1 σ H1 x v _ I1 r1 q1) λ_ s2 q=>q
noncomputable def Et(hN:X.N.Nodup)(hi:X.N[i]?=Z_ x)(hx:Loc X.env.scope x)(he:PE X e te)(hs:Uc e (Z_ (.Name x pos')) pos.line X.env=pure ZZ:=by rfl)(hf:X.fn x=ZX\/X.env.scope.names.lookup x=Z_ .local:=by first | exact .inl rfl | exact .inr rfl | assumption) :
 PS X (.Assign [.Name x pos'] e pos) (tAsg te (tY i)):=by
 intro pins s σ H D I h;refine wpAny_Assign_Name (thn (he pins s σ H _ I h) λv s1 ⟨y,H1,I1,r1,q1⟩=>?_) hs;exact sJ I1 hN hi hx r1 (λs2 I2=>⟨_,H1,I2,q1⟩) hf
end
section
variable{X:Cx}{pos:Pos}
def Ko(c:TT)(tb:TS):TS:=λD σ H=>∃W:Nat->St->Hp->Prop,(∃m,W m σ H)/\∀m σ H,W m σ H ->
 c σ H λb H1=>if b=ZX then ∃N:St->Hp->Prop,(∀σ' H',N σ' H'->∃m',m'<m/\W m' σ' H')/\tb { D with nx:=N,ct:=N,bk:=D.nx } σ H1 else D.nx σ H1
def Cd(hp:Us (Rm X.prog X.w) X.A X.env X.xe)(hc:PT X c tc)(hb:PSs X body tb):PS X (.While c body [] pos) (Ko tc tb):=by
 intro pins s σ H D I h;obtain⟨W,⟨m0,w0⟩,turn⟩:=h;refine wpAny_While (codeAny_whileLoop (λn s'=>∃σ' H',Inv X pins σ' H' s'/\W n σ' H') ?_ m0 ⟨σ,H,I,w0⟩)
 rintro n s1 ⟨σ1,H1,I1,w1⟩
 refine Uo hp (thn (hc pins s1 σ1 H1 _ I1 (turn n σ1 H1 w1)) λb s2 ⟨H2,I2,q2⟩=>?_)
 cases b with
 | true=>
   obtain⟨N,hN,q2⟩:=q2;rw[if_pos rfl];refine Uo hp (thn (hb pins s2 σ1 H2 _ I2 q2) λf s3 q3=>?_)
   cases f with
   | next=>
     obtain⟨σ3,H3,I3,n3⟩:=q3;obtain⟨m',hm,w3⟩:=hN σ3 H3 n3;exact⟨m',hm,σ3,H3,I3,w3⟩
   | cont=>
     obtain⟨σ3,H3,I3,n3⟩:=q3;obtain⟨m',hm,w3⟩:=hN σ3 H3 n3;exact⟨m',hm,σ3,H3,I3,w3⟩
   | brk=>exact q3
   | ret v=>exact q3
 | false=>
   rw[if_neg Rq];exact wpAny_execs_nil ⟨σ1,H2,I2,q2⟩
end
structure It where
 go:Nat->Hp->Prop
 yld:Nat->Hp->V->Hp->Prop
 stop:Nat->Hp->Prop
def FpOk(X:Cx)(pins:List (Addr×Obj))(H:Hp)(b:Addr):Prop :=
 H b=ZW/\b≠X.env.locals/\b∉X.fs/\(b∈X.ex\/X.s₀.heap.objs.size<=b)/\(∀x c,X.env.cells.lookup x=Z_ c->c≠b)/\∀p∈X.pn++pins,p.1≠b
def Inv.fpOk(I:Inv X pins σ H s)(hb:s.heap.objs.size<=b)(hn:H' b=ZW):FpOk X pins H' b:=by
 refine⟨hn,Wt (Rk I.lt hb),I.nofs hb,.inr (RP I.sz hb),λx c e z=>?_,λp hp z=>?_⟩
 .obtain⟨v,q⟩:=I.cell x c e
  exact absurd (Rk q.lt (by rw[z];exact hb)) (Uh _)
 .exact absurd (Rk (Rb (I.pin p hp).1) (by rw[z];exact hb)) (Uh _)
structure Turn(P:Rt)(w:RX)(K:QK)(tg:Expr)(J:It)(fp:List Addr)(it:Addr)(tn:Nat->Rc->Prop):Prop where
 mem:it∈fp
 obj:∀i h,tn i h->∀b∈fp,∃o,h.get? b=Z_ o/\∀v,o.data≠.cell v
 keep:∀i h h',tn i h->(∀b∈fp,∀o,h.get? b=Z_ o->h'.get? b=Z_ o)->tn i h'
 item:∀(X:Cx),X.prog=P->X.w=w->X.K=K->X.calm=ZX->∀(i:Nat) (pins:List (Addr×Obj)) (s:Shared) (σ:St) (H:Hp) (E:Value->Shared->Prop),Inv X pins σ H s->(∀b∈fp,FpOk X pins H b)->tn i s.heap->J.go i H ->
  Rg (Rm P w) X.A (WM (.ref it)) (λr s1=>∃u,r=Z_ u /\
   Rg (Rm P w) X.A (Wc tg (.ref it) u) (λ_ s2=>∃x H',Inv X pins σ H' s2/\RelV x u/\J.yld i H x H'/\tn (i+1) s2.heap/\∀b∈fp,H' b=ZW) E s1) E s
 done:∀(X:Cx),X.prog=P->X.w=w->X.K=K->X.calm=ZX->∀(i:Nat) (pins:List (Addr×Obj)) (s:Shared) (σ:St) (H:Hp) (E:Value->Shared->Prop),Inv X pins σ H s->(∀b∈fp,FpOk X pins H b)->tn i s.heap->J.stop i H ->
  Rg (Rm P w) X.A (WM (.ref it)) (λr s1=>r=ZW/\Inv X pins σ H s1) E s
 self:∀(A:S5)(i:Nat)(s:Shared)(Q:Value->Shared->Prop)(E:Value->Shared->Prop),tn i s.heap->Q (.ref it) s->Rg (Rm P w) A (pyIter (.ref it)) Q E s
abbrev TI:=St->Hp->(It->Hp->Prop)->Prop
def PIE(X:Cx)(pins:List (Addr×Obj))(σ:St)(tg:Expr)(R:It->Hp->Prop)(itv:Value)(s2:Shared):Prop :=
 ∃(it:Addr)(fp:List Addr)(tn:Nat->Rc->Prop)(J:It)(H':Hp),itv=.ref it/\Inv X pins σ H' s2/\Turn X.prog X.w X.K tg J fp it tn/\tn 0 s2.heap/\(∀b∈fp,FpOk X pins H' b)/\R J H'
def PI(X:Cx)(tg iter:Expr)(wi:TI):Prop :=
 ∀(pins:List (Addr×Obj)) (s:Shared) (σ:St) (H:Hp) (R:It->Hp->Prop),Inv X pins σ H s->wi σ H R ->
  Rg (Rm X.prog X.w) X.A (S8 iter X.env) (λv s1=>Rg (Rm X.prog X.w) X.A (pyIter v) (PIE X pins σ tg R) X.xe s1) X.xe s
def v6(ho:s.heap.get? it=Z_ o)(hc:o.cls=.type n)(hd:o.data=.fields vs)
 (hn:["enumerate","zip","dict_itemiterator","dict_reverseitemiterator","odict_iterator","itertools.zip_longest","itertools.pairwise"].contains n=ZZ)(hQ:Q () s):Rg M A (Wc tg (.ref it) u) Q E s:=by
 unfold Wc
 cases tg<;>first
  | exact Rh hQ
  | (cases u<;>first
   | exact Rh hQ
   | (refine QS (wpAny_load ho ?_)
      rw[hc,hd];show Rg M A (if(["enumerate","zip","dict_itemiterator","dict_reverseitemiterator","odict_iterator","itertools.zip_longest","itertools.pairwise"].contains n&&vs[0]?==Z_ (rawInt _))=ZX then _ else _) Q E s;rw[if_neg (by intro h;rw[hn,Bool.false_and]at h;cases h)]
      exact Rh hQ))
noncomputable def Itl(K:QK)(a:Addr):It :=
 ⟨λi H=>∃xs x,SqL K H a xs/\xs[i]?=Z_ x,λi H x H'=>H'=H/\∀xs,SqL K H a xs->xs[i]?=Z_ x,λi H=>∃xs,SqL K H a xs/\xs.length<=i⟩
noncomputable def Itt(K:QK)(a:Addr):It :=
 ⟨λi H=>∃xs x,SqT K H a xs/\xs[i]?=Z_ x,λi H x H'=>H'=H/\∀xs,SqT K H a xs->xs[i]?=Z_ x,λi H=>∃xs,SqT K H a xs/\xs.length<=i⟩
noncomputable def Itr(lo:Int)(n:Nat):It:=⟨λi _=>i<n,λi H x H'=>H'=H/\x=.int (lo+i),λi _=>n<=i⟩
def wW{P:Rt}{w:RX}{K:QK}{tg:Expr}(a it:Addr):Turn P w K tg (Itl K a) [it] it (λi h=>h.IsListIter it a i)where
 mem:=by simp
 obj:=λi h st b hb=>by
  have e:b=it:=by simpa using hb
  subst e;obtain⟨o,e,c,d⟩:=st;exact⟨o,e,λv z=>by rw[d]at z;cases z⟩
 keep:=λi h h' st k=>st.at λo e=>k it (by simp) o e
 item:=by
  intro X hP hw hK hc i pins s σ H E I hf st hg;subst hP hw hK;obtain⟨xs,x,hq,hx⟩:=hg;obtain⟨its,rv,p,hz⟩:=I.list hq;obtain⟨u,hu,ru⟩:=rv.get hx;obtain⟨f0,f1,f2,f3,f4,f5⟩:=hf it (by simp)
  refine wpAny_pyNext_list_item st p.isList (x:=u) (by simpa using hu) λh' st' sb=>?_
  have I1:Inv X pins σ H { s with heap:=h' }:=I.turned (t':=s.toks) (λb o hb e=>(sb.2 b hb).trans e) f0 f1 f3 f4 f5;obtain⟨o,e,c,d⟩:=id st';exact⟨u,rfl,v6 (s:={ s with heap:=h' }) e c d (by decide) ⟨x,H,I1,ru,⟨rfl,λys hy=>by rw[I.list_inj hy hq];exact hx⟩,st',λb hb=>(hf b hb).1⟩⟩
 done:=by
  intro X hP hw hK hc i pins s σ H E I hf st hg;subst hP hw hK;obtain⟨xs,hq,hx⟩:=hg;obtain⟨its,rv,p,hz⟩:=I.list hq;obtain⟨f0,f1,f2,f3,f4,f5⟩:=hf it (by simp);have hl:=rv.length
  exact wpAny_pyNext_list_end (I.ok.hd hc) st p.isList (by simp;omega) λh' eb=>⟨rfl,I.turned (t':=s.toks) (λb o hb e=>eb b o hb e) f0 f1 f3 f4 f5⟩
 self:=λ_ _ _ _ _ st h=>wpAny_pyIter_listiter st h
def uB{P:Rt}{w:RX}{K:QK}{tg:Expr}(a it:Addr):Turn P w K tg (Itt K a) [it] it (λi h=>h.IsTupleIter it a i)where
 mem:=by simp
 obj:=λi h st b hb=>by
  have e:b=it:=by simpa using hb
  subst e;obtain⟨o,e,c,d⟩:=st;exact⟨o,e,λv z=>by rw[d]at z;cases z⟩
 keep:=λi h h' st k=>st.at λo e=>k it (by simp) o e
 item:=by
  intro X hP hw hK hc i pins s σ H E I hf st hg;subst hP hw hK;obtain⟨xs,x,hq,hx⟩:=hg;obtain⟨its,rv,p,hz⟩:=I.tuple hq;obtain⟨u,hu,ru⟩:=rv.get hx;obtain⟨f0,f1,f2,f3,f4,f5⟩:=hf it (by simp)
  refine wpAny_pyNext_tuple_item st (show s.heap.IsTuple a its.toArray from p) (x:=u) (by simpa using hu) λh' st' sb=>?_
  have I1:Inv X pins σ H { s with heap:=h' }:=I.turned (t':=s.toks) (λb o hb e=>(sb.2 b hb).trans e) f0 f1 f3 f4 f5;obtain⟨o,e,c,d⟩:=id st';exact⟨u,rfl,v6 (s:={ s with heap:=h' }) e c d (by decide) ⟨x,H,I1,ru,⟨rfl,λys hy=>by rw[I.tuple_inj hy hq];exact hx⟩,st',λb hb=>(hf b hb).1⟩⟩
 done:=by
  intro X hP hw hK hc i pins s σ H E I hf st hg;subst hP hw hK;obtain⟨xs,hq,hx⟩:=hg;obtain⟨its,rv,p,hz⟩:=I.tuple hq;obtain⟨f0,f1,f2,f3,f4,f5⟩:=hf it (by simp);have hl:=rv.length
  exact wpAny_pyNext_tuple_end (I.ok.hd hc) st (show s.heap.IsTuple a its.toArray from p) (by simp;omega) λh' eb=>⟨rfl,I.turned (t':=s.toks) (λb o hb e=>eb b o hb e) f0 f1 f3 f4 f5⟩
 self:=λ_ _ _ _ _ st h=>wpAny_pyIter_tupleiter st h
def uh{P:Rt}{w:RX}{K:QK}{tg:Expr}(it:Addr)(lo:Int)(n:Nat):Turn P w K tg (Itr lo n) [it] it (λi h=>IsRangeIter h it (lo+(i:Nat)*1) ((n:Int)-(i:Nat)) 1)where
 mem:=by simp
 obj:=λi h st b hb=>by
  have e:b=it:=by simpa using hb
  subst e
  exact⟨_,st,λv z=>by
   have z':Wx _=WF.cell v:=z
   cases z'⟩
 keep:=λi h h' st k=>k it (by simp) _ st
 item:=by
  intro X hP hw hK hc i pins s σ H E I hf st hg;subst hP hw hK;obtain⟨f0,f1,f2,f3,f4,f5⟩:=hf it (by simp);have W:=Walks.range (prog:=X.prog) (w:=X.w) (I.ok.hd hc) it lo 1 n
  refine W.item i s _ _ hg st λv h' tk hv st' kk=>?_
  obtain⟨t,rfl⟩:=hv;have I1:Inv X pins σ H { s with heap:=h',toks:=tk }:=I.turned (λb o hb e=>kk b o (by simpa using hb) e) f0 f1 f3 f4 f5;refine⟨_,rfl,v6 (s:={ s with heap:=h',toks:=tk }) (n:="range_iterator") st' rfl rfl (by decide) ⟨.int (lo+i),H,I1,⟨t,?_⟩,⟨rfl,rfl⟩,st',λb hb=>(hf b hb).1⟩⟩;rw[Int.mul_one]
 done:=by
  intro X hP hw hK hc i pins s σ H E I hf st hg;subst hP hw hK;obtain⟨f0,f1,f2,f3,f4,f5⟩:=hf it (by simp)
  exact wpAny_pyNext_range_end (I.ok.hd hc) st (by have:n<=i:=hg;omega) λh' eb=>⟨rfl,I.turned (t':=s.toks) (λb o hb e=>eb b o hb e) f0 f1 f3 f4 f5⟩
 self:=λ_ _ _ _ _ st h=>wpAny_pyIter_rangeiter st h
section
variable{X:Cx}{tg:Expr}
def PL(K:QK)(tl:TE):TI:=fun σ H R=>tl σ H λx H1=>∃a,x=.ref a/\(∃xs,SqL K H1 a xs)/\R (Itl K a) H1
def iTup(K:QK)(tl:TE):TI:=fun σ H R=>tl σ H λx H1=>∃a,x=.ref a/\(∃xs,SqT K H1 a xs)/\R (Itt K a) H1
def Hr{l:Expr}{tl:TE}(hl:PE X l tl):PI X tg l (PL X.K tl):=by
 intro pins s σ H R I h
 refine thn (hl pins s σ H _ I h) λv s1 ⟨x,H1,I1,r1,q1⟩=>?_
 obtain⟨a,e,⟨xs,hq⟩,q⟩:=q1;subst e;cases r1;obtain⟨its,rv,p,hz⟩:=I1.list hq;refine wpAny_pyIter_list p.isList ?_;refine⟨s1.heap.objs.size,[s1.heap.objs.size],_,_,H1,rfl,I1.kept (t':=s1.toks) λb o e=>QV _ e,wW a _,⟨_,Rv _ rfl,rfl,rfl⟩,λb hb=>?_,q⟩
 have e:b=s1.heap.objs.size:=by simpa using hb
 subst e;exact I1.fpOk (Ra _) (I1.hok.fresh (Ra _))
def Lb{l:Expr}{tl:TE}(hl:PE X l tl):PI X tg l (iTup X.K tl):=by
 intro pins s σ H R I h
 refine thn (hl pins s σ H _ I h) λv s1 ⟨x,H1,I1,r1,q1⟩=>?_
 obtain⟨a,e,⟨xs,hq⟩,q⟩:=q1;subst e;cases r1;obtain⟨its,rv,p,hz⟩:=I1.tuple hq;refine wpAny_pyIter_tuple (show s1.heap.IsTuple a its.toArray from p) ?_;refine⟨s1.heap.objs.size,[s1.heap.objs.size],_,_,H1,rfl,I1.kept (t':=s1.toks) λb o e=>QV _ e,uB a _,⟨_,Rv _ rfl,rfl,rfl⟩,λb hb=>?_,q⟩
 have e:b=s1.heap.objs.size:=by simpa using hb
 subst e;exact I1.fpOk (Ra _) (I1.hok.fresh (Ra _))
def zB{pins:List (Addr×Obj)}{σ:St}{H:Hp}{s:Shared}{R:It->Hp->Prop}{E:Value->Shared->Prop}{lo hi:Int}{t u v:Tok}{tk:Nat}(I:Inv X pins σ H s)(h1:-(2 ^ 62)<=lo)(h2:lo<2 ^ 62)(h3:-(2 ^ 62)<=hi)(h4:hi<2 ^ 62)
 (q:R (Itr lo (hi-lo).toNat) H):Rg (Rm X.prog X.w) X.A (pyIter (.ref s.heap.objs.size)) (PIE X pins σ tg R) E { s with heap:=s.heap.push { cls:=.type "range",data:=.fields #[.int lo t,.int hi u,.int 1 v] },toks:=tk }:=by
 refine wpAny_pyIter_range (IsRange.new ..) (small_one h1 h2 h3 h4) ?_
 have I1:Inv X pins σ H { s with heap:=s.heap.push { cls:=.type "range",data:=.fields #[.int lo t,.int hi u,.int 1 v] },toks:=tk }:=I.kept λb o e=>QV _ e
 refine⟨(s.heap.push { cls:=.type "range",data:=.fields #[.int lo t,.int hi u,.int 1 v] }).objs.size,[(s.heap.push { cls:=.type "range",data:=.fields #[.int lo t,.int hi u,.int 1 v] }).objs.size],_,_,H,rfl,
  I1.kept (t':=tk) λb o e=>QV _ e,uh _ lo (hi-lo).toNat,?_,λb hb=>?_,q⟩
 .have e1:lo+((0:Nat):Int)*1=lo:=by simp
  have e2:(((hi-lo).toNat:Nat):Int)-((0:Nat):Int)=Sh.Range.rangeSize lo hi 1:=by rw[rangeSize_one];split<;>omega
  show IsRangeIter _ _ (lo+((0:Nat):Int)*1) ((((hi-lo).toNat:Nat):Int)-((0:Nat):Int)) 1;rw[e1,e2];exact Rv _ rfl
 .have e:b=(s.heap.push { cls:=.type "range",data:=.fields #[.int lo t,.int hi u,.int 1 v] }).objs.size:=by simpa using hb
  subst e;exact I1.fpOk (Ra _) (I1.hok.fresh (Ra _))
def Ol(ta:TA):TI:=fun σ H R=>ta σ H λvs H1=>∃j:Int,vs=[.int j]/\-(2 ^ 62)<=j/\j<2 ^ 62/\R (Itr 0 j.toNat) H1
noncomputable def z7{a:Expr}{ta:TA}{p pos:Pos}(hg:Gl X "range")(hm:X.mg "range"=ZW)(ha:PA X [a] ta)(hs:R3 [a] X.env=[(ZZ,S8 a X.env)]:=by rfl):PI X tg (.Call (.Name "range" p) [a] [] pos) (Ol ta):=by
 intro pins s σ H R I h;refine Call_ (sY I hg hm boot_range (PyProof.Rows.callWith_type1 (thn (ha pos pins s σ H _ I h) λus s1 ⟨vs,H1,I1,r1,q1⟩=>?_) hs rfl));obtain⟨j,e,q1,q2,q⟩:=q1;subst e
 cases r1 with
 | cons r rr=>
   cases rr;obtain⟨t,rfl⟩:=r;exact call_range_1 (zB I1 (by omega) (by omega) q1 q2 (by simpa using q))
def tFor(wi:TI)(g:TG)(tb:TS):TS:=λD σ H=>wi σ H λJ H1=>∃W:Nat->Nat->St->Hp->Prop,(∃m,W 0 m σ H1)/\∀i m σ H,W i m σ H ->
 (J.stop i H/\D.nx σ H)\/(J.go i H/\∃N:St->Hp->Prop,(∀σ' H',N σ' H'->∃m',m'<m/\W (i+1) m' σ' H')/\∀x H',J.yld i H x H'->g x σ H' fun σ2 H2=>tb { D with nx:=N,ct:=N,bk:=D.nx } σ2 H2)
noncomputable def oO(fp:List Addr)(h:Rc):List (Addr×Obj):=fp.filterMap λb=>(h.get? b).map λo=>(b,o)
def fH(hb:b∈fp)(e:h.get? b=Z_ o):(b,o)∈oO fp h:=List.mem_filterMap.mpr ⟨b,hb,by rw[e];rfl⟩
def wy(hp:p∈oO fp h):p.1∈fp/\h.get? p.1=Z_ p.2:=by
 obtain⟨b,hb,e⟩:=List.mem_filterMap.mp hp
 cases q:h.get? b with
 | none=>rw[q]at e;cases e
 | some o=>
   rw[q]at e;have e':(b,o)=p:=Sv e;subst e';exact⟨hb,q⟩
def Inv.pinned(I:Inv X pins σ H s)(hf:∀b∈fp,FpOk X pins H b)(ho:∀b∈fp,∃o,s.heap.get? b=Z_ o/\∀v,o.data≠.cell v):Inv X (pins++oO fp s.heap) σ H s :=
 I.pins_of λp hp=>(Sg.mp hp).elim (λz=>I.pin p (RZ _ z)) λz=>by
  obtain⟨hb,e⟩:=wy z;obtain⟨f0,f1,f2,_⟩:=hf p.1 hb;obtain⟨o,e',d⟩:=ho p.1 hb;rw[e]at e';cases e';exact⟨e,f0,f1,f2,d⟩
def Inv.unpinned(I:Inv X (pins++pl) σ H s):Inv X pins σ H s:=I.pins_of λp hp=>I.pin p (RZ _ (Tn _ hp))
noncomputable def Lq(hp:Us (Rm X.prog X.w) X.A X.env X.xe)(hc:X.calm=ZX)(hi:PI X tg iter wi)(hg:PG X tg g)(hb:PSs X body tb)
 (hs:∀x,Te iter X.env x=pure x:=by intro _;rfl):PS X (.For tg iter body [] pos) (tFor wi g tb):=by
 intro pins s σ H D I h;refine wpAny_For (thn (hi pins s σ H _ I h) λv s1 h1=>thn h1 λitv s2 h2=>?_) hs;obtain⟨it,fp,tn,J,H2,e,I2,T,st2,f2,W,⟨m0,w0⟩,turn⟩:=h2;subst e
 have stat:∀{H':Hp},(∀b∈fp,H' b=ZW)->∀b∈fp,FpOk X pins H' b:=λhn b hb=>⟨hn b hb,(f2 b hb).2⟩
 refine codeAny_forLoop_any (λn s'=>∃i σ' H',Inv X pins σ' H' s'/\tn i s'.heap/\(∀b∈fp,H' b=ZW)/\W i n σ' H') ?_ m0 ⟨0,σ,H2,I2,st2,λb hb=>(f2 b hb).1,w0⟩
 rintro n s3 ⟨i,σ3,H3,I3,st3,fr3,w3⟩
 rcases turn i n σ3 H3 w3 with⟨stop,qn⟩ | ⟨go,N,hN,step⟩
 .refine Uo hp (thn (T.done X rfl rfl rfl hc i pins s3 σ3 H3 X.xe I3 (stat fr3) st3 stop) λr s4 ⟨hr,I4⟩=>?_)
  subst hr;exact wpAny_execs_nil ⟨σ3,H3,I4,qn⟩
 .refine Uo hp (thn (T.item X rfl rfl rfl hc i pins s3 σ3 H3 X.xe I3 (stat fr3) st3 go) λr s4 ⟨u,hr,h4⟩=>?_)
  subst hr;refine Uo hp (thn h4 λ_ s5 ⟨x,H5,I5,r5,y5,st5,fr5⟩=>?_);have I5':=I5.pinned (stat fr5) (T.obj _ _ st5);refine Uo hp (thn (hg _ s5 σ3 H5 x u _ I5' r5 (step x H5 y5)) λ_ s6 ⟨σ6,H6,I6,q6⟩=>?_);refine Uo hp (thn (hb _ s6 σ6 H6 _ I6 q6) λf s7 q7=>?_)
  have again:∀{σ7:St} {H7:Hp},Inv X (pins++oO fp s5.heap) σ7 H7 s7->N σ7 H7->∃m,m<n/\∃i σ' H',Inv X pins σ' H' s7/\tn i s7.heap/\(∀b∈fp,H' b=ZW)/\W i m σ' H':=λ{σ7 H7} I7 n7=>by
   obtain⟨m',hm,w7⟩:=hN σ7 H7 n7;refine⟨m',hm,i+1,σ7,H7,I7.unpinned,T.keep _ _ _ st5 λb hb o e=>(I7.pin (b,o) (RZ _ (RZ _ (fH hb e)))).1,λb hb=>?_,w7⟩;obtain⟨o,e,d⟩:=T.obj _ _ st5 b hb;exact(I7.pin (b,o) (RZ _ (RZ _ (fH hb e)))).2.1
  cases f with
  | next=>obtain⟨σ7,H7,I7,n7⟩:=q7;exact again I7 n7
  | cont=>obtain⟨σ7,H7,I7,n7⟩:=q7;exact again I7 n7
  | brk=>obtain⟨σ7,H7,I7,q7⟩:=q7;exact⟨σ7,H7,I7.unpinned,q7⟩
  | ret v=>obtain⟨x7,σ7,H7,I7,r7,q7⟩:=q7;exact⟨x7,σ7,H7,I7.unpinned,r7,q7⟩
end
abbrev R2:=V->V->Hp->VK->Prop
def OpR(X:Cx)(f:Value->Value->Sem Value)(r:R2):Prop :=
 ∀(pins:List (Addr×Obj)) (s:Shared) (σ:St) (H:Hp) (x y:V) (v u:Value) (Q:VK),Inv X pins σ H s->RelV x v->RelV y u->r x y H Q ->
  Rg (Rm X.prog X.w) X.A (f v u) (EP X pins σ Q) X.xe s
def UnR(X:Cx)(f:Value->Sem Value)(r:V->Hp->VK->Prop):Prop :=
 ∀(pins:List (Addr×Obj)) (s:Shared) (σ:St) (H:Hp) (x:V) (v:Value) (Q:VK),Inv X pins σ H s->RelV x v->r x H Q ->
  Rg (Rm X.prog X.w) X.A (f v) (EP X pins σ Q) X.xe s
def CallR(X:Cx)(f:Value)(r:List V->Hp->VK->Prop):Prop :=
 ∀(pins:List (Addr×Obj)) (s:Shared) (σ:St) (H:Hp) (xs:List V) (us:List Value) (Q:VK),Inv X pins σ H s->Vals xs us->r xs H Q ->
  Rg (Rm X.prog X.w) X.A (call f us) (EP X pins σ Q) X.xe s
def TruR(X:Cx)(r:V->Hp->(Bool->Hp->Prop)->Prop):Prop :=
 ∀(pins:List (Addr×Obj)) (s:Shared) (σ:St) (H:Hp) (x:V) (v:Value) (Q:Bool->Hp->Prop),Inv X pins σ H s->RelV x v->r x H Q ->
  Rg (Rm X.prog X.w) X.A (truthy v) (TP X pins σ Q) X.xe s
def tOp(r:R2)(ta tb:TE):TE:=fun σ H Q=>ta σ H λx H1=>tb σ H1 λy H2=>r x y H2 Q
def tUn(r:V->Hp->VK->Prop)(ta:TE):TE:=fun σ H Q=>ta σ H λx H1=>r x H1 Q
def rI(C:Int->Int->Prop)(g:Int->Int->V):R2:=λx y H Q=>∃i j,x=.int i/\y=.int j/\C i j/\Q (g i j) H
def rI0(g:Int->Int->V):R2:=λx y H Q=>∃i j,x=.int i/\y=.int j/\Q (g i j) H
def rU(g:Int->V):V->Hp->VK->Prop:=λx H Q=>∃i,x=.int i/\Q (g i) H
section
variable{X:Cx}{a b c:Expr}{ta tb tc:TE}{pos:Pos}
def binT(ha:PE X a ta)(hb:PE X b tb){pins:List (Addr×Obj)}{s:Shared}{σ:St}{H:Hp}{R:V->V->Hp->Prop}(I:Inv X pins σ H s)
 (h:ta σ H λx H1=>tb σ H1 λy H2=>R x y H2){Q:Value->Shared->Prop}{f:Value->Value->Sem Value}
 (hf:∀v u s2 x y H2,Inv X pins σ H2 s2->RelV x v->RelV y u->R x y H2->Rg (Rm X.prog X.w) X.A (f v u) Q X.xe s2) :
 Rg (Rm X.prog X.w) X.A (S8 a X.env) (λv s₁=>Rg (Rm X.prog X.w) X.A (S8 b X.env) (λu s₂=>Rg (Rm X.prog X.w) X.A (f v u) Q X.xe s₂) X.xe s₁) X.xe s:=by
 refine thn (ha pins s σ H _ I h) λv s1 ⟨x,H1,I1,r1,q1⟩=>?_
 refine thn (hb pins s1 σ H1 _ I1 q1) λu s2 ⟨y,H2,I2,r2,q2⟩=>?_
 exact hf v u s2 x y H2 I2 r1 r2 q2
def O8(ho:OpR X (Ud op) r)(ha:PE X a ta)(hb:PE X b tb):PE X (.BinOp a op b pos) (tOp r ta tb):=by
 intro pins s σ H Q I h;exact wpAny_BinOp (binT ha hb I h λv u s2 x y H2 I2 rx ry q=>ho pins s2 σ H2 x y v u Q I2 rx ry q)
def Qh(ho:UnR X (unaryOp op) r)(ha:PE X a ta):PE X (.UnaryOp op a pos) (tUn r ta):=by
 intro pins s σ H Q I h;exact UnaryOp_ (thn (ha pins s σ H _ I h) λv s1 ⟨x,H1,I1,r1,q1⟩=>ho pins s1 σ H1 x v Q I1 r1 q1)
def opI{f:Value->Value->Sem Value}{C:Int->Int->Prop}{g:Int->Int->Int}
 (rule:∀(i j:Int)(t u:Tok)(s:Shared)(Q:Value->Shared->Prop)(E:Value->Shared->Prop),C i j->Q (.int (g i j) s.toks) { s with toks:=s.toks+1 }->Rg (Rm X.prog X.w) X.A (f (.int i t) (.int j u)) Q E s) :
 OpR X f (rI C λi j=>.int (g i j)):=by
 intro pins s σ H x y v u Q I rx ry h;obtain⟨i,j,rfl,rfl,hc,q⟩:=h;obtain⟨t,rfl⟩:=rx;obtain⟨t',rfl⟩:=ry;exact rule i j t t' s _ _ hc ⟨.int (g i j),H,I.tok _,⟨_,rfl⟩,q⟩
def opI0{f:Value->Value->Sem Value}{g:Int->Int->Int}
 (rule:∀(i j:Int)(t u:Tok)(s:Shared)(Q:Value->Shared->Prop)(E:Value->Shared->Prop),Q (.int (g i j) s.toks) { s with toks:=s.toks+1 }->Rg (Rm X.prog X.w) X.A (f (.int i t) (.int j u)) Q E s) :
 OpR X f (rI0 λi j=>.int (g i j)):=by
 intro pins s σ H x y v u Q I rx ry h;obtain⟨i,j,rfl,rfl,q⟩:=h;obtain⟨t,rfl⟩:=rx;obtain⟨t',rfl⟩:=ry;exact rule i j t t' s _ _ ⟨.int (g i j),H,I.tok _,⟨_,rfl⟩,q⟩
def opB0{f:Value->Value->Sem Value}{g:Int->Int->Bool}
 (rule:∀(i j:Int)(t u:Tok)(s:Shared)(Q:Value->Shared->Prop)(E:Value->Shared->Prop),Q (.bool (g i j)) s->Rg (Rm X.prog X.w) X.A (f (.int i t) (.int j u)) Q E s) :
 OpR X f (rI0 λi j=>.bl (g i j)):=by
 intro pins s σ H x y v u Q I rx ry h;obtain⟨i,j,rfl,rfl,q⟩:=h;obtain⟨t,rfl⟩:=rx;obtain⟨t',rfl⟩:=ry;exact rule i j t t' s _ _ ⟨.bl (g i j),H,I,rfl,q⟩
def CPow(i j:Int):Prop:=0<=j/\j<=1000000/\i.natAbs<2 ^ 64
def Lp:OpR X (Ud .Add) (rI0 λi j=>.int (i+j)):=opI0 λ_ _ _ _ _ _ _ q=>add_int q
def JQ:OpR X (Ud .Sub) (rI0 λi j=>.int (i-j)):=opI0 λ_ _ _ _ _ _ _ q=>sub_int q
def Fz:OpR X (Ud .Mod) (rI (λ_ j=>j≠0) λi j=>.int (i.fmod j)):=opI λ_ _ _ _ _ _ _ hc q=>mod_int' hc q
def N5:OpR X (Ud .Pow) (rI CPow λi j=>.int (i ^ j.toNat)):=opI λ_ _ _ _ _ _ _ hc q=>pow_int_small hc.1 hc.2.1 hc.2.2 q
def unI{f:Value->Sem Value}{g:Int->Int}
 (rule:∀(i:Int)(t:Tok)(s:Shared)(Q:Value->Shared->Prop)(E:Value->Shared->Prop),Q (.int (g i) s.toks) { s with toks:=s.toks+1 }->Rg (Rm X.prog X.w) X.A (f (.int i t)) Q E s) :
 UnR X f (rU λi=>.int (g i)):=by
 intro pins s σ H x v Q I rx h;obtain⟨i,rfl,q⟩:=h;obtain⟨t,rfl⟩:=rx;exact rule i t s _ _ ⟨.int (g i),H,I.tok _,⟨_,rfl⟩,q⟩
def KR:UnR X (unaryOp .USub) (rU λi=>.int (-i)):=unI λ_ _ _ _ _ q=>neg_int q
end
noncomputable def scal:V->V->Bool
 | .non,.non=>true | .non,.int _=>true | .int _,.non=>true | .non,.bl _=>true | .bl _,.non=>true | .non,.str _=>true | .str _,.non=>true
 | .int _,.int _=>true | .bl _,.bl _=>true | .str _,.str _=>true | .byt _,.byt _=>true
 | .int _,.str _=>true | .str _,.int _=>true | .bl _,.str _=>true | .str _,.bl _=>true
 | _,_=>false
def rEq:R2:=λx y H Q=>scal x y=ZX/\Q (.bl (decide (x=y))) H
def rNe:R2:=λx y H Q=>scal x y=ZX/\Q (.bl (!decide (x=y))) H
def wU:decide (V.int i=V.int j)=(i==j):=by
 rw[V2];simp
def Dw:decide (V.bl i=V.bl j)=(i==j):=by
 rw[V2];simp
def vI:decide (V.str i=V.str j)=(i==j):=by
 rw[V2];simp
def zc:decide (V.byt i=V.byt j)=(i.toList==j.toList):=by
 rw[V2];cases i;cases j;simp
section
variable{X:Cx}{a b c:Expr}{ta tb tc:TE}{pos:Pos}
def b7{pins:List (Addr×Obj)}{σ:St}{H:Hp}{s:Shared}{Q:VK}{k k':Bool}(I:Inv X pins σ H s)(q:Q (.bl k) H)(e:k=k'):EP X pins σ Q (.bool k') s:=by
 subst e;exact⟨.bl k,H,I,rfl,q⟩
def Pu:OpR X (Tq .Eq) rEq:=by
 intro pins s σ H x y v u Q I rx ry h;obtain⟨hs,q⟩:=h
 cases x with
 | non=>
   cases rx
   cases y with
   | non=>cases ry;exact PySem.EqNone.eq_none_none (b7 I q (by simp))
   | bl j=>cases ry;exact PySem.EqNone.eq_none_bool (b7 I q (by simp))
   | int j=>obtain⟨t',rfl⟩:=ry;exact PySem.EqNone.eq_none_int (b7 I q (by simp))
   | str j=>obtain⟨t',rfl⟩:=ry;exact PySem.EqNone.eq_none_str (b7 I q (by simp))
   | _=>exact absurd (show ZZ=ZX from hs) Rq
 | bl i=>
   cases rx
   cases y with
   | non=>cases ry;exact PySem.EqNone.eq_bool_none (b7 I q (by simp))
   | bl j=>cases ry;exact eq_bool (b7 I q Dw)
   | str j=>obtain⟨t',rfl⟩:=ry;exact PySem.EqMixed.eq_bool_str (b7 I q (by simp))
   | _=>exact absurd (show ZZ=ZX from hs) Rq
 | int i=>
   obtain⟨t,rfl⟩:=rx
   cases y with
   | non=>cases ry;exact PySem.EqNone.eq_int_none (b7 I q (by simp))
   | int j=>obtain⟨t',rfl⟩:=ry;exact eq_int (b7 I q wU)
   | str j=>obtain⟨t',rfl⟩:=ry;exact PySem.EqMixed.eq_int_str (b7 I q (by simp))
   | _=>exact absurd (show ZZ=ZX from hs) Rq
 | str i=>
   obtain⟨t,rfl⟩:=rx
   cases y with
   | non=>cases ry;exact PySem.EqNone.eq_str_none (b7 I q (by simp))
   | bl j=>cases ry;exact PySem.EqMixed.eq_str_bool (b7 I q (by simp))
   | int j=>obtain⟨t',rfl⟩:=ry;exact PySem.EqMixed.eq_str_int (b7 I q (by simp))
   | str j=>obtain⟨t',rfl⟩:=ry;exact eq_str (b7 I q vI)
   | _=>exact absurd (show ZZ=ZX from hs) Rq
 | byt i=>
   obtain⟨t,rfl⟩:=rx
   cases y with
   | byt j=>obtain⟨t',rfl⟩:=ry;exact PySem.W.eq_bytes (b7 I q zc)
   | _=>exact absurd (show ZZ=ZX from hs) Rq
 | _=>cases y<;>exact absurd (show ZZ=ZX from hs) Rq
def Qx:OpR X (Tq .NotEq) rNe:=by
 intro pins s σ H x y v u Q I rx ry h;obtain⟨hs,q⟩:=h
 cases x with
 | non=>
   cases rx
   cases y with
   | non=>cases ry;exact PySem.EqNone.ne_none_none (b7 I q (by simp))
   | bl j=>cases ry;exact PySem.EqNone.ne_none_bool (b7 I q (by simp))
   | int j=>obtain⟨t',rfl⟩:=ry;exact PySem.EqNone.ne_none_int (b7 I q (by simp))
   | str j=>obtain⟨t',rfl⟩:=ry;exact PySem.EqNone.ne_none_str (b7 I q (by simp))
   | _=>exact absurd (show ZZ=ZX from hs) Rq
 | bl i=>
   cases rx
   cases y with
   | non=>cases ry;exact PySem.EqNone.ne_bool_none (b7 I q (by simp))
   | bl j=>cases ry;exact ne_bool (b7 I q (congrArg not Dw))
   | str j=>obtain⟨t',rfl⟩:=ry;exact PySem.EqMixed.ne_bool_str (b7 I q (by simp))
   | _=>exact absurd (show ZZ=ZX from hs) Rq
 | int i=>
   obtain⟨t,rfl⟩:=rx
   cases y with
   | non=>cases ry;exact PySem.EqNone.ne_int_none (b7 I q (by simp))
   | int j=>obtain⟨t',rfl⟩:=ry;exact ne_int (b7 I q (congrArg not wU))
   | str j=>obtain⟨t',rfl⟩:=ry;exact PySem.EqMixed.ne_int_str (b7 I q (by simp))
   | _=>exact absurd (show ZZ=ZX from hs) Rq
 | str i=>
   obtain⟨t,rfl⟩:=rx
   cases y with
   | non=>cases ry;exact PySem.EqNone.ne_str_none (b7 I q (by simp))
   | bl j=>cases ry;exact PySem.EqMixed.ne_str_bool (b7 I q (by simp))
   | int j=>obtain⟨t',rfl⟩:=ry;exact PySem.EqMixed.ne_str_int (b7 I q (by simp))
   | str j=>obtain⟨t',rfl⟩:=ry;exact ne_str (b7 I q (congrArg not vI))
   | _=>exact absurd (show ZZ=ZX from hs) Rq
 | byt i=>
   obtain⟨t,rfl⟩:=rx
   cases y with
   | byt j=>obtain⟨t',rfl⟩:=ry;exact PySem.W.ne_bytes (b7 I q (congrArg not zc))
   | _=>exact absurd (show ZZ=ZX from hs) Rq
 | _=>cases y<;>exact absurd (show ZZ=ZX from hs) Rq
def Qj:OpR X (Tq .Lt) (rI0 λi j=>.bl (decide (i<j))):=opB0 λ_ _ _ _ _ _ _ q=>lt_int q
def Py:OpR X (Tq .Gt) (rI0 λi j=>.bl (decide (j<i))):=opB0 λ_ _ _ _ _ _ _ q=>gt_int q
def nq:OpR X (Tq .In) (λx y H Q=>∃i j,x=.str i/\y=.str j/\Q (.bl (!(TV j i 0 j.length 1).isEmpty)) H):=by
 intro pins s σ H x y v u Q I rx ry h;obtain⟨i,j,rfl,rfl,q⟩:=h;obtain⟨t,rfl⟩:=rx;obtain⟨t',rfl⟩:=ry;exact in_str (b7 I q rfl)
def iz:OpR X (Tq .NotIn) (λx y H Q=>∃i j,x=.str i/\y=.str j/\Q (.bl (!(!(TV j i 0 j.length 1).isEmpty))) H):=by
 intro pins s σ H x y v u Q I rx ry h;obtain⟨i,j,rfl,rfl,q⟩:=h;obtain⟨t,rfl⟩:=rx;obtain⟨t',rfl⟩:=ry;exact notIn_str (b7 I q rfl)
def OpR.or(h:OpR X f r)(h':OpR X f r'):OpR X f (λx y H Q=>r x y H Q\/r' x y H Q):=by
 intro pins s σ H x y v u Q I rx ry q;rcases q with q | q
 .exact h pins s σ H x y v u Q I rx ry q
 .exact h' pins s σ H x y v u Q I rx ry q
def jz(ho:OpR X (Tq op) r)(ha:PE X a ta)(hb:PE X b tb)(hm:Tu op b=ZZ):PE X (.Compare a [op] [b] pos) (tOp r ta tb):=by
 intro pins s σ H Q I h;exact wpAny_Compare1 (binT ha hb I h λv u s2 x y H2 I2 rx ry q=>ho pins s2 σ H2 x y v u Q I2 rx ry q) hm
def PK(t:TE):TT:=fun σ H Q=>t σ H λx H'=>∃k,x=.bl k/\Q k H'
def jg(ho:OpR X (Tq op) r)(ha:PE X a ta)(hb:PE X b tb)(hm:Tu op b=ZZ):PT X (.Compare a [op] [b] pos) (PK (tOp r ta tb)):=by
 intro pins s σ H Q I h
 refine wpAny_isTrue_Compare1 (thn (ha pins s σ H _ I h) λv s1 ⟨x,H1,I1,r1,q1⟩=>thn (hb pins s1 σ H1 _ I1 q1) λu s2 ⟨y,H2,I2,r2,q2⟩=>
  thn (ho pins s2 σ H2 x y v u _ I2 r1 r2 q2) λc s3 ⟨z,H3,I3,r3,k,e,q3⟩=>?_) hm
 subst e;cases r3;exact U3 ⟨H3,I3,q3⟩
def TruV(K:QK)(x:V)(H:Hp)(k:Bool):Prop :=
 match x with
 | .non=>k=ZZ
 | .bl b=>k=b
 | .int i=>k=(i !=0)
 | .str y=>y.length<=sizeLine/\k=((y.length:Int) !=0)
 | .byt y=>y.size<=sizeLine/\k=((y.size:Int) !=0)
 | .ref p=>(∃xs,SqL K H p xs/\k=!xs.isEmpty)\/(∃xs,SqT K H p xs/\k=!xs.isEmpty)\/∃kvs ep,H p=Z_ (.dK kvs ep)/\k=!kvs.isEmpty
 | _=>False
def uv(r:KV kvs vs):(!vs.isEmpty)=!kvs.isEmpty:=by
 cases r<;>rfl
def jO(r:Vals xs its):(!its.toArray.isEmpty)=!xs.isEmpty:=by
 cases r<;>simp
def jh:(sizeLine:Nat)<2 ^ 63:=by rw[Th];decide
def Ds:TruR X (λx H Q=>∃k,TruV X.K x H k/\Q k H):=by
 intro pins s σ H x v Q I rx h;obtain⟨k,e,q⟩:=h;have hl:=jh;have hs:sizeLine=16777216:=Th
 cases x with
 | non=>
   cases rx;have e':k=ZZ:=e;subst e';exact truthy_none ⟨H,I,q⟩
 | bl b=>
   cases rx;have e':k=b:=e;subst e';exact U3 ⟨H,I,q⟩
 | int i=>
   obtain⟨t,rfl⟩:=rx;have e':k=(i !=0):=e;subst e';exact PySem.P.truthy_int ⟨H,I,q⟩
 | str y=>
   obtain⟨t,rfl⟩:=rx;obtain⟨hy,e'⟩:y.length<=sizeLine/\k=((y.length:Int) !=0):=e;subst e';exact PySem.P.truthy_str (by omega) ⟨H,I.tok _,q⟩
 | byt y=>
   obtain⟨t,rfl⟩:=rx;obtain⟨hy,e'⟩:y.size<=sizeLine/\k=((y.size:Int) !=0):=e;subst e';exact PySem.W.truthy_bytes (by omega) ⟨H,I.tok _,q⟩
 | ref p=>
   cases rx;have e':(∃xs,SqL X.K H p xs/\k=!xs.isEmpty)\/(∃xs,SqT X.K H p xs/\k=!xs.isEmpty)\/∃kvs ep,H p=Z_ (.dK kvs ep)/\k=!kvs.isEmpty:=e;rcases e' with⟨xs,hx,e'⟩ | ⟨xs,hx,e'⟩ | ⟨kvs,ep,hx,e'⟩
   .subst e'
    obtain⟨its,r,pl,hz⟩:=I.list hx;have hlen:=r.length;exact wpAny_truthy_list pl.isList (by simp only[Ri];omega) ⟨H,I.tok _,by rw[jO r];exact q⟩
   .subst e'
    obtain⟨its,r,pl,hz⟩:=I.tuple hx;have hlen:=r.length;exact truthy_tuple pl (by simp only[Ri];omega) ⟨H,I.tok _,by rw[jO r];exact q⟩
   .subst e'
    obtain⟨hz,hS,vs,r,m⟩:kvs.length<=sizeLine/\(p==U6)=ZZ/\∃vs,KV kvs vs/\s.heap.DictAt (bD X.prog X.w) p vs ep:=I.hok p _ hx;have m:=m.dictOf;have hlen:kvs.length=vs.length:=W7 r;exact wpAny_truthy_dict hS m (by omega) ⟨H,I.tok _,by rw[uv r];exact q⟩
 | _=>exact(show False from e).elim
def Ai(ha:PE X a ta)(he:∀whole,isTrue a X.env whole=(do let v <-whole;Vk a.pos;TX [v] (truthy v))) :
 PT X a (fun σ H Q=>ta σ H λx H'=>∃k,TruV X.K x H' k/\Q k H'):=by
 intro pins s σ H Q I h;exact isTrue_plain (thn (ha pins s σ H _ I h) λv s1 ⟨x,H1,I1,r1,q1⟩=>Ds pins s1 σ H1 x v Q I1 r1 q1) (he _)
def ud:OpR X (Ud .Add) (λx y H Q=>∃i j,x=.str i/\y=.str j/\i.length+j.length<=sizeLine/\Q (.str (i++j)) H):=by
 intro pins s σ H x y v u Q I rx ry h;obtain⟨i,j,rfl,rfl,hz,q⟩:=h;obtain⟨t,rfl⟩:=rx;obtain⟨t',rfl⟩:=ry;exact add_str (λt' tk=>⟨.str (i++j),H,I.tok _,⟨_,rfl⟩,q⟩) hz
def vals1(r:Vals [x] us):∃u,us=[u]/\RelV x u:=by
 cases r with
 | cons r1 r2=>cases r2;exact⟨_,rfl,r1⟩
def vals2(r:Vals [x,y] us):∃u w',us=[u,w']/\RelV x u/\RelV y w':=by
 cases r with
 | cons r1 r2=>
   cases r2 with
   | cons r3 r4=>cases r4;exact⟨_,_,rfl,r1,r3⟩
def Ab:CallR X (.builtin "abs") (λxs H Q=>∃i,xs=[.int i]/\Q (.int (if i<0 then -i else i)) H):=by
 intro pins s σ H xs us Q I r h;obtain⟨i,rfl,q⟩:=h;obtain⟨u,rfl,t,rfl⟩:=vals1 r
 exact call_abs_int λu tk=>⟨.int (if i<0 then -i else i),H,I.tok _,⟨_,rfl⟩,q⟩
def v4(hc:X.calm=ZX):CallR X (.builtin "min") (λxs H Q=>∃i j,xs=[.int i,.int j]/\Q (.int (if j<i then j else i)) H):=by
 intro pins s σ H xs us Q I r h;obtain⟨i,j,rfl,q⟩:=h;obtain⟨u,w',rfl,⟨t,rfl⟩,⟨t',rfl⟩⟩:=vals2 r
 refine min_two_ints (I.ok.hd hc) λh' tk k=>⟨_,H,I.kept k,?_,q⟩
 by_cases hj:j<i
 .rw[if_pos hj,if_pos hj];exact⟨_,rfl⟩
 .rw[if_neg hj,if_neg hj];exact⟨_,rfl⟩
def xK:CallR X (.type "int") (λxs H Q=>(∃i,xs=[.int i]/\Q (.int i) H)\/∃k,xs=[.bl k]/\Q (.int (if k then 1 else 0)) H):=by
 intro pins s σ H xs us Q I r h;rcases h with⟨i,rfl,q⟩ | ⟨k,rfl,q⟩
 .obtain⟨u,rfl,t,rfl⟩:=vals1 r
  exact call_int_int ⟨.int i,H,I,⟨_,rfl⟩,q⟩
 .obtain⟨u,rfl,r1⟩:=vals1 r
  cases r1;exact call_int_bool ⟨.int (if k then 1 else 0),H,I.tok _,⟨_,rfl⟩,q⟩
def oN:CallR X (.type "str") (λxs H Q=>∃i,xs=[.int i]/\i.natAbs.log2<1920/\Q (.str (VF i)) H):=by
 intro pins s σ H xs us Q I r h;obtain⟨i,rfl,hz,q⟩:=h;obtain⟨u,rfl,t,rfl⟩:=vals1 r;exact PySem.P.str_of_int hz ⟨.str _,H,I.tok _,⟨_,rfl⟩,q⟩
end
structure ObjM(h:Rc)(x dx C:Addr)(mA:Str->Option Value):Prop where
 obj:h.get? x=Z_ (TQ C dx)
 ns:h.Ns1 dx mA
 ne:dx≠x
def yo{h:Rc}{dx:Addr}{mA:Str->Option Value}(n:h.Ns1 dx mA):∃od,h.get? dx=Z_ od/\∀name,VV name od=Z_ (mA name):=by
 obtain⟨o,es,ep,ho,hd,hk,_,hm⟩:=n;refine⟨o,ho,λname=>?_⟩;have e:=hm name;unfold nsFind findBy at e;rw[<-Array.find?_toList]at e;unfold VV;rw[hd];dsimp only;split
 .rename_i y q
  rw[q]at e;exact congrArg some e
 .rename_i q
  rw[q]at e
  have a:es.toList.any (·.refKey)=ZZ:=by
   rw[List.any_eq_false];intro y hy;obtain⟨z,t,hkey⟩:=hk y (Array.mem_toList_iff.mp hy);simp[DictEntry.refKey,hkey]
  have a':¬es.toList.any (·.refKey)=ZX:=by rw[a];exact Rq
  rw[if_neg a'];exact congrArg some e
def ObjM.look(I:ObjM h x dx C mA):∃od,PySem.W.InstAt h x (TQ C dx) C (Z_ od)/\∀name,VV name od=Z_ (mA name) :=
 let⟨od,ho,hl⟩:=yo I.ns
 ⟨od,⟨I.obj,rfl,rfl,ho⟩,hl⟩
section
variable{prog:Rt}{w:RX}{A:S5}{E:Value->Shared->Prop}{s:Shared}{K:QK}{x dx C f:Addr}{mA:Str->Option Value}{name:Str}{v:Value}
def G5(X:K.In s.heap)(I:ObjM s.heap x dx C mA)(hg:Up K C name=ZX)(hh:V6 K C=ZX)
 (ha:RB K (.ref C) name=Z_ none)(hv:mA name=Z_ v)(hv':VB v=ZX)(h:Q v { s with toks:=s.toks+1 }) :
 Rg (Rm prog w) A (getAttr (.ref x) name expr) Q E s:=by
 obtain⟨od,J,hl⟩:=I.look;exact PySem.W.get_value X J (PySem.W.plainGet_of hg).1 (PySem.W.findObj_own hh ha rfl (by rw[hl,hv])) hv' h
def Ag(X:K.In s.heap)(I:ObjM s.heap x dx C mA)(hg:Up K C name=ZX)
 (hf:RB K (.ref C) name=Z_ (Z_ (.ref f)))(ht:V5 K (.ref f)=ZX)(hv:mA name=ZW)(h:Q (.ref f,[.ref x]) s) :
 Rg (Rm prog w) A (Vp (.ref x) name pl) Q E s:=by
 obtain⟨od,J,hl⟩:=I.look;exact PySem.W.method_fn X J (PySem.W.plainGet_of hg).1 (PySem.W.plainGet_of hg).2 hf (beq_iff_eq.mp ht) (by show(VV name od).map (·.isSome)=Z_ ZZ;rw[hl,hv];rfl) h
def HD(X:K.In s.heap)(I:ObjM s.heap x dx C mA)
 (hs:RB K (.ref C) "__setattr__"=Z_ (Z_ (.builtin "object.__setattr__")))(hp:Vu K C=ZX)(ht:PySem.W.takerIn K C name=Z_ none)(hh:V6 K C=ZX)
 (hw:Wn mA ns)(hsz:ns.length<=sizeLine)
 (h:∀h',ObjM h' x dx C (λy=>if y=name then some v else mA y)->Uv dx s.heap h'->Q () { s with heap:=h',toks:=s.toks+2 }) :
 Rg (Rm prog w) A (setAttr (.ref x) name v) Q E s:=by
 obtain⟨od,J,hl⟩:=I.look;refine PySem.W.set_plain X J hs (PySem.W.osa_open (s:={ s with toks:=s.toks+1 }) (r:=ZW) X J hp ht λb=>?_);obtain⟨cd,hc,hd'⟩:=PySem.W.any_some hh;have hx:s.heap.get? x=Z_ ⟨.ref C,some dx,.plain,#[]⟩:=I.obj;refine QS (Rh (QS (QS (wpAny_loadPart hx (QS (PySem.W.Looks.here (s:={ s with toks:=s.toks+1 }) (PySem.W.looks_clsIn X hc) ?_))))));rw[hd'];refine Rh (a:=Z_ dx) (QS (Rh (QS ?_)))
 refine wpAny_nsSet1 (s:={ s with toks:=s.toks+1 }) I.ns λh' hn2 hs2=>?_
 obtain⟨oD,esD,epD,hoD,hdD,hcD⟩:=hn2.count (Wn.cons name v hw);refine QS (wpAny_lookBehind hoD (by rw[hdD];exact pastItsLine_dict (RP hcD (by rw[R6];omega))) ?_);exact Rh (h _ ⟨(hs2.2 _ (SJ I.ne)).trans I.obj,hn2,I.ne⟩ hs2)
def Ci{R:Result->Shared->Prop}{vs:List Value}{kw:List (Str×Value)}(X:K.In s.heap)(hm:VH K C=ZX)
 (hi:RB K (.ref C) "__init__"=Z_ (Z_ (.ref f)))(hf:PySem.W.typeIn K (.ref f)=Z_ (.type "function"))
 (h:W6 (Rm prog w) (A.under (.builtin "type.__call__" ⟨.ref C::vs,kw⟩)) (.call (.ref f) ⟨.ref (s.heap.objs.size+1)::vs,kw⟩) (PySem.W.InitBack (s.heap.objs.size+1) R)
  { s with heap:=(s.heap.push T8).push (TQ C s.heap.objs.size) }) :
 W6 (Rm prog w) A (.call (.ref C) ⟨vs,kw⟩) R s:=by
 obtain⟨hh,g,d,t,os⟩:=s;exact PySem.W.make_core (PySem.W.makes_of X hm) (PySem.W.looks_findIn X hi) (λself=>PySem.W.bind_fn X self hf) (.inl rfl) h
end
noncomputable def putF(f:Str)(v:V):List (Str×V)->List (Str×V)
 | []=>[(f,v)]
 | (g,x)::r=>if g=f then(g,v)::r else(g,x)::putF f v r
theorem j4(f g:Str)(v:V):∀fs:List (Str×V),(putF f v fs).lookup g=if g=f then some v else fs.lookup g
 | []=>by
   show Ua g [(f,v)]=_
   by_cases h:g=f
   .have hb:(g==f)=ZX:=beq_iff_eq.mpr h
    simp only[Ua,hb,if_pos h]
   .have hb:(g==f)=ZZ:=beq_eq_false_iff_ne.mpr h
    simp only[Ua,hb,if_neg h]
 | (k,x)::r=>by
   have ih:=j4 f g v r;rw[show putF f v ((k,x)::r)=(if k=f then(k,v)::r else(k,x)::putF f v r)from rfl]
   by_cases hk:k=f
   .rw[if_pos hk]
    by_cases h:g=k
    .have hb:(g==k)=ZX:=beq_iff_eq.mpr h
     simp only[Ua,hb,if_pos (h.trans hk)]
    .have hb:(g==k)=ZZ:=beq_eq_false_iff_ne.mpr h
     simp only[Ua,hb,if_neg (λe:g=f=>h (e.trans hk.symm))]
   .rw[if_neg hk]
    by_cases h:g=k
    .have hb:(g==k)=ZX:=beq_iff_eq.mpr h
     simp only[Ua,hb,if_neg (λe:g=f=>hk (h.symm.trans e))]
    .have hb:(g==k)=ZZ:=beq_eq_false_iff_ne.mpr h
     simp only[Ua,hb];exact ih
theorem j9(f:Str)(v:V):∀fs:List (Str×V),f∈(putF f v fs).map (·.1)/\∀g,g∈fs.map (·.1)->g∈(putF f v fs).map (·.1)
 | []=>⟨by simp[putF],λg h=>by simp at h⟩
 | (k,x)::r=>by
   obtain⟨i1,i2⟩:=j9 f v r;rw[show putF f v ((k,x)::r)=(if k=f then(k,v)::r else(k,x)::putF f v r)from rfl]
   by_cases hk:k=f
   .rw[if_pos hk]
    subst hk;exact⟨by simp,λg h=>by simpa using h⟩
   .rw[if_neg hk]
    refine⟨?_,λg h=>?_⟩
    .rw[QL]
     exact QQ _ i1
    .rw[QL]at h ⊢
     rcases R8.mp h with e | e
     .exact R8.mpr (.inl e)
     .exact QQ _ (i2 g e)
theorem jw(f:Str)(v:V):∀fs:List (Str×V),(putF f v fs).length<=fs.length+1
 | []=>by simp[putF]
 | (k,x)::r=>by
   have ih:=jw f v r;rw[show putF f v ((k,x)::r)=(if k=f then(k,v)::r else(k,x)::putF f v r)from rfl]
   by_cases hk:k=f
   .rw[if_pos hk,R6,R6];omega
   .rw[if_neg hk,R6,R6];omega
def RelO.some_of(r:RelO (Z_ v) o):∃u,o=Z_ u/\RelV v u:=by
 cases o with
 | none=>exact(show False from r).elim
 | some u=>exact⟨u,rfl,r⟩
def RelO.none_of(r:RelO none o):o=ZW:=by
 cases o with
 | none=>rfl
 | some u=>exact(show False from r).elim
def yU(r:RelV v u):VB u=ZX:=by
 cases v with
 | non=>cases (show u=Value.none from r);rfl
 | bl b=>cases (show u=Value.bool b from r);rfl
 | int i=>obtain⟨t,e⟩:=(show ∃t,u=Value.int i t from r);cases e;rfl
 | str x=>obtain⟨t,e⟩:=(show ∃t,u=Value.str x t from r);cases e;rfl
 | byt b=>obtain⟨t,e⟩:=(show ∃t,u=Value.bytes b t from r);cases e;rfl
 | flt b=>obtain⟨t,e⟩:=(show ∃t,u=Value.float b t from r);cases e;rfl
 | ref a=>cases (show u=Value.ref a from r);rfl
 | ty n=>cases (show u=Value.type n from r);rfl
section
variable{P:Rt}{w:RX}{H H':Hp}{h h':Rc}{a C dx:Addr}{fs fs':List (Str×V)}
def qj(hok:HOk P w H h)(e:H a=Z_ (.ins C dx fs)):∃mA,ObjM h a dx C mA/\(∀f,RelO (fs.lookup f) (mA f))/\Wn mA (fs.map (·.1))/\fs.length<=1000/\H dx=Z_ (.own a):=by
 obtain⟨d,z,ne,ob,mA,n,r,q⟩:=(show ObjOk P w H h a (.ins C dx fs)from hok a _ e)
 exact⟨mA,⟨ob,n,ne⟩,r,q,z,d⟩
end
structure Cls(K:QK)(C:Addr):Prop where
 pg:Up K C Str.empty=ZX
 hd:V6 K C=ZX
 po:Vu K C=ZX
 sa:RB K (.ref C) "__setattr__"=Z_ (Z_ (.builtin "object.__setattr__"))
def Cls.get{K:QK}{C:Addr}(c:Cls K C)(f:Str):Up K C f=ZX:=c.pg
def NoAttr(K:QK)(C:Addr)(f:Str):Prop:=RB K (.ref C) f=Z_ none
def NoAttr.taker{K:QK}{C:Addr}{f:Str}(n:NoAttr K C f):PySem.W.takerIn K C f=Z_ none:=by
 unfold PySem.W.takerIn;rw[show RB K (.ref C) f=Z_ none from n]
 rfl
structure Con(K:QK)(C:Addr)(f:Str)(v:V)(u:Value):Prop where
 at_:RB K (.ref C) f=Z_ (Z_ u)
 rel:RelV v u
 get:Vt K u "__get__"=Z_ none
 cp:PySem.W.copiedNames.contains f=ZZ
structure Meth(K:QK)(C:Addr)(m:Str)(f:Addr):Prop where
 at_:RB K (.ref C) m=Z_ (Z_ (.ref f))
 fn:V5 K (.ref f)=ZX
 kp:Rj K (.ref f)=ZX
section
variable{X:Cx}{pins:List (Addr×Obj)}{σ:St}{H:Hp}{s:Shared}{a C dx:Addr}{fs:List (Str×V)}{f:Str}{v:V}{A:S5}{E:Value->Shared->Prop}
def uA(I:Inv X pins σ H s)(e:H a=Z_ (.ins C dx fs))(c:Cls X.K C)(n:NoAttr X.K C f)(l:fs.lookup f=Z_ v)
 (h:∀u s',Inv X pins σ H s'->RelV v u->Q u s'):Rg (Rm X.prog X.w) A (getAttr (.ref a) f b) Q E s:=by
 obtain⟨mA,O,r,_,_,_⟩:=qj I.hok e;obtain⟨u,hu,ru⟩:=RelO.some_of (v:=v) (o:=mA f) (by rw[<-l];exact r f);exact G5 I.kIn O (c.get f) c.hd n hu (yU ru) (h u _ (I.tok _) ru)
def jR(I:Inv X pins σ H s)(e:H a=Z_ (.ins C dx fs))(c:Cls X.K C)(k:Meth X.K C m g)(l:fs.lookup m=ZW)
 (h:Q (.ref g,[.ref a]) s):Rg (Rm X.prog X.w) A (Vp (.ref a) m pl) Q E s:=by
 obtain⟨mA,O,r,_,_,_⟩:=qj I.hok e;have hn:mA m=ZW:=RelO.none_of (by rw[<-l];exact r m);exact Ag I.kIn O (c.get m) k.at_ k.fn hn h
def uq(I:Inv X pins σ H s)(e:H a=Z_ (.ins C dx fs))(c:Cls X.K C)(n:NoAttr X.K C f)(hl:fs.length<1000)(ry:RelV y u)
 (h:∀s',Inv X pins σ (upd H a (.ins C dx (putF f y fs))) s'->Q () s'):Rg (Rm X.prog X.w) A (setAttr (.ref a) f u) Q E s:=by
 obtain⟨mA,O,r,wi,_,ho⟩:=qj I.hok e
 have hz:(fs.map (·.1)).length<=sizeLine:=by rw[R5,Th];omega
 refine HD I.kIn O c.sa c.po n.taker c.hd wi hz λh' O' sb=>h _ ?_
 have hd:∃o,h'.get? dx=Z_ o:=let⟨o,_,_,e',_⟩:=O'.ns;⟨o,e'⟩
 refine I.write (x:=a) (e:=dx) (by rw[e];exact Ur) (.inr ho) (λb q hb z=>(sb.2 b hb).trans z) hd ?_;refine⟨by rw[aX O.ne];exact ho,?_,O.ne,O'.obj,_,O'.ns,λg=>?_,λg hg=>?_⟩
 .have:=jw f y fs;omega
 .show RelO ((putF f y fs).lookup g) (if g=f then some u else mA g)
  rw[j4]
  by_cases q:g=f
  .rw[if_pos q,if_pos q];exact ry
  .rw[if_neg q,if_neg q];exact r g
 .by_cases q:g=f
  .rw[q];exact(j9 f y fs).1
  .refine(j9 f y fs).2 g (wi g λz=>hg ?_)
   show(if g=f then some u else mA g)=ZW;rw[if_neg q];exact z
def Inv.made(I:Inv X pins σ H s):Inv X pins σ (upd (upd H s.heap.objs.size (.own (s.heap.objs.size+1))) (s.heap.objs.size+1) (.ins C s.heap.objs.size []))
 { s with heap:=(s.heap.push T8).push (TQ C s.heap.objs.size) }:=by
 have e1:(s.heap.push T8).get? s.heap.objs.size=Z_ T8:=Rv s.heap rfl
 have e2:((s.heap.push T8).push (TQ C s.heap.objs.size)).get? (s.heap.objs.size+1)=Z_ (TQ C s.heap.objs.size):=by
  have:=Rv (s.heap.push T8) (o:=TQ C s.heap.objs.size) rfl
  rwa [Rc.size_push]at this
 have e3:(s.heap.push T8).Ns s.heap.objs.size (λ_=>none):=⟨T8,#[],_,e1,rfl,(λe he=>absurd he (by simp)),λ_=>rfl⟩
 have I1:=I.laid (a:=s.heap.objs.size) (o:=.own (s.heap.objs.size+1)) (h':=s.heap.push T8) (t':=s.toks) (λb u q=>QV _ q) (Ra _) ⟨_,e1⟩;refine I1.laid (a:=s.heap.objs.size+1) (o:=.ins C s.heap.objs.size []) (t':=s.toks) (λb u q=>QV _ q) (Nat.le_of_eq (Rc.size_push _ _)) ?_;have ne:s.heap.objs.size≠s.heap.objs.size+1:=RL (Nat.lt_succ_self _);refine⟨by rw[aX ne,bA],Va _,ne,e2,λ_=>none,(Rc.Ns1.of_empty e3).at λo q=>QV _ q,λ_=>Ur,λy hy=>absurd rfl hy⟩
def J6(hb:Uq e f env (S8 e env)=S8 e env)
 (h:Rg (Rm prog w) A (S8 e env) (λo s₁=>Rg (Rm prog w) A (getAttr o f ZX) Q E s₁) E s):Rg (Rm prog w) A (S8 (.Attribute e f pos) env) Q E s :=
 Attribute_any_ h (by rw[arm_eval_Attribute,hb])
end
def tFld(K:QK)(ta:TE)(f:Str):TE:=fun σ H Q=>ta σ H λx H1=>∃a C dx fs v,x=.ref a/\H1 a=Z_ (.ins C dx fs)/\Cls K C/\NoAttr K C f/\fs.lookup f=Z_ v/\Q v H1
def sFld(K:QK)(ta tv:TE)(f:Str):TS:=λD σ H=>tv σ H λy H1=>ta σ H1 λx H2=>∃a C dx fs,x=.ref a/\H2 a=Z_ (.ins C dx fs)/\Cls K C/\NoAttr K C f/\fs.length<1000 /\
 D.nx σ (upd H2 a (.ins C dx (putF f y fs)))
section
variable{X:Cx}{o e value:Expr}{f:Str}{pos pos' tpos:Pos}{ta tv:TE}
def M9(he:PE X e ta)(hb:Uq e f X.env (S8 e X.env)=S8 e X.env):PE X (.Attribute e f pos) (tFld X.K ta f):=by
 intro pins s σ H Q I h;refine J6 hb (thn (he pins s σ H _ I h) λu s1 ⟨x,H1,I1,rx,a,C,dx,fs,v,ex,ea,c,n,l,q⟩=>?_);subst ex;obtain rfl:u=Value.ref a:=rx
 exact uA I1 ea c n l λu' s2 I2 ru=>⟨v,H1,I2,ru,q⟩
def JW(ha:PE X o ta)(hv:PE X value tv)(hs:Uc value (Z_ (.Attribute o f pos')) pos.line X.env=pure ZZ):PS X (.Assign [.Attribute o f pos'] value pos) (sFld X.K ta tv f):=by
 intro pins s σ H D I h;refine plainObj_wpAny_Assign_Attribute (thn (hv pins s σ H _ I h) λu s1 ⟨y,H1,I1,ry,q⟩=>thn (ha pins s1 σ H1 _ I1 q) λov s2 ⟨x,H2,I2,rx,a,C,dx,fs,ex,ea,c,n,l,q2⟩=>?_) hs;subst ex;obtain rfl:ov=Value.ref a:=rx
 exact uq I2 ea c n l ry λs3 I3=>⟨σ,_,I3,q2⟩
end
section
variable{X:Cx}{pins:List (Addr×Obj)}{σ:St}{H:Hp}{s:Shared}{A:S5}{E:Value->Shared->Prop}{Q:Value->Shared->Prop}{c:Value}{b:Bool}
inductive TyOf(K:QK)(H:Hp):V->Value->Prop where
 | non:TyOf K H .non (.type "NoneType")
 | bl (x:Bool):TyOf K H (.bl x) (.type "bool")
 | int (i:Int):TyOf K H (.int i) (.type "int")
 | str (x:Str):TyOf K H (.str x) (.type "str")
 | flt (x:UInt64):TyOf K H (.flt x) (.type "float")
 | lst {a:Addr} {xs:List V} (e:H a=Z_ (.lst xs)):TyOf K H (.ref a) (.type "list")
 | frz {a:Addr} {o:Obj} {xs:List V} (e:H a=Z_ (.frz o (.lst xs))):TyOf K H (.ref a) (.type "list")
 | tup {a:Addr} {xs:List V} (e:H a=Z_ (.tup xs)):TyOf K H (.ref a) (.type "tuple")
 | dK {a:Addr} {kvs:List (Key×V)} {ep:Nat} (e:H a=Z_ (.dK kvs ep)):TyOf K H (.ref a) (.type "dict")
 | dT {a:Addr} {kvs:List (List Key×V)} (e:H a=Z_ (.dT kvs)):TyOf K H (.ref a) (.type "dict")
 | ins {a C dx:Addr} {fs:List (Str×V)} (e:H a=Z_ (.ins C dx fs)) (cl:Cls K C) (ha:RB K (.ref C) "__class__"=Z_ (Z_ (.builtin "object.__class__")))
  (hn:Vt K (.builtin "object.__class__") "__get__"=Z_ (Z_ (.builtin "getset_descriptor.__get__"))) (htk:PySem.W.takesIn K (.builtin "object.__class__")=Z_ ZX)
  (hm:PySem.W.mroIn K C (.type "object")=Z_ ZX):TyOf K H (.ref a) (.ref C)
end
structure Room(k:Nat)(A:S5):Prop where
 hd:A.handled=ZW
 dp:A.depth+3*k+5<recursionLimit
 un:A.units+16*k+200<Vz
def Room.mono{j k:Nat}{A:S5}(r:Room k A)(h:j<=k):Room j A:=⟨r.hd,by have:=r.dp;omega,by have:=r.un;omega⟩
theorem Room.deeper{k:Nat}{A:S5}(r:Room (k+1) A)(env:Env):Room k (A.deeper env) :=
 ⟨r.hd,by have:=r.dp;show A.depth+1+3*k+5<_;omega,by have:=r.un;show A.units+3+16*k+200<_;omega⟩
def uG{A:S5}{C:Addr}{us:List Value}{kw:List (Str×Value)}:(A.under (.builtin "type.__call__" ⟨.ref C::us,kw⟩)).depth=A.depth+1:=by
 first | rfl | simp[S5.under,Xe.weight,Xe.isCreation,Xe.isGuard,Xe.isCaller,Xe.frames,Xe.isFrame,guardIds]
def uE{A:S5}{C:Addr}{us:List Value}{kw:List (Str×Value)}:(A.under (.builtin "type.__call__" ⟨.ref C::us,kw⟩)).units=A.units+1:=by
 first | rfl | simp[S5.under,Xe.cUnits,Xe.frames,Xe.isFrame]
def Room.make{k:Nat}{A:S5}(r:Room (k+1) A)(C:Addr)(us:List Value)(kw:List (Str×Value)):Room k (A.under (.builtin "type.__call__" ⟨.ref C::us,kw⟩)) :=
 ⟨r.hd,by have:=r.dp;rw[uG];omega,by have:=r.un;rw[uE];omega⟩
theorem Room.depth{k:Nat}{A:S5}(r:Room k A):A.depth<recursionLimit:=by have:=r.dp;omega
theorem Room.units{k:Nat}{A:S5}(r:Room k A):A.units+64<Vz:=by have:=r.un;omega
def tNil:TA:=λ_ H Q=>Q [] H
def KC(ta:TE)(tr:TA):TA:=fun σ H Q=>ta σ H λx H1=>tr σ H1 λxs H2=>Q (x::xs) H2
section
variable{X:Cx}{e:Expr}{es:List Expr}{te:TE}{t:TA}{pos:Pos}
def dZ:PA X [] tNil:=λ_ _ _ _ H Q I h=>Calls.spliced_nil ⟨[],H,I,.nil,h⟩
noncomputable def bT(ha:PE X e te)(hr:PA X es t)(hs:R3 (e::es) X.env=(ZZ,S8 e X.env)::R3 es X.env:=by rfl):PA X (e::es) (KC te t):=by
 intro pos pins s σ H Q I h;rw[hs];show Rg _ _ (spliced ((ZZ,S8 e X.env)::SQ pos (R3 es X.env))) _ _ s;refine Vs (thn (ha pins s σ H _ I h) λu s1 ⟨x,H1,I1,r1,q1⟩=>?_)
 exact thn (hr pos pins s1 σ H1 _ I1 q1) λus s2 ⟨xs,H2,I2,r2,q2⟩=>⟨x::xs,H2,I2,.cons r1 r2,q2⟩
def tTup(t:TA):TE:=fun σ H Q=>t σ H λxs H1=>xs.length<=sizeLine/\∀p,H1 p=ZW->Q (.ref p) (upd H1 p (.tup xs))
def tLst(t:TA):TE:=fun σ H Q=>t σ H λxs H1=>xs.length<=sizeLine/\∀p,H1 p=ZW->Q (.ref p) (upd H1 p (.lst xs))
def Dg(h:PA X es t):PE X (.Tuple es x1 pos) (tTup t):=by
 intro pins s σ H Q I hq;refine wpAny_Tuple_spliced (thn (h pos pins s σ H _ I hq) λus s1 ⟨xs,H1,I1,r,z,q⟩=>⟨by rw[<-r.length];exact z,?_⟩);have hf:H1 s1.heap.objs.size=ZW:=I1.hok.fresh (Ra _);refine⟨.ref s1.heap.objs.size,upd H1 s1.heap.objs.size (.tup xs),I1.laid (t':=s1.toks) (λb u e=>QV _ e) (Ra _) ?_,rfl,q _ hf⟩;exact⟨z,us,r,⟨_,Rv _ rfl,rfl,_,rfl⟩⟩
def Es(h:PA X es t):PE X (.List es pos) (tLst t):=by
 intro pins s σ H Q I hq;refine wpAny_List_spliced (thn (h pos pins s σ H _ I hq) λus s1 ⟨xs,H1,I1,r,z,q⟩=>⟨by rw[<-r.length];exact z,?_⟩);have hf:H1 s1.heap.objs.size=ZW:=I1.hok.fresh (Ra _);refine⟨.ref s1.heap.objs.size,upd H1 s1.heap.objs.size (.lst xs),I1.laid (t':=s1.toks) (λb u e=>QV _ e) (Ra _) ?_,rfl,q _ hf⟩;exact⟨z,us,0,r,Rv _ rfl⟩
end
abbrev Sp:=List V->Hp->VK->XK->Prop
abbrev CXT:=List Env->Hp->Shared->XK->Value->Shared->Prop
structure Env0(P:Rt)(w:RX)(K:QK)(mg:Str->Option Value)(base:Rc)(A:S5)(outer:List Env)(s:Shared)(H:Hp):Prop where
 frames:A.frames=Z_ outer
 mod:Mod K mg base
 bs:∀b o,base.get? b=Z_ o->s.heap.get? b=Z_ o/\H b=ZW
 bsz:base.objs.size<=s.heap.objs.size
 funs:s.heap.FunFrames base outer
 frf:∀b∈frs outer,H b=ZW
 hok:HOk P w H s.heap
 bare:Vq s.gens
def CE(outer:List Env)(P:Rt)(w:RX)(H:Hp)(s:Shared)(Q:VK)(u:Value)(s':Shared):Prop :=
 ∃v H',s'.os=s.os/\Vq s'.gens/\Un (frs outer) [] H H' s.heap s'.heap/\HOk P w H' s'.heap/\RelV v u/\Q v H'
def CR(CX:CXT)(outer:List Env)(P:Rt)(w:RX)(H:Hp)(s:Shared)(Q:VK)(E:XK)(r:Result)(s':Shared):Prop :=
 match r with
 | .ok (.ret u)=>CE outer P w H s Q u s'
 | .ok _=>False
 | .error e=>CX outer H s E e s'
structure FnOk(P:Rt)(w:RX)(K:QK)(mg:Str->Option Value)(base:Rc)(CX:CXT)(k:Nat)(f:Addr)(fd:Sw)(ps:List Str)(sp:Sp):Prop where
 len:∀vs H Q E,sp vs H Q E->vs.length=ps.length
 run:∀(A:S5)(outer:List Env)(s:Shared)(H:Hp)(args:Args)(us:List Value)(vs:List V)(Q:VK)(E:XK),Room k A->Env0 P w K mg base A outer s H->WK s fd args (ps.zip us)->Vals vs us->sp vs H Q E ->
  W6 (Rm P w) A (.call (.ref f) args) (CR CX outer P w H s Q E) s
def Env0.make{P:Rt}{w:RX}{K:QK}{mg:Str->Option Value}{base:Rc}{A:S5}{outer:List Env}{s:Shared}{H:Hp}(e:Env0 P w K mg base A outer s H)(C:Addr)(us:List Value)(kw:List (Str×Value)) :
 Env0 P w K mg base (A.under (.builtin "type.__call__" ⟨.ref C::us,kw⟩)) outer s H:=⟨by first | exact e.frames | (simpa[S5.under,Xe.envs,Xe.isFrame,pushEnvs]using e.frames),e.mod,e.bs,e.bsz,e.funs,e.frf,e.hok,e.bare⟩
section
variable{X:Cx}{pins:List (Addr×Obj)}{σ:St}{H:Hp}{s s':Shared}
def Inv.env0(I:Inv X pins σ H s):Env0 X.prog X.w X.K X.mg X.base X.A X.stack s H :=
 ⟨I.ok.frames,I.ok.mod,I.bs,RP I.ok.bsz I.sz,I.stack,I.stkFree,I.hok,I.bare⟩
def Inv.after(I:Inv X pins σ H s)(h:CE X.stack X.prog X.w H s Q u s'):EP X pins σ Q u s':=by
 obtain⟨v,H',os,bare,un,hok,r,q⟩:=h;obtain⟨hh,g,d,t,os'⟩:=s';obtain rfl:os'=s.os:=os;exact⟨v,H',I.call (h':=hh) (g':=g) (d':=d) (t':=t) (ch:=[]) un hok bare (λb z=>absurd z (by simp)),r,q⟩
end
def Pb(sp:Sp)(dvs:List V)(E:XK)(t:TA):TE:=fun σ H Q=>t σ H λvs H1=>sp (vs++dvs) H1 Q E
def ug(C:Addr)(m:Str)(sp:Sp)(dvs:List V)(E:XK)(ta:TE)(t:TA):TE:=fun σ H Q=>ta σ H λx H1=>∃a dx fs,x=.ref a/\H1 a=Z_ (.ins C dx fs)/\fs.lookup m=ZW /\
 t σ H1 λvs H2=>sp (x::(vs++dvs)) H2 Q E
def Qd(C:Addr)(sp:Sp)(dvs:List V)(E:XK)(t:TA):TE:=fun σ H Q=>t σ H λvs H1=>∀x dx,H1 x=ZW->H1 dx=ZW->dx≠x ->
 sp (.ref x::(vs++dvs)) (upd (upd H1 dx (.own x)) x (.ins C dx [])) (λv H2=>v=.non/\Q (.ref x) H2) E
def Binds(K:QK)(fd:Sw)(ps:List Str)(ds:List Value):Prop :=
 ∀(s:Shared)(us:List Value),K.In s.heap->(us++ds).length=ps.length->WK s fd ⟨us,[]⟩ (ps.zip (us++ds))
def Binds.all{K:QK}{fd:Sw}{ps:List Str}(h:∀us:List Value,us.length=ps.length->bindArgs fd ⟨us,[]⟩=pure (ps.zip us)):Binds K fd ps []:=λs us _ hl=>by
 rw[RC]at hl ⊢;exact .of_eq (h us hl)
def jx(CX:CXT)(X:Cx)(E:XK):Prop:=∀(pins:List (Addr×Obj)) (σ:St) (H:Hp) (s:Shared) (e:Value) (s':Shared),Inv X pins σ H s->CX X.stack H s E e s'->X.xe e s'
section
variable{X:Cx}{CX:CXT}{k:Nat}{f C:Addr}{fd:Sw}{ps:List Str}{sp:Sp}{dvs:List V}{ds:List Value}{E:XK}{x m:Str}{p pos apos:Pos}{e o:Expr}{es:List Expr}{ta:TE}{t:TA}
def zg(F:FnOk X.prog X.w X.K X.mg X.base CX k f fd ps sp)(hr:Room k X.A)(hb:Binds X.K fd ps ds)(hd:Vals dvs ds)(hx:jx CX X E)
 (I:Inv X pins σ H s)(r:Vals vs us)(h:sp (vs++dvs) H Q E):Rg (Rm X.prog X.w) X.A (call (.ref f) us) (EP X pins σ Q) X.xe s:=by
 have r2:Vals (vs++dvs) (us++ds):=r.append hd
 have hl:(us++ds).length=ps.length:=by rw[<-r2.length];exact F.len _ _ _ _ h
 refine wpAny_call (Uj (F.run X.A X.stack s H ⟨us,[]⟩ (us++ds) (vs++dvs) Q E hr I.env0 (hb s us I.kIn hl) r2 h) λr s' hq=>?_)
 cases r with
 | error e=>exact hx pins σ H s e s' I hq
 | ok fl=>
   cases fl with
   | ret u=>exact I.after hq
   | next=>exact Rr hq
   | brk=>exact Rr hq
   | cont=>exact Rr hq
noncomputable def pQ(F:FnOk X.prog X.w X.K X.mg X.base CX k f fd ps sp)(hr:Room k X.A)(hg:Gl X x)(hm:X.mg x=Z_ (.ref f))(hk:Rj X.K (.ref f)=ZX)(hb:Binds X.K fd ps ds)(hd:Vals dvs ds)(hx:jx CX X E)
 (ha:PA X (e::es) t)(hdb:(x==("__debug__":Str))=ZZ:=by decide)(he:R3 (e::es) X.env=(ZZ,S8 e X.env)::R3 es X.env:=by rfl)(hpl:(SQ pos (R3 es X.env)).any (·.1)=ZZ:=by rfl) :
 PE X (.Call (.Name x p) (e::es) [] pos) (Pb sp dvs E t):=by
 intro pins s σ H Q I h;refine Ui (fZ I hg hm ?_ hdb);refine UJ (h₀:=X.base) I.ok.mod.kin hk (thn (ha pos pins s σ H _ I h) λus s1 ⟨vs,H1,I1,r,q⟩=>⟨I1.kIn,?_⟩) he hpl;exact zg F hr hb hd hx I1 r q
noncomputable def vL(he:PE X o ta)(c:Cls X.K C)(hm:Meth X.K C m f)(F:FnOk X.prog X.w X.K X.mg X.base CX k f fd ps sp)(hr:Room k X.A)(hb:Binds X.K fd ps ds)(hd:Vals dvs ds)(hx:jx CX X E)(ha:PA X (e::es) t)
 (hst:R3 (e::es) X.env=(ZZ,S8 e X.env)::R3 es X.env:=by rfl)(hpl:(SQ pos (R3 es X.env)).any (·.1)=ZZ:=by rfl)
 (ht:S8 (.Call (.Attribute o m apos) (e::es) [] pos) X.env=(do
  let ov <-S8 o X.env
  Vk apos.atName
  let(f,first) <-TX [ov] (Vp ov m pl)
  Wm pos f first (SQ pos (R3 (e::es) X.env)) (Vc pos (TJ [] X.env))):=by rfl) :
 PE X (.Call (.Attribute o m apos) (e::es) [] pos) (ug C m sp dvs E ta t):=by
 intro pins s σ H Q I h;refine PySem.W.methodCall_KW (pl:=pl) (thn (he pins s σ H _ I h) λu s1 ⟨x,H1,I1,rx,a,dx,fs,ex,ea,l,q⟩=>?_) ht;subst ex;obtain rfl:u=Value.ref a:=rx;refine jR I1 ea c hm l ?_;refine UJ (first:=[.ref a]) (h₀:=X.base) I.ok.mod.kin hm.kp (thn (ha pos pins s1 σ H1 _ I1 q) λus s2 ⟨vs,H2,I2,r,q2⟩=>⟨I2.kIn,?_⟩) hst hpl;exact zg (us:=.ref a::us) (vs:=.ref a::vs) F hr hb hd hx I2 (.cons rfl r) q2
noncomputable def qX(he:PE X o ta)(c:Cls X.K C)(hm:Meth X.K C m f)(F:FnOk X.prog X.w X.K X.mg X.base CX k f fd ps sp)(hr:Room k X.A)(hb:Binds X.K fd ps ds)(hd:Vals dvs ds)(hx:jx CX X E)
 (ht:S8 (.Call (.Attribute o m apos) [] [] pos) X.env=(do
  let ov <-S8 o X.env
  Vk apos.atName
  let(f,first) <-TX [ov] (Vp ov m pl)
  Wm pos f first (SQ pos (R3 [] X.env)) (Vc pos (TJ [] X.env))):=by rfl) :
 PE X (.Call (.Attribute o m apos) [] [] pos) (ug C m sp dvs E ta tNil):=by
 intro pins s σ H Q I h;refine PySem.W.methodCall_KW (pl:=pl) (thn (he pins s σ H _ I h) λu s1 ⟨x,H1,I1,rx,a,dx,fs,ex,ea,l,q⟩=>?_) ht;subst ex;obtain rfl:u=Value.ref a:=rx;refine jR I1 ea c hm l ?_;exact PySem.W.callWith_K0 (first:=[.ref a]) I1.kIn hm.kp (zg (us:=[.ref a]) (vs:=[.ref a]) F hr hb hd hx I1 (.cons rfl .nil) q)
structure Mk(K:QK)(C f:Addr):Prop where
 makes:VH K C=ZX
 init:RB K (.ref C) "__init__"=Z_ (Z_ (.ref f))
 fn:V5 K (.ref f)=ZX
 kp:Rj K (.ref C)=ZX
def zJ(M:Mk X.K C f)(F:FnOk X.prog X.w X.K X.mg X.base CX k f fd ps sp)(hr:Room (k+1) X.A)(hb:Binds X.K fd ps ds)(hd:Vals dvs ds)
 (hx:jx CX X E)(I:Inv X pins σ H s)(r:Vals vs us)
 (h:∀x dx,H x=ZW->H dx=ZW->dx≠x->sp (.ref x::(vs++dvs)) (upd (upd H dx (.own x)) x (.ins C dx [])) (λv H2=>v=.non/\Q (.ref x) H2) E) :
 Rg (Rm X.prog X.w) X.A (call (.ref C) us) (EP X pins σ Q) X.xe s:=by
 have hq:=h (s.heap.objs.size+1) s.heap.objs.size (I.hok.fresh (Nat.le_succ _)) (I.hok.fresh (Ra _)) (RL (Nat.lt_succ_self _));have I2:=Inv.made (C:=C) I;have r2:Vals (V.ref (s.heap.objs.size+1)::(vs++dvs)) (Value.ref (s.heap.objs.size+1)::(us++ds)):=.cons rfl (r.append hd)
 have hl:(Value.ref (s.heap.objs.size+1)::us++ds).length=ps.length:=by
  have e:=r2.length;rw[F.len _ _ _ _ hq]at e;exact e.symm
 refine wpAny_call (Ci (f:=f) I.kIn M.makes M.init (beq_iff_eq.mp M.fn) (Uj (F.run _ X.stack _ _ ⟨Value.ref (s.heap.objs.size+1)::us,[]⟩ (Value.ref (s.heap.objs.size+1)::(us++ds)) _ _ E (hr.make C us [])
  (I2.env0.make C us []) (hb _ (Value.ref (s.heap.objs.size+1)::us) I2.kIn hl) r2 hq) λr s' hq'=>?_))
 cases r with
 | error e=>exact hx pins σ _ _ e s' I2 hq'
 | ok fl=>
   cases fl with
   | ret u=>
     obtain⟨v,H',I3,rv,ev,q3⟩:=I2.after hq';subst ev;exact⟨rv,⟨V.ref (s.heap.objs.size+1),H',I3,rfl,q3⟩⟩
   | next=>exact Rr hq'
   | brk=>exact Rr hq'
   | cont=>exact Rr hq'
noncomputable def Hk(M:Mk X.K C f)(F:FnOk X.prog X.w X.K X.mg X.base CX k f fd ps sp)(hr:Room (k+1) X.A)(hg:Gl X x)(hm:X.mg x=Z_ (.ref C))(hb:Binds X.K fd ps ds)(hd:Vals dvs ds)(hx:jx CX X E)
 (ha:PA X (e::es) t)(hdb:(x==("__debug__":Str))=ZZ:=by decide)(he:R3 (e::es) X.env=(ZZ,S8 e X.env)::R3 es X.env:=by rfl)(hpl:(SQ pos (R3 es X.env)).any (·.1)=ZZ:=by rfl) :
 PE X (.Call (.Name x p) (e::es) [] pos) (Qd C sp dvs E t):=by
 intro pins s σ H Q I h;refine Ui (fZ I hg hm ?_ hdb);refine UJ (h₀:=X.base) I.ok.mod.kin M.kp (thn (ha pos pins s σ H _ I h) λus s1 ⟨vs,H1,I1,r,q⟩=>⟨I1.kIn,?_⟩) he hpl;exact zJ M F hr hb hd hx I1 r q
end
section
variable{X:Cx}{CX:CXT}{k:Nat}{f C:Addr}{fd:Sw}{ps ks:List Str}{sp:Sp}{E:XK}{x m:Str}{p pos apos kpos:Pos}{e o:Expr}{es:List Expr}{kws:List VN}{te ta:TE}{t tk:TA}{nm:Option Str}
structure KBinds(K:QK)(fd:Sw)(ps ks:List Str)(g:List Value->List Value->List Value)(gV:List V->List V->List V):Prop where
 to:∀(s:Shared)(us ws:List Value),K.In s.heap->(g us ws).length=ps.length->WK s fd ⟨us,ks.zip ws⟩ (ps.zip (g us ws))
 rel:∀{vs:List V}{us:List Value}{zs:List V}{ws:List Value},Vals vs us->Vals zs ws->Vals (gV vs zs) (g us ws)
variable{g:List Value->List Value->List Value}{gV:List V->List V->List V}
end
structure FnScope(N P:List Str)(sc:Scope):Prop where
 kind:sc.kind=.function
 co:sc.isCoroutine=ZZ
 gen:sc.isGenerator=ZZ
 nd:N.Nodup
 pre:N.take P.length=P
 par:∀x∈P,sc.names.lookup x=Z_ .local\/sc.names.lookup x=Z_ .cell
 nofree:∀y∈sc.names,y.2≠.free
theorem oA{kindOf:Str->Option SX}{x:Str}:∀{binds:List (Str×Value)}{m:Str->Option Value},(∀v,(x,v)∉binds)->X8 kindOf binds m x=m x
 | [],_,_=>rfl
 | (n,v)::r,m,h=>by
   unfold X8;rw[oA λw hw=>h w (QQ _ hw)];split
   .have:x≠n:=by rintro rfl;exact h v QM
    simp[this]
   .rfl
theorem pA{kindOf:Str->Option SX}{x:Str}:∀{binds:List (Str×Value)}{m:Str->Option Value},(∀v,(x,v)∉binds)->Xa kindOf binds m x=m x
 | [],_,_=>rfl
 | (n,v)::r,m,h=>by
   unfold Xa;rw[pA λw hw=>h w (QQ _ hw)];split
   .rfl
   .have:x≠n:=by rintro rfl;exact h v QM
    simp[this]
theorem nC{kindOf:Str->Option SX}{x:Str}{v:Value}:∀{P:List Str}{vs:List Value}{i:Nat}{m:Str->Option Value},P.Nodup->P[i]?=Z_ x->vs[i]?=Z_ v->kindOf x=Z_ .local ->
 X8 kindOf (P.zip vs) m x=Z_ v
 | [],_,_,_,_,h,_,_=>by simp at h
 | _::_,[],_,_,_,_,h,_=>by simp at h
 | p::P,w::vs,0,m,nd,h1,h2,hk=>by
   simp at h1 h2;subst h1;subst h2;show X8 kindOf ((p,w)::P.zip vs) m p=_;unfold X8;rw[oA λv hv=>(T3.mp nd).1 (List.of_mem_zip hv).1,if_pos hk];simp
 | p::P,w::vs,i+1,m,nd,h1,h2,hk=>by
   show X8 kindOf ((p,w)::P.zip vs) m x=_;unfold X8;exact nC (i:=i) (T3.mp nd).2 (by simpa using h1) (by simpa using h2) hk
theorem oZ{kindOf:Str->Option SX}{x:Str}{v:Value}:∀{P:List Str}{vs:List Value}{i:Nat}{m:Str->Option Value},P.Nodup->P[i]?=Z_ x->vs[i]?=Z_ v->kindOf x≠some .local ->
 Xa kindOf (P.zip vs) m x=Z_ v
 | [],_,_,_,_,h,_,_=>by simp at h
 | _::_,[],_,_,_,_,h,_=>by simp at h
 | p::P,w::vs,0,m,nd,h1,h2,hk=>by
   simp at h1 h2;subst h1;subst h2;show Xa kindOf ((p,w)::P.zip vs) m p=_;unfold Xa;rw[pA λv hv=>(T3.mp nd).1 (List.of_mem_zip hv).1,if_neg hk];simp
 | p::P,w::vs,i+1,m,nd,h1,h2,hk=>by
   show Xa kindOf ((p,w)::P.zip vs) m x=_;unfold Xa;exact oZ (i:=i) (T3.mp nd).2 (by simpa using h1) (by simpa using h2) hk
noncomputable def start(N:List Str)(vs:List V):St:=vs.map some++Ry (N.length-vs.length) none
noncomputable def cxOf(CX:CXT)(P:Rt)(w:RX)(K:QK)(mg:Str->Option Value)(base:Rc)(N:List Str)(qual:Str)(scope:Scope)(f:Addr)(cd:Value)(A:S5)(outer:List Env)(s:Shared)(H:Hp)(E:XK):Cx where
 prog:=P
 w:=w
 K:=K
 mg:=mg
 base:=base
 A:=A.deeper (VR qual scope s.heap.objs.size f cd)
 N:=N
 s₀:=s
 H₀:=H
 env:=VR qual scope s.heap.objs.size f cd
 outer:=outer
 stack:=VR qual scope s.heap.objs.size f cd::outer
 ex:=[]
 calm:=ZX
 fn:=λ_=>true
 pn:=[]
 xe:=λe s'=>Rg (Rm P w) (A.deeper (VR qual scope s.heap.objs.size f cd)) (leaving (VR qual scope s.heap.objs.size f cd) e) (λ_ s''=>CX outer H s E e s'') (λe' s''=>CX outer H s E e' s'') s'
def qY{sc:Scope}{n:Nat}{x:Str}(h:sc.names.lookup x=Z_ .cell):∃c,(cellsFrom n sc.names []).lookup x=Z_ c:=by
 have q:=PySem.W.cellsFrom_some sc.names n [] (.inl h);exact TY.mp q
def wF{CX:CXT}{P:Rt}{w:RX}{K:QK}{mg:Str->Option Value}{base:Rc}{N ps:List Str}{qual:Str}{scope:Scope}{f:Addr}{cd:Value}{A:S5}{outer:List Env}{s s1:Shared}{H:Hp}{E:XK}{us:List Value}{vs:List V}
 (S:FnScope N ps scope)(hd:A.handled=ZW)(e0:Env0 P w K mg base A outer s H)(hl:vs.length=ps.length)(r:Vals vs us)
 (x:InCallC s s.heap.objs.size (X8 (VR qual scope s.heap.objs.size f cd).kindOf (ps.zip us) λ_=>none) (cellsFrom (s.heap.objs.size+1) scope.names []) (Xa (VR qual scope s.heap.objs.size f cd).kindOf (ps.zip us) λ_=>none) s1) :
 Inv (cxOf CX P w K mg base N qual scope f cd A outer s H E) [] (start N vs) H s1:=by
 have hpl:ps.length<=N.length:=by have:=congrArg Sx S.pre;rw[Uu]at this;omega
 obtain⟨h1,tk,rfl,hk⟩:=x.done
 have noA:∀b:Addr,b∉(cxOf CX P w K mg base N qual scope f cd A outer s H E).ex:=λb z=>absurd (show b∈([]:List Addr)from z) (by simp)
 refine⟨⟨e0.mod,S.kind,rfl,rfl,Ra _,λy z c h1 h2=>?_,λy hy=>?_,λy c _ h=>?_,λ_=>hd,S5.frames_deeper e0.frames,.inr ⟨rfl,rfl⟩,λb z=>absurd z (noA b),e0.bs,e0.bsz,λb _ _=>noA b,λb z=>absurd z (noA b),e0.funs,e0.frf⟩,
  rfl,e0.bare,Un.kept hk,⟨_,x.toInCall.ns,λi y v h1 h2 h3=>?_⟩,λy c h=>⟨_,x.cell y c h⟩,e0.hok.fresh (Ra _),λy c h=>?_,λp hp=>absurd (show p∈([]:List (Addr×Obj))from hp) (by simp),e0.hok.kept hk,?_⟩
 .exact name_of_addr x.apart (Td h1) (Td h2)
 .have hy:scope.names.lookup y=Z_ .cell\/scope.names.lookup y=Z_ .free:=hy
  rcases hy with hy | hy
  .exact qY hy
  .exact absurd rfl (S.nofree _ (Td hy))
 .exact Nat.le_of_lt (x.above y c (Td h))
 .have hi:i<vs.length:=by
   unfold start at h2
   by_cases hi:i<vs.length
   .exact hi
   .rw[RT (by simpa using hi)]at h2
    rw[V8]at h2;split at h2<;>cases h2
  have ha:vs[i]?=Z_ v:=by
   unfold start at h2;rw[S6 (by simpa using hi),RM]at h2
   cases e:vs[i]? with
   | none=>rw[e]at h2;cases h2
   | some a=>rw[e]at h2;cases h2;rfl
  obtain⟨u,hu,rv⟩:=r.get ha
  have hp:ps[i]?=Z_ y:=by
   rw[<-S.pre,List.getElem?_take_of_lt (by omega)];exact h1
  have ndP:ps.Nodup:=by rw[<-S.pre];exact S.nd.sublist (List.take_sublist _ _)
  refine⟨u,rv,?_⟩;rcases S.par y (RK hp)with k | k
  .exact .inl ⟨k,nC ndP hp hu k⟩
  .obtain⟨c,e⟩:=qY (n:=s.heap.objs.size+1) k
   refine .inr ⟨.inl k,c,e,?_⟩;have q:=x.cell y c e;rw[oZ ndP hp hu (by show scope.names.lookup y≠_;rw[k];decide)]at q;exact q
 .exact e0.hok.fresh (Nat.le_of_lt (x.above y c (Td h)))
 .unfold start
  show _=N.length;rw[R4,R5,Tg];omega
def Ff{CX:CXT}{P:Rt}{w:RX}{K:QK}{mg:Str->Option Value}{base:Rc}{k:Nat}{f:Addr}{name qual:Str}{params:Arguments}{body:List Stmt}{scope:Scope}{dV kV doc pm cdv ct oc:Value}{an od:Option Addr}
 {osl:Array (Option Value)}{N ps:List Str}{sp:Sp}(lk:K.lookup f=Z_ ⟨oc,od,.func (Tv name qual params body scope dV kV doc pm an cdv ct),osl⟩)(hcd:Uk K cdv qual=ZX)(S:FnScope N ps scope)
 (len:∀vs H Q E,sp vs H Q E->vs.length=ps.length)
 (hbody:∀(A:S5)(outer:List Env)(s:Shared)(H:Hp)(vs:List V)(Q:VK)(E:XK),Room k (A.deeper (VR qual scope s.heap.objs.size f cdv))->sp vs H Q E ->
  ∃t,PSs (cxOf CX P w K mg base N qual scope f cdv A outer s H E) body t/\t { nx:=λ_ H'=>Q .non H',rt:=Q } (start N vs) H) :
 FnOk P w K mg base CX (k+1) f (Tv name qual params body scope dV kV doc pm an cdv ct) ps sp:=by
 refine⟨len,λA outer s H args us vs Q E hr e0 hb r hsp=>?_⟩;have hl:=len _ _ _ _ hsp
 have KX:K.In s.heap:=e0.mod.kin.keeps λb o e=>(e0.bs b o e).1
 have lim:s.heap.NoLimit:=e0.mod.nolimit.keeps λb o e=>(e0.bs b o e).1
 have hkind:∀y∈ps.zip us,scope.names.lookup y.1=Z_ .local\/(scope.names.lookup y.1=Z_ .cell/\((cellsFrom (s.heap.objs.size+1) scope.names []).lookup y.1).isSome=ZX):=λ⟨n,v⟩ hy=>by
  rcases S.par n (List.of_mem_zip hy).1 with q | q
  .exact .inl q
  .exact .inr ⟨q,PySem.W.cellsFrom_some _ _ _ (.inl q)⟩
 refine codeAny_call_function hr.depth (KX _ _ lk) rfl S.co S.gen rfl (PySem.W.codeRec_of KX hcd) (hb _ _ _ _ ?_)
 refine wpAny_newFunctionEnv_cells S.kind hkind λenv he s1 x=>?_
 subst he;refine⟨lim.keeps x.toInCall.keep,codeAny_func ?_⟩;obtain⟨t,ht,hq⟩:=hbody A outer s H vs Q E (hr.deeper _) hsp;have I:Inv (cxOf CX P w K mg base N qual scope f cdv A outer s H E) [] (start N vs) H s1:=wF S hr.hd e0 hl r x
 refine Tp (ht [] s1 (start N vs) H _ I hq) (λfl s' hs=>?_) λe s' hs=>hs
 have fin:∀{σ':St} {H':Hp} {v:V} {u:Value},Inv (cxOf CX P w K mg base N qual scope f cdv A outer s H E) [] σ' H' s'->RelV v u->Q v H'->CE outer P w H s Q u s' :=
  λ{σ' H' v u} J rv q=>⟨v,H',J.os,J.bare,J.base,J.hok,rv,q⟩
 cases fl with
 | ret u=>
   obtain⟨v,σ',H',J,rv,q⟩:=hs;exact fin J rv q
 | next=>
   obtain⟨σ',H',J,q⟩:=hs;exact fin (v:=V.non) (u:=Value.none) J rfl q
 | brk=>
   obtain⟨_,_,_,q⟩:=hs;exact Rr q
 | cont=>
   obtain⟨_,_,_,q⟩:=hs;exact Rr q
section
variable{X:Cx}{x:Str}{p pos:Pos}{e:Expr}{es:List Expr}{t:TA}{id T:String}{r:List V->Hp->VK->Prop}
def tCB(r:List V->Hp->VK->Prop)(t:TA):TE:=fun σ H Q=>t σ H λvs H1=>r vs H1 Q
noncomputable def mC(hc:CallR X (.builtin id) r)(hg:Gl X x)(hm:X.mg x=ZW)(hv:Tr x=Z_ (.builtin id))(ha:PA X (e::es) t)(hn:x≠"__name__":=by decide)(hdb:(x==("__debug__":Str))=ZZ:=by decide)
 (he:R3 (e::es) X.env=(ZZ,S8 e X.env)::R3 es X.env:=by rfl)(hpl:(SQ pos (R3 es X.env)).any (·.1)=ZZ:=by rfl):PE X (.Call (.Name x p) (e::es) [] pos) (tCB r t):=by
 intro pins s σ H Q I h;refine Ui (sY I hg hm hv ?_ hn hdb);exact PyProof.Rows.callWith_builtin1 (thn (ha pos pins s σ H _ I h) λus s1 ⟨vs,H1,I1,r1,q1⟩=>hc pins s1 σ H1 vs us Q I1 r1 q1) he hpl
noncomputable def yw(hc:CallR X (.type T) r)(hg:Gl X x)(hm:X.mg x=ZW)(hv:Tr x=Z_ (.type T))(ha:PA X (e::es) t)(hn:x≠"__name__":=by decide)(hdb:(x==("__debug__":Str))=ZZ:=by decide)
 (he:R3 (e::es) X.env=(ZZ,S8 e X.env)::R3 es X.env:=by rfl)(hpl:(SQ pos (R3 es X.env)).any (·.1)=ZZ:=by rfl):PE X (.Call (.Name x p) (e::es) [] pos) (tCB r t):=by
 intro pins s σ H Q I h;refine Ui (sY I hg hm hv ?_ hn hdb);exact PyProof.Rows.callWith_type1 (thn (ha pos pins s σ H _ I h) λus s1 ⟨vs,H1,I1,r1,q1⟩=>hc pins s1 σ H1 vs us Q I1 r1 q1) he hpl
end
section
variable{κ:Type} [DecidableEq κ]
noncomputable def valV(kvs:List (κ×V))(k:κ):Option V:=(kvs.find? λkv=>decide (kv.1=k)).map (·.2)
noncomputable def putK(kvs:List (κ×V))(k:κ)(v:V):List (κ×V) :=
 if(kvs.any λkv=>decide (kv.1=k))=ZX then kvs.map (λkv=>if kv.1=k then(kv.1,v)else kv)else kvs++[(k,v)]
def m6{p:κ×V}{r:List (κ×V)}{k:κ}(e:p.1=k):valV (p::r) k=Z_ p.2:=by simp[valV,V0,e]
def lW{p:κ×V}{r:List (κ×V)}{k:κ}(e:¬p.1=k):valV (p::r) k=valV r k:=by simp[valV,V0,e]
theorem rn(k:κ):∀kvs:List (κ×V),(kvs.any λkv=>decide (kv.1=k))=(valV kvs k).isSome
 | []=>rfl
 | p::r=>by
   rw[RN]
   by_cases e:p.1=k
   .simp only[m6 e,decide_eq_true e,Bool.true_or,Option.isSome_some]
   .rw[lW e,decide_eq_false e,Ug];exact rn k r
def jJ(kvs:List (κ×V))(k:κ)(v:V):(putK kvs k v).length<=kvs.length+1:=by
 unfold putK;split
 .rw[R5];omega
 .rw[R4,R6,T4];omega
def RelO.isSome_eq(r:RelO o u):o.isSome=u.isSome:=by
 cases o with
 | none=>cases u with
   | none=>rfl
   | some _=>exact(show False from r).elim
 | some _=>cases u with
   | none=>exact(show False from r).elim
   | some _=>rfl
theorem RelO.getD(r:RelO o u)(rd:RelV d d'):RelV (o.getD d) (u.getD d'):=by
 cases o with
 | none=>cases u with
   | none=>exact rd
   | some _=>exact(show False from r).elim
 | some _=>cases u with
   | none=>exact(show False from r).elim
   | some _=>exact r
def KV.val(r:KV kvs vs)(k:κ):RelO (valV kvs k) (W5 vs k):=by
 unfold KV at r
 induction r with
 | nil=>exact Ur
 | @cons p q ps qs h t ih=>
   obtain⟨h1,h2⟩:=h
   by_cases e:p.1=k
   .have e':q.1=k:=h1.symm.trans e
    have b:W5 (q::qs) k=Z_ q.2:=by simp[W5,V0,e']
    rw[m6 e,b];exact h2
   .have e':¬q.1=k:=λz=>e (h1.trans z)
    have b:W5 (q::qs) k=W5 qs k:=by simp[W5,V0,e']
    rw[lW e,b];exact ih
theorem KV.any(r:KV kvs vs)(k:κ):(kvs.any λkv=>decide (kv.1=k))=vs.any λkv=>decide (kv.1=k):=by
 unfold KV at r
 induction r with
 | nil=>rfl
 | cons h t ih=>rw[RN,RN,ih,h.1]
def KV.repl(r:KV kvs vs)(k:κ)(ry:RelV y u) :
 KV (kvs.map λkv=>if kv.1=k then(kv.1,y)else kv) (vs.map λkv=>if kv.1=k then(kv.1,u)else kv):=by
 unfold KV at r ⊢
 induction r with
 | nil=>exact .nil
 | @cons p q ps qs h t ih=>
   rw[QL,QL];refine .cons ?_ ih;obtain⟨h1,h2⟩:=h
   by_cases e:p.1=k
   .rw[if_pos e,if_pos (h1.symm.trans e)];exact⟨h1,ry⟩
   .rw[if_neg e,if_neg (λz=>e (h1.trans z))];exact⟨h1,h2⟩
def KV.put(r:KV kvs vs)(k:κ)(ry:RelV y u):KV (putK kvs k y) (stored vs k u):=by
 unfold putK stored;rw[r.any k]
 by_cases e:(vs.any λkv=>decide (kv.1=k))=ZX
 .rw[if_pos e,if_pos e];exact r.repl k ry
 .rw[if_neg e,if_neg e];exact Vl.snoc r ⟨rfl,ry⟩
def KV.keys{kvs:List (κ×V)}{vs:List (κ×Value)}(r:KV kvs vs):kvs.map (·.1)=vs.map (·.1):=by
 unfold KV at r
 induction r with
 | nil=>rfl
 | cons h t ih=>rw[QL,QL,ih,h.1]
theorem KV.length(r:KV kvs vs):kvs.length=vs.length:=W7 r
end
def uI{P:Rt}{w:RX}{k:Key}{u:Value}(r:RelV (kV k) u):(bD P w).is k u=ZX:=by
 cases k with
 | inl i=>obtain⟨t,e⟩:=(show ∃t,u=Value.int i t from r);subst e;exact pH P w i t
 | inr x=>obtain⟨t,e⟩:=(show ∃t,u=Value.str x t from r);subst e;exact pR P w x t
theorem nA:∀{ks:List Key}{us:List Value},Vals (ks.map kV) us->ItemsAre (bD P w) ks us
 | [],_,r=>by rw[S9]at r;cases r;exact .nil
 | k::ks,_,r=>by
   rw[QL]at r
   cases r with
   | cons h t=>exact .cons (uI h) (nA t)
abbrev KT(H:Hp):List (List Key×V)->List (List Key×Addr×Value)->Prop:=Vl λp q=>p.1=q.1/\H q.2.1=Z_ (.tup (p.1.map kV))/\RelV p.2 q.2.2
def KT.val(r:KT H kvs xs)(k:List Key):RelO (valV kvs k) ((WW xs k).map (·.2)):=by
 induction r with
 | nil=>exact Ur
 | @cons p q ps qs h t ih=>
   obtain⟨h1,_,h2⟩:=h
   by_cases e:p.1=k
   .have e':q.1=k:=h1.symm.trans e
    have b:WW (q::qs) k=Z_ q.2:=by simp[WW,V0,e']
    rw[m6 e,b];exact h2
   .have e':¬q.1=k:=λz=>e (h1.trans z)
    have b:WW (q::qs) k=WW qs k:=by simp[WW,V0,e']
    rw[lW e,b];exact ih
def KT.repl(r:KT H kvs xs)(k:List Key)(ry:RelV y u) :
 KT H (kvs.map λkv=>if kv.1=k then(kv.1,y)else kv) (xs.map (putAt k u)):=by
 induction r with
 | nil=>exact .nil
 | @cons p q ps qs h t ih=>
   rw[QL,QL];refine .cons ?_ ih;obtain⟨h1,h2,h3⟩:=h;unfold putAt
   by_cases e:p.1=k
   .rw[if_pos e,if_pos (h1.symm.trans e)];exact⟨h1,h2,ry⟩
   .rw[if_neg e,if_neg (λz=>e (h1.trans z))];exact⟨h1,h2,h3⟩
def KT.put(r:KT H kvs xs)(k:List Key)(hb:H b=Z_ (.tup (k.map kV)))(ry:RelV y u) :
 KT H (putK kvs k y) (storedH xs k b u):=by
 have e:(kvs.any λkv=>decide (kv.1=k))=(WW xs k).isSome:=by
  rw[rn,(r.val k).isSome_eq,Option.isSome_map]
 unfold putK storedH;rw[e]
 by_cases q:(WW xs k).isSome=ZX
 .rw[if_pos q,if_pos q];exact r.repl k ry
 .rw[if_neg q,if_neg q];exact Vl.snoc r ⟨rfl,hb,ry⟩
def KT.keeps(r:KT H kvs xs)(ht:∀b ys,H b=Z_ (.tup ys)->H' b=Z_ (.tup ys)):KT H' kvs xs :=
 Paired.mapP r λ_ _ z=>⟨z.1,ht _ _ z.2.1,z.2.2⟩
section
variable{P:Rt}{w:RX}{H:Hp}{h:Rc}{a:Addr}
def Mz(ok:HOk P w H h)(e:Rd H a u):ObjOk P w H h a u:=e.ok ok
abbrev RdK(H:Hp)(a:Addr)(kvs:List (Key×V)):Prop:=∃ep,Rd H a (.dK kvs ep)
def mF(ok:HOk P w H h)(e:RdK H a kvs):kvs.length<=sizeLine/\(a==U6)=ZZ/\∃vs,KV kvs vs/\h.DictOf (bD P w) a vs:=by
 obtain⟨ep,e⟩:=e
 obtain⟨h1,h2,vs,h3,h4⟩:=(show ObjOk P w H h a (.dK kvs ep)from Mz ok e)
 exact⟨h1,h2,vs,h3,h4.dictOf⟩
def Q8(ok:HOk P w H h)(e:H a=Z_ (.dK kvs ep)):kvs.length<=sizeLine/\(a==U6)=ZZ/\∃vs,KV kvs vs/\h.DictOf (bD P w) a vs:=mF ok ⟨ep,.inl e⟩
def kO(ok:HOk P w H h)(e:H a=Z_ (.tup (ks.map kV))):(Wo (bD P w)).is h ks a:=by
 obtain⟨_,its,r,o,h1,h2,n,h3⟩:=(show ObjOk P w H h a (.tup (ks.map kV))from ok a _ e)
 exact⟨o,its.toArray,n,h1,h2,h3,by simpa using nA r⟩
def qD(ok:HOk P w H h)(e:Rd H a (.dT kvs)):kvs.length<=sizeLine/\(a==U6)=ZZ /\
 ∃xs,KT H kvs xs/\h.DictOfH (Wo (bD P w)) a xs:=by
 obtain⟨z,y,xs,r,o,es,ep,h1,h2,h3,h4,h5⟩:=(show ObjOk P w H h a (.dT kvs)from Mz ok e)
 refine⟨z,y,xs,r,o,es,ep,h1,h2,h3,h4,λx hx=>?_,h5⟩
 have all:∀{l:List (List Key×V)}{m:List (List Key×Addr×Value)},KT H l m->∀x∈m,(Wo (bD P w)).is h x.1 x.2.1:=by
  intro l m q
  induction q with
  | nil=>intro x hx;exact nomatch hx
  | @cons p q ps qs hq t ih=>
    intro x hx;rcases R8.mp hx with e | hx
    .subst e
     exact kO ok (by rw[<-hq.1];exact hq.2.1)
    .exact ih x hx
 exact all r x hx
def Om(ok:HOk P w H h)(e:H a=Z_ (.dT kvs)):kvs.length<=sizeLine/\(a==U6)=ZZ /\
 ∃xs,KT H kvs xs/\h.DictOfH (Wo (bD P w)) a xs:=qD ok (.inl e)
end
def DGet(H:Hp)(a:Addr)(y:V)(r:Option V):Prop :=
 (∃kvs k,RdK H a kvs/\y=kV k/\r=valV kvs k)\/∃kvs k b,Rd H a (.dT kvs)/\y=.ref b/\H b=Z_ (.tup (k.map kV))/\r=valV kvs k
def DPut(H:Hp)(a:Addr)(y v:V)(H':Hp):Prop :=
 (∃kvs k ep ep',H a=Z_ (.dK kvs ep)/\y=kV k/\kvs.length<sizeLine/\H'=upd H a (.dK (putK kvs k v) ep')) \/
 ∃kvs k b,H a=Z_ (.dT kvs)/\y=.ref b/\H b=Z_ (.tup (k.map kV))/\kvs.length<sizeLine/\H'=upd H a (.dT (putK kvs k v))
theorem DGet.k{H:Hp}{a:Addr}{kvs:List (Key×V)}{k:Key}{ep:Nat}(e:H a=Z_ (.dK kvs ep)):DGet H a (kV k) (valV kvs k):=.inl ⟨kvs,k,⟨ep,.inl e⟩,rfl,rfl⟩
theorem DPut.k{H:Hp}{a:Addr}{kvs:List (Key×V)}{k:Key}{v:V}{ep ep':Nat}(e:H a=Z_ (.dK kvs ep))(hl:kvs.length<sizeLine):DPut H a (kV k) v (upd H a (.dK (putK kvs k v) ep')):=.inl ⟨kvs,k,ep,ep',e,rfl,hl,rfl⟩
section
variable{X:Cx}{pins:List (Addr×Obj)}{σ:St}{H:Hp}{s:Shared}{a:Addr}{y v:V}{u r:Value}{o:Option V}{A:S5}{E:Value->Shared->Prop}
def Inv.big(I:Inv X pins σ H s):U6<s.heap.objs.size:=by
 have h:RW<s.heap.objs.size:=(I.mod.glob.keeps I.bk).lt;exact Nat.lt_trans (by decide) h
def wG(hu:A.units+1<Vz)(I:Inv X pins σ H s)(g:DGet H a y (Z_ v))(ry:RelV y u)(h:∀w' s',Inv X pins σ H s'->RelV v w'->Q w' s') :
 Rg (Rm X.prog X.w) A (Wq (.ref a) u) Q E s:=by
 rcases g with⟨kvs,k,e,ey,l⟩ | ⟨kvs,k,b,e,ey,eb,l⟩
 .subst ey
  obtain⟨z,hd,vs,rel,dd⟩:=mF I.hok e;obtain⟨w',hw,rw'⟩:=RelO.some_of (v:=v) (o:=W5 vs k) (by rw[l];exact rel.val k);exact wpAny_getItem_of (uI ry) dd.mapOf hw (h w' _ (I.tok _) rw')
 .subst ey
  cases (show u=Value.ref b from ry);obtain⟨z,hd,xs,rel,dd⟩:=qD I.hok e;obtain⟨w',hw,rw'⟩:=RelO.some_of (v:=v) (o:=(WW xs k).map (·.2)) (by rw[l];exact rel.val k);obtain⟨p,hp,hp2⟩:=SM.mp hw;refine wpAny_getItem_heap (Ve hu) (kO I.hok eb) dd hp ?_;rw[hp2];exact h w' _ (I.tok _) rw'
def d_in(hu:A.units+1<Vz)(I:Inv X pins σ H s)(g:DGet H a y o)(ry:RelV y u)(h:∀s',Inv X pins σ H s'->Q (.bool o.isSome) s') :
 Rg (Rm X.prog X.w) A (Tq .In u (.ref a)) Q E s:=by
 rcases g with⟨kvs,k,e,ey,l⟩ | ⟨kvs,k,b,e,ey,eb,l⟩
 .subst ey
  obtain⟨z,hd,vs,rel,dd⟩:=mF I.hok e;refine wpAny_in_of (uI ry) hd dd.mapOf ?_;rw[<-(rel.val k).isSome_eq,<-l];exact h _ (I.tok _)
 .subst ey
  cases (show u=Value.ref b from ry);obtain⟨z,hd,xs,rel,dd⟩:=qD I.hok e;refine wpAny_in_heap (Ve hu) (kO I.hok eb) hd dd ?_;have q:=(rel.val k).isSome_eq;rw[Option.isSome_map]at q;rw[<-q,<-l];exact h _ (I.tok _)
def Ig(hu:A.units+1<Vz)(I:Inv X pins σ H s)(g:DGet H a y o)(ry:RelV y u)(h:∀s',Inv X pins σ H s'->Q (.bool (!o.isSome)) s') :
 Rg (Rm X.prog X.w) A (Tq .NotIn u (.ref a)) Q E s:=by
 rcases g with⟨kvs,k,e,ey,l⟩ | ⟨kvs,k,b,e,ey,eb,l⟩
 .subst ey
  obtain⟨z,hd,vs,rel,dd⟩:=mF I.hok e;refine wpAny_notIn_of (uI ry) hd dd.mapOf ?_;rw[<-(rel.val k).isSome_eq,<-l];exact h _ (I.tok _)
 .subst ey
  cases (show u=Value.ref b from ry);obtain⟨z,hd,xs,rel,dd⟩:=qD I.hok e;refine wpAny_notIn_heap (Ve hu) (kO I.hok eb) hd dd ?_;have q:=(rel.val k).isSome_eq;rw[Option.isSome_map]at q;rw[<-q,<-l];exact h _ (I.tok _)
def v7(I:Inv X pins σ H s)(mu:Mut (H a))(hs:Uv a s.heap h')(he:∃q,h'.get? a=Z_ q)(new:ObjOk X.prog X.w (upd H a ob) h' a ob) :
 Inv X pins σ (upd H a ob) { s with heap:=h',toks:=t' } :=
 I.write (x:=a) (e:=a) mu (.inl rfl) (λb q hb z=>(hs.2 b hb).trans z) he new
def JS(z:kvs.length<=sizeLine)(hd:(a==U6)=ZZ)(rel:KV kvs vs)(dd:h'.DictAt (bD P w) a vs ep) :
 ObjOk P w H' h' a (.dK kvs ep):=⟨z,hd,vs,rel,dd⟩
def vX(hu:A.units+1<Vz)(I:Inv X pins σ H s)(g:∃H',DPut H a y v H')(ry:RelV y u)(rv:RelV v r)(h:∀H' s',DPut H a y v H'->Inv X pins σ H' s'->Q () s') :
 Rg (Rm X.prog X.w) A (Xd (.ref a) u r) Q E s:=by
 obtain⟨H',g⟩:=g;have gg:=g;rcases g with⟨kvs,k,ep,ep',e,ey,l,eH⟩ | ⟨kvs,k,b,e,ey,eb,l,eH⟩
 .subst ey eH
  obtain⟨z,hd,vs,rel,dd⟩:=Q8 I.hok e
  have hz:vs.length<=sizeLine:=by rw[<-rel.length];exact z
  have hl:(putK kvs k v).length<=sizeLine:=by have:=jJ kvs k v;omega
  refine wpAny_setItem_pairs (hsz:=hz) (uI ry) dd λh' dd' hs=>?_
  have he:∃q,h'.get? a=Z_ q:=let⟨q,_,_,hq,_⟩:=dd';⟨q,hq⟩
  obtain⟨ep2,dd'⟩:=dd'.dictAt;exact h _ _ (.inl ⟨kvs,k,ep,ep2,e,rfl,l,rfl⟩) (v7 I (by rw[e];exact Ur) hs he (JS hl hd (rel.put k rv) dd'))
 .subst ey eH
  cases (show u=Value.ref b from ry);obtain⟨z,hd,xs,rel,dd⟩:=Om I.hok e
  have hz:xs.length<=sizeLine:=by rw[<-W7 rel];exact z
  have hl:(putK kvs k v).length<=sizeLine:=by have:=jJ kvs k v;omega
  refine wpAny_setItem_heap (hsz:=hz) (Ve hu) (kO I.hok eb) dd λh' dd' hs=>h _ _ gg ?_
  obtain⟨q,es,ep,hq,h2,h3,h4,_,h5⟩:=dd';refine v7 I (by rw[e];exact Ur) hs ⟨q,hq⟩ ⟨hl,hd,_,(rel.put k eb rv).keeps λc ys ec=>?_,q,es,ep,hq,h2,h3,h4,h5⟩;rw[aX (Oi ec e (λz=>nomatch z))];exact ec
end
section
variable{X:Cx}{pins:List (Addr×Obj)}{σ:St}{H:Hp}{s:Shared}{a:Addr}{kvs:List (Key×V)}{k:Key}{u:Value}{A:S5}{E:Value->Shared->Prop}
def Qo(I:Inv X pins σ H s)(e:RdK H a kvs)(h:∀t s',Inv X pins σ H s'->Q (.int kvs.length t) s'):Rg (Rm X.prog X.w) A (call (.builtin "len") [.ref a]) Q E s:=by
 obtain⟨z,hd,vs,rel,dd⟩:=mF I.hok e;refine call_len_dict hd dd (by rw[<-rel.length];rw[Th]at z;omega) ?_;rw[<-rel.length];exact h _ _ (I.tok _)
end
def NoSl(i:Expr):Prop:=∀ov iv,WR i ZZ ov iv=operate [ov,iv] (Wq ov iv)
def Je{prog:Rt}{w:RX}{A:S5}{E:Value->Shared->Prop}{s:Shared}{env:Env}{value slice:Expr}{pos:Pos}{T id:String}{Q:Value->Shared->Prop}
 (hl:typeLookup (.type T) "__getitem__"=pure (Z_ (.builtin id)))(hs:NoSl slice)
 (h:Rg (Rm prog w) A (S8 value env) (λo s₁=>Rg (Rm prog w) A (S8 slice env) (λi s₂=>s₂.TypeIs o T/\Rg (Rm prog w) A (Wq o i) Q E s₂) E s₁) E s) :
 Rg (Rm prog w) A (S8 (.Subscript value slice pos) env) Q E s:=by
 refine Subscript_ (Tp h (λo s₁ h₁=>Tp h₁ (λi s₂ h₂=>?_) λ_ _ x=>x) λ_ _ x=>x);obtain⟨hT,h₂⟩:=h₂;unfold subscriptTail;refine QS ?_;rw[getitemInPython_of_ne hT.not_modules];refine QS (wpAny_specialOf hT hl ?_)
 have fin:Rg (Rm prog w) A (WR slice ZZ o i) (λr s₃=>Rg (Rm prog w) A (letTemporaryGo value o r >>= λ_=>pure r) Q E s₃) E s₂:=by
  rw[hs o i];exact wpAny_operating (Tp h₂ (λr s₃ h₃=>QS (wpAny_letTemporaryGo (Rh h₃))) λ_ _ x=>x)
 first
  | exact Rh (QS fin)
  | exact QS (Rh (QS fin))
  | exact QS fin
def qb(I:Inv X pins σ H s)(g:DGet H a y o):s.TypeIs (.ref a) "dict":=by
 rcases g with⟨kvs,k,e,_,_⟩ | ⟨kvs,k,b,e,_,_,_⟩
 .obtain⟨_,_,vs,_,dd⟩:=mF I.hok e
  exact dd.typeIs
 .obtain⟨_,_,xs,_,dd⟩:=qD I.hok e
  exact dd.typeIs
def Pg(td ty:TE):TE:=fun σ H Q=>td σ H λx H1=>ty σ H1 λy H2=>∃a v,x=.ref a/\DGet H2 a y (Z_ v)/\Q v H2
def tDIn(ty td:TE):TE:=fun σ H Q=>ty σ H λy H1=>td σ H1 λx H2=>∃a o,x=.ref a/\DGet H2 a y o/\Q (.bl o.isSome) H2
def G9(ty td:TE):TE:=fun σ H Q=>ty σ H λy H1=>td σ H1 λx H2=>∃a o,x=.ref a/\DGet H2 a y o/\Q (.bl (!o.isSome)) H2
def OJ(td ty tv:TE):TS:=λD σ H=>tv σ H λv H1=>td σ H1 λx H2=>ty σ H2 λy H3=>∃a,x=.ref a/\(∃H4,DPut H3 a y v H4)/\∀H4,DPut H3 a y v H4->D.nx σ H4
section
variable{X:Cx}{o i e value:Expr}{pos pos' tpos:Pos}{td ty tv:TE}
def Fe(hu:X.A.units+1<Vz)(ho:PE X o td)(hi:PE X i ty)(hs:NoSl i):PE X (.Subscript o i pos) (Pg td ty):=by
 intro pins s σ H Q I h;refine Je PySem.F.slot_dict_getitem.lookup hs (thn (ho pins s σ H _ I h) λu s1 ⟨x,H1,I1,rx,q1⟩=>thn (hi pins s1 σ H1 _ I1 q1) λiv s2 ⟨y,H2,I2,ry,a,v,ex,g,q2⟩=>?_);subst ex;obtain rfl:u=Value.ref a:=rx;exact⟨qb I2 g,wG hu I2 g ry λw' s3 I3 rw'=>⟨v,H2,I3,rw',q2⟩⟩
def DQ(hu:X.A.units+1<Vz)(hi:PE X i ty)(ho:PE X o td):PC X .In i o (tDIn ty td):=by
 intro pins s σ H Q I h
 refine thn (hi pins s σ H _ I h) λiv s1 ⟨y,H1,I1,ry,q1⟩=>thn (ho pins s1 σ H1 _ I1 q1) λu s2 ⟨x,H2,I2,rx,a,ov,ex,g,q2⟩=>?_
 subst ex;obtain rfl:u=Value.ref a:=rx
 exact d_in hu I2 g ry λs3 I3=>⟨.bl ov.isSome,H2,I3,rfl,q2⟩
def oJ(hu:X.A.units+1<Vz)(hi:PE X i ty)(ho:PE X o td):PC X .NotIn i o (G9 ty td):=by
 intro pins s σ H Q I h
 refine thn (hi pins s σ H _ I h) λiv s1 ⟨y,H1,I1,ry,q1⟩=>thn (ho pins s1 σ H1 _ I1 q1) λu s2 ⟨x,H2,I2,rx,a,ov,ex,g,q2⟩=>?_
 subst ex;obtain rfl:u=Value.ref a:=rx
 exact Ig hu I2 g ry λs3 I3=>⟨.bl (!ov.isSome),H2,I3,rfl,q2⟩
def FP(hu:X.A.units+1<Vz)(ho:PE X o td)(hi:PE X i ty)(hv:PE X value tv)(hs:Uc value (Z_ (.Subscript o i pos')) pos.line X.env=pure ZZ) :
 PS X (.Assign [.Subscript o i pos'] value pos) (OJ td ty tv):=by
 intro pins s σ H D I h;refine wpAny_Assign_Subscript (thn (hv pins s σ H _ I h) λr s1 ⟨v,H1,I1,rv,q1⟩=>thn (ho pins s1 σ H1 _ I1 q1) λu s2 ⟨x,H2,I2,rx,q2⟩=>thn (hi pins s2 σ H2 _ I2 q2) λiv s3 ⟨y,H3,I3,ry,a,ex,g,q3⟩=>?_) hs;subst ex;obtain rfl:u=Value.ref a:=rx
 exact vX hu I3 g ry rv λH4 s4 g4 I4=>⟨σ,H4,I4,q3 H4 g4⟩
end
def Ae(h:Rc)(hb:U6<h.objs.size):∃ep,ObjOk P w H (h.push { cls:=.type "dict",data:=.dict #[] }) h.objs.size (.dK [] ep):=by
 obtain⟨ep,x⟩:=(Rc.DictOf.new (knd:=bD P w) h).dictAt;exact⟨ep,Va _,beq_eq_false_iff_ne.mpr (SJ (RL hb)),[],.nil,x⟩
def Mm:TE:=λ_ H Q=>∀p ep,H p=ZW->Q (.ref p) (upd H p (.dK [] ep))
section
variable{X:Cx}{pos:Pos}
def Aa:PE X (.Dict [] [] pos) Mm:=λpins s σ H Q I h=>by
 obtain⟨ep,ok⟩:=Ae (P:=X.prog) (w:=X.w) (H:=upd H s.heap.objs.size (.dK [] 0)) s.heap I.big;have ok:ObjOk X.prog X.w (upd H s.heap.objs.size (.dK [] ep)) (s.heap.push { cls:=.type "dict",data:=.dict #[] }) s.heap.objs.size (.dK [] ep):=ok;exact wpAny_Dict_empty ⟨.ref s.heap.objs.size,_,I.laid (a:=s.heap.objs.size) (o:=.dK [] ep) (t':=s.toks) (λ_ _ q=>QV _ q) (Ra _) ok,rfl,h _ _ (I.hok.fresh (Ra _))⟩
end
structure M1(X:Cx)(o:Expr)(m:Str)(apos:Pos)(e:Expr)(cpos:Pos):Prop where
 base:Uq o m X.env (S8 o X.env)=S8 o X.env
 few:((SQ cpos (R3 [e] X.env)).all (λx=>!x.1)&&(Vc cpos (TJ [] X.env)).all (λx=>x.1.isSome)
  && decide (([e]:List Expr).length+([]:List VN).length+(if([]:List VN).isEmpty then 0 else 1)<30))=ZX
 line:(apos.endLine==cpos.line)=ZX
 trees:SQ cpos (R3 [e] X.env)=[(ZZ,S8 e X.env)]
structure M2(X:Cx)(o:Expr)(m:Str)(apos:Pos)(e f:Expr)(cpos:Pos):Prop where
 base:Uq o m X.env (S8 o X.env)=S8 o X.env
 few:((SQ cpos (R3 [e,f] X.env)).all (λx=>!x.1)&&(Vc cpos (TJ [] X.env)).all (λx=>x.1.isSome)
  && decide (([e,f]:List Expr).length+([]:List VN).length+(if([]:List VN).isEmpty then 0 else 1)<30))=ZX
 line:(apos.endLine==cpos.line)=ZX
 trees:SQ cpos (R3 [e,f] X.env)=[(ZZ,S8 e X.env),(ZZ,S8 f X.env)]
def IsD(H:Hp)(a:Addr):Prop:=(∃kvs,RdK H a kvs)\/∃kvs,Rd H a (.dT kvs)
def M4(I:Inv X pins σ H s)(d:IsD H a) :
 s.TypeIs (.ref a) "dict"/\(∀b,Value.ref a=.ref b->∃ob,s.heap.get? b=Z_ ob/\ob.dict=ZW)/\(a==U6)=ZZ:=by
 rcases d with⟨kvs,e⟩ | ⟨kvs,e⟩
 .obtain⟨_,hd,vs,_,dd⟩:=mF I.hok e
  refine⟨dd.typeIs,λb q=>?_,hd⟩;cases q;obtain⟨ob,_,_,h1,h2,_⟩:=dd;exact⟨ob,h1,h2.2.1⟩
 .obtain⟨_,hd,xs,_,dd⟩:=qD I.hok e
  refine⟨dd.typeIs,λb q=>?_,hd⟩;cases q;obtain⟨ob,_,_,h1,h2,_⟩:=dd;exact⟨ob,h1,h2.2.1⟩
section
variable{X:Cx}{pins:List (Addr×Obj)}{σ:St}{H:Hp}{s:Shared}{a:Addr}{y d:V}{u r:Value}{o:Option V}{A:S5}{E:Value->Shared->Prop}
def vy(hu:A.units+1<Vz)(I:Inv X pins σ H s)(g:DGet H a y o)(ry:RelV y u)(rd:RelV d r)(h:∀w' s',Inv X pins σ H s'->RelV (o.getD d) w'->Q w' s') :
 Rg (Rm X.prog X.w) A (call (.builtin "dict.get") [.ref a,u,r]) Q E s:=by
 rcases g with⟨kvs,k,e,ey,l⟩ | ⟨kvs,k,b,e,ey,eb,l⟩
 .subst ey
  obtain⟨z,hd,vs,rel,dd⟩:=mF I.hok e;refine call_meetsIn PySem.F.slot_dict_get dd.typeIs PySem.F.entry_dict_get (PySem.F.args_dict_get_3 _ _ _) (meets_dict_get_default (bD X.prog X.w) a (uI ry) hd r) ⟨_,dd.mapOf,h _ _ (I.tok _) ?_⟩;rw[l];exact(rel.val k).getD rd
 .subst ey
  cases (show u=Value.ref b from ry);obtain⟨z,hd,xs,rel,dd⟩:=qD I.hok e;refine call_meetsIn PySem.F.slot_dict_get dd.typeIs PySem.F.entry_dict_get (PySem.F.args_dict_get_3 _ _ _) (meetsH_dict_get_default (Wo (bD X.prog X.w)) a b hd r) ⟨Ve hu,k,xs,kO I.hok eb,dd,h _ _ (I.tok _) ?_⟩;rw[l];exact(rel.val k).getD rd
end
def MJ(td ty tx:TE):TE:=fun σ H Q=>td σ H λx H1=>∃a,x=.ref a/\IsD H1 a/\ty σ H1 λy H2=>tx σ H2 λz H3=>∃o,DGet H3 a y o/\Q (o.getD z) H3
section
variable{X:Cx}{o e f:Expr}{apos cpos:Pos}{td ty tx:TE}
def Ac(hu:X.A.units+1<Vz)(ho:PE X o td)(he:PE X e ty)(hf:PE X f tx)(m:M2 X o "get" apos e f cpos):PE X (.Call (.Attribute o "get" apos) [e,f] [] cpos) (MJ td ty tx):=by
 intro pins s σ H Q I h;refine wpAny_Call_method m.base m.few m.line PySem.F.plainAttrs_dict PySem.F.slot_dict_get PySem.F.type_dict_get (thn (ho pins s σ H _ I h) λu s1 ⟨x,H1,I1,rx,a,ex,d,q1⟩=>?_);subst ex;obtain rfl:u=Value.ref a:=rx;obtain⟨t1,t2,_⟩:=M4 I1 d;refine⟨t1,t2,?_⟩;rw[m.trees]
 refine Calls.callWith_builtin rfl (Calls.evalArgs_plain (Vs (thn (he pins s1 σ H1 _ I1 q1) λiv s2 ⟨y,H2,I2,ry,q2⟩=>
  Vs (thn (hf pins s2 σ H2 _ I2 q2) λfv s3 ⟨z,H3,I3,rz,ov,g,q3⟩=>Calls.spliced_nil ?_))))
 exact vy hu I3 g ry rz λw' s4 I4 rw'=>⟨_,H3,I4,rw',q3⟩
end
end L2
namespace HT
open PySem PyProof.Rows
section
open PySem.SeqAt
open PySem.AutoSeq1 (wpAny_loadPart')
open PySem.MeetsSeq PySem.MeetsSeq2 PySem.MeetsSeq3
end
section
variable{prog:Rt}{w:RX}{A:S5}{E:Value->Shared->Prop}{s:Shared}
def cat_tup{t b:Addr}{vs ws:List Value}{Q:Value->Shared->Prop}(ht:Xb s.heap t vs.toArray)(hb:Xb s.heap b ws.toArray)(hv:vs≠[])
 (h1:ws=[]->Q (.ref t) s)(h2:ws≠[]->Q (.ref s.heap.objs.size) { s with heap:=s.heap.push { cls:=.type "tuple",data:=.seq (vs++ws).toArray } })
 (hsz:vs.length+ws.length<=sizeLine):Rg (Rm prog w) A (Ud .Add (.ref t) (.ref b)) Q E s:=by
 obtain⟨⟨cls,dd,data,sl⟩,ho,hc,n,hd⟩:=id ht;obtain⟨⟨cls2,dd2,data2,sl2⟩,ho2,hc2,n2,hd2⟩:=id hb;simp only at hc hd hc2 hd2;subst hc hd hc2 hd2
 have e:vs.toArray++ws.toArray=(vs++ws).toArray:=by simp
 by_cases hw:ws=[]
 .exact Wz ⟨_,ho,rfl⟩ ⟨_,ho2,rfl⟩ noFill_tuple_add seq_tuple_add PySem.F.slot_tuple_add PySem.F.entry_tuple_add (PySem.F.args_tuple_add_2 _ _)
   (tuple_addW1 t b vs.toArray ws.toArray n n2 dd dd2 sl sl2 (by simpa using hv) (by simp[hw])) ⟨ho,ho2,h1 hw⟩
 .refine Wz ⟨_,ho,rfl⟩ ⟨_,ho2,rfl⟩ noFill_tuple_add seq_tuple_add PySem.F.slot_tuple_add PySem.F.entry_tuple_add (PySem.F.args_tuple_add_2 _ _)
   (tuple_addW2 t b vs.toArray ws.toArray n n2 dd dd2 sl sl2 (by simpa using hv) (by simpa using hw) (by rw[Ri,Ri];exact hsz)) ⟨ho,ho2,?_⟩
  rw[e];exact h2 hw
noncomputable def sIx(n d:Nat):Option Int->Nat
 | none=>d
 | some v=>if v<0 then(v+(n:Int)).toNat else min v.toNat n
def Lg(n d:Nat)(hd:d<=n)(o:Option Int):sIx n d o<=n:=by
 cases o with
 | none=>exact hd
 | some v=>
   show(if v<0 then(v+(n:Int)).toNat else min v.toNat n)<=n
   by_cases hv:v<0
   .rw[if_pos hv];omega
   .rw[if_neg hv];exact Nat.min_le_right _ _
def vd(v:Int)(n d:Nat):(if v<0 then max (v+(n:Int)) 0 else min v (n:Int))=((sIx n d (Z_ v):Nat):Int):=by
 show(if v<0 then max (v+(n:Int)) 0 else min v (n:Int))=(((if v<0 then(v+(n:Int)).toNat else min v.toNat n):Nat):Int)
 by_cases hv:v<0
 .simp only[if_pos hv];omega
 .simp only[if_neg hv];omega
def ue(lo hi:Option Int)(n:Nat):Sh.Slice.sliceAdjust lo hi 1 (n:Int)=(((sIx n 0 lo:Nat):Int),((sIx n n hi:Nat):Int)):=by
 have h1:¬((1:Int)<0):=by omega
 unfold Sh.Slice.sliceAdjust;simp only[h1,if_false];refine Prod.ext ?_ ?_
 .cases lo with
  | none=>rfl
  | some v=>exact vd v n 0
 .cases hi with
  | none=>rfl
  | some v=>exact vd v n n
def uo(i j:Nat):Ue (i:Int) (j:Int) 1=j-i:=by
 unfold Ue
 have h1:(1:Int)>0:=by omega
 simp only[h1,if_true,Int.ediv_one];split<;>omega
def lr(p:WN v o)(h:Q o s):Rg (Rm prog w) A (Sh.Slice.slicePartIndex v) Q E s:=by
 cases p with
 | none=>exact slicePart_none h
 | int i t=>exact slicePart_int h
def iG{sl:Addr}{vl vu:Value}{lo hi:Option Int}{n:Nat}{Q:Int×Int×Nat->Shared->Prop}(hs:s.heap.IsSliceOf sl vl vu .none)(pl:WN vl lo)(pu:WN vu hi)
 (h:Q (((sIx n 0 lo:Nat):Int),1,sIx n n hi-sIx n 0 lo) s):Rg (Rm prog w) A (Sh.Slice.sliceApplied (.ref sl) (pure (n:Int))) Q E s:=by
 obtain⟨os,hos,hcs,hds⟩:=id hs;unfold Sh.Slice.sliceApplied Sh.Slice.sliceFields;refine QS (QS (Vh hos hds (x:=vl) rfl (QS (Vh hos hds (x:=vu) rfl (QS (Vh hos hds (x:=.none) rfl (Rh ?_)))))));refine QS (slicePart_none ?_);show Rg _ _ (if((1:Int)==0)=ZX then _ else _) _ _ s;rw[if_neg (by decide)];refine QS (lr pl (QS (lr pu (QS (Rh ?_)))));show Rg _ _ (match Sh.Slice.sliceAdjust lo hi 1 (n:Int)with | (lo,hi)=>pure (lo,(1:Int),Ue lo hi 1)) _ _ s;rw[ue lo hi n];show Rg _ _ (pure (((sIx n 0 lo:Nat):Int),(1:Int),Ue ((sIx n 0 lo:Nat):Int) ((sIx n n hi:Nat):Int) 1)) _ _ s;rw[uo];exact Rh h
def Bb(xs:Array Value)(i k:Nat):((Ru k).filterMap λ(m:Nat)=>xs[((i:Int)+(m:Int)*1).toNat]?).toArray=((xs.toList.drop i).take k).toArray:=by
 have e:(λ(m:Nat)=>xs[((i:Int)+(m:Int)*1).toNat]?)=λm=>xs[i+m]?:=by
  funext m
  have:((i:Int)+(m:Int)*1).toNat=i+m:=by omega
  rw[this]
 rw[e];have:=pick_run xs i k;rw[List.filterMap_map]at this
 have e2:((λx=>xs[x]?)∘λx=>i+x)=λm=>xs[i+m]?:=rfl
 rw[e2]at this;rw[this]
def getItem_tuple_cut{t sl:Addr}{items:Array Value}{vl vu:Value}{lo hi:Option Int}{Q:Value->Shared->Prop}(ht:Xb s.heap t items)(hs:s.heap.IsSliceOf sl vl vu .none)(pl:WN vl lo)(pu:WN vu hi)
 (hw:¬(sIx items.size 0 lo=0/\sIx items.size items.size hi=items.size))
 (h:Q (.ref s.heap.objs.size) { s with heap:=s.heap.push { cls:=.type "tuple",data:=.seq ((items.toList.drop (sIx items.size 0 lo)).take (sIx items.size items.size hi-sIx items.size 0 lo)).toArray } })
 (hsz:items.size<=sizeLine):Rg (Rm prog w) A (Wq (.ref t) (.ref sl)) Q E s:=by
 have htake:sizeOk (.seq ((items.toList.drop (sIx items.size 0 lo)).take (sIx items.size items.size hi-sIx items.size 0 lo)).toArray):=by
  show((items.toList.drop (sIx items.size 0 lo)).take (sIx items.size items.size hi-sIx items.size 0 lo)).toArray.size<=sizeLine;rw[Ri,Uu,List.length_drop,Vo];omega
 have hj:sIx items.size items.size hi<=items.size:=Lg _ _ (Ra _) hi;obtain⟨os,hos,hcs,hds⟩:=id hs
 have hTs:s.TypeIs (.ref sl) "slice":=⟨os,hos,hcs⟩
 unfold Wq
 try with_reducible refine Vb ?_
 first | refine QS (Rh ?_) | skip
 refine QS (wpAny_sequenceKey ht.typeIs (by decide) ?_)
 refine QS (wpAny_callSpecial?_slot (name:=Str.ofString "__getitem__") ht.typeIs PyProof.Rows.slot_tuple_getitem
  (wpAny_call_entry PyProof.Rows.slot_tuple_getitem ht.typeIs entry_tuple_getitem ?_ (args_tuple_getitem _ _)))
 show Rg _ _ (Sh.Tuple.tupleItemsOf (.ref t) >>= _) _ _ s;refine QS (tupleItemsOf_ ht ?_);refine QS (wpAny_typeOf hTs ?_);rw[if_pos (by decide)];refine QS (iG hs pl pu ?_)
 have hno:¬((((sIx items.size 0 lo:Nat):Int)==0&&(1:Int)==1&&(sIx items.size items.size hi-sIx items.size 0 lo)==items.size)=ZX):=by
  intro q;rw[QR,QR]at q;have q1:((sIx items.size 0 lo:Nat):Int)=0:=X7 q.1.1;have q2:sIx items.size items.size hi-sIx items.size 0 lo=items.size:=X7 q.2;exact hw ⟨by omega,by omega⟩
 show Rg _ _ (if(((sIx items.size 0 lo:Nat):Int)==0&&(1:Int)==1&&(sIx items.size items.size hi-sIx items.size 0 lo)==items.size)=ZX then _ else _) _ _ s;rw[if_neg hno,Bb]
 first
  | exact QS (m:=Ul _) (U4 (Rh ⟨_,rfl,Rh h⟩) htake)
  | exact QS (m:=Ul _) (U4 (QS (Rh (Rh ⟨_,rfl,Rh h⟩))) htake)
  | exact QS (QS (m:=Ul _) (U4 (Rh (Rh ⟨_,rfl,Rh h⟩)) htake))
  | exact QS (QS (m:=Ul _) (U4 (Rh ⟨_,rfl,Rh h⟩) htake))
end
end HT
namespace L2
open PySem PySem.Spec PyProof.Rows
abbrev TO:=St->Hp->(Option Int->Hp->Prop)->Prop
def PO(X:Cx)(e:Option Expr)(t:TO):Prop :=
 ∀(pins:List (Addr×Obj)) (s:Shared) (σ:St) (H:Hp) (Q:Option Int->Hp->Prop),Inv X pins σ H s->t σ H Q ->
  Rg (Rm X.prog X.w) X.A (evalPart e X.env) (λu s'=>∃o H',Inv X pins σ H' s'/\WN u o/\Q o H') X.xe s
def IV:TO:=λ_ H Q=>Q none H
def Ph(t:TE):TO:=fun σ H Q=>t σ H λx H1=>∃i,x=.int i/\Q (Z_ i) H1
def intsAre_of:∀{us:List Value},Vals (ns.map V.int) us->Ws us ns:=by
 induction ns with
 | nil=>intro us r;rw[S9]at r;cases r;exact .nil
 | cons n ns ih=>
   intro us r;rw[QL]at r
   cases r with
   | cons r1 r2=>
     obtain⟨t,e⟩:=r1;subst e;exact .cons n t (ih r2)
section
variable{X:Cx}{e:Expr}{te:TE}{lo hi:Option Expr}{tl th:TO}{pos p2:Pos}
def GP:PO X none IV:=by
 intro pins s σ H Q I h;rw[evalPart_none];exact Rh ⟨none,H,I,.none,h⟩
def HB(h:PE X e te):PO X (Z_ e) (Ph te):=by
 intro pins s σ H Q I hw;rw[evalPart_some]
 refine thn (h pins s σ H _ I hw) λu s1 ⟨x,H1,I1,r1,q1⟩=>?_
 obtain⟨i,rfl,q⟩:=q1;obtain⟨t,rfl⟩:=r1;exact⟨some i,H1,I1,.int i t,q⟩
def SlR(X:Cx)(r:V->Option Int->Option Int->Hp->VK->Prop):Prop :=
 ∀(pins:List (Addr×Obj)) (s:Shared) (σ:St) (H:Hp) (x:V) (v vl vu:Value) (lo hi:Option Int) (sl:Addr) (Q:VK),Inv X pins σ H s->RelV x v->s.heap.IsSliceOf sl vl vu .none->WN vl lo->WN vu hi->r x lo hi H Q ->
  ∃T id,typeLookup (.type T) "__getitem__"=pure (Z_ (.builtin id))/\s.TypeIs v T/\Rg (Rm X.prog X.w) X.A (Wq v (.ref sl)) (EP X pins σ Q) X.xe s
def SlR.or(h:SlR X r)(h':SlR X r'):SlR X (λx lo hi H Q=>r x lo hi H Q\/r' x lo hi H Q):=by
 intro pins s σ H x v vl vu lo hi sl Q I rx hs pl pu q;rcases q with q | q
 .exact h pins s σ H x v vl vu lo hi sl Q I rx hs pl pu q
 .exact h' pins s σ H x v vl vu lo hi sl Q I rx hs pl pu q
def tSl(r:V->Option Int->Option Int->Hp->VK->Prop)(te:TE)(tl th:TO):TE:=fun σ H Q=>te σ H λx H1=>tl σ H1 λl H2=>th σ H2 λu H3=>r x l u H3 Q
def Aq(hr:SlR X r)(he:PE X e te)(hl:PO X lo tl)(hu:PO X hi th):PE X (.Subscript e (.Slice lo hi none p2) pos) (tSl r te tl th):=by
 intro pins s σ H Q I h;refine Subscript_ (thn (he pins s σ H _ I h) λv s1 ⟨x,H1,I1,r1,q1⟩=>?_);refine wpAny_Slice (thn (hl pins s1 σ H1 _ I1 q1) λvl s2 ⟨l,H2,I2,pl,q2⟩=>thn (hu pins s2 σ H2 _ I2 q2) λvu s3 ⟨u,H3,I3,pu,q3⟩=>?_);rw[evalPart_none];refine Rh ?_
 have I4:Inv X pins σ H3 { s3 with heap:=s3.heap.push { cls:=.type "slice",data:=.fields #[vl,vu,.none] } }:=I3.kept (t':=s3.toks) λb ob q=>QV _ q
 obtain⟨T,id,hT,ht,hg⟩:=hr pins { s3 with heap:=s3.heap.push { cls:=.type "slice",data:=.fields #[vl,vu,.none] } } σ H3 x v vl vu l u s3.heap.objs.size Q I4 r1 (Rc.IsSliceOf.new ..) pl pu q3;show Rg (Rm X.prog X.w) X.A (subscriptTail e (.Slice lo hi none p2) v (.ref s3.heap.objs.size)) (EP X pins σ Q) X.xe { s3 with heap:=s3.heap.push { cls:=.type "slice",data:=.fields #[vl,vu,.none] } };exact tail_any (ops:=[.ref s3.heap.objs.size,v]) ht hT hg (by with_unfolding_all rfl)
noncomputable def cutV(xs:List V)(lo hi:Option Int):List V:=(xs.drop (HT.sIx xs.length 0 lo)).take (HT.sIx xs.length xs.length hi-HT.sIx xs.length 0 lo)
def j5(xs:List V)(lo hi:Option Int):(cutV xs lo hi).length<=xs.length:=by
 unfold cutV;rw[Uu,List.length_drop];omega
def rSlT(K:QK):V->Option Int->Option Int->Hp->VK->Prop:=λx lo hi H Q=>∃a xs,x=.ref a/\SqT K H a xs /\
 ¬(HT.sIx xs.length 0 lo=0/\HT.sIx xs.length xs.length hi=xs.length)/\∀p,H p=ZW->Q (.ref p) (upd H p (.tup (cutV xs lo hi)))
def KZ:SlR X (rSlT X.K):=by
 intro pins s σ H x v vl vu lo hi sl Q I rx hs pl pu h;obtain⟨a,xs,rfl,hx,hw,q⟩:=h;cases rx;obtain⟨its,r,ht,hz⟩:=I.tuple hx
 have hlen:its.toArray.size=xs.length:=by rw[Ri];exact r.length.symm
 refine⟨"tuple",_,PyProof.Rows.slot_tuple_getitem.lookup,ht.typeIs,?_⟩;refine HT.getItem_tuple_cut ht hs pl pu (by rw[hlen];exact hw) ?_ (by rw[hlen];exact hz);rw[hlen];refine⟨.ref s.heap.objs.size,_,I.laid (t':=s.toks) (o:=.tup (cutV xs lo hi)) (λb ob q=>QV _ q) (Ra _) ?_,rfl,q _ (I.hok.fresh (Ra _))⟩;exact⟨RP (j5 xs lo hi) hz,_,(r.drop (HT.sIx xs.length 0 lo)).take (HT.sIx xs.length xs.length hi-HT.sIx xs.length 0 lo),Xb.new _ _⟩
def Ku(K:QK):R2:=λx y H Q=>∃a b xs ys,x=.ref a/\y=.ref b/\SqT K H a xs/\SqT K H b ys/\xs≠[]/\xs.length+ys.length<=sizeLine /\
 (ys=[]->Q (.ref a) H)/\(ys≠[]->∀p,H p=ZW->Q (.ref p) (upd H p (.tup (xs++ys))))
def Vals.nil_iff(r:Vals xs us):us=[]↔xs=[]:=by
 cases r with
 | nil=>simp
 | cons _ _=>simp
def Gw:OpR X (Ud .Add) (Ku X.K):=by
 intro pins s σ H x y v u Q I rx ry h;obtain⟨a,b,xs,ys,rfl,rfl,ha,hb,hx,hz,q1,q2⟩:=h;cases rx;cases ry;obtain⟨its,r1,p1,_⟩:=I.tuple ha;obtain⟨its2,r2,p2,_⟩:=I.tuple hb;refine HT.cat_tup p1 p2 (λz=>hx (r1.nil_iff.mp z)) (λz=>⟨.ref a,H,I,rfl,q1 (r2.nil_iff.mp z)⟩) (λz=>?_) (by rw[<-r1.length,<-r2.length];exact hz);refine⟨.ref s.heap.objs.size,_,I.laid (t':=s.toks) (o:=.tup (xs++ys)) (λb ob q=>QV _ q) (Ra _) ?_,rfl,q2 (λw=>z (r2.nil_iff.mpr w)) _ (I.hok.fresh (Ra _))⟩;exact⟨by rw[R4];exact hz,_,r1.append r2,Xb.new _ _⟩
end
noncomputable def ixN(n:Nat)(i:Int):Option Nat:=if 0<=i then(if i<n then some i.toNat else none)else if -(n:Int)<=i then some (i+n).toNat else none
noncomputable def atI{α:Type}(xs:List α)(i:Int):Option α:=(ixN xs.length i).bind λj=>xs[j]?
def vP(h:ixN n i=Z_ j):seqIndex? i n=Z_ j/\j<n/\-(n:Int)<=i/\i<n:=by
 unfold ixN at h
 by_cases h0:0<=i
 .rw[if_pos h0]at h
  by_cases h1:i<n
  .rw[if_pos h1]at h
   have e:i.toNat=j:=Sv h;exact⟨by rw[seqIndex_of h0 h1,e],by omega,by omega,h1⟩
  .rw[if_neg h1]at h;cases h
 .rw[if_neg h0]at h
  by_cases h1:-(n:Int)<=i
  .rw[if_pos h1]at h
   have e:(i+n).toNat=j:=Sv h;exact⟨by rw[seqIndex_neg (by omega) h1,e],by omega,h1,by omega⟩
  .rw[if_neg h1]at h;cases h
def pL(h:atI xs i=Z_ v):∃j,seqIndex? i xs.length=Z_ j/\xs[j]?=Z_ v/\j<xs.length/\-(xs.length:Int)<=i/\i<xs.length:=by
 unfold atI at h
 cases e:ixN xs.length i with
 | none=>rw[e]at h;cases h
 | some j=>
   rw[e]at h;obtain⟨h1,h2,h3,h4⟩:=vP e;exact⟨j,h1,h,h2,h3,h4⟩
def xG(b:Expr):Prop:=∀o i,WR b ZZ o i=operate [o,i] (Wq o i)
def IxR(X:Cx)(r:R2):Prop :=
 ∀(value slice:Expr) (pins:List (Addr×Obj)) (s:Shared) (σ:St) (H:Hp) (x y:V) (v u:Value) (Q:VK),Inv X pins σ H s->RelV x v->RelV y u->r x y H Q ->
  WR slice ZZ v u=operate [v,u] (Wq v u)->Rg (Rm X.prog X.w) X.A (subscriptTail value slice v u) (EP X pins σ Q) X.xe s
def MtR(X:Cx)(id:String)(r:V->List V->Hp->VK->Prop):Prop :=
 ∀(pins:List (Addr×Obj)) (s:Shared) (σ:St) (H:Hp) (x:V) (xs:List V) (v:Value) (us:List Value) (Q:VK),Inv X pins σ H s->RelV x v->Vals xs us->r x xs H Q ->
  Rg (Rm X.prog X.w) X.A (call (.builtin id) (v::us)) (EP X pins σ Q) X.xe s
section
variable{X:Cx}{a b:Expr}{ta tb:TE}{pos:Pos}
def IxR.or(h:IxR X r)(h':IxR X r'):IxR X (λx y H Q=>r x y H Q\/r' x y H Q):=by
 intro value slice pins s σ H x y v u Q I rx ry q hs;rcases q with q | q
 .exact h value slice pins s σ H x y v u Q I rx ry q hs
 .exact h' value slice pins s σ H x y v u Q I rx ry q hs
def Pz(hr:IxR X r)(ha:PE X a ta)(hb:PE X b tb)(hs:xG b):PE X (.Subscript a b pos) (tOp r ta tb):=by
 intro pins s σ H Q I h;exact Subscript_ (binT ha hb I h λv u s2 x y H2 I2 rx ry q=>hr a b pins s2 σ H2 x y v u Q I2 rx ry q (hs _ _))
def rIxL(K:QK):R2:=λx y H Q=>∃p xs i v,x=.ref p/\y=.int i/\SqL K H p xs/\atI xs i=Z_ v/\Q v H
def rIxT(K:QK):R2:=λx y H Q=>∃p xs i v,x=.ref p/\y=.int i/\SqT K H p xs/\atI xs i=Z_ v/\Q v H
def rIxS:R2:=λx y H Q=>∃z i c,x=.str z/\y=.int i/\z.length<=sizeLine/\atI z.cps.toList i=Z_ c/\Q (.str ⟨#[c]⟩) H
def Ha:IxR X (rIxL X.K):=by
 intro value slice pins s σ H x y v u Q I rx ry h hs;obtain⟨p,xs,i,z,rfl,rfl,hq,he,q⟩:=h;cases rx;obtain⟨t,rfl⟩:=ry;obtain⟨its,r,pl,hz⟩:=I.list hq;obtain⟨j,h1,h2,h3,h4,h5⟩:=pL he;obtain⟨w,ew,rw'⟩:=r.get h2;have hl:=r.length;have hn:=jh
 have fin:EP X pins σ Q w s:=⟨z,H,I,rw',q⟩
 by_cases h0:0<=i
 .have hj:i.toNat=j:=by
   rw[seqIndex_of h0 h5]at h1;exact Sv h1
  exact item_listR pl.isList h0 (by omega) (by rw[hj];simpa using ew) fin hs
 .have hj:(i+(its.toArray.size:Int)).toNat=j:=by
   rw[seqIndex_neg (by omega) h4]at h1;rw[Ri,<-hl];exact Sv h1
  exact subscriptTail_builtinR (x:=w) pl.isList.typeIs slot_list_getitem.lookup
   (wpAny_getItem_list_neg (Q:=λr s'=>r=w/\EP X pins σ Q r s') pl.isList (by omega) (by rw[Ri]<;>omega) (by omega) (by rw[hj];simpa using ew) ⟨rfl,fin⟩) hs
def LK:IxR X (rIxT X.K):=by
 intro value slice pins s σ H x y v u Q I rx ry h hs;obtain⟨p,xs,i,z,rfl,rfl,hq,he,q⟩:=h;cases rx;obtain⟨t,rfl⟩:=ry;obtain⟨its,r,pl,hz⟩:=I.tuple hq;obtain⟨j,h1,h2,h3,h4,h5⟩:=pL he;obtain⟨w,ew,rw'⟩:=r.get h2;have hl:=r.length;have hn:=jh
 have fin:EP X pins σ Q w s:=⟨z,H,I,rw',q⟩
 exact subscriptTail_builtinR (x:=w) pl.typeIs slot_tuple_getitem.lookup
  (getItem_tuple (j:=j) (Q:=λr s'=>r=w/\EP X pins σ Q r s') pl (by omega) (by omega) (by rw[Ri,<-hl];exact h1) (by simpa using ew) ⟨rfl,fin⟩) hs
def wL:IxR X rIxS:=by
 intro value slice pins s σ H x y v u Q I rx ry h hs;obtain⟨z,i,c,rfl,rfl,hz,he,q⟩:=h;obtain⟨t,rfl⟩:=rx;obtain⟨t',rfl⟩:=ry;obtain⟨j,h1,h2,h3,h4,h5⟩:=pL he
 have hl:z.cps.toList.length=z.length:=by simp[Str.length]
 rw[hl]at h1 h4 h5;have hn:=jh
 exact tail_any (typeIs_str s z t) slot_str_getitem.lookup (getItem_str (c:=c) (by
  have e1:decide (i < -(2 ^ 63:Int))=ZZ:=decide_eq_false (by omega);have e2:decide (i≥2 ^ 63)=ZZ:=decide_eq_false (by omega)
  rw[e1,e2,Tw]) (by rw[h1];simpa using h2) ⟨.str ⟨#[c]⟩,H,I.tok _,⟨_,rfl⟩,q⟩) hs
def uc(its:List Value)(n j:Nat)(u:Value):W0 (·.setIfInBounds j u) { cls:=.type "list",data:=.seq its.toArray n }={ cls:=.type "list",data:=.seq (its.set j u).toArray n }:=by
 simp[W0]
theorem Inv.lst(I:Inv X pins σ H s)(h:H p=Z_ (.lst xs)) :
 ∃(its:List Value)(n:Nat),Vals xs its/\s.heap.get? p=Z_ { cls:=.type "list",data:=.seq its.toArray n }/\xs.length<=sizeLine:=by
 obtain⟨z,its,n,r,e⟩:=I.hok p _ h;exact⟨its,n,r,e,z⟩
def Inv.lstUpd{pins:List (Addr×Obj)}{σ:St}{H:Hp}{s:Shared}{p:Addr}{xs ys:List V}{its its':List Value}{n n':Nat}{f:Obj->Obj}(I:Inv X pins σ H s)(h:H p=Z_ (.lst xs))
 (ho:s.heap.get? p=Z_ { cls:=.type "list",data:=.seq its.toArray n })(hf:f { cls:=.type "list",data:=.seq its.toArray n }={ cls:=.type "list",data:=.seq its'.toArray n' })(r:Vals ys its')(hz:ys.length<=sizeLine)(t:Nat) :
 Inv X pins σ (upd H p (.lst ys)) { s with heap:=s.heap.update p f,toks:=t }:=by
 have e:(s.heap.update p f).get? p=Z_ { cls:=.type "list",data:=.seq its'.toArray n' }:=by
  rw[TF f ho (by rw[hf]<;>rfl),hf]
 refine I.write (x:=p) (e:=p) (by rw[h];trivial) (.inl rfl) (λb u hb q=>(Rz _ _ (SJ hb)).trans q) ⟨_,e⟩ ?_;exact⟨hz,its',n',r,e⟩
def Ot:V->V->V->Hp->(Hp->Prop)->Prop:=λo i v H Q=>∃p xs k j,o=.ref p/\i=.int k/\H p=Z_ (.lst xs)/\ixN xs.length k=Z_ j/\Q (upd H p (.lst (xs.set j v)))
def set_list:PSet X Ot:=by
 intro pins s σ H o i v ov iv u Q I ro ri rv h;obtain⟨p,xs,k,j,rfl,rfl,hp,hj,q⟩:=h;cases ro;obtain⟨t,rfl⟩:=ri;obtain⟨its,n,r,ho,hz⟩:=I.lst hp;obtain⟨h1,h2,h3,h4⟩:=vP hj;have hl:=r.length;have hn:=jh
 have I':Inv X pins σ (upd H p (.lst (xs.set j v))) { s with heap:=s.heap.update p (W0 (·.setIfInBounds j u)) } :=
  I.lstUpd hp ho (uc its n j u) (r.set rv j) (by rw[List.length_set];exact hz) s.toks
 by_cases h0:0<=k
 .have hk:k.toNat=j:=by
   rw[seqIndex_of h0 h4]at h1;exact Sv h1
  exact PySem.W.ki_setAt ho h0 (by omega) (by rw[Ri,<-hl];exact h4) (by rw[hk];exact⟨_,I',q⟩)
 .have hk:(k+(its.toArray.size:Int)).toNat=j:=by
   rw[seqIndex_neg (by omega) h3]at h1;rw[Ri,<-hl];exact Sv h1
  exact PySem.W.ki_setBack ho (by omega) (by rw[Ri,<-hl];exact h3) (by omega) (by rw[hk];exact⟨_,I',q⟩)
def oE(lo hi:Option Int)(n:Nat):(Vr lo hi none n).1=((HT.sIx n 0 lo:Nat):Int)/\(Vr lo hi none n).2.1=((HT.sIx n n hi:Nat):Int)/\(Vr lo hi none n).2.2=1:=by
 refine⟨?_,?_,rfl⟩
 .cases lo with
  | none=>simp[Vr,HT.sIx]
  | some i=>
    simp only[Vr,HT.sIx,Option.getD_none,show(1:Int)>0 by decide,if_true]
    by_cases h:i<0
    .simp only[h,if_true]<;>omega
    .simp only[h,if_false]<;>omega
 .cases hi with
  | none=>simp[Vr,HT.sIx]
  | some i=>
    simp only[Vr,HT.sIx,Option.getD_none,show(1:Int)>0 by decide,if_true]
    by_cases h:i<0
    .simp only[h,if_true]<;>omega
    .simp only[h,if_false]<;>omega
def lE(its:List Value)(lo hi:Option Int):slicePick its.toArray lo hi none=((its.drop (HT.sIx its.length 0 lo)).take (HT.sIx its.length its.length hi-HT.sIx its.length 0 lo)).toArray:=by
 obtain⟨h1,h2,h3⟩:=oE lo hi its.toArray.size;unfold slicePick;rw[h1,h2,h3];simp only[sliceRange_one,pick_run,Ri]<;>rfl
def rSlL(K:QK):V->Option Int->Option Int->Hp->VK->Prop:=λx lo hi H Q=>∃a xs,x=.ref a/\SqL K H a xs/\∀p,H p=ZW->Q (.ref p) (upd H p (.lst (cutV xs lo hi)))
def Fw:SlR X (rSlL X.K):=by
 intro pins s σ H x v vl vu lo hi sl Q I rx hs pl pu h;obtain⟨a,xs,rfl,hx,q⟩:=h;cases rx;obtain⟨its,r,ht,hz⟩:=I.list hx;have hlen:=r.length;refine⟨"list",_,slot_list_getitem.lookup,ht.isList.typeIs,?_⟩;refine wpAny_getItem_list_slice ht.isList hs pl pu .none (by simp) ?_ (by rw[Ri]<;>omega);rw[lE,<-hlen];refine⟨.ref s.heap.objs.size,_,I.laid (t':=s.toks) (o:=.lst (cutV xs lo hi)) (λb ob q=>QV _ q) (Ra _) ?_,rfl,q _ (I.hok.fresh (Ra _))⟩;exact⟨RP (j5 xs lo hi) hz,_,0,(r.drop (HT.sIx xs.length 0 lo)).take (HT.sIx xs.length xs.length hi-HT.sIx xs.length 0 lo),Rv _ rfl⟩
noncomputable def jN:V->Bool
 | .non=>true
 | .bl _=>true
 | .int _=>true
 | .str _=>true
 | _=>false
noncomputable def eqV:V->V->Bool
 | .non,.non=>true
 | .bl a,.bl b=>a==b
 | .bl a,.int b=>(if a then 1 else 0)==b
 | .int a,.bl b=>a==(if b then 1 else 0)
 | .int a,.int b=>a==b
 | .str a,.str b=>a==b
 | _,_=>false
def Lf(ry:RelV y u)(rx:RelV x v)(fy:jN y=ZX)(fx:jN x=ZX):Su A s u v (eqV y x):=by
 cases y with
 | non=>
   cases ry
   cases x with
   | non=>cases rx;exact Su.same _
   | bl b=>cases rx;exact Su.none_bool b
   | int b=>obtain⟨t,rfl⟩:=rx;exact Su.none_int b t
   | str b=>obtain⟨t,rfl⟩:=rx;exact Su.none_str b t
   | _=>exact absurd (show ZZ=ZX from fx) Rq
 | bl a=>
   cases ry
   cases x with
   | non=>cases rx;exact Su.bool_none a
   | bl b=>cases rx;exact Su.bool_bool a b
   | int b=>obtain⟨t,rfl⟩:=rx;exact Su.bool_int a b t
   | str b=>obtain⟨t,rfl⟩:=rx;exact Su.bool_str a b t
   | _=>exact absurd (show ZZ=ZX from fx) Rq
 | int a=>
   obtain⟨t',rfl⟩:=ry
   cases x with
   | non=>cases rx;exact Su.int_none a t'
   | bl b=>cases rx;exact Su.int_bool a t' b
   | int b=>obtain⟨t,rfl⟩:=rx;exact Su.int_int a t' b t
   | str b=>obtain⟨t,rfl⟩:=rx;exact Su.int_str a t' b t
   | _=>exact absurd (show ZZ=ZX from fx) Rq
 | str a=>
   obtain⟨t',rfl⟩:=ry
   cases x with
   | non=>cases rx;exact Su.str_none a t'
   | bl b=>cases rx;exact Su.str_bool a t' b
   | int b=>obtain⟨t,rfl⟩:=rx;exact Su.str_int a t' b t
   | str b=>obtain⟨t,rfl⟩:=rx;exact Su.str_str a t' b t
   | _=>exact absurd (show ZZ=ZX from fx) Rq
 | _=>exact absurd (show ZZ=ZX from fy) Rq
noncomputable def eqU(x:V)(u:Value):Bool:=match u with
 | .none=>eqV .non x
 | .bool b=>eqV (.bl b) x
 | .int i _=>eqV (.int i) x
 | .str z _=>eqV (.str z) x
 | _=>false
def Dl(r:RelV y u)(f:jN y=ZX):eqU x u=eqV y x:=by
 cases y with
 | non=>cases r;rfl
 | bl b=>cases r;rfl
 | int i=>obtain⟨t,rfl⟩:=r;rfl
 | str z=>obtain⟨t,rfl⟩:=r;rfl
 | _=>exact absurd (show ZZ=ZX from f) Rq
theorem jl:∀{xs:List V}{us:List Value},Vals xs us->xs.all jN=ZX->us.any (eqU x)=xs.any λy=>eqV y x
 | _,_,.nil,_=>rfl
 | y::xs,u::us,.cons r t,f=>by
   rw[Wg,QR]at f;rw[RN,RN,Dl r f.1,jl t f.2]
theorem g8(rx:RelV x v)(fx:jN x=ZX):∀{xs:List V}{us:List Value},Vals xs us->xs.all jN=ZX->∀u∈us,Su A s u v (eqU x u)
 | _,_,.nil,_=>λu hu=>by cases hu
 | y::xs,u::us,.cons r t,f=>λu' hu=>by
   rw[Wg,QR]at f;rcases R8.mp hu with rfl | hu
   .rw[Dl r f.1];exact Lf r rx f.1 fx
   .exact g8 rx fx t f.2 u' hu
noncomputable def inV(x:V)(xs:List V):Bool:=xs.any λy=>eqV y x
def rIn(K:QK)(neg:Bool):R2:=λx y H Q=>∃p xs,y=.ref p/\(SqL K H p xs\/SqT K H p xs)/\jN x=ZX/\xs.all jN=ZX/\Q (.bl (if neg then !inV x xs else inV x xs)) H
def oU:OpR X (Tq .In) (rIn X.K ZZ):=by
 intro pins s σ H x y v u Q I rx ry h;obtain⟨p,xs,rfl,hq,fx,fs,q⟩:=h;cases ry;rcases hq with hq | hq
 .obtain⟨its,r,pl,hz⟩:=I.list hq
  refine SeqAt.in_listAt (eqU x) pl.isList (λw hw=>g8 rx fx r fs w (by simpa using hw)) ⟨.bl _,H,I,rfl,?_⟩;rw[show its.toArray.any (eqU x)=its.any (eqU x) by simp,jl r fs];exact q
 .obtain⟨its,r,pl,hz⟩:=I.tuple hq
  refine SeqAt.in_tupleAt (eqU x) pl (λw hw=>g8 rx fx r fs w (by simpa using hw)) ⟨.bl _,H,I,rfl,?_⟩;rw[show its.toArray.any (eqU x)=its.any (eqU x) by simp,jl r fs];exact q
def il:OpR X (Tq .NotIn) (rIn X.K ZX):=by
 intro pins s σ H x y v u Q I rx ry h;obtain⟨p,xs,rfl,hq,fx,fs,q⟩:=h;cases ry;rcases hq with hq | hq
 .obtain⟨its,r,pl,hz⟩:=I.list hq
  refine SeqAt.notIn_listAt (eqU x) pl.isList (λw hw=>g8 rx fx r fs w (by simpa using hw)) ⟨.bl _,H,I,rfl,?_⟩;rw[show its.toArray.any (eqU x)=its.any (eqU x) by simp,jl r fs];exact q
 .obtain⟨its,r,pl,hz⟩:=I.tuple hq
  refine SeqAt.notIn_tupleAt (eqU x) pl (λw hw=>g8 rx fx r fs w (by simpa using hw)) ⟨.bl _,H,I,rfl,?_⟩;rw[show its.toArray.any (eqU x)=its.any (eqU x) by simp,jl r fs];exact q
def nO:CallR X (.builtin "len") (λxs H Q=>∃p ys,xs=[.ref p]/\(SqL X.K H p ys\/SqT X.K H p ys)/\Q (.int ys.length) H):=by
 intro pins s σ H xs us Q I r h;obtain⟨p,ys,rfl,hq,q⟩:=h;obtain⟨u,rfl,rx⟩:=vals1 r;cases rx;have hn:=jh;rcases hq with hq | hq
 .obtain⟨its,r',pl,hz⟩:=I.list hq
  have hlen:=r'.length;exact Calls.call_len_list pl.isList (by simp only[Ri]<;>omega) ⟨.int ys.length,H,I.tok _,⟨s.toks+1,by rw[Ri,hlen]⟩,q⟩
 .obtain⟨its,r',pl,hz⟩:=I.tuple hq
  have hlen:=r'.length;exact len_tuple pl (by simp only[Ri]<;>omega) ⟨.int ys.length,H,I.tok _,⟨s.toks+1,by rw[Ri,hlen]⟩,q⟩
def nR:CallR X (.builtin "len") (λxs H Q=>∃z,xs=[.str z]/\z.length<=sizeLine/\Q (.int z.length) H):=by
 intro pins s σ H xs us Q I r h;obtain⟨z,rfl,hz,q⟩:=h;obtain⟨u,rfl,t,rfl⟩:=vals1 r;have hn:=jh;exact len_str (by omega) ⟨.int z.length,H,I.tok _,⟨_,rfl⟩,q⟩
def CallR.or(h:CallR X f r)(h':CallR X f r'):CallR X f (λxs H Q=>r xs H Q\/r' xs H Q):=by
 intro pins s σ H xs us Q I rs q;rcases q with q | q
 .exact h pins s σ H xs us Q I rs q
 .exact h' pins s σ H xs us Q I rs q
def mj:CallR X (.type "tuple") (λxs H Q=>∃p ys,xs=[.ref p]/\((SqL X.K H p ys/\∀l,H l=ZW->Q (.ref l) (upd H l (.tup ys)))\/(SqT X.K H p ys/\Q (.ref p) H))):=by
 intro pins s σ H xs us Q I r h;obtain⟨p,ys,rfl,h⟩:=h;obtain⟨u,rfl,rx⟩:=vals1 r;cases rx;rcases h with⟨hq,q⟩ | ⟨hq,q⟩
 .obtain⟨its,r',pl,hz⟩:=I.list hq
  have hlen:=r'.length;refine call_tuple_list pl.isList (λh' kp=>?_) (by simp only[Ri]<;>omega);have I1:Inv X pins σ H { s with heap:=h' }:=I.kept (t':=s.toks) kp
  have I2:Inv X pins σ (upd H h'.objs.size (.tup ys)) { s with heap:=h'.push { cls:=.type "tuple",data:=.seq its.toArray } } :=
   I1.laid (t':=s.toks) (λb o e=>QV _ e) (Ra _) (show ObjOk X.prog X.w _ _ _ (.tup ys)from⟨hz,its,r',Xb.new _ _⟩)
  exact⟨.ref h'.objs.size,_,I2,rfl,q _ (I1.hok.fresh (Ra _))⟩
 .obtain⟨its,r',pl,hz⟩:=I.tuple hq
  exact call_tuple_same pl ⟨.ref p,H,I,rfl,q⟩
def tyV(K:QK)(T:String)(x:V)(H:Hp):Prop:=match x with
 | .str _=>T="str"
 | .int _=>T="int"
 | .ref p=>(T="list"/\∃xs,SqL K H p xs)\/(T="tuple"/\∃o,K.lookup p=Z_ o/\o.cls=.type "tuple"/\o.dict=ZW) \/
  (T="dict"/\((∃kvs ep,H p=Z_ (.dK kvs ep))\/∃kvs,H p=Z_ (.dT kvs)))\/(T="set"/\∃S n,H p=Z_ (.set S n))
 | _=>False
def Ky{pins:List (Addr×Obj)}{σ:St}{H:Hp}{s:Shared}{T:String}{x:V}{v:Value}(I:Inv X pins σ H s)(r:RelV x v)(ty:tyV X.K T x H) :
 s.TypeIs v T/\∀a,v=.ref a->∃ob,s.heap.get? a=Z_ ob/\ob.dict=ZW:=by
 cases x with
 | str z=>
   obtain⟨t,rfl⟩:=r;cases (show T="str" from ty);exact⟨typeIs_str s z t,λ_ e=>nomatch e⟩
 | int i=>
   obtain⟨t,rfl⟩:=r;cases (show T="int" from ty);exact⟨typeIs_int s i t,λ_ e=>nomatch e⟩
 | ref p=>
   cases r;rcases ty with⟨rfl,xs,hq⟩ | ⟨rfl,o,hk,hc,hd⟩ | ⟨rfl,hk⟩ | ⟨rfl,S,n,hk⟩
   .obtain⟨its,_,pl,_⟩:=I.list hq
    refine⟨pl.isList.typeIs,λa e=>?_⟩;cases e;obtain⟨o,n,e,c,hd,_⟩:=pl;exact⟨o,e,hd⟩
   .refine⟨⟨o,I.kIn p o hk,hc⟩,λa e=>?_⟩
    cases e;exact⟨o,I.kIn _ o hk,hd⟩
   .have z:∃o,s.heap.get? p=Z_ o/\o.ExactDict:=by
     rcases hk with⟨kvs,ep,hk⟩ | ⟨kvs,hk⟩
     .obtain⟨_,_,_,_,o,_,e,ex,_⟩:=I.hok p _ hk
      exact⟨o,e,ex⟩
     .obtain⟨_,_,_,_,o,_,_,e,ex,_⟩:=I.hok p _ hk
      exact⟨o,e,ex⟩
    obtain⟨o,e,ex⟩:=z;refine⟨⟨o,e,ex.1⟩,λa e2=>?_⟩;cases e2;exact⟨o,e,ex.2.1⟩
   .obtain⟨o,_,_,_,e,ex,_⟩:=I.hok p _ hk
    refine⟨⟨o,e,ex.1⟩,λa e2=>?_⟩;cases e2;exact⟨o,e,ex.2.1⟩
 | _=>exact Rr ty
def tBM(K:QK)(T:String)(r:V->List V->Hp->VK->Prop)(to:TE)(t:TA):TE:=fun σ H Q=>to σ H λx H1=>tyV K T x H1/\t σ H1 λxs H2=>r x xs H2 Q
variable{o e:Expr}{es:List Expr}{to:TE}{t:TA}{name:Str}{apos cpos:Pos}{T id:String}{r:V->List V->Hp->VK->Prop}
noncomputable def Iz(pa:PlainAttrs T)(slot:Slot T name id)(hty:typeOf (.builtin id)=pure (.type "method_descriptor"))(hm:MtR X id r)(ho:PE X o to)(ha:PA X (e::es) t)
 (hbase:Uq o name X.env (S8 o X.env)=S8 o X.env:=by rfl)
 (hfew:((SQ cpos (R3 (e::es) X.env)).all (λx=>!x.1)&&(Vc cpos (TJ [] X.env)).all (λx=>x.1.isSome)
  && decide ((e::es).length+([]:List VN).length+(if([]:List VN).isEmpty then 0 else 1)<30))=ZX:=by rfl)
 (hline:(apos.endLine==cpos.line)=ZX:=by rfl) (hs:R3 (e::es) X.env=(ZZ,S8 e X.env)::R3 es X.env:=by rfl) (hplain:(SQ cpos (R3 es X.env)).any (·.1)=ZZ:=by rfl) :
 PE X (.Call (.Attribute o name apos) (e::es) [] cpos) (tBM X.K T r to t):=by
 intro pins s σ H Q I h;refine wpAny_Call_method_late hbase hfew hline rfl (thn (ho pins s σ H _ I h) λv s1 ⟨x,H1,I1,r1,ty,q1⟩=>?_);obtain⟨h1,h2⟩:=Ky I1 r1 ty;refine⟨T,id,pa,slot,hty,h1,h2,?_⟩;have hA:=ha cpos pins s1 σ H1 _ I1 q1;rw[hs]at hA ⊢;refine Calls.callWith_builtin (by show(ZZ||(SQ cpos (R3 es X.env)).any (·.1))=ZZ;rw[hplain]<;>rfl) (Calls.evalArgs_plain ?_)
 exact thn hA λus s2 ⟨vs,H2,I2,r2,q2⟩=>hm pins s2 σ H2 x vs v us Q I2 r1 r2 q2
end
def MtM(X:Cx)(id:String)(r:V->List V->Hp->VK->Prop):Prop :=
 ∀(pins:List (Addr×Obj)) (s:Shared) (σ:St) (H:Hp) (x:V) (xs:List V) (v:Value) (us:List Value) (Q:VK),Inv X pins σ H s->RelV x v->Vals xs us->r x xs H Q ->
  Rg (Rm X.prog X.w) X.A (call (.builtin id) (v::us)) (EP X pins σ Q) X.xe s
def Vals.one:∀{x:V}{us:List Value},Vals [x] us->∃u,us=[u]/\RelV x u
 | _,_,.cons r .nil=>⟨_,rfl,r⟩
section
variable{X:Cx}{pins:List (Addr×Obj)}{σ:St}{H:Hp}{s:Shared}{l b:Addr}{xs ys zs:List V}
def Inv.lset{its its':List Value}{n:Nat}{f:Array Value->Array Value}{t':Nat}(I:Inv X pins σ H s)(hH:H l=Z_ (.lst xs))
 (e:s.heap.get? l=Z_ { cls:=.type "list",data:=.seq its.toArray n })(hf:f its.toArray=its'.toArray)(hv:Vals ys its')(hz:ys.length<=sizeLine) :
 Inv X pins σ (upd H l (.lst ys)) { s with heap:=s.heap.update l (W0 f),toks:=t' }:=by
 have q:=PySem.IsL.update e f;rw[hf]at q;refine I.write (x:=l) (e:=l) (by rw[hH];exact trivial) (.inl rfl) (λb' u hb hu=>(Rz s.heap (W0 f) (SJ hb)).trans hu) ⟨_,q⟩ ?_;exact⟨hz,its',_,hv,q⟩
def Inv.lnew(I:Inv X pins σ H s)(hv:Vals ys its)(hz:ys.length<=sizeLine) :
 Inv X pins σ (upd H s.heap.objs.size (.lst ys)) { s with heap:=s.heap.push { cls:=.type "list",data:=.seq its.toArray },toks:=t' } :=
 I.laid (λ_ _ q=>QV _ q) (Ra _) ⟨hz,its,0,hv,Rv _ rfl⟩
theorem Inv.fresh(I:Inv X pins σ H s):H s.heap.objs.size=ZW:=I.hok.fresh (Ra _)
def Inv.lstM(I:Inv X pins σ H s)(hH:H l=Z_ (.lst xs)):xs.length<=sizeLine/\∃(its:List Value)(n:Nat),Vals xs its/\xs.length=its.length/\s.heap.get? l=Z_ { cls:=.type "list",data:=.seq its.toArray n }:=by
 obtain⟨z,its,n,r,e⟩:=I.hok l _ hH;exact⟨z,its,n,r,r.length,e⟩
end
section
variable{X:Cx}
def Hy:V->List V->Hp->VK->Prop:=λx vs H Q=>∃l xs y,x=.ref l/\vs=[y]/\H l=Z_ (.lst xs)/\xs.length<sizeLine/\Q .non (upd H l (.lst (xs++[y])))
def jr:MtM X "list.append" Hy:=by
 intro pins s σ H x vs v us Q I rx rv h;obtain⟨l,xs,y,rfl,rfl,hH,hz,q⟩:=h;cases rx;obtain⟨u,rfl,ru⟩:=rv.one;obtain⟨z,its,n,r,hl,e⟩:=I.lstM hH;refine call_meets F.slot_list_append ⟨_,e,rfl⟩ F.entry_list_append (F.args_list_append_2 _ _) (PySem.list_append l its.toArray n u (by rw[Ri];omega)) ⟨e,?_⟩;refine⟨.non,_,I.lset (its':=its++[u]) hH e (by simp) (r.append (.cons ru .nil)) ?_,rfl,q⟩;rw[R4,List.length_singleton];omega
end
end L2
namespace Att
open PySem PySem.W PySem.Calls PyProof.Rows
def jF:∀(ns:List Int)(vs:List Value),WellAll P h vs (ns.map WData.int)->Ws vs ns:=by
 intro ns
 induction ns with
 | nil=>
   intro vs w;rw[S9]at w;cases w;exact .nil
 | cons n ns ih=>
   intro vs w;rw[QL]at w
   cases w with
   | cons a b=>
     cases a;exact .cons _ _ (ih _ b)
def yZ{l:OpenLaw}{n:Nat}(hn:l.most=Z_ n){P:WX}{h:Rc}{args:List WData}{vals:List Value}
 (hpre:l.row.toRowW.claim.pre args=ZX)(hwl:WellAll P h vals args) :
 ∃a vs ns,vals=[Value.ref a]/\args=[WData.list (ns.map WData.int)]/\h.get? a=Z_ { cls:=.type "list",data:=.seq vs.toArray }/\Ws vs ns/\ns.length<=n:=by
 have hsh:WShape.hasAll [] args [.list .int]=ZX:=(pre_splitW hpre).1;have hc:l.pre.holds [] { args:=args }=ZX:=(pre_splitW hpre).2;obtain⟨d,r,rfl,h1,h2⟩:=hasAllW_cons hsh;obtain rfl:=hasAllW_nil h2;obtain⟨xs,rfl,h3⟩:=hasW_list h1;obtain⟨ns,rfl⟩:=items_int h3
 have hlen:ns.length<=n:=by
  unfold OpenLaw.pre at hc
  have h4:(WTm.not (.lt (.lit (.int (n:Int))) (.len (.arg 0)))).holds [] { args:=[.list (ns.map .int)] }=ZX:=by
   have h4:=(holds_andW hc).1;rw[hn]at h4;exact h4
  have h5:=condW_of h4 (w_not (w_lt w_lit (w_len_list (w_arg rfl))));rw[R5]at h5
  refine Nat.le_of_not_lt λq=>?_
  have q':(n:Int)<((ns.length:Nat):Int):=by omega
  first
   | (rw[decide_eq_true q']at h5;exact absurd h5 (by decide))
   | (simp at h5;omega)
 cases hwl with
 | cons w1 w2=>
   cases w2
   cases w1 with
   | list ho hall=>exact⟨_,_,ns,rfl,rfl,ho,jF ns _ hall,hlen⟩
def xF(l:OpenLaw)(args:List WData):l.row.toRowW.claim.post args (.bool ZX) args=ZX :=
 postW_of (r:=l.row.toRowW) (X:=(ZX==ZX))
  (show WShape.has [] (.bool ZX) .bool=ZX by first | rfl | decide | simp[WShape.has,WShape.arms,WShape.armsAll])
  (show(WTm.eq .res (.lit (.bool ZX))).value [] { args:=args,res:=Z_ (.bool ZX),after:=args }=Z_ (.bool (ZX==ZX))from w_eq_bool (w_res rfl) w_lit) rfl
def attach_call{l:OpenLaw}{n:Nat}{q:Rt}{loose:List Str}{XP:(Str->Option Value)->Rc->Prop}{YP:RX->Rc->Prop}{d:DefRec}
 (hn:l.most=Z_ n)(hdf:d.params.defaults=[])
 (call:∀(w:RX)(s₀ s₁:Shared)(mg mb:Str->Option Value)(fa:Addr)(o:Obj)(pm cd doc:Value)(a:Addr)(vs:List Value)(ns:List Int),
  Ground q loose [] XP w s₀ mg mb s₁.heap->YP w s₁.heap ->
  s₁.heap.get? fa=Z_ o->o.data=.func (docDef d.name d.params d.body d.scope pm cd doc)->s₁.heap.CodeRec cd d.name->mg d.name=Z_ (.ref fa) ->
  s₁.heap.get? a=Z_ { cls:=.type "list",data:=.seq vs.toArray }->Ws vs ns->ns.length<=n->s₁.gens=#[] ->
  W6 (Rm l.prog w) Wr (.call (.ref fa) ⟨[.ref a],[]⟩) (λr s'=>r=.ok (.ret (.bool ZX))/\OldK s₁.heap s'.heap/\s'.os=s₁.os/\Vq s'.gens) s₁) :
 WalkO q loose XP YP l.row.toRowW d [] (λf vs=>PySem.call f vs):=by
 intro w s₀ s₁ mg mb G Y fa o pm cd doc dV kV ho hd hcd hD hmg hg args vals as hpre hlay hrd hwl hlo;obtain rfl:dV=.none:=Dflts.none hD hdf;obtain rfl:kV=.none:=Dflts.noKw hD;obtain⟨a,vs,ns,rfl,rfl,hobj,hints,hlen⟩:=yZ hn hpre hwl;refine enter_call (Uj (call w s₀ s₁ mg mb fa o pm cd doc a vs ns G Y ho (fd_plain hd) hcd hmg hobj hints hlen hg) λr s' hq=>?_);obtain⟨rfl,h2,h3,h4⟩:=hq;exact⟨.inl ⟨.bool ZX,.bool ZX,[],rfl,λ_=>rfl,.bool ZX,xF l _,λ_=>⟨List.Pairwise.nil,λ_ hm=>(nomatch hm)⟩⟩,h2,h3,h4⟩
end Att
namespace L2
open PySem PySem.Spec PyProof.Rows
theorem mR:∀{vs:List Value}{ns:List Int},Ws vs ns->Vals (ns.map V.int) vs
 | _,_,.nil=>.nil
 | _,_,.cons n t h=>.cons ⟨t,rfl⟩ (mR h)
def Only(H:Hp):Prop:=∀b,H b=ZW\/∃o xs,H b=Z_ (.frz o (.lst xs))
def Aw{P:Rt}{w:RX}{K:QK}{mg mb:Str->Option Value}{CX:CXT}{k:Nat}{fa a:Addr}{fd:Sw}{x:Str}{sp:Sp}{s₁:Shared}{vs:List Value}{ns:List Int}
 (KX:K.In s₁.heap)(hns:s₁.heap.Ns RW mg)(hb:s₁.heap.Ns builtinsNs mb)(hbb:∀x:Str,x≠"__name__"->mb x=Tr x)(hlim:s₁.heap.NoLimit)(hg:s₁.gens=#[])
 (ha:s₁.heap.get? a=Z_ { cls:=.type "list",data:=.seq vs.toArray })(hi:Ws vs ns)(hl:ns.length<=sizeLine)(hr:Room k Wr)
 (F:∀base:Rc,K.In base->base.Ns RW mg->FnOk P w K mg base CX k fa fd [x] sp)(hbind:∀(s:Shared)(u:Value),WK s fd ⟨[u],[]⟩ [(x,u)])
 (hsp:∀H:Hp,Only H->SqL K H a (ns.map V.int)->sp [.ref a] H (λv _=>v=.bl ZX) λ_ _ _=>False)
 (hCX:∀H e s',CX [] H s₁ (λ_ _ _=>False) e s'->False) :
 W6 (Rm P w) Wr (.call (.ref fa) ⟨[.ref a],[]⟩) (λr s'=>r=.ok (.ret (.bool ZX))/\OldK s₁.heap s'.heap/\s'.os=s₁.os/\Vq s'.gens) s₁:=by
 have rv:=mR hi;have lenV:=hi.length
 have core:∀H:Hp,Only H->SqL K H a (ns.map V.int)->HOk P w H s₁.heap->(∀b,H b≠none->b=a)->(H a≠none->K.lookup a=ZW) ->
  W6 (Rm P w) Wr (.call (.ref fa) ⟨[.ref a],[]⟩) (λr s'=>r=.ok (.ret (.bool ZX))/\OldK s₁.heap s'.heap/\s'.os=s₁.os/\Vq s'.gens) s₁:=by
  intro H hO hS hok hA hK
  have dJ:∀{b:Addr}{o:Obj},s₁.heap.get? b=Z_ o->H b=ZW->(hidT s₁.heap H).get? b=Z_ o:=λe n=>Am e n
  have noA:∀{b:Addr}{o:Obj}{es:Array DictEntry}{ep:Nat},s₁.heap.get? b=Z_ o->o.data=.dict es ep->H b=ZW:=λ{b o es ep} e d=>by
   cases q:H b with
   | none=>rfl
   | some u=>
     have e':b=a:=hA b (by rw[q];simp);subst e';rw[ha]at e;cases e;have d':WL vs.toArray _=WF.dict es ep:=d;cases d'
  have nsK:∀{b:Addr}{m:Str->Option Value},s₁.heap.Ns b m->(hidT s₁.heap H).Ns b m:=λ{b m} ⟨o,es,ep,e,d,r⟩=>⟨o,es,ep,dJ e (noA e d),d,r⟩
  have hKb:K.In (hidT s₁.heap H):=λb o e=>dJ (KX b o e) (by
   cases q:H b with
   | none=>rfl
   | some u=>
     have e':b=a:=hA b (by rw[q];simp);subst e'
     rw[hK (by rw[q];simp)]at e;cases e)
  have hM:Mod K mg (hidT s₁.heap H):=⟨hKb,nsK hns,⟨mb,nsK hb,hbb⟩,let⟨mc,h1,h2⟩:=hlim;⟨mc,nsK h1,h2⟩⟩
  have e0:Env0 P w K mg (hidT s₁.heap H) Wr [] s₁ H:=⟨rfl,hM,λb o e=>Jx e,Nat.le_of_eq (uK _ _),trivial,λb hb=>absurd (show b∈([]:List Addr)from hb) (by simp),hok,.of_eq hg⟩
  refine Uj ((F _ hKb (nsK hns)).run Wr [] s₁ H ⟨[.ref a],[]⟩ [.ref a] [.ref a] _ _ hr e0 (hbind s₁ (.ref a)) (.cons rfl .nil) (hsp H hO hS)) λr s' h=>?_
  cases r with
  | error e=>exact(hCX H e s' h).elim
  | ok fl=>
    cases fl with
    | next=>exact Rr h
    | brk=>exact Rr h
    | cont=>exact Rr h
    | ret u=>
      obtain⟨v,H',os,bare,un,hok',r',q⟩:=h;have q':v=.bl ZX:=q;subst q';obtain rfl:u=Value.bool ZX:=r';refine⟨rfl,OldK.of_keep λb o e=>?_,os,bare⟩
      cases q:H b with
      | none=>exact un.keep b o e q (by intro z;exact absurd (show b∈([]:List Addr)from z) (by simp)) (by simp)
      | some u=>
        rcases hO b with z | ⟨ob,xs,z⟩
        .rw[q]at z;cases z
        .have z2:=un.frzs b ob _ z
         obtain⟨e1,_⟩:=hok b _ z;obtain⟨e2,_⟩:=hok' b _ z2;rw[e]at e1;cases e1;exact e2
 cases hk:K.lookup a with
 | some o=>
   have e:=KX a o hk;rw[ha]at e;cases e
   refine core (λ_=>none) (λ_=>.inl rfl) (.inr ⟨_,vs.toArray,_,hk,rfl,rfl,rfl,by rw[Ri,lenV];exact hl,by simpa using rv⟩) (λb u z=>by have z':(ZW:Option HO)=Z_ u:=z;cases z') (λb z=>absurd rfl z) λz=>absurd rfl z
 | none=>
   refine core (λb=>if b=a then some (.frz { cls:=.type "list",data:=.seq vs.toArray } (.lst (ns.map V.int)))else none) (λb=>?_) (.inl (.inr ⟨{ cls:=.type "list",data:=.seq vs.toArray },if_pos rfl⟩)) (λb u z=>?_) (λb z=>?_) λ_=>hk
   .by_cases hb:b=a
    .exact .inr ⟨_,_,if_pos hb⟩
    .exact .inl (if_neg hb)
   .by_cases hb:b=a
    .have z':=(if_pos hb).symm.trans z
     cases z';subst hb;exact⟨ha,by rw[R5];exact hl,vs,_,rv,ha⟩
    .have z':=(if_neg hb).symm.trans z
     cases z'
   .by_cases hb:b=a
    .exact hb
    .exact absurd (if_neg hb) z
def walk_of{l:PySem.W.OpenLaw}{n k:Nat}{q:Rt}{loose:List Str}{XP:(Str->Option Value)->Rc->Prop}{YP:RX->Rc->Prop}{d:DefRec}{K:WX->QK}{CX:RX->CXT}{sp:RX->Sp}{x:Str}
 (hn:l.most=Z_ n)(hn2:n<=sizeLine)(hdf:d.params.defaults=[])(hr:Room k Wr)
 (hY:∀(w:RX)(h:Rc),YP w h->(K w.params).In h)
 (F:∀(w:RX)(mg:Str->Option Value)(fa:Addr)(h:Rc),(K w.params).In h->h.Ns RW mg->mg d.name=Z_ (.ref fa) ->
  ∃fd:Sw,(∀(s:Shared)(u:Value),WK s fd ⟨[u],[]⟩ [(x,u)]) /\
   ∀base:Rc,(K w.params).In base->base.Ns RW mg->FnOk l.prog w (K w.params) mg base (CX w) k fa fd [x] (sp w))
 (hsp:∀(w:RX)(H:Hp)(a:Addr)(ns:List Int),ns.length<=n->Only H->SqL (K w.params) H a (ns.map V.int)->sp w [.ref a] H (λv _=>v=.bl ZX) λ_ _ _=>False)
 (hCX:∀(w:RX)(H:Hp)(s:Shared)(e:Value)(s':Shared),CX w [] H s (λ_ _ _=>False) e s'->False) :
 PySem.W.WalkO q loose XP YP l.row.toRowW d [] (λf vs=>PySem.call f vs):=by
 refine Att.attach_call hn hdf λw s₀ s₁ mg mb fa o pm cd doc a vs ns G Y ho hd hcd hmg hobj hints hlen hg=>?_
 have KX:=hY w _ Y;obtain⟨fd,hb,hF⟩:=F w mg fa _ KX G.T.g hmg
 exact Aw KX G.T.g G.T.b G.T.builtins G.T.nolimit hg hobj hints (RP hlen hn2) hr hF hb (λH hO hS=>hsp w H a ns hlen hO hS) λH e s'=>hCX w H s₁ e s'
noncomputable def cC(s:Stmt):Arguments:=match s with
 | .FunctionDef _ a _ _ _ _ _ _ _ _=>a
 | _=>{ posonlyargs:=[],args:=[],vararg:=ZW,kwonlyargs:=[],kw_defaults:=[],kwarg:=ZW,defaults:=[] }
noncomputable def bF(s:Stmt):List Stmt:=match s with
 | .FunctionDef _ _ b _ _ _ _ _ _ _=>b
 | _=>[]
noncomputable def aH(s:Stmt):Scope:=match s with
 | .FunctionDef _ _ _ _ _ _ sc _ _ _=>sc
 | _=>{ kind:=.function,names:=[],isGenerator:=ZZ,isCoroutine:=ZZ }
abbrev CX0:CXT:=λ_ _ _ _ _ _=>False
abbrev E0:XK:=λ_ _ _=>False
def ou:jx CX0 X E0:=λ_ _ _ _ _ _ _ h=>h.elim
structure Fun(K:QK)(x qual:Str)(st:Stmt)(f:Addr)(fd:Sw):Prop where
 ex:∃(oc:Value)(od:Option Addr)(kV doc pm:Value)(an:Option Addr)(cdv ct:Value)(osl:Array (Option Value))(dV:Value),
  fd=Tv x qual (cC st) (bF st) (aH st) dV kV doc pm an cdv ct/\K.lookup f=Z_ ⟨oc,od,.func fd,osl⟩/\Uk K cdv qual=ZX
 kp:Rj K (.ref f)=ZX
section
variable{P:Rt}{w:RX}{K:QK}{mg:Str->Option Value}{base:Rc}
def yu{x qual:Str}{st:Stmt}{f:Addr}{oc:Value}{od an:Option Addr}{osl:Array (Option Value)}{dV kV doc pm cdv ct:Value}(l:K.lookup f=Z_ ⟨oc,od,.func (Tv x qual (cC st) (bF st) (aH st) dV kV doc pm an cdv ct),osl⟩)
 (c:Uk K cdv qual=ZX)(k:Rj K (.ref f)=ZX):Fun K x qual st f (Tv x qual (cC st) (bF st) (aH st) dV kV doc pm an cdv ct):=⟨⟨oc,od,kV,doc,pm,an,cdv,ct,osl,dV,rfl,l,c⟩,k⟩
end
def wM{A:S5}{k:Nat}(hr:Room k A):A.units+1<Vz:=Nat.lt_of_le_of_lt (Nat.add_le_add_left (by decide:1<=64) _) hr.units
section
variable{X:Cx}
def vQ:CallR X (.builtin "len") (λxs H Q=>∃a kvs ep,xs=[V.ref a]/\H a=Z_ (.dK kvs ep)/\Q (.int kvs.length) H):=by
 intro pins s σ H xs us Q I r h;obtain⟨a,kvs,ep,rfl,ha,q⟩:=h;obtain⟨u,rfl,ru⟩:=vals1 r;cases ru
 exact Qo I ⟨ep,.inl ha⟩ λt s' I'=>⟨.int kvs.length,H,I',⟨t,rfl⟩,q⟩
end
def Same(H H':Hp):Prop:=∀b o,H b=Z_ o->H' b=Z_ o
def Same.refl(H:Hp):Same H H:=λ_ _ h=>h
def Same.trans(a:Same H H1)(b:Same H1 H2):Same H H2:=λc o h=>b c o (a c o h)
def Same.free(e:Same H H')(h:H' l=Option.none):H l=Option.none:=by
 cases q:H l with
 | none=>rfl
 | some o=>
   rw[e l o q]at h;cases h
def Same.seq{K:QK}{H H':Hp}{a:Addr}{xs:List V}(e:Same H H')(h:SqL K H a xs):SqL K H' a xs:=by
 rcases h with(h | ⟨o,h⟩) | h
 .exact .inl (.inl (e _ _ h))
 .exact .inl (.inr ⟨o,e _ _ h⟩)
 .exact .inr h
end L2
set_option backward.eqns.nonrecursive false
namespace Z
inductive DK where
 | i (n:Int)
 | s (x:List Nat)
 deriving DecidableEq
inductive D where
 | non | bl (b:Bool) | int (i:Int) | str (s:List Nat)
 | tup (l:List D) | lst (l:List D) | dct (ks:List DK) (vs:List D) | obj (c:Nat) (ns:List (List Nat)) (vs:List D)
 | err (c:Nat)
inductive R(α:Type)where
 | ok (a:α)
 | exc (c:Nat)
 | stuck
def nope{α:Type}{t:α}{p:Prop}(h:(ZW:Option α)=Z_ t):p:=nomatch h
def iH{α:Type}{t:α}{p:Prop}(h:(.stuck:R α)=.ok t):p:=nomatch h
namespace R
noncomputable def bind{α β:Type}(x:R α)(f:α->R β):R β:=match x with
 | .ok a=>f a
 | .exc c=>.exc c
 | .stuck=>.stuck
instance:Monad R where
 pure:=.ok
 bind:=R.bind
@[simp] def O7(a:α)(f:α->R β):(R.ok a >>= f)=f a:=rfl
@[simp] def O6(c:Nat)(f:α->R β):((R.exc c:R α) >>= f)=.exc c:=rfl
@[simp] def JB(f:α->R β):((R.stuck:R α) >>= f)=.stuck:=rfl
@[simp] def Pj(a:α):(pure a:R α)=.ok a:=rfl
noncomputable def of{α:Type}:Option α->R α
 | some a=>.ok a
 | none=>.stuck
noncomputable def chk(b:Bool){α:Type}(x:R α):R α:=if b then x else .stuck
end R
inductive Own where
 | sh | ow | me
 deriving DecidableEq
abbrev Slot:=Own×D
abbrev Dst:=List (Option Slot)
inductive O2 where
 | add | sub | mul | fdiv | mod | pow | eq | ne | lt | le | gt | ge | is | isnot | «in» | notin
 deriving DecidableEq
inductive Ty where
 | int | bool | str | tup | lst | dct | cls (c:Nat) | ocl (c:Nat) | valueError
 deriving DecidableEq
inductive B1 where
 | len | abs | tuple | list | dict | sorted | sortedSet | lenSet | all | any | str | max | min | sum | int
 deriving DecidableEq
inductive B2 where
 | max | min | divmod | maxd | mind
 deriving DecidableEq
inductive M1 where
 | get | join | startswith | endswith | zfill | lstrip | rstrip | strip | isdigit | isalpha | index | count | find
 deriving DecidableEq
mutual
inductive T where
 | var (i:Nat)
 | cst (d:D)
 | op2 (p:O2) (a b:T)
 | neg (a:T)
 | not (a:T)
 | and (a b:T)
 | or (a b:T)
 | ite (c a b:T)
 | tup (l:TL)
 | lst (l:TL)
 | dnew (ks:List DK) (vs:TL)
 | idx (a i:T)
 | kidx (ks:List DK) (vs:List D) (i:T)
 | kin (ks:List DK) (neg:Bool) (i:T)
 | slc (a:T) (lo hi:T)
 | call (f:Nat) (l:TL)
 | mk (c:Nat) (l:TL)
 | meth (m:List Nat) (o:T) (l:TL)
 | fld (o:T) (f:List Nat)
 | b1 (b:B1) (a:T)
 | b2 (b:B2) (a c:T)
 | m0 (m:M1) (o:T)
 | m1 (m:M1) (o a:T)
 | get2 (o a c:T)
 | isin (a:T) (ty:Ty)
 | fstr (l:TL)
 | comp (caps:List Nat) (m:Nat) (tg:Bool) (it:TI) (cond:T) (elt:T)
inductive TL where
 | nil
 | cons (t:T) (l:TL)
inductive TI where
 | val (t:T)
 | rng1 (t:T)
 | rng2 (a b:T)
 | rng3 (a b c:T)
 | zip (a b:T)
 | enum (a:T)
end
mutual
inductive TM where
 | pure (t:T)
 | call (f i:Nat) (l:TL)
 | meth (m:List Nat) (i:Nat) (l:TL)
 | tup (l:TML)
 | lst (l:TML)
 | fn (g:Nat) (l:TML)
 | ite (c:T) (a b:TM)
inductive TML where
 | nil
 | cons (t:TM) (l:TML)
end
mutual
inductive S where
 | set (i:Nat) (e:T)
 | sett (is:List Nat) (e:T)
 | seti (i:Nat) (k e:T)
 | setf (i:Nat) (f:List Nat) (e:T)
 | setx (i f:Nat) (l:TL)
 | append (i:Nat) (e:T)
 | clear (i:Nat)
 | extend (i:Nat) (e:T)
 | update (i:Nat) (e:T)
 | pop1 (j:Option Nat) (i:Nat) (k:T)
 | pop2 (i:Nat) (k e:T)
 | ini (c:Nat) (l:TL)
 | ifs (c:T) (a b:SL)
 | ifq (c:T) (a b:SL)
 | for_ (tg:List Nat) (tup:Bool) (it:TI) (b:SL)
 | while_ (c:T) (b:SL)
 | ret (e:T)
 | retn
 | expr (e:T)
 | mset (i:Nat) (e:TM)
 | mret (e:TM)
 | mexp (e:TM)
 | mapp (i:Nat) (e:TM)
 | mkx (i c f:Nat) (l:TL)
 | raise (c:Nat) (e:T)
 | try_ (b:SL) (c:Nat) (nm:Option Nat) (h:SL)
 | brk | cont | pass
inductive SL where
 | nil
 | cons (s:S) (l:SL)
end
mutual
noncomputable def D.imm:D->Bool
 | .non=>true
 | .bl _=>true
 | .int _=>true
 | .str _=>true
 | .tup l=>immL l
 | .lst _=>false
 | .dct _ _=>false
 | .obj _ _ _=>false
 | .err _=>false
noncomputable def immL:List D->Bool
 | []=>true
 | d::l=>d.imm&&immL l
end
noncomputable def look:List DK->List D->DK->Option D
 | k::ks,v::vs,x=>if k=x then some v else look ks vs x
 | _,_,_=>none
noncomputable def eqS:D->D->Option Bool
 | .non,.non=>some ZX
 | .non,.int _=>some ZZ
 | .non,.bl _=>some ZZ
 | .non,.str _=>some ZZ
 | .int _,.non=>some ZZ
 | .bl _,.non=>some ZZ
 | .str _,.non=>some ZZ
 | .int i,.int j=>some (decide (i=j))
 | .bl i,.bl j=>some (decide (i=j))
 | .str i,.str j=>some (decide (i=j))
 | .int _,.str _=>some ZZ
 | .str _,.int _=>some ZZ
 | .bl _,.str _=>some ZZ
 | .str _,.bl _=>some ZZ
 | _,_=>none
noncomputable def size(n:Nat):Bool:=decide (n<=16777216)
noncomputable def place(n:Nat)(i:Int):Option Nat:=if 0<=i then(if i<n then some i.toNat else none)else(if 0<=i+n then some (i+n).toNat else none)
noncomputable def clip(n:Nat)(i:Int):Nat:=if 0<=i then min i.toNat n else(i+n).toNat
noncomputable def dU(n:Nat):Option Int->Nat
 | none=>0
 | some i=>clip n i
noncomputable def bW(n:Nat):Option Int->Nat
 | none=>n
 | some i=>clip n i
noncomputable def cut{α:Type}(l:List α)(lo hi:Nat):List α:=(l.take hi).drop lo
noncomputable def keyOf:D->Option DK
 | .int i=>some (.i i)
 | .str x=>some (.s x)
 | _=>none
noncomputable def keyD:DK->D
 | .i n=>.int n
 | .s x=>.str x
noncomputable def putV:List DK->List D->DK->D->List D
 | k::ks,v::vs,x,y=>if k=x then y::vs else v::putV ks vs x y
 | _,_,_,y=>[y]
noncomputable def cO:List DK->DK->List DK
 | k::ks,x=>if k=x then k::ks else k::cO ks x
 | [],x=>[x]
noncomputable def zK:List DK->List D->DK->List D
 | k::ks,v::vs,x=>if k=x then vs else v::zK ks vs x
 | _,vs,_=>vs
noncomputable def rK:List DK->DK->List DK
 | k::ks,x=>if k=x then ks else k::rK ks x
 | [],_=>[]
noncomputable def ltS:List Nat->List Nat->Bool
 | [],[]=>false
 | [],_::_=>true
 | _::_,[]=>false
 | a::x,b::y=>if a<b then ZX else if b<a then ZZ else ltS x y
noncomputable def insS(x:List Nat):List (List Nat)->List (List Nat)
 | []=>[x]
 | y::l=>if ltS x y then x::y::l else y::insS x l
noncomputable def cG:List (List Nat)->List (List Nat)
 | []=>[]
 | x::l=>insS x (cG l)
noncomputable def strsOf:List D->Option (List (List Nat))
 | []=>some []
 | .str x::l=>(strsOf l).map (x::·)
 | _::_=>none
noncomputable def intsOf:List D->Option (List Int)
 | []=>some []
 | .int x::l=>(intsOf l).map (x::·)
 | _::_=>none
noncomputable def pJ{α:Type} [DecidableEq α]:List α->List α
 | []=>[]
 | x::l=>if x∈l then pJ l else x::pJ l
noncomputable def insI(x:Int):List Int->List Int
 | []=>[x]
 | y::l=>if x<y then x::y::l else y::insI x l
noncomputable def sortI:List Int->List Int
 | []=>[]
 | x::l=>insI x (sortI l)
noncomputable def truth:D->Option Bool
 | .non=>some ZZ
 | .bl b=>some b
 | .int i=>some (decide (i≠0))
 | .str x=>some (!x.isEmpty)
 | .tup l=>some (!l.isEmpty)
 | .lst l=>some (!l.isEmpty)
 | .dct ks _=>some (!ks.isEmpty)
 | _=>none
noncomputable def bits(i:Int):Nat:=if i=0 then 0 else i.natAbs.log2+1
noncomputable def dR(a b:Int):Bool:=decide (bits a<=64)||decide (bits b<=64)||decide (bits a+bits b<=134217728)
noncomputable def arith(p:O2)(a b:Int):R (Bool×D):=match p with
 | .add=>.ok (ZZ,.int (a+b))
 | .sub=>.ok (ZZ,.int (a-b))
 | .mul=>.chk (dR a b) (.ok (ZZ,.int (a*b)))
 | .fdiv=>.chk (decide (b≠0)&&decide (b.natAbs.log2<9000)) (.ok (ZZ,.int (a.fdiv b)))
 | .mod=>.chk (decide (b≠0)) (.ok (ZZ,.int (a.fmod b)))
 | .pow=>.chk (decide (0<=b)&&decide (b<=64)&&decide (a.natAbs<18446744073709551616)) (.ok (ZZ,.int (a ^ b.toNat)))
 | .lt=>.ok (ZZ,.bl (decide (a<b)))
 | .le=>.ok (ZZ,.bl (decide (a<=b)))
 | .gt=>.ok (ZZ,.bl (decide (b<a)))
 | .ge=>.ok (ZZ,.bl (decide (b<=a)))
 | _=>.stuck
noncomputable def gW:D->Bool
 | .non=>true
 | .bl _=>true
 | .int _=>true
 | .str _=>true
 | _=>false
noncomputable def inS(x:D):List D->Option Bool
 | []=>some ZZ
 | y::l=>match eqS y x,inS x l with
   | some s,some t=>some (s||t)
   | _,_=>none
noncomputable def isIn(a b:D):Option Bool:=match b with
 | .lst l=>if gW a then inS a l else none
 | .tup l=>if gW a then inS a l else none
 | .dct ks _=>(keyOf a).map λk=>decide (k∈ks)
 | .str y=>match a with
   | .str [c]=>some (decide (c∈y))
   | _=>none
 | _=>none
noncomputable def eqA(a b:D):Option Bool:=eqS a b
noncomputable def o2(p:O2)(a b:D):R (Bool×D):=match p with
 | .eq=>.of ((eqA a b).map λt=>(ZZ,.bl t))
 | .ne=>.of ((eqA a b).map λt=>(ZZ,.bl !t))
 | .is=>match b with
   | .non=>match a with
     | .non=>.ok (ZZ,.bl ZX)
     | _=>.ok (ZZ,.bl ZZ)
   | .bl y=>match a with
     | .bl x=>.ok (ZZ,.bl (x==y))
     | _=>.stuck
   | _=>.stuck
 | .isnot=>match b with
   | .non=>match a with
     | .non=>.ok (ZZ,.bl ZZ)
     | _=>.ok (ZZ,.bl ZX)
   | .bl y=>match a with
     | .bl x=>.ok (ZZ,.bl (x !=y))
     | _=>.stuck
   | _=>.stuck
 | .in=>.of ((isIn a b).map λt=>(ZZ,.bl t))
 | .notin=>.of ((isIn a b).map λt=>(ZZ,.bl !t))
 | p=>match a,b with
   | .int i,.int j=>arith p i j
   | .str x,.str y=>match p with
     | .add=>.chk (size (x.length+y.length)) (.ok (ZZ,.str (x++y)))
     | _=>.stuck
   | .lst x,.lst y=>match p with
     | .add=>.chk (size (x.length+y.length)) (.ok (ZX,.lst (x++y)))
     | _=>.stuck
   | .tup x,.tup y=>match p with
     | .add=>.chk (size (x.length+y.length)) (.ok (ZZ,.tup (x++y)))
     | _=>.stuck
   | _,_=>.stuck
noncomputable def idxD(a i:D):R (Bool×D):=match a,i with
 | .lst l,.int j=>.of ((place l.length j).bind λn=>l[n]?.map λd=>(ZZ,d))
 | .tup l,.int j=>.of ((place l.length j).bind λn=>l[n]?.map λd=>(ZZ,d))
 | .str x,.int j=>.of ((place x.length j).bind λn=>x[n]?.map λc=>(ZZ,.str [c]))
 | .dct ks vs,k=>.of ((keyOf k).bind λx=>(look ks vs x).map λd=>(ZZ,d))
 | _,_=>.stuck
noncomputable def slcD(a:D)(lo hi:Option Int):Option (Bool×D):=match a with
 | .lst l=>some (ZX,.lst (cut l (dU l.length lo) (bW l.length hi)))
 | .str x=>some (ZZ,.str (cut x (dU x.length lo) (bW x.length hi)))
 | .tup l=>if dU l.length lo=0/\bW l.length hi=l.length then none else some (ZZ,.tup (cut l (dU l.length lo) (bW l.length hi)))
 | _=>none
noncomputable def bnd(t:T)(d:D):Option (Option Int):=match t with
 | .cst .non=>some none
 | _=>match d with
   | .int i=>some (Z_ i)
   | _=>none
noncomputable def fldD(ok:Nat->Bool)(o:D)(f:List Nat):R (Bool×D):=match o with
 | .obj c ns vs=>.chk (ok c) (.of ((look (ns.map .s) vs (.s f)).map λd=>(ZZ,d)))
 | _=>.stuck
noncomputable def jk:D->Option (List D)
 | .lst l=>some l
 | .tup l=>some l
 | .dct ks _=>some (ks.map keyD)
 | .str x=>some (x.map λc=>.str [c])
 | _=>none
noncomputable def rP:D->Option (List D)
 | .lst l=>some l
 | .dct ks _=>some (ks.map keyD)
 | _=>none
noncomputable def boolsOf:List D->Option (List Bool)
 | []=>some []
 | .bl b::l=>(boolsOf l).map (b::·)
 | _::_=>none
noncomputable def figs(n:Nat):List Nat:=(W2 10 n).map Char.toNat
noncomputable def cZ(i:Int):List Nat:=if i<0 then 45::figs i.natAbs else figs i.natAbs
noncomputable def ssD(l:List D):Option (Bool×D):=match strsOf l with
 | some x=>if l.length<4000/\(pJ x).length<64 then some (ZX,.lst ((cG (pJ x)).map .str))else none
 | none=>(intsOf l).bind λx=>if l.length<4000/\(pJ x).length<128 then some (ZX,.lst ((sortI (pJ x)).map .int))else none
noncomputable def isDig(c:Nat):Bool:=decide (48<=c)&&decide (c<=57)
noncomputable def decVal(x:List Nat):Nat:=x.foldl (λa c=>a*10+(c-48)) 0
noncomputable def b1D(b:B1)(a:D):R (Bool×D):=match b with
 | .len=>match a with
   | .lst l=>.ok (ZZ,.int l.length)
   | .tup l=>.ok (ZZ,.int l.length)
   | .dct ks _=>.ok (ZZ,.int ks.length)
   | .str x=>.ok (ZZ,.int x.length)
   | _=>.stuck
 | .abs=>match a with
   | .int i=>.ok (ZZ,.int (if i<0 then -i else i))
   | _=>.stuck
 | .tuple=>match a with
   | .lst l=>.ok (ZZ,.tup l)
   | .tup l=>.ok (ZZ,.tup l)
   | _=>.stuck
 | .list=>match a with
   | .lst l=>.ok (ZX,.lst l)
   | .tup l=>.ok (ZX,.lst l)
   | _=>.stuck
 | .dict=>match a with
   | .dct ks vs=>.ok (ZX,.dct ks vs)
   | _=>.stuck
 | .sorted=>.of ((rP a).bind λl=>(strsOf l).bind λx=>if x.length<64 then some (ZX,.lst ((cG x).map .str))else none)
 | .sortedSet=>match a with
   | .lst l=>.of (ssD l)
   | _=>.stuck
 | .lenSet=>.of ((jk a).bind λl=>(strsOf l).map λx=>(ZZ,.int (pJ x).length))
 | .all=>match a with
   | .lst l=>.of ((boolsOf l).map λt=>(ZZ,.bl (t.all id)))
   | _=>.stuck
 | .any=>match a with
   | .lst l=>.of ((boolsOf l).map λt=>(ZZ,.bl (t.any id)))
   | _=>.stuck
 | .str=>match a with
   | .int i=>.chk (decide (i.natAbs.log2<1920)&&size (cZ i).length) (.ok (ZZ,.str (cZ i)))
   | _=>.stuck
 | .max=>match a with
   | .lst l=>.of ((intsOf l).bind λx=>match x with
     | []=>none
     | y::r=>some (ZZ,.int (r.foldl (λm z=>if z>m then z else m) y)))
   | _=>.stuck
 | .min=>match a with
   | .lst l=>.of ((intsOf l).bind λx=>match x with
     | []=>none
     | y::r=>some (ZZ,.int (r.foldl (λm z=>if z<m then z else m) y)))
   | _=>.stuck
 | .sum=>match a with
   | .lst l=>.of ((intsOf l).map λx=>(ZZ,.int x.sum))
   | _=>.stuck
 | .int=>match a with
   | .int i=>.ok (ZZ,.int i)
   | .bl b=>.ok (ZZ,.int (if b then 1 else 0))
   | .str x=>R.chk (!x.isEmpty&&decide (x.length<=640)&&x.all isDig) (.ok (ZZ,.int (decVal x)))
   | _=>.stuck
noncomputable def Mq:List Int->D
 | []=>.non
 | y::r=>.int (r.foldl (λm z=>if z<m then z else m) y)
noncomputable def b2D(b:B2)(x y:D):R (Bool×D):=match x,y with
 | .int i,.int j=>match b with
   | .max=>.ok (ZZ,.int (if j>i then j else i))
   | .min=>.ok (ZZ,.int (if j<i then j else i))
   | .divmod=>.chk (decide (0<j)&&decide (j.natAbs.log2<9000)) (.ok (ZZ,.tup [.int (i/j),.int (i % j)]))
   | .maxd=>.stuck
   | .mind=>.stuck
 | .lst l,.int j=>match b with
   | .maxd=>.of ((intsOf l).map λr=>(ZZ,.int (match r with
     | []=>j
     | y::r=>r.foldl (λm z=>if z>m then z else m) y)))
   | _=>.stuck
 | .lst l,.non=>match b with
   | .mind=>.of ((intsOf l).map λr=>(ZZ,Mq r))
   | _=>.stuck
 | _,_=>.stuck
noncomputable def jG(sep:List Nat):List (List Nat)->List Nat
 | []=>[]
 | [x]=>x
 | x::y::l=>x++sep++jG sep (y::l)
noncomputable def m1D(m:M1)(o a:D):R (Bool×D):=match m with
 | .get=>match o with
   | .dct ks vs=>.of ((keyOf a).map λk=>(ZZ,(look ks vs k).getD .non))
   | _=>.stuck
 | .join=>match o,a with
   | .str sep,.lst l=>.of ((strsOf l).bind λx=>if size ((x.map Sx).sum+x.length*sep.length)then some (ZZ,.str (jG sep x))else none)
   | _,_=>.stuck
 | .startswith=>match o,a with
   | .str x,.str y=>.ok (ZZ,.bl (y.isPrefixOf x))
   | _,_=>.stuck
 | .zfill=>match o,a with
   | .str x,.int n=>.chk (decide (0<=n)&&decide (n<=1000)&&!(x.head?==Z_ 43)&&!(x.head?==Z_ 45)) (.ok (ZZ,.str (Ry (n.toNat-x.length) 48++x)))
   | _,_=>.stuck
 | .lstrip=>match o,a with
   | .str x,.str [c]=>.ok (ZZ,.str (x.dropWhile (·==c)))
   | _,_=>.stuck
 | _=>.stuck
noncomputable def K6:List D->Option (List Nat)
 | []=>some []
 | [.str x,.int i]=>if i.natAbs.log2<1920 then some (x++cZ i)else none
 | .str x::l=>(K6 l).map (x++·)
 | _::_=>none
noncomputable def qe(o a c:D):R (Bool×D):=match o with
 | .dct ks vs=>.of ((keyOf a).map λk=>(ZZ,(look ks vs k).getD c))
 | _=>.stuck
structure Orc where
 fn:Nat->List D->R (Bool×D)
 ini:Nat->D->List D->R D
 mu:Nat->D->List D->R (D×D)
 meth:Nat->List Nat->Option Nat
 init:Nat->Option Nat
 sub:Nat->Nat->Bool
 w:Nat
noncomputable def isD(o:Orc)(ty:Ty)(d:D):Option Bool:=match ty with
 | .cls c'=>match d with
   | .err c=>if o.sub c c then some (o.sub c c')else none
   | _=>none
 | .ocl c'=>match d with
   | .obj c _ _=>if o.sub c c' then some ZX else none
   | _=>none
 | .valueError=>match d with
   | .err c=>if o.sub c c then some ZX else none
   | _=>none
 | ty=>match d with
   | .non=>some ZZ
   | .bl _=>some (match ty with | .bool=>true | .int=>true | _=>false)
   | .int _=>some (match ty with | .int=>true | _=>false)
   | .str _=>some (match ty with | .str=>true | _=>false)
   | .tup _=>some (match ty with | .tup=>true | _=>false)
   | .lst _=>some (match ty with | .lst=>true | _=>false)
   | .dct _ _=>some (match ty with | .dct=>true | _=>false)
   | _=>none
noncomputable def ut(δ:Dst)(i:Nat):Option D:=match δ[i]? with
 | some (Z_ (_,d))=>some d
 | _=>none
noncomputable def cW(δ:Dst):List Nat->Option (List D)
 | []=>some []
 | i::l=>(ut δ i).bind λd=>(cW δ l).map (d::·)
noncomputable def isOwn(δ:Dst)(i:Nat):Bool:=match δ[i]? with
 | some (Z_ (.ow,_))=>true
 | some (Z_ (.me,_))=>true
 | _=>false
noncomputable def lent(br:Bool)(r:Bool×D):R (Bool×D):=if br then(if r.2.imm then .ok r else .stuck)else .ok r
noncomputable def rngD(a b:Int):List D:=(Ru (b-a).toNat).map λ(k:Nat)=>D.int (a+(k:Int))
noncomputable def PB(a b c:Int):List D:=(Ru (if a<b then(b-a-1)/c+1 else 0).toNat).map λ(k:Nat)=>D.int (a+(k:Int)*c)
noncomputable def zipD:List D->List D->List D
 | x::l,y::r=>.tup [x,y]::zipD l r
 | _,_=>[]
noncomputable def Fg(i:Nat):List D->List D
 | []=>[]
 | x::l=>.tup [.int (i:Int),x]::Fg (i+1) l
noncomputable def inR(i:Int):Bool:=decide (-1000000<=i)&&decide (i<=1000000)
noncomputable def Pr:D->D->D->R (List D)
 | .int i,.int j,.int k=>.chk (inR i&&inR j&&inR k&&decide (0<k)) (.ok (PB i j k))
 | _,_,_=>.stuck
noncomputable def zipR:D->D->R (List D)
 | .tup l,.tup r=>.ok (zipD l r)
 | .lst l,.lst r=>.ok (zipD l r)
 | _,_=>.stuck
noncomputable def takes(m:Nat)(tg:Bool)(d:D):Option (List D):=if tg then(match d with
 | .tup l=>if l.length=m then some l else none
 | _=>none)else some [d]
noncomputable def bB(f:List D->R (Bool×D))(c:List D->R (Bool×D))(m:Nat)(tg:Bool):List D->R (List D)
 | []=>.ok []
 | d::l=>(R.of (takes m tg d)).bind λx=>(c x).bind λt=>(R.of (truth t.2)).bind λb=>
   if b then(f x).bind λy=>(bB f c m tg l).bind λr=>.ok (y.2::r)else bB f c m tg l
noncomputable def cj:D->R (Bool×D)
 | .bl b=>.ok (ZZ,.bl b)
 | _=>.stuck
noncomputable def bR(δ:Dst):T->Bool
 | .var i=>isOwn δ i
 | _=>false
mutual
noncomputable def ev(o:Orc)(δ:Dst)(lk:Bool):T->R (Bool×D)
 | .var i=>match δ[i]? with
   | some (Z_ (.sh,d))=>.ok (ZZ,d)
   | some (Z_ (_,d))=>if lk then .ok (ZZ,d)else .stuck
   | _=>.stuck
 | .cst d=>.ok (ZZ,d)
 | .op2 p a b=>(ev o δ ZX a).bind λx=>(ev o δ ZX b).bind λy=>o2 p x.2 y.2
 | .neg a=>(ev o δ ZX a).bind λx=>match x.2 with
   | .int i=>.ok (ZZ,.int (-i))
   | _=>.stuck
 | .not a=>(ev o δ ZX a).bind λx=>(R.of (truth x.2)).bind λb=>.ok (ZZ,.bl !b)
 | .and a b=>(ev o δ ZX a).bind λx=>match x.2 with
   | .bl true=>(ev o δ ZX b).bind λy=>cj y.2
   | .bl false=>.ok (ZZ,.bl ZZ)
   | _=>.stuck
 | .or a b=>(ev o δ ZX a).bind λx=>match x.2 with
   | .bl true=>.ok (ZZ,.bl ZX)
   | .bl false=>(ev o δ ZX b).bind λy=>cj y.2
   | _=>.stuck
 | .ite c a b=>(ev o δ ZX c).bind λx=>(R.of (truth x.2)).bind λt=>if t then ev o δ lk a else ev o δ lk b
 | .tup l=>(evL o δ l).bind λx=>.chk (!x.1&&size x.2.length) (.ok (ZZ,.tup x.2))
 | .lst l=>(evL o δ l).bind λx=>.chk (!x.1&&size x.2.length) (.ok (ZX,.lst x.2))
 | .dnew ks l=>(evL o δ l).bind λx=>.chk (!x.1&&decide (ks.length=x.2.length)&&decide (ks.length<=1000)&&decide ks.Nodup) (.ok (ZX,.dct ks x.2))
 | .idx a i=>(ev o δ ZX a).bind λx=>(ev o δ ZX i).bind λy=>idxD x.2 y.2
 | .kidx ks vs i=>(ev o δ ZX i).bind λy=>.of ((keyOf y.2).bind λx=>(look ks vs x).map λd=>(ZZ,d))
 | .kin ks neg i=>(ev o δ ZX i).bind λy=>.of ((keyOf y.2).map λx=>(ZZ,.bl (neg ^^ decide (x∈ks))))
 | .slc a lo hi=>(ev o δ ZX a).bind λx=>(ev o δ ZX lo).bind λy=>(ev o δ ZX hi).bind λz=>.of ((bnd lo y.2).bind λl=>(bnd hi z.2).bind λh=>slcD x.2 l h)
 | .call f l=>(evL o δ l).bind λx=>(o.fn f x.2).bind (lent x.1)
 | .mk c l=>(evL o δ l).bind λx=>(R.of (o.init c)).bind λf=>R.chk (!x.1) ((o.ini f (.obj c [] []) x.2).bind λd=>.ok (ZX,d))
 | .meth m a l=>(ev o δ (bR δ a) a).bind λx=>(evL o δ l).bind λy=>match x.2 with
   | .obj c ns _=>R.chk (!ns.contains m) ((R.of (o.meth c m)).bind λf=>(o.fn f (x.2::y.2)).bind (lent (bR δ a||y.1)))
   | _=>.stuck
 | .fld a f=>(ev o δ ZX a).bind λx=>fldD (λc=>(o.init c).isSome) x.2 f
 | .b1 b a=>(ev o δ ZX a).bind λx=>b1D b x.2
 | .b2 b a c=>(ev o δ ZX a).bind λx=>(ev o δ ZX c).bind λy=>b2D b x.2 y.2
 | .m0 _ _=>.stuck
 | .m1 m a b=>(ev o δ ZX a).bind λx=>(ev o δ ZX b).bind λy=>m1D m x.2 y.2
 | .get2 a b c=>(ev o δ ZX a).bind λx=>(ev o δ ZX b).bind λy=>(ev o δ ZZ c).bind λz=>qe x.2 y.2 z.2
 | .isin a ty=>(ev o δ ZX a).bind λx=>.of ((isD o ty x.2).map λt=>(ZZ,.bl t))
 | .fstr l=>(evL o δ l).bind λx=>.of ((K6 x.2).bind λt=>if size t.length then some (ZZ,.str t)else none)
 | .comp caps m tg it c e=>(evI o δ ZX it).bind λl=>(R.of (cW δ caps)).bind λcs=>
   (bB (λx=>ev o ((x++cs).map λd=>some (.sh,d)) ZZ e) (λx=>ev o ((x++cs).map λd=>some (.sh,d)) ZX c) m tg l).bind λr=>
    R.chk (size r.length&&(immL r||caps.all λi=>!isOwn δ i)) (.ok (ZX,.lst r))
noncomputable def evL(o:Orc)(δ:Dst):TL->R (Bool×List D)
 | .nil=>.ok (ZZ,[])
 | .cons t l=>(ev o δ (bR δ t) t).bind λx=>(evL o δ l).bind λy=>.ok (bR δ t||y.1,x.2::y.2)
noncomputable def evI(o:Orc)(δ:Dst)(lk:Bool):TI->R (List D)
 | .val t=>(ev o δ lk t).bind λx=>.of (jk x.2)
 | .rng1 t=>(ev o δ ZX t).bind λx=>match x.2 with
   | .int n=>.chk (inR n) (.ok (rngD 0 n))
   | _=>.stuck
 | .rng2 a b=>(ev o δ ZX a).bind λx=>(ev o δ ZX b).bind λy=>match x.2,y.2 with
   | .int i,.int j=>.chk (inR i&&inR j) (.ok (rngD i j))
   | _,_=>.stuck
 | .rng3 a b c=>(ev o δ ZX a).bind λx=>(ev o δ ZX b).bind λy=>(ev o δ ZX c).bind λz=>Pr x.2 y.2 z.2
 | .zip a b=>(ev o δ lk a).bind λx=>(ev o δ lk b).bind λy=>zipR x.2 y.2
 | .enum a=>(ev o δ lk a).bind λx=>match x.2 with
   | .lst l=>.ok (Fg 0 l)
   | .dct ks _=>.ok (Fg 0 (ks.map keyD))
   | _=>.stuck
end
mutual
noncomputable def bj:T->List Nat
 | .var i=>[i]
 | .cst _=>[]
 | .op2 _ a b=>bj a++bj b
 | .neg a=>bj a
 | .not a=>bj a
 | .and a b=>bj a++bj b
 | .or a b=>bj a++bj b
 | .ite c a b=>bj c++(bj a++bj b)
 | .tup l=>ik l
 | .lst l=>ik l
 | .dnew _ l=>ik l
 | .idx a i=>bj a++bj i
 | .kidx _ _ i=>bj i
 | .kin _ _ i=>bj i
 | .slc a lo hi=>bj a++(bj lo++bj hi)
 | .call _ l=>ik l
 | .mk _ l=>ik l
 | .meth _ a l=>bj a++ik l
 | .fld a _=>bj a
 | .b1 _ a=>bj a
 | .b2 _ a b=>bj a++bj b
 | .m0 _ a=>bj a
 | .m1 _ a b=>bj a++bj b
 | .get2 a b c=>bj a++(bj b++bj c)
 | .isin a _=>bj a
 | .fstr l=>ik l
 | .comp caps _ _ it _ _=>caps++KN it
noncomputable def ik:TL->List Nat
 | .nil=>[]
 | .cons t l=>bj t++ik l
noncomputable def KN:TI->List Nat
 | .val t=>bj t
 | .rng1 t=>bj t
 | .rng2 a b=>bj a++bj b
 | .rng3 a b c=>bj a++(bj b++bj c)
 | .zip a b=>bj a++bj b
 | .enum a=>bj a
end
noncomputable def share1(δ:Dst)(i:Nat):Dst:=match δ[i]? with
 | some (Z_ (.ow,d))=>δ.set i (Z_ (.sh,d))
 | _=>δ
noncomputable def cN(δ:Dst):T->Dst
 | .var i=>share1 δ i
 | _=>δ
noncomputable def cR(δ:Dst):TI->Dst
 | .val (.var i)=>share1 δ i
 | .enum (.var i)=>share1 δ i
 | .zip a b=>cN (cN δ a) b
 | _=>δ
noncomputable def share(δ:Dst)(is:List Nat):Dst:=is.foldl share1 δ
noncomputable def evF(o:Orc)(δ:Dst)(e:T):Dst×R (Bool×D):=match ev o δ ZZ e with
 | .stuck=>(share δ (bj e),ev o (share δ (bj e)) ZZ e)
 | r=>(δ,r)
inductive SO where
 | nx (δ:Dst)
 | rt (w:Bool) (d:D) (δ:Dst)
 | bk (δ:Dst)
 | ct (δ:Dst)
 | ex (c:Nat) (δ:Dst)
 | stuck
noncomputable def SO.of(δ:Dst){α:Type}(r:R α)(k:α->SO):SO:=match r with
 | .ok a=>k a
 | .exc _=>.stuck
 | .stuck=>.stuck
noncomputable def SO.ofX(δ:Dst){α:Type}(r:R α)(k:α->SO):SO:=match r with
 | .ok a=>k a
 | .exc c=>.ex c δ
 | .stuck=>.stuck
noncomputable def setSlot(δ:Dst)(i:Nat)(w:Bool)(d:D):Option Dst:=if i<δ.length then some (δ.set i (Z_ (if w then .ow else .sh,d)))else none
noncomputable def aM(δ:Dst):List Nat->List D->Option Dst
 | [],[]=>some δ
 | i::is,d::ds=>(setSlot δ i ZZ d).bind fun δ'=>aM δ' is ds
 | _,_=>none
noncomputable def ownD(δ:Dst)(i:Nat):Option (Own×D):=match δ[i]? with
 | some (Z_ (.ow,d))=>some (.ow,d)
 | some (Z_ (.me,d))=>some (.me,d)
 | _=>none
noncomputable def aB(x:Option SO):SO:=match x with
 | some r=>r
 | none=>.stuck
noncomputable def putItem(c k v:D):Option D:=match c,k with
 | .lst l,.int j=>(place l.length j).map λn=>.lst (l.set n v)
 | .dct ks vs,k=>(keyOf k).bind λx=>if ks.length<=100000 then some (.dct (cO ks x) (putV ks vs x v))else none
 | _,_=>none
noncomputable def gk(ok:Nat->Bool)(c:D)(f:List Nat)(v:D):Option D:=match c with
 | .obj c ns vs=>if ok c/\ns.length<900 then some (.obj c (cO (ns.map .s) (.s f) |>.map fun | .s x=>x | .i _=>[]) (putV (ns.map .s) vs (.s f) v))else none
 | _=>none
noncomputable def xT:List DK->List D->List DK->List D->List DK×List D
 | ks,vs,k::ks',v::vs'=>xT (cO ks k) (putV ks vs k v) ks' vs'
 | ks,vs,_,_=>(ks,vs)
noncomputable def cF(body:Dst->SO)(tg:List Nat)(tup:Bool):List D->Dst->SO
 | [],δ=>.nx δ
 | d::l,δ=>match takes tg.length tup d with
   | none=>.stuck
   | some ds=>match aM δ tg ds with
     | none=>.stuck
     | some δ1=>match body δ1 with
       | .nx δ2=>cF body tg tup l δ2
       | .ct δ2=>cF body tg tup l δ2
       | .bk δ2=>.nx δ2
       | r=>r
noncomputable def b8(c:Dst->R (Bool×D))(body:Dst->SO):Nat->Dst->SO
 | 0,_=>.stuck
 | n+1,δ=>SO.of δ ((c δ).bind λx=>R.of (truth x.2)) λb=>if b then(match body δ with
  | .nx δ2=>b8 c body n δ2
  | .ct δ2=>b8 c body n δ2
  | .bk δ2=>.nx δ2
  | r=>r)else .nx δ
noncomputable def xH(δ:Dst)(i:Nat):Bool:=match ownD δ i with
 | some (_,.lst _)=>true
 | _=>false
noncomputable def muR(o:Orc)(δ:Dst)(i f:Nat)(x:Bool×List D):R (Dst×D):=R.chk (!x.1) ((R.of (ownD δ i)).bind λq=>(o.mu f q.2 x.2).bind λr=>.ok (δ.set i (Z_ (q.1,r.1)),r.2))
noncomputable def muM(o:Orc)(δ:Dst)(i:Nat)(m:List Nat):R Nat:=(R.of (ownD δ i)).bind λq=>match q.2 with
 | .obj c ns _=>R.chk (!ns.contains m) (R.of (o.meth c m))
 | _=>.stuck
mutual
noncomputable def evM(o:Orc):TM->Dst->R (Dst×D)
 | .pure t,δ=>(ev o δ ZZ t).bind λr=>.ok (δ,r.2)
 | .call f i l,δ=>(evL o δ l).bind (muR o δ i f)
 | .meth m i l,δ=>(muM o δ i m).bind λf=>(evL o δ l).bind (muR o δ i f)
 | .tup l,δ=>(evML o l δ).bind λr=>.chk (size r.2.length) (.ok (r.1,.tup r.2))
 | .lst l,δ=>(evML o l δ).bind λr=>.chk (size r.2.length) (.ok (r.1,.lst r.2))
 | .fn g l,δ=>(evML o l δ).bind λr=>(o.fn g r.2).bind λd=>.ok (r.1,d.2)
 | .ite c a b,δ=>(ev o δ ZX c).bind λx=>(R.of (truth x.2)).bind λt=>if t then evM o a δ else evM o b δ
noncomputable def evML(o:Orc):TML->Dst->R (Dst×List D)
 | .nil,δ=>.ok (δ,[])
 | .cons t l,δ=>(evM o t δ).bind λx=>(evML o l x.1).bind λy=>.ok (y.1,x.2::y.2)
end
mutual
noncomputable def evS(o:Orc):S->Dst->SO
 | .set i e,δ=>SO.of (evF o δ e).1 (evF o δ e).2 λr=>aB ((setSlot (evF o δ e).1 i r.1 r.2).map .nx)
 | .sett is e,δ=>SO.of (evF o δ e).1 (evF o δ e).2 λr=>aB ((takes is.length ZX r.2).bind λds=>(aM (evF o δ e).1 is ds).map .nx)
 | .seti i k e,δ=>SO.of (evF o δ e).1 (evF o δ e).2 λr=>SO.of (evF o δ e).1 (ev o (evF o δ e).1 ZX k) λy=>
  aB ((ownD (evF o δ e).1 i).bind λc=>(putItem c.2 y.2 r.2).map λc'=>.nx ((evF o δ e).1.set i (Z_ (c.1,c'))))
 | .setf i f e,δ=>SO.of (evF o δ e).1 (evF o δ e).2 λr=>aB ((ownD (evF o δ e).1 i).bind λc=>(gk (λc=>(o.init c).isSome) c.2 f r.2).map λc'=>.nx ((evF o δ e).1.set i (Z_ (c.1,c'))))
 | .append i e,δ=>SO.of (evF o δ e).1 (evF o δ e).2 λr=>aB ((ownD (evF o δ e).1 i).bind λc=>match c.2 with
  | .lst l=>if size (l.length+1)then some (.nx ((evF o δ e).1.set i (Z_ (c.1,.lst (l++[r.2])))))else none
  | _=>none)
 | .setx i f l,δ=>SO.of δ (evL o δ l) λx=>SO.ofX δ ((o.fn f x.2).bind (lent x.1)) λr=>aB ((setSlot δ i r.1 r.2).map .nx)
 | .clear i,δ=>aB ((ownD δ i).bind λc=>match c.2 with
  | .lst _=>some (.nx (δ.set i (Z_ (c.1,.lst []))))
  | _=>none)
 | .extend i e,δ=>SO.of (evF o δ e).1 (evF o δ e).2 λr=>aB ((ownD (evF o δ e).1 i).bind λc=>match c.2,r.2 with
  | .lst l,.lst l'=>if size (l.length+l'.length)&&r.1 then some (.nx ((evF o δ e).1.set i (Z_ (c.1,.lst (l++l')))))else none
  | _,_=>none)
 | .update i e,δ=>SO.of δ (ev o δ ZX e) λr=>aB ((ownD δ i).bind λc=>match c.2,r.2 with
  | .dct ks vs,.dct ks' vs'=>if decide (ks.length+ks'.length<=100000)&&(match e with | .var j=>j !=i | _=>true)then some (.nx (δ.set i (Z_ (c.1,.dct (xT ks vs ks' vs').1 (xT ks vs ks' vs').2))))else none
  | _,_=>none)
 | .pop1 j i k,δ=>SO.of δ (ev o δ ZX k) λy=>aB ((ownD δ i).bind λc=>match c.2 with
  | .dct ks vs=>(keyOf y.2).bind λx=>(look ks vs x).bind λv=>(match j with
    | none=>some (SO.nx (δ.set i (Z_ (c.1,.dct (rK ks x) (zK ks vs x)))))
    | some j=>if i=j then none else(setSlot (δ.set i (Z_ (c.1,.dct (rK ks x) (zK ks vs x)))) j ZZ v).map .nx)
  | _=>none)
 | .pop2 i k e,δ=>SO.of δ (ev o δ ZX k) λy=>SO.of δ (ev o δ ZX e) λ_=>aB ((ownD δ i).bind λc=>match c.2 with
  | .dct ks vs=>(keyOf y.2).bind λx=>some (.nx (δ.set i (Z_ (c.1,.dct (rK ks x) (zK ks vs x)))))
  | _=>none)
 | .ini c l,δ=>SO.of δ ((evL o δ l).bind λx=>(R.of (ownD δ 0)).bind λq=>(R.of (o.init c)).bind λf=>R.chk (!x.1) ((o.ini f q.2 x.2).bind λd=>.ok (q.1,d))) λr=>.nx (δ.set 0 (Z_ r))
 | .ifs c a b,δ=>SO.of δ ((ev o δ ZX c).bind λx=>R.of (truth x.2)) λt=>if t then evSs o a δ else evSs o b δ
 | .ifq c a b,δ=>(fun δ1=>SO.of δ1 ((ev o δ1 ZX c).bind λx=>R.of (truth x.2)) λt=>if t then evSs o a δ1 else evSs o b δ1) (share δ (bj c))
 | .for_ tg tup it b,δ=>(fun δ1=>SO.of δ1 (evI o δ1 ZZ it) λl=>cF (evSs o b) tg tup l δ1) (cR δ it)
 | .while_ c b,δ=>b8 (fun δ=>ev o δ ZX c) (evSs o b) o.w δ
 | .ret e,δ=>match e with
   | .var i=>match δ[i]? with
     | some (Z_ (.ow,d))=>.rt ZX d δ
     | some (Z_ (.sh,d))=>.rt ZZ d δ
     | _=>.stuck
   | e=>SO.of (evF o δ e).1 (evF o δ e).2 λr=>.rt r.1 r.2 (evF o δ e).1
 | .retn,δ=>.rt ZZ .non δ
 | .expr e,δ=>match e with
   | .call f l=>SO.of δ (evL o δ l) λx=>SO.ofX δ ((o.fn f x.2).bind (lent x.1)) λ_=>.nx δ
   | .meth m a l=>SO.of δ (ev o δ (bR δ a) a) λx=>SO.of δ (evL o δ l) λy=>match x.2 with
     | .obj c ns _=>if ns.contains m then .stuck else SO.of δ (R.of (o.meth c m)) λf=>SO.ofX δ ((o.fn f (x.2::y.2)).bind (lent (bR δ a||y.1))) λ_=>.nx δ
     | _=>.stuck
   | e=>SO.of δ (ev o δ ZX e) λ_=>.nx δ
 | .mset i e,δ=>SO.of δ (evM o e δ) λr=>aB ((setSlot r.1 i ZZ r.2).map .nx)
 | .mret e,δ=>SO.of δ (evM o e δ) λr=>.rt ZZ r.2 r.1
 | .mexp e,δ=>SO.of δ (evM o e δ) λr=>.nx r.1
 | .mapp i e,δ=>if xH δ i then SO.of δ (evM o e δ) (λr=>aB ((ownD r.1 i).bind λc=>match c.2 with
  | .lst l=>if size (l.length+1)then some (.nx (r.1.set i (Z_ (c.1,.lst (l++[r.2])))))else none
  | _=>none))else .stuck
 | .mkx i c f l,δ=>SO.of δ (R.of (o.init c)) λg=>SO.of δ (evL o δ l) λx=>SO.ofX δ ((o.fn f x.2).bind (lent x.1)) λr=>SO.of δ (o.ini g (.obj c [] []) [r.2]) λd=>aB ((setSlot δ i ZX d).map .nx)
 | .raise c e,δ=>SO.of δ (ev o δ ZX e) λ_=>.ex c δ
 | .try_ b c nm h,δ=>match evSs o b δ with
   | .ex c' δ1=>if o.sub c' c then(match nm with
     | none=>evSs o h δ1
     | some j=>aB ((setSlot δ1 j ZZ (.err c')).map fun δ2=>match evSs o h δ2 with
       | .nx δ3=>.nx (δ3.set j none)
       | _=>.stuck))else .stuck
   | r=>r
 | .brk,δ=>.bk δ
 | .cont,δ=>.ct δ
 | .pass,δ=>.nx δ
noncomputable def evSs(o:Orc):SL->Dst->SO
 | .nil,δ=>.nx δ
 | .cons s l,δ=>match evS o s δ with
   | .nx δ1=>evSs o l δ1
   | r=>r
end
noncomputable def fJ:S:=.expr (.m0 .get (.cst .non))
noncomputable def oX:SL:=.cons fJ .nil
structure Fd where
 np:Nat
 ns:Nat
 body:SL
noncomputable def bf(o:Orc)(f:Fd)(args:List D):R (Bool×D):=if args.length=f.np then(match evSs o f.body (args.map (λd=>some (Own.sh,d))++Ry (f.ns-f.np) none)with
 | .rt w d _=>.ok (w,d)
 | .nx _=>.ok (ZZ,.non)
 | .ex c _=>.exc c
 | _=>.stuck)else .stuck
noncomputable def selfOf(δ:Dst):R D:=match(δ[0]?:Option (Option Slot))with
 | some (Z_ (.me,d))=>.ok d
 | _=>.stuck
noncomputable def du(o:Orc)(f:Fd)(self:D)(args:List D):R D:=if args.length+1=f.np then(match evSs o f.body (Z_ (Own.me,self)::(args.map (λd=>some (Own.sh,d))++Ry (f.ns-f.np) none))with
 | .rt _ .non δ=>selfOf δ
 | .nx δ=>selfOf δ
 | .ex c _=>.exc c
 | _=>.stuck)else .stuck
noncomputable def cU(o:Orc)(f:Fd)(self:D)(args:List D):R (D×D):=if args.length+1=f.np then(match evSs o f.body (Z_ (Own.me,self)::(args.map (λd=>some (Own.sh,d))++Ry (f.ns-f.np) none))with
 | .rt _ d δ=>R.chk d.imm ((selfOf δ).bind λs=>.ok (s,d))
 | .nx δ=>(selfOf δ).bind λs=>.ok (s,.non)
 | _=>.stuck)else .stuck
structure Prg where
 fns:List Fd
 meth:Nat->List Nat->Option Nat
 init:Nat->Option Nat
 sub:Nat->Nat->Bool
noncomputable def tabOf:List (Nat×List Nat×Nat)->Nat->List Nat->Option Nat
 | [],_,_=>none
 | (c',m',f)::l,c,m=>if c'=c/\m'=m then some f else tabOf l c m
noncomputable def oR:List (Nat×Nat)->Nat->Option Nat
 | [],_=>none
 | (c',f)::l,c=>if c'=c then some f else oR l c
theorem nj:∀{l:List (Nat×List Nat×Nat)},tabOf l c m=Z_ f->(c,m,f)∈l
 | [],h=>nomatch h
 | (c',m',f')::l,h=>by
   simp only[tabOf]at h;split at h
   .rename_i z;cases h;rw[z.1,z.2];exact QM
   .exact QQ _ (nj h)
theorem fu:∀{l:List (Nat×Nat)},oR l c=Z_ f->(c,f)∈l
 | [],h=>nomatch h
 | (c',f')::l,h=>by
   simp only[oR]at h;split at h
   .rename_i z;cases h;rw[z];exact QM
   .exact QQ _ (fu h)
noncomputable def orc2(P:Prg)(w:Nat):Nat->Orc×Option Orc
 | 0=>(⟨λ_ _=>.stuck,λ_ _ _=>.stuck,λ_ _ _=>.stuck,P.meth,P.init,P.sub,w⟩,none)
 | n+1=>(⟨λf a=>match P.fns[f]? with | some d=>bf (orc2 P w n).1 d a | none=>.stuck,λf s a=>match(orc2 P w n).2 with | none=>.stuck | some o=>(match P.fns[f]? with | some d=>du o d s a | none=>.stuck),λf s a=>match P.fns[f]? with | some d=>cU (orc2 P w n).1 d s a | none=>.stuck,P.meth,P.init,P.sub,w⟩,some (orc2 P w n).1)
noncomputable def orc(P:Prg)(w n:Nat):Orc:=(orc2 P w n).1
def aP(h:P.fns[f]?=Z_ d):(orc P w (n+1)).fn f a=bf (orc P w n) d a:=by
 show(match P.fns[f]? with | some d=>bf (orc P w n) d a | none=>.stuck)=_;rw[h]
def cP(h:P.fns[f]?=Z_ d):(orc P w (n+1)).mu f s a=cU (orc P w n) d s a:=by
 show(match P.fns[f]? with | some d=>cU (orc P w n) d s a | none=>.stuck)=_;rw[h]
def xJ(h:P.fns[f]?=Z_ d):(orc P w (n+2)).ini f s a=du (orc P w n) d s a:=by
 show(match P.fns[f]? with | some d=>du (orc P w n) d s a | none=>.stuck)=_;rw[h]
end Z
open Z.T renaming var→Xi,cst→Xj,op2→Xm,idx→Xv,call→Xy,b1→XD,tup→XF,lst→XH,neg→XM,comp→XQ,slc→XR,or→Y0,and→Y8,meth→Y9,isin→Yb,ite→Yg,fld→Yh,not→Yj,get2→Ys
open Z.D renaming int→Xk,str→Xq,bl→XN,tup→Y7,non→Yc,lst→Yr
open Z.TL renaming cons→Xl,nil→Xo
open Z.SL renaming cons→Xn,nil→Xp
open Z.R renaming bind→Xr,of→Xu,chk→Xz,ok→Yd
open Z.S renaming set→Xw,ifs→Xx,ret→XC,append→XS,mset→XX,seti→Y5,for_→Ye,mexp→Yi,raise→Yk,while_→Ym,mret→Yn,expr→Yo,setx→Yp,setf→Yq,mapp→Yt
open Z.TI renaming val→XJ,rng1→Y6
open Z.DK renaming s→Y4
namespace Z
open PySem PySem.Spec PyProof.Rows L2
noncomputable def strV(x:List Nat):Str:=⟨x.toArray⟩
noncomputable def keyV:DK->Key
 | .i n=>.inl n
 | .s x=>.inr (strV x)
def fG(h:strV x=strV y):x=y:=by
 have:=congrArg (λs:Str=>s.cps.toList) h;simpa[strV]using this
def iM(h:keyV x=keyV y):x=y:=by
 cases x<;>cases y<;>simp[keyV]at h
 .rw[h]
 .rw[fG h]
abbrev IsK(H:Hp)(a:Addr)(kvs:List (Key×V)):Prop:=∃ep,H a=Z_ (.dK kvs ep)
def KsOk(ks:List DK):Prop:=ks.Nodup/\∀x,Y4 x∈ks->x.length<=16777216
structure Wd where
 K:QK
 CT:Nat->Addr
def Ow(C a:Addr)(h:Rc):Prop:=∃o vs,h.get? a=Z_ o/\(o.cls=.ref C/\o.dict=ZW)/\o.data=.fields vs
mutual
noncomputable def Rep(W:Wd)(G:Hp):D->V->Prop
 | .non,v=>v=.non
 | .bl b,v=>v=.bl b
 | .int i,v=>v=.int i
 | .str x,v=>v=.str (strV x)/\x.length<=16777216
 | .tup l,v=>∃a xs,v=.ref a/\SqT W.K G a xs/\Reps W G l xs
 | .lst l,v=>∃a xs,v=.ref a/\SqL W.K G a xs/\Reps W G l xs
 | .dct ks vs,v=>∃a kvs,v=.ref a/\IsK G a kvs/\kvs.map (·.1)=ks.map keyV/\KsOk ks/\Reps W G vs (kvs.map (·.2))
 | .obj c ns vs,v=>∃a dx fs,v=.ref a/\G a=Z_ (.ins (W.CT c) dx fs)/\fs.map (·.1)=ns.map strV/\Reps W G vs (fs.map (·.2))
 | .err c,v=>∃a,v=.ref a/\G a=Z_ (.ext (Ow (W.CT c) a))
noncomputable def Reps(W:Wd)(G:Hp):List D->List V->Prop
 | [],[]=>True
 | d::l,v::vs=>Rep W G d v/\Reps W G l vs
 | _,_=>False
end
def aU{K:QK}{H H':Hp}{a:Addr}{xs:List V}(e:Same H H')(h:SqT K H a xs):SqT K H' a xs:=by
 rcases h with(h | ⟨o,h⟩) | h
 .exact .inl (.inl (e _ _ h))
 .exact .inl (.inr ⟨o,e _ _ h⟩)
 .exact .inr h
mutual
theorem Rep.mono(e:Same G G'):∀{d:D}{v:V},Rep W G d v->Rep W G' d v
 | .non,v,h=>by simpa only[Rep]using h
 | .bl b,v,h=>by simpa only[Rep]using h
 | .int i,v,h=>by simpa only[Rep]using h
 | .str x,v,h=>by simpa only[Rep]using h
 | .tup l,v,h=>by
   simp only[Rep]at h ⊢;obtain⟨a,xs,rfl,h1,h2⟩:=h;exact⟨a,xs,rfl,aU e h1,Reps.mono e h2⟩
 | .lst l,v,h=>by
   simp only[Rep]at h ⊢;obtain⟨a,xs,rfl,h1,h2⟩:=h;exact⟨a,xs,rfl,e.seq h1,Reps.mono e h2⟩
 | .dct ks vs,v,h=>by
   simp only[Rep]at h ⊢;obtain⟨a,kvs,rfl,h1,h2,h3,h4⟩:=h;exact⟨a,kvs,rfl,h1.imp λ_ z=>e _ _ z,h2,h3,Reps.mono e h4⟩
 | .obj c ns vs,v,h=>by
   simp only[Rep]at h ⊢;obtain⟨a,dx,fs,rfl,h1,h2,h3⟩:=h;exact⟨a,dx,fs,rfl,e _ _ h1,h2,Reps.mono e h3⟩
 | .err _,v,h=>by
   simp only[Rep]at h ⊢;obtain⟨a,rfl,h1⟩:=h;exact⟨a,rfl,e _ _ h1⟩
theorem Reps.mono(e:Same G G'):∀{l:List D}{vs:List V},Reps W G l vs->Reps W G' l vs
 | [],[],_=>by simp only[Reps]
 | [],_::_,h=>by simp only[Reps]at h
 | _::_,[],h=>by simp only[Reps]at h
 | d::l,v::vs,h=>by
   simp only[Reps]at h ⊢;exact⟨Rep.mono e h.1,Reps.mono e h.2⟩
end
theorem Reps.length:∀{l:List D}{vs:List V},Reps W G l vs->l.length=vs.length
 | [],[],_=>rfl
 | [],_::_,h=>by simp only[Reps]at h
 | _::_,[],h=>by simp only[Reps]at h
 | d::l,v::vs,h=>by
   simp only[Reps]at h;simp[Reps.length h.2]
theorem Reps.get:∀{l:List D}{vs:List V}{i:Nat}{d:D},Reps W G l vs->l[i]?=Z_ d->∃v,vs[i]?=Z_ v/\Rep W G d v
 | [],_,_,_,_,e=>by simp at e
 | _::_,[],_,_,h,_=>by simp only[Reps]at h
 | d::l,v::vs,0,_,h,e=>by
   simp only[Reps]at h;simp at e;subst e;exact⟨v,rfl,h.1⟩
 | d::l,v::vs,i+1,x,h,e=>by
   simp only[Reps]at h;obtain⟨u,h1,h2⟩:=Reps.get (i:=i) (d:=x) h.2 (by simpa using e);exact⟨u,by simpa using h1,h2⟩
theorem Reps.append:∀{l l':List D}{vs vs':List V},Reps W G l vs->Reps W G l' vs'->Reps W G (l++l') (vs++vs')
 | [],_,[],_,_,h=>h
 | [],_,_::_,_,h,_=>by simp only[Reps]at h
 | _::_,_,[],_,h,_=>by simp only[Reps]at h
 | d::l,l',v::vs,vs',h,h'=>by
   simp only[Reps]at h;simp only[SN,Reps];exact⟨h.1,Reps.append h.2 h'⟩
theorem Reps.set(r:Rep W G d v):∀{l:List D}{vs:List V}(i:Nat),Reps W G l vs->Reps W G (l.set i d) (vs.set i v)
 | [],[],_,h=>h
 | [],_::_,_,h=>by simp only[Reps]at h
 | _::_,[],_,h=>by simp only[Reps]at h
 | _::l,_::vs,0,h=>by
   simp only[Reps]at h;simp only[List.set_cons_zero,Reps];exact⟨r,h.2⟩
 | x::l,y::vs,i+1,h=>by
   simp only[Reps]at h;simp only[List.set_cons_succ,Reps];exact⟨h.1,Reps.set r i h.2⟩
theorem Reps.take:∀{l:List D}{vs:List V}(n:Nat),Reps W G l vs->Reps W G (l.take n) (vs.take n)
 | _,_,0,_=>by simp[Reps]
 | [],[],_+1,h=>h
 | [],_::_,_+1,h=>by simp only[Reps]at h
 | _::_,[],_+1,h=>by simp only[Reps]at h
 | d::l,v::vs,n+1,h=>by
   simp only[Reps]at h;simp only[List.take_succ_cons,Reps];exact⟨h.1,Reps.take n h.2⟩
theorem Reps.drop:∀{l:List D}{vs:List V}(n:Nat),Reps W G l vs->Reps W G (l.drop n) (vs.drop n)
 | _,_,0,h=>by simpa using h
 | [],[],_+1,h=>h
 | [],_::_,_+1,h=>by simp only[Reps]at h
 | _::_,[],_+1,h=>by simp only[Reps]at h
 | d::l,v::vs,n+1,h=>by
   simp only[Reps]at h;simp only[List.drop_succ_cons];exact Reps.drop n h.2
def vis(H:Hp)(P:Addr->Prop):Hp:=λb=>open Classical in if P b then none else H b
def bK(h:vis H P b=Z_ o):H b=Z_ o/\¬P b:=by
 unfold vis at h;split at h
 .cases h
 .exact⟨h,by assumption⟩
def bQ(h:H b=Z_ o)(n:¬P b):vis H P b=Z_ o:=by
 unfold vis;rw[if_neg n];exact h
def au(e:Same H H'):Same (vis H P) (vis H' P):=λb o h=>
 let⟨h1,h2⟩:=bK h
 bQ (e b o h1) h2
def aJ(e:∀b,P' b->P b):Same (vis H P) (vis H P'):=λb o h=>
 let⟨h1,h2⟩:=bK h
 bQ h1 λz=>h2 (e b z)
def bw:Same (vis H P) H:=λb o h=>(bK h).1
def RepT(W:Wd)(H G:Hp):D->V->Prop
 | .lst l,v=>∃a xs,v=.ref a/\SqL W.K H a xs/\Reps W G l xs
 | .dct ks vs,v=>∃a kvs,v=.ref a/\IsK H a kvs/\kvs.map (·.1)=ks.map keyV/\KsOk ks/\Reps W G vs (kvs.map (·.2))
 | .obj c ns vs,v=>∃a dx fs,v=.ref a/\H a=Z_ (.ins (W.CT c) dx fs)/\fs.map (·.1)=ns.map strV/\Reps W G vs (fs.map (·.2))
 | d,v=>Rep W G d v
def OwnAt(W:Wd)(H G:Hp)(a:Addr):D->Prop
 | .lst l=>∃xs,H a=Z_ (.lst xs)/\Reps W G l xs
 | .dct ks vs=>∃kvs,IsK H a kvs/\kvs.map (·.1)=ks.map keyV/\KsOk ks/\Reps W G vs (kvs.map (·.2))
 | .obj c ns vs=>∃dx fs,H a=Z_ (.ins (W.CT c) dx fs)/\fs.map (·.1)=ns.map strV/\Reps W G vs (fs.map (·.2))
 | _=>False
theorem RepT.mono(h:RepT W H G d v)(e:Same H H')(g:Same G G'):RepT W H' G' d v:=by
 cases d with
 | lst l=>
   obtain⟨a,xs,rfl,h1,h2⟩:=h;exact⟨a,xs,rfl,e.seq h1,h2.mono g⟩
 | dct ks vs=>
   obtain⟨a,kvs,rfl,h1,h2,h3,h4⟩:=h;exact⟨a,kvs,rfl,h1.imp λ_ z=>e _ _ z,h2,h3,h4.mono g⟩
 | obj c ns vs=>
   obtain⟨a,dx,fs,rfl,h1,h2,h3⟩:=h;exact⟨a,dx,fs,rfl,e _ _ h1,h2,h3.mono g⟩
 | non=>exact Rep.mono g h
 | bl b=>exact Rep.mono g h
 | int i=>exact Rep.mono g h
 | str x=>exact Rep.mono g h
 | tup l=>exact Rep.mono g h
 | err c=>exact Rep.mono g h
def Rep.top(h:Rep W G d v)(e:Same G H):RepT W H G d v:=by
 cases d with
 | lst l=>
   simp only[Rep]at h;obtain⟨a,xs,rfl,h1,h2⟩:=h;exact⟨a,xs,rfl,e.seq h1,h2⟩
 | dct ks vs=>
   simp only[Rep]at h;obtain⟨a,kvs,rfl,h1,h2⟩:=h;exact⟨a,kvs,rfl,h1.imp λ_ z=>e _ _ z,h2⟩
 | obj c ns vs=>
   simp only[Rep]at h;obtain⟨a,dx,fs,rfl,h1,h2⟩:=h;exact⟨a,dx,fs,rfl,e _ _ h1,h2⟩
 | non=>exact h
 | bl b=>exact h
 | int i=>exact h
 | str x=>exact h
 | tup l=>exact h
 | err c=>exact h
theorem OwnAt.mono(h:OwnAt W H G a d)(e:∀o,H a=Z_ o->H' a=Z_ o)(g:Same G G'):OwnAt W H' G' a d:=by
 cases d with
 | lst l=>
   obtain⟨xs,h1,h2⟩:=h;exact⟨xs,e _ h1,h2.mono g⟩
 | dct ks vs=>
   obtain⟨kvs,h1,h2,h3,h4⟩:=h;exact⟨kvs,h1.imp λ_ z=>e _ z,h2,h3,h4.mono g⟩
 | obj c ns vs=>
   obtain⟨dx,fs,h1,h2,h3⟩:=h;exact⟨dx,fs,e _ h1,h2,h3.mono g⟩
 | non=>exact h
 | bl b=>exact h
 | int i=>exact h
 | str x=>exact h
 | tup l=>exact h
 | err c=>exact h
def OwnAt.top(h:OwnAt W H G a d):RepT W H G d (.ref a):=by
 cases d with
 | lst l=>
   obtain⟨xs,h1,h2⟩:=h;exact⟨a,xs,rfl,.inl (.inl h1),h2⟩
 | dct ks vs=>
   obtain⟨kvs,h1,h2⟩:=h;exact⟨a,kvs,rfl,h1,h2⟩
 | obj c ns vs=>
   obtain⟨dx,fs,h1,h2⟩:=h;exact⟨a,dx,fs,rfl,h1,h2⟩
 | non=>exact Rr h
 | bl b=>exact Rr h
 | int i=>exact Rr h
 | str x=>exact Rr h
 | tup l=>exact Rr h
 | err c=>exact Rr h
def OwnAt.rep(h:OwnAt W H G a d)(e:∀o,H a=Z_ o->G a=Z_ o):Rep W G d (.ref a):=by
 cases d with
 | lst l=>
   obtain⟨xs,h1,h2⟩:=h;simp only[Rep];exact⟨a,xs,rfl,.inl (.inl (e _ h1)),h2⟩
 | dct ks vs=>
   obtain⟨kvs,h1,h2⟩:=h;simp only[Rep];exact⟨a,kvs,rfl,h1.imp λ_ z=>e _ z,h2⟩
 | obj c ns vs=>
   obtain⟨dx,fs,h1,h2⟩:=h;simp only[Rep];exact⟨a,dx,fs,rfl,e _ h1,h2⟩
 | non=>exact Rr h
 | bl b=>exact Rr h
 | int i=>exact Rr h
 | str x=>exact Rr h
 | tup l=>exact Rr h
 | err c=>exact Rr h
theorem OwnAt.some(h:OwnAt W H G a d):∃o,H a=Z_ o/\(∀xs,o≠.tup xs)/\∀ob u,o≠.frz ob u:=by
 cases d with
 | lst l=>obtain⟨xs,h1,h2⟩:=h;exact⟨_,h1,(by intro _ z;cases z),(by intro _ _ z;cases z)⟩
 | dct ks vs=>obtain⟨kvs,⟨ep,h1⟩,h2⟩:=h;exact⟨_,h1,(by intro _ z;cases z),(by intro _ _ z;cases z)⟩
 | obj c ns vs=>obtain⟨dx,fs,h1,h2⟩:=h;exact⟨_,h1,(by intro _ z;cases z),(by intro _ _ z;cases z)⟩
 | non=>exact Rr h
 | bl b=>exact Rr h
 | int i=>exact Rr h
 | str x=>exact Rr h
 | tup l=>exact Rr h
 | err c=>exact Rr h
def fP(σ:L2.St)(δ:Dst)(i:Nat)(a:Addr):Prop:=(∃w d,δ[i]?=Z_ (Z_ (w,d))/\w≠Own.sh)/\σ[i]?=Z_ (Z_ (.ref a))
def Hid(B:Addr->Prop)(σ:L2.St)(δ:Dst)(a:Addr):Prop:=B a\/∃i,fP σ δ i a
def Soft(H:Hp)(P:Addr->Prop):Prop:=∀a,P a->∀o,H a=Z_ o->(∀xs,o≠.tup xs)/\∀ob u,o≠.frz ob u
structure SR(X:Cx)(W:Wd)(me:Option Addr)(B:Addr->Prop)(H:Hp)(σ:L2.St)(δ:Dst):Prop where
 kf:W.K=X.K
 len:σ.length=δ.length
 sh:∀(i:Nat)(d:D),δ[i]?=Z_ (Z_ (Own.sh,d))->∃v,σ[i]?=Z_ (Z_ v)/\Rep W (vis H (Hid B σ δ)) d v
 ow:∀(i:Nat)(d:D),δ[i]?=Z_ (Z_ (Own.ow,d))->∃a,σ[i]?=Z_ (Z_ (V.ref a))/\OwnAt W H (vis H (Hid B σ δ)) a d/\X.H₀ a=ZW/\¬B a/\some a≠me
 mi:∀(i:Nat)(d:D),δ[i]?=Z_ (Z_ (Own.me,d))->i=0/\∃a,me=Z_ a/\σ[i]?=Z_ (Z_ (V.ref a))/\OwnAt W H (vis H (Hid B σ δ)) a d/\¬B a
 apart:∀(i j:Nat)(a:Addr),fP σ δ i a->fP σ δ j a->i=j
 same:∀b o,X.H₀ b=Z_ o->some b≠me->H b=Z_ o
 soft:Soft H B
 gone:∀b,B b->∃o,H b=Z_ o
 live:∀x,me=Z_ x->∃o,H x=Z_ o
theorem SR.mono(S:SR X W me B H σ δ)(e:Same H H'):SR X W me B H' σ δ where
 kf:=S.kf
 len:=S.len
 sh:=λi d h=>let⟨v,h1,h2⟩:=S.sh i d h;⟨v,h1,h2.mono (au e)⟩
 ow:=λi d h=>let⟨a,h1,h2,h3⟩:=S.ow i d h;⟨a,h1,h2.mono (λo q=>e a o q) (au e),h3⟩
 mi:=λi d h=>let⟨h0,a,h1,h2,h3,h4⟩:=S.mi i d h;⟨h0,a,h1,h2,h3.mono (λo q=>e a o q) (au e),h4⟩
 apart:=S.apart
 same:=λb o h h'=>e b o (S.same b o h h')
 soft:=λa ha o ho=>by
  obtain⟨o',ho'⟩:=S.gone a ha;have:=e a o' ho';rw[ho]at this;cases this;exact S.soft a ha _ ho'
 gone:=λb hb=>let⟨o,h⟩:=S.gone b hb;⟨o,e b o h⟩
 live:=λx hx=>let⟨o,h⟩:=S.live x hx;⟨o,e x o h⟩
def SR.softH(S:SR X W me B H σ δ):Soft H (Hid B σ δ):=λa ha o ho=>by
 rcases ha with ha | ⟨i,⟨w,d,h1,h2⟩,h3⟩
 .exact S.soft a ha o ho
 .cases w with
  | sh=>exact absurd rfl h2
  | ow=>
    obtain⟨b,q1,q2,_⟩:=S.ow i d h1;rw[h3]at q1;cases q1;obtain⟨o',q3,q4⟩:=q2.some;rw[ho]at q3;cases q3;exact q4
  | me=>
    obtain⟨_,b,_,q1,q2,_⟩:=S.mi i d h1;rw[h3]at q1;cases q1;obtain⟨o',q3,q4⟩:=q2.some;rw[ho]at q3;cases q3;exact q4
def SR.hidH(S:SR X W me B H σ δ)(ha:Hid B σ δ a):∃o,H a=Z_ o:=by
 rcases ha with ha | ⟨i,⟨w,d,h1,h2⟩,h3⟩
 .exact S.gone a ha
 .cases w with
  | sh=>exact absurd rfl h2
  | ow=>
    obtain⟨b,q1,q2,_⟩:=S.ow i d h1;rw[h3]at q1;cases q1;obtain⟨o',q3,q4⟩:=q2.some;exact⟨_,q3⟩
  | me=>
    obtain⟨_,b,_,q1,q2,_⟩:=S.mi i d h1;rw[h3]at q1;cases q1;obtain⟨o',q3,q4⟩:=q2.some;exact⟨_,q3⟩
mutual
theorem Rep.imm(S:Soft H P):∀{d:D}{v:V},d.imm=ZX->Rep W H d v->Rep W (vis H P) d v
 | .non,v,_,h=>by simpa only[Rep]using h
 | .bl b,v,_,h=>by simpa only[Rep]using h
 | .int i,v,_,h=>by simpa only[Rep]using h
 | .str x,v,_,h=>by simpa only[Rep]using h
 | .tup l,v,q,h=>by
   simp only[D.imm]at q;simp only[Rep]at h ⊢;obtain⟨a,xs,rfl,h1,h2⟩:=h;refine⟨a,xs,rfl,?_,Reps.imm S q h2⟩;rcases h1 with(h1 | ⟨o,h1⟩) | h1
   .exact .inl (.inl (bQ h1 λz=>(S a z _ h1).1 _ rfl))
   .exact .inl (.inr ⟨o,bQ h1 λz=>(S a z _ h1).2 _ _ rfl⟩)
   .exact .inr h1
 | .lst l,v,q,h=>by simp[D.imm]at q
 | .dct ks vs,v,q,h=>by simp[D.imm]at q
 | .obj c ns vs,v,q,h=>by simp[D.imm]at q
 | .err _,v,q,h=>by simp[D.imm]at q
theorem Reps.imm(S:Soft H P):∀{l:List D}{vs:List V},immL l=ZX->Reps W H l vs->Reps W (vis H P) l vs
 | [],[],_,_=>by simp only[Reps]
 | [],_::_,_,h=>by simp only[Reps]at h
 | _::_,[],_,h=>by simp only[Reps]at h
 | d::l,v::vs,q,h=>by
   simp only[immL,QR]at q;simp only[Reps]at h ⊢;exact⟨Rep.imm S q.1 h.1,Reps.imm S q.2 h.2⟩
end
def Res(W:Wd)(P:Addr->Prop)(lk:Bool)(H H':Hp)(w:Bool)(d:D)(v:V):Prop :=
 if w=ZX then ∃a,v=.ref a/\H a=ZW/\OwnAt W H' (vis H' λb=>P b\/b=a) a d
 else if lk=ZX then RepT W H' (vis H' P) d v else Rep W (vis H' P) d v
def EW(X:Cx)(W:Wd)(σ:L2.St)(H:Hp)(c:Nat):Prop:=False
noncomputable def tD(X:Cx)(W:Wd)(lk:Bool)(f:Dst->R (Bool×D)):TE:=fun σ H Q=>∃me B δ,SR X W me B H σ δ/\match f δ with
 | .ok r=>∀v H',Same H H'->Res W (Hid B σ δ) lk H H' r.1 r.2 v->Q v H'
 | .exc c=>EW X W σ H c
 | .stuck=>False
def PE.imp{X:Cx}{e:Expr}{t t':TE}(h:PE X e t)(i:∀σ H Q,t' σ H Q->t σ H Q):PE X e t':=λpins s σ H Q I hw=>h pins s σ H Q I (i σ H Q hw)
def PT.imp{X:Cx}{e:Expr}{t t':TT}(h:PT X e t)(i:∀σ H Q,t' σ H Q->t σ H Q):PT X e t':=λpins s σ H Q I hw=>h pins s σ H Q I (i σ H Q hw)
def PA.imp{X:Cx}{es:List Expr}{t t':TA}(h:PA X es t)(i:∀σ H Q,t' σ H Q->t σ H Q):PA X es t':=λpos pins s σ H Q I hw=>h pos pins s σ H Q I (i σ H Q hw)
def PS.imp{X:Cx}{e:Stmt}{t t':TS}(h:PS X e t)(i:∀D σ H,t' D σ H->t D σ H):PS X e t':=λpins s σ H D I hw=>h pins s σ H D I (i D σ H hw)
def EW.mono(h:EW X W σ H c)(e:Same H H'):EW X W σ H' c:=h.elim
theorem Same.upd(h:H p=ZW):Same H (upd H p o):=λb u e=>by rw[aX (bJ e h)];exact e
def Res.look(h:Res W P lk H H' w d v):RepT W H' (vis H' P) d v:=by
 unfold Res at h;split at h
 .obtain⟨a,rfl,_,h⟩:=h
  exact(h.mono (λ_ q=>q) (aJ λb z=>.inl z)).top
 .split at h
  .exact h
  .exact h.top bw
def Res.keep(h:Res W P ZZ H H' w d v)(hp:∀a,P a->∃o,H a=Z_ o):Rep W (vis H' P) d v:=by
 unfold Res at h;split at h
 .obtain⟨a,rfl,h0,h⟩:=h
  have na:¬P a:=λz=>by
   obtain⟨o,q⟩:=hp a z;rw[h0]at q;cases q
  exact(h.mono (λ_ q=>q) (aJ λb z=>.inl z)).rep λo q=>bQ q na
 .exact h
def Res.shared(h:Rep W (vis H' P) d v):Res W P lk H H' ZZ d v:=by
 unfold Res;rw[if_neg (by simp)];split
 .exact h.top bw
 .exact h
section
variable{X:Cx}{W:Wd}{lk lk':Bool}{σ:L2.St}{H H1 H':Hp}{me:Option Addr}{B:Addr->Prop}{δ:Dst}{Q Q':VK}
def After(X:Cx)(W:Wd)(lk:Bool)(σ:L2.St)(H:Hp)(P:Addr->Prop)(r:R (Bool×D))(Q:VK):Prop:=match r with
 | .ok r=>∀v H',Same H H'->Res W P lk H H' r.1 r.2 v->Q v H'
 | .exc c=>EW X W σ H c
 | .stuck=>False
def tD_iff:tD X W lk f σ H Q↔∃me B δ,SR X W me B H σ δ/\After X W lk σ H (Hid B σ δ) (f δ) Q:=by
 unfold tD After;exact Iff.rfl
def Res.from(h:Res W P lk H1 H' w d v)(e:Same H H1):Res W P lk H H' w d v:=by
 unfold Res at h ⊢;split at h
 .rename_i hw
  rw[if_pos hw];obtain⟨a,h1,h2,h3⟩:=h;exact⟨a,h1,e.free h2,h3⟩
 .rename_i hw
  rw[if_neg hw];exact h
theorem After.mono(h:After X W lk σ H P r Q)(e:Same H H1):After X W lk σ H1 P r Q:=by
 unfold After at h ⊢
 cases r with
 | ok r=>exact λv H' s q=>h v H' (e.trans s) (q.from e)
 | exc c=>exact h.mono e
 | stuck=>exact h
def tD.mono(h:tD X W lk f σ H Q)(k:∀v H',Q v H'->Q' v H'):tD X W lk f σ H Q':=by
 obtain⟨me,B,δ,S,h⟩:=tD_iff.mp h;refine tD_iff.mpr ⟨me,B,δ,S,?_⟩;unfold After at h ⊢
 cases e:f δ with
 | ok r=>rw[e]at h;exact λv H' s q=>k _ _ (h v H' s q)
 | exc c=>rw[e]at h;exact h
 | stuck=>rw[e]at h;exact h
def part(S:SR X W me B H σ δ)(h:After X W lk σ H (Hid B σ δ) ((fa δ).bind g) Q) :
 tD X W lk' fa σ H λv H1=>∃r,fa δ=.ok r/\SR X W me B H1 σ δ/\Same H H1/\RepT W H1 (vis H1 (Hid B σ δ)) r.2 v/\Res W (Hid B σ δ) lk' H H1 r.1 r.2 v/\After X W lk σ H1 (Hid B σ δ) (g r) Q:=by
 refine tD_iff.mpr ⟨me,B,δ,S,?_⟩
 cases e:fa δ with
 | ok r=>
   rw[e]at h;intro v H1 s q;exact⟨r,rfl,S.mono s,s,q.look,q,After.mono h s⟩
 | exc c=>rw[e]at h;exact h
 | stuck=>rw[e]at h;exact h
def Soft.mono(s:Soft H P)(g:∀a,P a->∃o,H a=Z_ o)(e:Same H H1):Soft H1 P:=λa ha o ho=>by
 obtain⟨o',h'⟩:=g a ha;have:=e a o' h';rw[ho]at this;cases this;exact s a ha _ h'
def SR.know(S:SR X W me B H σ δ):∀a,Hid B σ δ a->∃o,H a=Z_ o:=λ_ h=>S.hidH h
def Sem2(W:Wd)(r:R2)(g:D->D->R (Bool×D)):Prop :=
 ∀(lk:Bool)(P:Addr->Prop)(H:Hp)(x y:V)(dx dy:D)(Q:VK)(w:Bool)(d:D),Soft H P->(∀a,P a->∃o,H a=Z_ o)->RepT W H (vis H P) dx x->RepT W H (vis H P) dy y->g dx dy=.ok (w,d) ->
  (∀v H',Same H H'->Res W P lk H H' w d v->Q v H')->r x y H Q
def gJ(g:D->D->R (Bool×D)):Prop:=∀x y c,g x y≠.exc c
def oW(hs:Sem2 W r g)(hn:gJ g)
 (h:tD X W lk (fun δ=>(fa δ).bind λx=>(fb δ).bind λy=>g x.2 y.2) σ H Q):tOp r (tD X W ZX fa) (tD X W ZX fb) σ H Q:=by
 obtain⟨me,B,δ,S,h⟩:=tD_iff.mp h
 refine tD.mono (part S h) λv H1 ⟨r1,e1,S1,s1,t1,_,h1⟩=>?_
 refine tD.mono (part (g:=λy=>g r1.2 y.2) S1 h1) λu H2 ⟨r2,e2,S2,s2,t2,_,h2⟩=>?_
 cases e:g r1.2 r2.2 with
 | ok r=>
   rw[e]at h2;exact hs lk (Hid B σ δ) H2 v u r1.2 r2.2 Q r.1 r.2 S2.softH S2.know (t1.mono s2 (au s2)) t2 e h2
 | exc c=>exact absurd e (hn _ _ _)
 | stuck=>rw[e]at h2;exact h2.elim
variable{a b:Expr}{pos:Pos}{fa fb:Dst->R (Bool×D)}
def Oq(ho:OpR X (Ud op) r)(hs:Sem2 W r g)(hn:gJ g)(ha:PE X a (tD X W ZX fa))(hb:PE X b (tD X W ZX fb)) :
 PE X (.BinOp a op b pos) (tD X W lk fun δ=>(fa δ).bind λx=>(fb δ).bind λy=>g x.2 y.2) :=
 PE.imp (O8 ho ha hb) λ_ _ _ h=>oW hs hn h
def Pa(ho:OpR X (Tq op) r)(hs:Sem2 W r g)(hn:gJ g)(ha:PE X a (tD X W ZX fa))(hb:PE X b (tD X W ZX fb))(hm:Tu op b=ZZ) :
 PE X (.Compare a [op] [b] pos) (tD X W lk fun δ=>(fa δ).bind λx=>(fb δ).bind λy=>g x.2 y.2) :=
 PE.imp (jz ho ha hb hm) λ_ _ _ h=>oW hs hn h
def Ob(hN:X.N[i]?=Z_ x)(hv:Vis X.env.scope x)(hd:(x==("__debug__":Str))=ZZ)(hcd:(x==("__classdict__":Str))=ZZ)(o:Orc):PE X (.Name x pos) (tD X W lk fun δ=>ev o δ lk (.var i)):=by
 refine PE.imp (iw hN hv hd hcd) fun σ H Q h=>?_
 obtain⟨me,B,δ,S,h⟩:=tD_iff.mp h;unfold After at h;simp only[ev]at h
 cases e:δ[i]? with
 | none=>simp only[e]at h
 | some q=>
   cases q with
   | none=>simp only[e]at h
   | some q=>
     obtain⟨w,d⟩:=q
     cases w with
     | sh=>
       simp only[e]at h;obtain⟨v,h1,h2⟩:=S.sh i d e;exact⟨v,h1,h v H (Same.refl H) (.shared h2)⟩
     | ow=>
       simp only[e]at h;obtain⟨a,h1,h2,_⟩:=S.ow i d e;refine⟨_,h1,?_⟩
       cases lk with
       | false=>exact h.elim
       | true=>exact h _ H (Same.refl H) h2.top
     | me=>
       simp only[e]at h;obtain⟨_,a,_,h1,h2,_⟩:=S.mi i d e;refine⟨_,h1,?_⟩
       cases lk with
       | false=>exact h.elim
       | true=>exact h _ H (Same.refl H) h2.top
def uz(he:PE X e (tC v))(hr:∀G,Rep W G d v)(o:Orc):PE X e (tD X W lk fun δ=>ev o δ lk (.cst d)):=by
 refine PE.imp he fun σ H Q h=>?_
 obtain⟨me,B,δ,S,h⟩:=tD_iff.mp h;unfold After at h;simp only[ev]at h;exact h v H (Same.refl H) (.shared (hr _))
def aV(h:RepT W P G (.int i) x):x=.int i:=by simpa only[RepT,Rep]using h
def dF:Res W P lk H H' ZZ (.int i) (.int i):=.shared (by simp only[Rep])
def dq:Res W P lk H H' ZZ (.bl i) (.bl i):=.shared (by simp only[Rep])
def pP(h:i.length<=16777216):Res W P lk H H' ZZ (.str i) (.str (strV i)):=.shared (by simp only[Rep];exact⟨trivial,h⟩)
def bz(h:RepT W P G (.str i) x):x=.str (strV i)/\i.length<=16777216:=by simpa only[RepT,Rep]using h
def Hq(i:Int):bits i=Sh.Int.intBits i:=by
 unfold bits Sh.Int.intBits
 by_cases h:i=0
 all_goals(simp[h])
def Af{a b:Int}(h:dR a b=ZX):Xh a b:=by
 unfold dR at h;simp only[V1,decide_eq_true_eq,Hq]at h;rcases h with(h | h) | h
 .exact .of_left h
 .exact .of_right h
 .unfold Xh Sh.Int.intTooBig
  intro z;simp only[QR,decide_eq_true_eq]at z;have:bitsLine=134217728:=rfl;omega
def ie{α:Type}{b:Bool}{x:R α}{y:α}(h:Xz b x=.ok y):b=ZX/\x=.ok y:=by
 unfold Xz at h
 cases b with
 | true=>exact⟨rfl,by simpa using h⟩
 | false=>simp at h
def of_ok(h:Xu x=.ok y):x=Z_ y:=by
 cases x with
 | none=>simp[Xu]at h
 | some z=>simp[Xu]at h;rw[h]
def fB:Xu x≠.exc c:=by cases x<;>simp[Xu]
def j7{α:Type}{b:Bool}{x:R α}{c:Nat}(h:x≠.exc c):Xz b x≠.exc c:=by unfold Xz;cases b<;>simp[h]
def pM(p:O2)(a b:Int)(c:Nat):arith p a b≠.exc c:=by
 cases p<;>simp[arith,Xz]<;>split<;>simp
def m5(p:O2):gJ (o2 p):=by
 intro x y c
 cases p<;>simp only[o2]<;>first
  | exact fB
  | (split
     .exact pM _ _ _ _
     .first | exact j7 (by simp) | simp
     .first | exact j7 (by simp) | simp
     .first | exact j7 (by simp) | simp
     .simp)
  | (split
     .split<;>simp
     .split<;>simp
     .simp)
def m7(h1:∀x y r,o2 p x y=.ok r->∃i j,x=.int i/\y=.int j/\arith p i j=.ok r)
 (h2:∀i j r,arith p i j=.ok r->C i j/\r.1=ZZ/\∀G,Rep W G r.2 (g i j)):Sem2 W (rI C g) (o2 p):=by
 intro lk P H x y dx dy Q w d hS hK hx hy e k;obtain⟨i,j,rfl,rfl,e'⟩:=h1 _ _ _ e;obtain⟨hc,hw,hr⟩:=h2 _ _ _ e';have hw:w=ZZ:=hw;subst hw;exact⟨i,j,aV hx,aV hy,hc,k _ H (Same.refl H) (.shared (hr _))⟩
def rG(h1:∀x y r,o2 p x y=.ok r->∃i j,x=.int i/\y=.int j/\arith p i j=.ok r)
 (h2:∀i j r,arith p i j=.ok r->r.1=ZZ/\∀G,Rep W G r.2 (g i j)):Sem2 W (rI0 g) (o2 p):=by
 intro lk P H x y dx dy Q w d hS hK hx hy e k;obtain⟨i,j,rfl,rfl,e'⟩:=h1 _ _ _ e;obtain⟨hw,hr⟩:=h2 _ _ _ e';have hw:w=ZZ:=hw;subst hw;exact⟨i,j,aV hx,aV hy,k _ H (Same.refl H) (.shared (hr _))⟩
def eQ(hp:p=.sub\/p=.mul\/p=.fdiv\/p=.mod\/p=.pow\/p=.gt\/p=.ge):∀x y r,o2 p x y=.ok r->∃i j,x=.int i/\y=.int j/\arith p i j=.ok r:=by
 intro x y r h
 rcases hp with rfl | rfl | rfl | rfl | rfl | rfl | rfl<;>simp only[o2]at h<;>
  (split at h<;>first
   | exact⟨_,_,rfl,rfl,h⟩
   | cases h)
def Hc:Sem2 W (rI0 λi j=>.int (i-j)) (o2 .sub):=rG (eQ (by simp)) λi j r h=>by
 simp only[arith]at h;cases h;exact⟨rfl,λG=>by simp only[Rep]⟩
def Gx:Sem2 W (rI Xh λi j=>.int (i*j)) (o2 .mul):=m7 (eQ (by simp)) λi j r h=>by
 simp only[arith]at h;obtain⟨h1,h⟩:=ie h;cases h;exact⟨Af h1,rfl,λG=>by simp only[Rep]⟩
def Jy:OpR X (Ud .Mult) (rI Xh λi j=>.int (i*j)):=opI λ_ _ _ _ _ _ _ hc q=>PyProof.Rows.mul_int q hc
def Ls(_ j:Int):Prop:=j≠0/\j.natAbs.log2<9000
def Az:Sem2 W (rI Ls λi j=>.int (i.fdiv j)) (o2 .fdiv):=m7 (eQ (by simp)) λi j r h=>by
 simp only[arith]at h;obtain⟨h1,h⟩:=ie h;cases h;simp only[QR,decide_eq_true_eq]at h1;exact⟨h1,rfl,λG=>by simp only[Rep]⟩
def Ce:OpR X (Ud .FloorDiv) (rI Ls λi j=>.int (i.fdiv j)):=opI λ_ _ _ _ _ _ _ hc q=>floordiv_int hc.1 q (.inl (PyProof.noPylong_of_log2 hc.2))
def Fj:Sem2 W (rI (λ_ j=>j≠0) λi j=>.int (i.fmod j)) (o2 .mod):=m7 (eQ (by simp)) λi j r h=>by
 simp only[arith]at h;obtain⟨h1,h⟩:=ie h;cases h;simp only[decide_eq_true_eq]at h1;exact⟨h1,rfl,λG=>by simp only[Rep]⟩
def Jg:Sem2 W (rI CPow λi j=>.int (i ^ j.toNat)) (o2 .pow):=m7 (eQ (by simp)) λi j r h=>by
 simp only[arith]at h;obtain⟨h1,h⟩:=ie h;cases h;simp only[QR,decide_eq_true_eq]at h1;refine⟨⟨h1.1.1,by omega,by have:=h1.2;omega⟩,rfl,λG=>by simp only[Rep]⟩
def KH:Sem2 W (rI0 λi j=>.bl (decide (j<i))) (o2 .gt):=rG (eQ (by simp)) λi j r h=>by
 simp only[arith]at h;cases h;exact⟨rfl,λG=>by simp only[Rep]⟩
def Av(b:Bool):truth (.bl b)=Z_ b:=rfl
noncomputable def tT(X:Cx)(W:Wd)(f:Dst->R (Bool×D)):TT:=fun σ H Q=>∃me B δ,SR X W me B H σ δ/\match(f δ).bind (λx=>Xu (truth x.2))with
 | .ok b=>∀H',Same H H'->Q b H'
 | .exc c=>EW X W σ H c
 | .stuck=>False
def truV{H G:Hp}{d:D}{v:V}{b:Bool}(g:Same G H)(e:truth d=Z_ b)(h:RepT W H G d v):TruV W.K v H b:=by
 cases d with
 | non=>simp only[RepT,Rep]at h;subst h;simp only[truth,QX]at e;exact e.symm
 | bl x=>simp only[RepT,Rep]at h;subst h;simp only[truth,QX]at e;exact e.symm
 | int i=>
   simp only[RepT,Rep]at h;subst h;simp only[truth,QX]at e;show b=(i !=0);rw[<-e];by_cases hi:i=0<;>simp[hi]
 | str x=>
   obtain⟨rfl,hl⟩:=bz h;simp only[truth,QX]at e;refine⟨by simpa[strV,Str.length,Th]using hl,?_⟩;rw[<-e];cases x<;>simp[strV,Str.length]<;>omega
 | tup l=>
   simp only[RepT,Rep]at h;obtain⟨a,xs,rfl,h1,h2⟩:=h;simp only[truth,QX]at e;refine .inr (.inl ⟨xs,aU g h1,?_⟩);have:=h2.length;rw[<-e];cases l<;>cases xs<;>simp at this ⊢
 | lst l=>
   obtain⟨a,xs,rfl,h1,h2⟩:=h;simp only[truth,QX]at e;refine .inl ⟨xs,h1,?_⟩;have:=h2.length;rw[<-e];cases l<;>cases xs<;>simp at this ⊢
 | dct ks vs=>
   obtain⟨a,kvs,rfl,⟨ep,h1⟩,h2,h3,h4⟩:=h;simp only[truth,QX]at e;refine .inr (.inr ⟨kvs,ep,h1,?_⟩);have:=congrArg Sx h2;rw[<-e];cases ks<;>cases kvs<;>simp at this ⊢
 | obj c ns vs=>simp[truth]at e
 | err c=>simp[truth]at e
def O4(h:PE X e (tD X W ZX f))(he:∀whole,isTrue e X.env whole=(do let v <-whole;Vk e.pos;TX [v] (truthy v))):PT X e (tT X W f):=by
 refine PT.imp (Ai h he) fun σ H Q h=>?_
 obtain⟨me,B,δ,S,h⟩:=h;refine tD_iff.mpr ⟨me,B,δ,S,?_⟩;unfold After
 cases e:f δ with
 | ok r=>
   simp only[e,Xr]at h
   cases e2:truth r.2 with
   | none=>simp only[e2,Xu]at h
   | some b=>
     simp only[e2,Xu]at h;intro v H' s q;exact⟨b,S.kf▸truV bw e2 q.look,h H' s⟩
 | exc c=>simp only[e,Xr]at h;exact h
 | stuck=>simp only[e,Xr]at h
def Fy{f:Dst->R (Bool×D)}{σ:L2.St}{H:Hp}{Q:Bool->Hp->Prop}(hb:∀δ r,f δ=.ok r->∃b,r=(ZZ,.bl b))(h:tT X W f σ H Q):tD X W ZX f σ H λx H'=>∃k,x=.bl k/\Q k H':=by
 obtain⟨me,B,δ,S,h⟩:=h;refine tD_iff.mpr ⟨me,B,δ,S,?_⟩;unfold After
 cases e:f δ with
 | ok r=>
   obtain⟨b,rfl⟩:=hb δ r e;simp only[e,Xr,truth,Xu]at h;intro v H' s q;have:=q.look;simp only[RepT,Rep]at this;exact⟨b,this,h H' s⟩
 | exc c=>simp only[e,Xr]at h;exact h
 | stuck=>simp only[e,Xr]at h
def gR{x:R (Bool×D)}{g:Bool×D->R (Bool×D)}{r:Bool×D}(h:x.bind g=.ok r):∃y,x=.ok y/\g y=.ok r:=by
 cases x with
 | ok y=>exact⟨y,rfl,h⟩
 | exc c=>cases h
 | stuck=>cases h
def K5(ho:OpR X (Tq op) r)(hs:Sem2 W r g)(hn:gJ g)(hbl:∀x y r,g x y=.ok r->∃b,r=(ZZ,.bl b))(ha:PE X a (tD X W ZX fa))(hb:PE X b (tD X W ZX fb))(hm:Tu op b=ZZ) :
 PT X (.Compare a [op] [b] pos) (tT X W fun δ=>(fa δ).bind λx=>(fb δ).bind λy=>g x.2 y.2):=by
 refine PT.imp (jg ho ha hb hm) fun σ H Q h=>?_
 refine oW (lk:=ZX) hs hn (Fy (fun δ r e=>?_) h);obtain⟨y,_,e⟩:=gR e;obtain⟨z,_,e⟩:=gR e;exact hbl _ _ _ e
def tT.mono{f:Dst->R (Bool×D)}{σ:L2.St}{H:Hp}{Q Q':Bool->Hp->Prop}(h:tT X W f σ H Q)(k:∀b H',Q b H'->Q' b H'):tT X W f σ H Q':=by
 obtain⟨me,B,δ,S,h⟩:=h;refine⟨me,B,δ,S,?_⟩
 cases e:(f δ).bind (λx=>Xu (truth x.2))with
 | ok b=>rw[e]at h;exact λH' s=>k _ _ (h H' s)
 | exc c=>rw[e]at h;exact h
 | stuck=>rw[e]at h;exact h
def K7(ha:PT X a (tT X W fa)):PT X (.UnaryOp .Not a pos) (tT X W fun δ=>(fa δ).bind λx=>(Xu (truth x.2)).bind λb=>.ok (ZZ,.bl !b)):=by
 refine PT.imp (Kd ha) fun σ H Q h=>?_
 obtain⟨me,B,δ,S,h⟩:=h;refine⟨me,B,δ,S,?_⟩
 cases e:fa δ with
 | ok r=>
   simp only[e,Xr]at h ⊢
   cases e2:truth r.2 with
   | none=>simp only[e2,Xu]at h
   | some b=>
     simp only[e2,Xu,Av]at h ⊢;exact h
 | exc c=>simp only[e,Xr]at h ⊢;exact h
 | stuck=>simp only[e,Xr]at h
def Qu(ha:PE X a (tD X W ZX f)):PE X (.UnaryOp .Not a pos) (tD X W lk fun δ=>(f δ).bind λx=>(Xu (truth x.2)).bind λb=>.ok (ZZ,.bl !b)):=by
 intro pins s σ H Q I h;obtain⟨me,B,δ,S,h⟩:=tD_iff.mp h;refine UnaryOp_ (thn (ha pins s σ H _ I (part S h)) λv s1 ⟨x,H1,I1,r1,r,e,S1,s1',t1,_,h1⟩=>?_)
 cases e2:truth r.2 with
 | none=>simp only[e2,Xu,Xr,After]at h1
 | some b=>
   simp only[e2,Xu,Xr,After]at h1;refine not_of (thn (Ds pins s1 σ H1 x v (λk H'=>k=b/\H'=H1) I1 r1 ⟨b,S.kf▸truV bw e2 t1,rfl,rfl⟩) λk s2 ⟨H2,I2,hk,hH⟩=>?_);subst hk hH;exact⟨.bl (!k),H2,I2,rfl,h1 _ H2 (Same.refl _) dq⟩
end
def jM(o:Obj)(f:Array Value->Array Value):(o.mapFields f).dict=o.dict:=by
 cases o with
 | mk c d dt sl=>cases dt<;>rfl
def zL:∀{o:HO},ObjOk P w H h a o->∃ob,h.get? a=Z_ ob
 | .lst _,x=>let⟨_,_,_,_,e⟩:=x;⟨_,e⟩
 | .tup _,x=>let⟨_,_,_,ob,e,_⟩:=x;⟨ob,e⟩
 | .dK _ _,x=>let⟨_,_,_,_,ob,_,e,_⟩:=x;⟨ob,e⟩
 | .dT _,x=>let⟨_,_,_,_,ob,_,_,e,_⟩:=x;⟨ob,e⟩
 | .set _ _,x=>let⟨ob,_,_,_,e,_⟩:=x;⟨ob,e⟩
 | .ins _ _ _,x=>let⟨_,_,_,e,_⟩:=x;⟨_,e⟩
 | .own _,x=>x
 | .xd _,x=>let⟨_,⟨ob,_,_,e,_⟩,_⟩:=x;⟨ob,e⟩
 | .rng _ _,x=>let⟨_,_,_,e⟩:=x;⟨_,e⟩
 | .frz _ _,x=>⟨_,x.1⟩
 | .tbl _,x=>⟨_,x⟩
 | .met _ _,x=>⟨_,x⟩
 | .ext _,x=>x.2.1
def ExcAt(h h0:Rc)(H':Hp)(a:Addr)(cls:Value)(tr:Bool):Prop:=∃oe vs,h.get? a=Z_ oe/\(oe.cls=cls/\oe.dict=ZW)/\oe.data=.fields vs/\1<vs.size /\
 ((tr=ZZ/\vs[1]?=Z_ .none)\/∃T oT ts,vs[1]?=Z_ (.ref T)/\T≠a/\h0.get? T=ZW/\H' T=ZW/\h.get? T=Z_ oT/\oT.data=.fields ts/\3<ts.size)
structure Fly(X:Cx)(H:Hp)(s:Shared)(cls:Value)(a:Addr)(H':Hp)(s':Shared)(tr:Bool):Prop where
 os:s'.os=s.os
 bare:Vq s'.gens
 un:Un (frs X.stack) [] H H' s.heap s'.heap
 hok:HOk X.prog X.w H' s'.heap
 newE:s.heap.get? a=ZW
 freeE:H' a=ZW
 ff:s'.heap.FunFrames X.base X.stack
 fr:∀b∈frs X.stack,H' b=ZW
 exc:ExcAt s'.heap s.heap H' a cls tr
section
variable{X:Cx}{H H':Hp}{s s':Shared}{cls:Value}{a:Addr}{tr tr':Bool}{h':Rc}
def Fly.step(F:Fly X H s cls a H' s' tr)(T:Addr->Prop)(hT:∀b,T b->s.heap.get? b=ZW/\H' b=ZW)
 (keep:∀b o,b≠a->¬T b->b∉frs X.stack->s'.heap.get? b=Z_ o->h'.get? b=Z_ o)(slot:∀b o,b∈frs X.stack->s'.heap.get? b=Z_ o->∃sl,h'.get? b=Z_ { o with slots:=sl })
 (ex:ExcAt h' s.heap H' a cls tr'):Fly X H s cls a H' { s' with heap:=h' } tr':=by
 have old:∀b o,s.heap.get? b=Z_ o->b≠a/\¬T b:=λb o e=>⟨λz=>(by rw[z,F.newE]at e;cases e),λz=>(by rw[(hT b z).1]at e;cases e)⟩
 have all:∀b o,s.heap.get? b=Z_ o->∀o',s'.heap.get? b=Z_ o'->∃o'',h'.get? b=Z_ o'':=λb o e o' e'=>by
  by_cases hb:b∈frs X.stack
  .obtain⟨sl,q⟩:=slot b o' hb e';exact⟨_,q⟩
  .exact⟨_,keep b o' (old b o e).1 (old b o e).2 hb e'⟩
 refine⟨F.os,F.bare,⟨λb o e n hb hx=>?_,λb o e n hb hx=>?_,F.un.free,λb o e hx=>?_,F.un.tups,F.un.frzs,F.un.tbls⟩,λb o e=>?_,F.newE,F.freeE,?_,F.fr,ex⟩
 .exact keep b o (old b o e).1 (old b o e).2 hb (F.un.keep b o e n hb hx)
 .obtain⟨sl,q⟩:=F.un.slot b o e n hb hx
  obtain⟨sl',q'⟩:=slot b _ hb q;exact⟨sl',q'⟩
 .obtain⟨o',q⟩:=F.un.there b o e hx
  exact all b o e o' q
 .refine(F.hok b o e).stay (λc u hc q=>keep c u ?_ ?_ ?_ q) (λ_ q=>q) λ_ _ q=>q
  .intro z
   rcases hc with rfl | hc
   .rw[z,F.freeE]at e;cases e
   .rw[z,F.freeE]at hc;cases hc
  .intro z
   have:=(hT c z).2;rcases hc with rfl | hc
   .rw[this]at e;cases e
   .rw[this]at hc;cases hc
  .intro z
   have:=F.fr c z;rcases hc with rfl | hc
   .rw[this]at e;cases e
   .rw[this]at hc;cases hc
 .have go:∀l:List Env,(∀b∈frs l,b∈frs X.stack)->s'.heap.FunFrames X.base l->h'.FunFrames X.base l:=by
   intro l
   induction l with
   | nil=>intro _ _;trivial
   | cons env r ih=>
     intro hs ⟨hk,⟨L,o,hf,hn,ho,hd⟩,hr⟩
     have e:frs (env::r)=L::frs r:=by unfold frs;rw[Uz,hf]
     rw[e]at hs;obtain⟨sl,q⟩:=slot L o (hs L QM) ho;exact⟨hk,⟨L,_,hf,hn,q,hd⟩,ih (λb hb=>hs b (QQ _ hb)) hr⟩
  exact go X.stack (λ_ z=>z) F.ff
variable{M:Model}{E:Value->Shared->Prop}{Q:Unit->Shared->Prop}
structure Top(X:Cx)(L:Addr):Prop where
 stk:X.stack=X.env::X.outer
 fr:X.env.frame=Z_ L
 frames:X.A.frames=Z_ X.stack
def qN(hX:Top X L)(F:Fly X H s cls a H' s' tr)(he:s'.heap.get? a=Z_ oe)(hc:oe.cls=cls/\oe.dict=ZW)(hd:oe.data=.fields vs)(hsz:1<vs.size)
 (hQ:∀h',Fly X H s cls a H' { s' with heap:=h' } ZX->Q () { s' with heap:=h' }) :
 Rg M X.A (do setField (.ref a) 1 (<-EntryCells.newEntry head (<-frameOf X.env) .none (rawInt L) .none (<-entryPlaceOf L hn))) Q E s':=by
 have hfr:=hX.frames;rw[hX.stk]at hfr;have hff:=F.ff;rw[hX.stk]at hff
 have hmem:(X.env::X.outer).filterMap (·.frame)=frs X.stack:=by rw[hX.stk];rfl
 have haf:a∉frs X.stack:=λz=>by
  obtain⟨_,o,ho,hnf⟩:=F.ff.mem z;rw[he]at ho;cases ho;exact hnf vs hd
 refine QS (wpAny_frameOf_fun hfr hff hX.fr λh1 hs1=>?_);rw[hmem]at hs1;refine QS (wpAny_entryPlaceOf λpl hpl=>?_);unfold EntryCells.newEntry newFields;refine QS (U4 ?_ (hpl.sizeOk5 _ _ _ _ _))
 have he1:h1.get? a=Z_ oe:=by rw[hs1.2.1 a haf];exact he
 generalize hnob:({ cls:=.type "traceback",dict:=ZW,data:=.fields ([head,.ref L,.none,rawInt L,.none]++(if pl.isEmpty then Ry 6 Value.none else pl)).toArray }:Obj)=nob
 have hnd:∃ts,nob.data=.fields ts/\3<ts.size:=by rw[<-hnob];exact⟨_,rfl,by simp⟩
 have hnew:s'.heap.get? h1.objs.size=ZW:=Rc.get?_none_of_le (by rw[hs1.1];exact Ra _)
 have hTa:h1.objs.size≠a:=λz=>by rw[z,he]at hnew;cases hnew
 have he2:(h1.push nob).get? a=Z_ oe:=QV _ he1;refine wpAny_setField he2 hd hsz (hQ _ (F.step (λb=>b=h1.objs.size) (λb z=>?_) (λb o h1' h2 h3 q=>?_) (λb o hb q=>?_) ?_))
 .subst z
  refine⟨?_,F.hok.fresh (by rw[hs1.1];exact Ra _)⟩
  cases e:s.heap.get? h1.objs.size with
  | none=>rfl
  | some o=>obtain⟨o',q⟩:=F.un.there _ o e (by simp);rw[hnew]at q;cases q
 .rw[Rz _ _ (SJ h1')]
  exact QV _ (by rw[hs1.2.1 b h3];exact q)
 .obtain⟨sl,q'⟩:=hs1.2.2 b o q
  have hba:b≠a:=λz=>haf (z▸hb)
  exact⟨sl,by rw[Rz _ _ (SJ hba)];exact QV _ q'⟩
 .obtain⟨ts,hts,h3⟩:=hnd
  have hd3:=Obj.data_mapFields hd (·.setIfInBounds 1 (Value.ref h1.objs.size));refine⟨_,_,TF _ he2 (Obj.isFreed_of_fields hd3),⟨by rw[Obj.cls_mapFields];exact hc.1,by rw[jM];exact hc.2⟩,hd3,by simpa using hsz,.inr ⟨h1.objs.size,nob,ts,by simp[hsz],hTa,?_,F.hok.fresh (by rw[hs1.1];exact Ra _),?_,hts,h3⟩⟩
  .cases e:s.heap.get? h1.objs.size with
   | none=>rfl
   | some o=>obtain⟨o',q⟩:=F.un.there _ o e (by simp);rw[hnew]at q;cases q
  .rw[Rz _ _ (SJ hTa)]
   exact Rv _ (by rw[<-hnob];rfl)
def qg(hX:Top X L)(F:Fly X H s cls a H' s' tr)(hQ:∀h',Fly X H s cls a H' { s' with heap:=h' } ZX->Q () { s' with heap:=h' }):Rg M X.A (X6 (.ref a) X.env) Q E s':=by
 obtain⟨oe,vs,he,hc,hd,hsz,hx⟩:=F.exc;unfold X6;simp only[hX.fr];rcases hx with⟨_,h1⟩ | ⟨T,oT,ts,h1,hTa,hTn,hTf,hT,hTd,h3⟩
 .refine QS (Vh he hd h1 ?_)
  rw[if_neg (by decide)];exact qN hX F he hc hd hsz hQ
 .have h3':ts[3]?=Z_ ts[3]:=Array.getElem?_eq_getElem h3
  refine QS (Vh he hd h1 ?_);rw[if_pos (by simp:(Value.ref T !=Value.none)=ZX)];refine QS (Vh hT hTd h3' ?_)
  by_cases hq:(ts[3]==rawInt L)=ZX
  .rw[if_pos hq]
   refine Rh ?_
   have F':Fly X H s cls a H' s' ZX:=⟨F.os,F.bare,F.un,F.hok,F.newE,F.freeE,F.ff,F.fr,oe,vs,he,hc,hd,hsz,.inr ⟨T,oT,ts,h1,hTa,hTn,hTf,hT,hTd,h3⟩⟩
   exact hQ s'.heap F'
  .rw[if_neg hq]
   refine QS (wpAny_setField hT hTd h3 ?_)
   have oth:∀b,b≠T->(s'.heap.update T (Wk (·.setIfInBounds 3 Value.none))).get? b=s'.heap.get? b:=λb hb=>Rz _ _ (SJ hb)
   have hTfr:T∉frs X.stack:=λz=>by
    obtain⟨_,o,ho,hnf⟩:=F.ff.mem z;rw[hT]at ho;cases ho;exact hnf ts hTd
   have he':(s'.heap.update T (Wk (·.setIfInBounds 3 Value.none))).get? a=Z_ oe:=by rw[oth a (SJ hTa)];exact he
   have F':Fly X H s cls a H' { s' with heap:=s'.heap.update T (Wk (·.setIfInBounds 3 Value.none)) } ZX:=by
    refine F.step (λb=>b=T) (λb z=>by subst z;exact⟨hTn,hTf⟩) (λb o _ h2 _ q=>by rw[oth b h2];exact q) (λb o hb q=>⟨o.slots,by rw[oth b (λz=>hTfr (z▸hb))];exact q⟩) ?_;have hd3:=Obj.data_mapFields hTd (·.setIfInBounds 3 Value.none);exact⟨oe,vs,he',hc,hd,hsz,.inr ⟨T,_,_,h1,hTa,hTn,hTf,TF _ hT (Obj.isFreed_of_fields hd3),hd3,by simpa using h3⟩⟩
   exact qN hX F' he' hc hd hsz hQ
def gH(F:Fly X H s cls a H' s' ZX)(hQ:∀h',Fly X H s cls a H' { s' with heap:=h' } ZX->Q () { s' with heap:=h' }):Rg M X.A (setFlight (.ref a) f) Q E s':=by
 obtain⟨oe,vs,he,hc,hd,hsz,hx⟩:=F.exc;rcases hx with⟨h0,_⟩ | ⟨T,oT,ts,h1,hTa,hTn,hTf,hT,hTd,h3⟩
 .cases h0
 .unfold setFlight
  refine QS (Vh he hd h1 ?_);rw[if_pos (by simp:(Value.ref T !=Value.none)=ZX)];refine wpAny_setField hT hTd h3 (hQ _ ?_);generalize (f.elim Value.none λf=>rawInt f)=z
  have oth:∀b,b≠T->(s'.heap.update T (Wk (·.setIfInBounds 3 z))).get? b=s'.heap.get? b:=λb hb=>Rz _ _ (SJ hb)
  have hTfr:T∉frs X.stack:=λz=>by
   obtain⟨_,o,ho,hnf⟩:=F.ff.mem z;rw[hT]at ho;cases ho;exact hnf ts hTd
  refine F.step (λb=>b=T) (λb z=>by subst z;exact⟨hTn,hTf⟩) (λb o _ h2 _ q=>by rw[oth b h2];exact q) (λb o hb q=>⟨o.slots,by rw[oth b (λz=>hTfr (z▸hb))];exact q⟩) ?_;have hd3:=Obj.data_mapFields hTd (·.setIfInBounds 3 z);exact⟨oe,vs,by rw[oth a (SJ hTa)];exact he,hc,hd,hsz,.inr ⟨T,_,_,h1,hTa,hTn,hTf,TF _ hT (Obj.isFreed_of_fields hd3),hd3,by simpa using h3⟩⟩
def Gf(F:Fly X H s cls a H' s' ZX)(hQ:∀h',Fly X H s cls a H' { s' with heap:=h' } ZX->P (.ref a) { s' with heap:=h' }):cameBackBy M X.A X.env P (.ref a) s':=by
 obtain⟨oe,vs,he,hc,hd,hsz,hx⟩:=F.exc;rcases hx with⟨h0,_⟩ | ⟨T,oT,ts,h1,hTa,hTn,hTf,hT,hTd,h3⟩
 .cases h0
 .unfold cameBackBy
  refine QS (Vh he hd h1 ?_);rw[if_neg (by simp:¬(Value.ref T==Value.none)=ZX)];exact gH F hQ
def ni(hX:Top X L)(h1:∀e s',P e s'->∃H s cls a H' tr,e=.ref a/\Fly X H s cls a H' s' tr/\∀h',Fly X H s cls a H' { s' with heap:=h' } ZX->P e { s' with heap:=h' }):Us M X.A X.env P:=by
 intro e s' hp;obtain⟨H,s,cls,a,H',tr,rfl,F,k⟩:=h1 e s' hp;unfold notedBy
 refine qg hX F λh' F'=>?_
 exact Gf F' λh'' F''=>k h'' F''
def tZ(hX:Top X L)(F:Fly X H s cls a H' s' tr)(hQ:∀h',Fly X H s cls a H' { s' with heap:=h' } ZX->Q () { s' with heap:=h' }):Rg M X.A (leaving X.env (.ref a)) Q E s':=by
 unfold leaving;exact QS (qg hX F λh' F'=>gH F' hQ)
end
section
variable{X:Cx}{W:Wd}{σ:L2.St}{H H1:Hp}{me:Option Addr}{B:Addr->Prop}{δ:Dst}
def eX:(share1 δ i)[j]?=if j=i then(match δ[i]? with | some (Z_ (.ow,d))=>some (Z_ (.sh,d)) | x=>x)else δ[j]?:=by
 unfold share1
 cases e:δ[i]? with
 | none=>
   by_cases hj:j=i
   .subst hj;simp[e]
   .simp[hj]
 | some q=>
   have hi:i<δ.length:=(R9.mp e).1
   cases q with
   | none=>
     by_cases hj:j=i
     .subst hj;simp[e]
     .simp[hj]
   | some q=>
     obtain⟨w,d⟩:=q
     cases w with
     | ow=>
       by_cases hj:j=i
       .subst hj;simp[hi]
       .simp only[if_neg hj];rw[RQ (SJ hj)]
     | sh=>
       by_cases hj:j=i
       .subst hj;simp[e]
       .simp[hj]
     | me=>
       by_cases hj:j=i
       .subst hj;simp[e]
       .simp[hj]
def cQ(h:fP σ (share1 δ i) j a):fP σ δ j a/\(j=i->∀d,δ[i]?≠some (Z_ (.ow,d))):=by
 obtain⟨⟨w,d,h1,h2⟩,h3⟩:=h;rw[eX]at h1
 by_cases hj:j=i
 .subst hj
  rw[if_pos rfl]at h1;split at h1
  .cases h1;exact absurd rfl h2
  .rename_i hne
   exact⟨⟨⟨w,d,h1,h2⟩,h3⟩,λ_ d' e=>hne d' e⟩
 .rw[if_neg hj]at h1
  exact⟨⟨⟨w,d,h1,h2⟩,h3⟩,λe=>absurd e hj⟩
theorem SR.share1(S:SR X W me B H σ δ)(i:Nat):SR X W me B H σ (share1 δ i):=by
 have sub:∀b,Hid B σ (Z.share1 δ i) b->Hid B σ δ b:=λb hb=>by
  rcases hb with hb | ⟨j,hb⟩
  .exact .inl hb
  .exact .inr ⟨j,(cQ hb).1⟩
 refine⟨S.kf,?_,λj d h=>?_,λj d h=>?_,λj d h=>?_,λj k a h1 h2=>S.apart j k a (cQ h1).1 (cQ h2).1,S.same,S.soft,S.gone,S.live⟩
 .rw[S.len]
  unfold Z.share1;split<;>simp
 .rw[eX]at h
  by_cases hj:j=i
  .subst hj
   rw[if_pos rfl]at h;split at h
   .rename_i d' e
    cases h;obtain⟨a,h1,h2,h3,h4,h5⟩:=S.ow j d e;refine⟨.ref a,h1,(h2.mono (λ_ q=>q) (aJ sub)).rep λo q=>bQ q ?_⟩;intro z;rcases z with z | ⟨k,z⟩
    .exact h4 z
    .have hk:=cQ z
     have:=S.apart k j a hk.1 ⟨⟨.ow,d,e,by decide⟩,h1⟩;subst this;exact hk.2 rfl d e
   .obtain⟨v,h1,h2⟩:=S.sh j d h
    exact⟨v,h1,h2.mono (aJ sub)⟩
  .rw[if_neg hj]at h
   obtain⟨v,h1,h2⟩:=S.sh j d h;exact⟨v,h1,h2.mono (aJ sub)⟩
 .have h':δ[j]?=Z_ (Z_ (.ow,d)):=by
   rw[eX]at h
   by_cases hj:j=i
   .subst hj
    rw[if_pos rfl]at h;split at h
    .cases h
    .exact h
   .rw[if_neg hj]at h;exact h
  obtain⟨a,h1,h2,h3⟩:=S.ow j d h';exact⟨a,h1,h2.mono (λ_ q=>q) (aJ sub),h3⟩
 .have h':δ[j]?=Z_ (Z_ (.me,d)):=by
   rw[eX]at h
   by_cases hj:j=i
   .subst hj
    rw[if_pos rfl]at h;split at h
    .cases h
    .exact h
   .rw[if_neg hj]at h;exact h
  obtain⟨h0,a,h1,h2,h3,h4⟩:=S.mi j d h';exact⟨h0,a,h1,h2,h3.mono (λ_ q=>q) (aJ sub),h4⟩
theorem SR.share(is:List Nat):∀{δ:Dst},SR X W me B H σ δ->SR X W me B H σ (share δ is):=by
 induction is with
 | nil=>intro δ S;exact S
 | cons i l ih=>intro δ S;exact ih (S.share1 i)
theorem SR.evF(S:SR X W me B H σ δ)(o:Orc)(t:T):SR X W me B H σ (Z.evF o δ t).1/\(Z.evF o δ t).2=ev o (Z.evF o δ t).1 ZZ t:=by
 unfold Z.evF;split
 .exact⟨S.share _,rfl⟩
 .exact⟨S,rfl⟩
def SR.store(S:SR X W me B H σ δ)(s:Same H H1)(r:Res W (Hid B σ δ) ZZ H H1 w d v)(hi:i<δ.length) :
 SR X W me B H1 (σ.set i (Z_ v)) (δ.set i (Z_ (if w then .ow else .sh,d)))/\Same (vis H (Hid B σ δ)) (vis H1 (Hid B (σ.set i (Z_ v)) (δ.set i (Z_ (if w then .ow else .sh,d))))):=by
 have hiσ:i<σ.length:=by rw[S.len];exact hi
 have S1:=S.mono s
 have sub:∀b,Hid B (σ.set i (Z_ v)) (δ.set i (Z_ (if w then .ow else .sh,d))) b->Hid B σ δ b\/(w=ZX/\v=.ref b):=λb hb=>by
  rcases hb with hb | ⟨j,⟨w',d',h1,h2⟩,h3⟩
  .exact .inl (.inl hb)
  .by_cases hj:j=i
   .subst hj
    rw[RG hi]at h1;rw[RG hiσ]at h3;cases h1;cases h3
    cases w with
    | true=>exact .inr ⟨rfl,rfl⟩
    | false=>exact absurd rfl h2
   .rw[RQ (SJ hj)]at h1 h3
    exact .inl (.inr ⟨j,⟨w',d',h1,h2⟩,h3⟩)
 have new:∀b,w=ZX->v=.ref b->H b=ZW:=λb hw hv=>by
  unfold Res at r;rw[if_pos hw]at r;obtain⟨a,e,h0,_⟩:=r;rw[hv]at e;cases e;exact h0
 have up:Same (vis H (Hid B σ δ)) (vis H1 (Hid B (σ.set i (Z_ v)) (δ.set i (Z_ (if w then .ow else .sh,d))))):=λb o h=>by
  obtain⟨h1,h2⟩:=bK h
  refine bQ (s b o h1) λz=>?_
  rcases sub b z with z | ⟨z1,z2⟩
  .exact h2 z
  .rw[new b z1 z2]at h1;cases h1
 have old:∀j a,j≠i->fP (σ.set i (Z_ v)) (δ.set i (Z_ (if w then .ow else .sh,d))) j a->fP σ δ j a:=λj a hj ⟨⟨w',d',h1,h2⟩,h3⟩=>by
  rw[RQ (SJ hj)]at h1 h3;exact⟨⟨w',d',h1,h2⟩,h3⟩
 have here:∀a,fP (σ.set i (Z_ v)) (δ.set i (Z_ (if w then .ow else .sh,d))) i a->H a=ZW:=λa ⟨⟨w',d',h1,h2⟩,h3⟩=>by
  rw[RG hi]at h1;rw[RG hiσ]at h3;cases h1;cases h3
  cases w with
  | true=>exact new _ rfl rfl
  | false=>exact absurd rfl h2
 refine⟨⟨S.kf,by simp[S.len],λj d' h=>?_,λj d' h=>?_,λj d' h=>?_,λj k a h1 h2=>?_,S1.same,S1.soft,S1.gone,S1.live⟩,up⟩
 .by_cases hj:j=i
  .subst hj
   rw[RG hi]at h
   cases w with
   | true=>cases h
   | false=>
     cases h;refine⟨v,by rw[RG hiσ],?_⟩
     have q:Rep W (vis H1 (Hid B σ δ)) d v:=by simpa[Res]using r
     refine q.mono (aJ λb hb=>?_);rcases sub b hb with z | ⟨z,_⟩
     .exact z
     .cases z
  .rw[RQ (SJ hj)]at h
   obtain⟨u,h1,h2⟩:=S.sh j d' h;exact⟨u,by rw[RQ (SJ hj)];exact h1,h2.mono up⟩
 .by_cases hj:j=i
  .subst hj
   rw[RG hi]at h
   cases w with
   | false=>cases h
   | true=>
     cases h;have q:=r;unfold Res at q;rw[if_pos rfl]at q;obtain⟨a,rfl,h0,h1⟩:=q;refine⟨a,by rw[RG hiσ],h1.mono (λ_ q=>q) (aJ λb hb=>?_),?_,λz=>?_,λz=>?_⟩
     .rcases sub b hb with z | ⟨_,z⟩
      .exact .inl z
      .cases z;exact .inr rfl
     .cases e:X.H₀ a with
      | none=>rfl
      | some o=>
        by_cases hme:some a=me
        .obtain⟨o',q⟩:=S.live a hme.symm
         rw[h0]at q;cases q
        .rw[S.same a o e hme]at h0;cases h0
     .obtain⟨o,q⟩:=S.gone a z
      rw[h0]at q;cases q
     .obtain⟨o',q⟩:=S.live a z.symm
      rw[h0]at q;cases q
  .rw[RQ (SJ hj)]at h
   obtain⟨a,h1,h2,h3⟩:=S.ow j d' h;exact⟨a,by rw[RQ (SJ hj)];exact h1,h2.mono (λo q=>s a o q) up,h3⟩
 .by_cases hj:j=i
  .subst hj
   rw[RG hi]at h;cases w<;>cases h
  .rw[RQ (SJ hj)]at h
   obtain⟨h0,a,h1,h2,h3,h4⟩:=S.mi j d' h;exact⟨h0,a,h1,by rw[RQ (SJ hj)];exact h2,h3.mono (λo q=>s a o q) up,h4⟩
 .by_cases hj:j=i
  .by_cases hk:k=i
   .rw[hj,hk]
   .subst hj
    have q1:=here a h1;obtain⟨o,q2⟩:=S.hidH (.inr ⟨k,old k a hk h2⟩);rw[q1]at q2;cases q2
  .by_cases hk:k=i
   .subst hk
    have q1:=here a h2;obtain⟨o,q2⟩:=S.hidH (.inr ⟨j,old j a hj h1⟩);rw[q1]at q2;cases q2
   .exact S.apart j k a (old j a hj h1) (old k a hk h2)
def gU(i:Nat):∀b,Hid B σ (Z.share1 δ i) b->Hid B σ δ b:=λb hb=>by
 rcases hb with hb | ⟨j,hb⟩
 .exact .inl hb
 .exact .inr ⟨j,(cQ hb).1⟩
def xr(is:List Nat):∀{δ:Dst} (b:Addr),Hid B σ (Z.share δ is) b->Hid B σ δ b:=by
 induction is with
 | nil=>intro δ b h;exact h
 | cons i l ih=>intro δ b h;exact gU i b (ih b h)
def gO(o:Orc)(t:T):∀b,Hid B σ (Z.evF o δ t).1 b->Hid B σ δ b:=λb hb=>by
 unfold Z.evF at hb;split at hb
 .exact xr _ b hb
 .exact hb
noncomputable def AfterS(X:Cx)(W:Wd)(me:Option Addr)(B:Addr->Prop)(G:Hp)(r:SO)(D:Ends):Prop:=match r with
 | .nx δ=>∀σ H,SR X W me B H σ δ->Same G (vis H (Hid B σ δ))->D.nx σ H
 | .bk δ=>∀σ H,SR X W me B H σ δ->Same G (vis H (Hid B σ δ))->D.bk σ H
 | .ct δ=>∀σ H,SR X W me B H σ δ->Same G (vis H (Hid B σ δ))->D.ct σ H
 | .rt w d δ=>∀v σ H,SR X W me B H σ δ->Same G (vis H (Hid B σ δ))->Res W B ZZ X.H₀ H w d v->D.rt v H
 | .ex c δ=>∀pins σ H s,Inv X pins σ H s->SR X W me B H σ δ->Same G (vis H (Hid B σ δ))->∀a H' s' tr,Fly X H s (.ref (W.CT c)) a H' s' tr->Same H H'->X.xe (.ref a) s'
 | .stuck=>False
def AfterS.mono{G G':Hp}{r:SO}{D:Ends}(h:AfterS X W me B G r D)(e:Same G G'):AfterS X W me B G' r D:=by
 cases r with
 | nx δ=>exact fun σ H S s=>h σ H S (e.trans s)
 | bk δ=>exact fun σ H S s=>h σ H S (e.trans s)
 | ct δ=>exact fun σ H S s=>h σ H S (e.trans s)
 | rt w d δ=>exact λv σ H S s=>h v σ H S (e.trans s)
 | ex c δ=>exact λpins σ H s I S z=>h pins σ H s I S (e.trans z)
 | stuck=>exact h
def tS(X:Cx)(W:Wd)(g:Dst->SO):TS:=λD σ H=>∃me B δ,SR X W me B H σ δ/\AfterS X W me B (vis H (Hid B σ δ)) (g δ) D
def PSs.imp{X:Cx}{e:List Stmt}{t t':TS}(h:PSs X e t)(i:∀D σ H,t' D σ H->t D σ H):PSs X e t':=λpins s σ H D I hw=>h pins s σ H D I (i D σ H hw)
def Dc(o:Orc):PSs X [] (tS X W (evSs o .nil)):=PSs.imp vo λD σ H ⟨me,B,δ,S,h⟩=>by
 simp only[evSs,AfterS]at h;exact h σ H S (Same.refl _)
def yt{st:Stmt}{rest:List Stmt}{o:Orc}{s:S}{l:SL}(h1:PS X st (tS X W (evS o s)))(h2:PSs X rest (tS X W (evSs o l))):PSs X (st::rest) (tS X W (evSs o (.cons s l))):=by
 refine PSs.imp (zA h1 h2) λD σ H ⟨me,B,δ,S,h⟩=>⟨me,B,δ,S,?_⟩
 simp only[evSs]at h
 cases e:evS o s δ with
 | nx δ1=>
   rw[e]at h
   exact fun σ' H' S' s'=>⟨me,B,δ1,S',AfterS.mono h s'⟩
 | rt w d δ1=>rw[e]at h;exact h
 | bk δ1=>rw[e]at h;exact h
 | ct δ1=>rw[e]at h;exact h
 | ex c δ1=>rw[e]at h;exact h
 | stuck=>rw[e]at h;exact h
def SO.of_ok{G:Hp}{α:Type}{δ:Dst}{r:R α}{k:α->SO}{D:Ends}(h:AfterS X W me B G (SO.of δ r k) D):∃a,r=.ok a/\AfterS X W me B G (k a) D:=by
 cases r with
 | ok a=>exact⟨a,rfl,h⟩
 | exc c=>exact h.elim
 | stuck=>exact h.elim
def bY{G:Hp}{x:Option SO}{D:Ends}(h:AfterS X W me B G (aB x) D):∃r,x=Z_ r/\AfterS X W me B G r D:=by
 cases x with
 | some a=>exact⟨a,rfl,h⟩
 | none=>exact h.elim
def fC(h:setSlot δ i w d=Z_ δ'):i<δ.length/\δ'=δ.set i (Z_ (if w then .ow else .sh,d)):=by
 unfold setSlot at h;split at h
 .exact⟨by assumption,(Sv h).symm⟩
 .cases h
def zu{i:Nat}{x:Str}{e:Expr}{o:Orc}{t:T}{pos pos':Pos}(hN:X.N.Nodup)(hi:X.N[i]?=Z_ x)(hx:Loc X.env.scope x)(he:PE X e (tD X W ZZ fun δ=>ev o δ ZZ t))(hs:Uc e (Z_ (.Name x pos')) pos.line X.env=pure ZZ)
 (hf:X.fn x=ZX\/X.env.scope.names.lookup x=Z_ .local):PS X (.Assign [.Name x pos'] e pos) (tS X W (evS o (.set i t))):=by
 refine PS.imp (Et hN hi hx he hs hf) λD σ H ⟨me,B,δ,S,h⟩=>?_
 simp only[evS]at h;obtain⟨S1,e1⟩:=S.evF o t;obtain⟨r,e2,h⟩:=SO.of_ok h;obtain⟨q,e3,h⟩:=bY h
 cases e4:setSlot (evF o δ t).1 i r.1 r.2 with
 | none=>rw[e4]at e3;cases e3
 | some δ'=>
   rw[e4]at e3;cases e3;obtain⟨h1,rfl⟩:=fC e4;refine tD_iff.mpr ⟨me,B,_,S1,?_⟩;rw[<-e1,e2];intro v H' s q;obtain⟨S2,s2⟩:=S1.store s q h1;exact h _ _ S2 ((aJ (gO o t)).trans s2)
def Q4{c:Expr}{a b:List Stmt}{o:Orc}{t:T}{sa sb:SL}{pos:Pos}(hc:PT X c (tT X W fun δ=>ev o δ ZX t))(ha:PSs X a (tS X W (evSs o sa)))(hb:PSs X b (tS X W (evSs o sb))) :
 PS X (.If c a b pos) (tS X W (evS o (.ifs t sa sb))):=by
 refine PS.imp (Qw hc ha hb) λD σ H ⟨me,B,δ,S,h⟩=>?_
 simp only[evS]at h;obtain⟨k,e,h⟩:=SO.of_ok h;refine⟨me,B,δ,S,?_⟩;rw[e];intro H' s
 cases k with
 | true=>exact⟨me,B,δ,S.mono s,AfterS.mono h (au s)⟩
 | false=>exact⟨me,B,δ,S.mono s,AfterS.mono h (au s)⟩
def Ek{e:Expr}{o:Orc}{t:T}{pos:Pos}(hv:∀i,t≠.var i)(he:PE X e (tD X W ZZ fun δ=>ev o δ ZZ t)):PS X (.Return (Z_ e) pos) (tS X W (evS o (.ret t))):=by
 refine PS.imp (vB he) λD σ H ⟨me,B,δ,S,h⟩=>?_
 have h':AfterS X W me B (vis H (Hid B σ δ)) (SO.of (evF o δ t).1 (evF o δ t).2 λr=>.rt r.1 r.2 (evF o δ t).1) D:=by
  cases t<;>first | exact h | exact absurd rfl (hv _)
 obtain⟨S1,e1⟩:=S.evF o t;obtain⟨r,e2,h⟩:=SO.of_ok h';refine tD_iff.mpr ⟨me,B,_,S1,?_⟩;rw[<-e1,e2];intro v H' s q;refine h v σ H' (S1.mono s) ((aJ (gO o t)).trans (au s)) ?_;unfold Res at q ⊢
 by_cases hw:r.1=ZX
 .rw[if_pos hw]at q ⊢
  obtain⟨a,rfl,h0,q⟩:=q;refine⟨a,rfl,?_,q.mono (λ_ z=>z) (aJ λb hb=>hb.imp .inl id)⟩
  cases e:X.H₀ a with
  | none=>rfl
  | some o'=>
    by_cases hme:some a=me
    .obtain⟨o',q⟩:=S.live a hme.symm
     rw[h0]at q;cases q
    .rw[S.same a o' e hme]at h0;cases h0
 .rw[if_neg hw]at q ⊢
  simp only[QW,if_false]at q ⊢;exact q.mono (aJ λb hb=>.inl hb)
def Ik(hN:X.N[i]?=Z_ x)(hv:Vis X.env.scope x)(hd:(x==("__debug__":Str))=ZZ)(hcd:(x==("__classdict__":Str))=ZZ):PS X (.Return (Z_ (.Name x pos')) pos) (tS X W (evS o (.ret (.var i)))):=by
 refine PS.imp (vB (iw hN hv hd hcd)) λD σ H ⟨me,B,δ,S,h⟩=>?_
 simp only[evS]at h
 cases e:δ[i]? with
 | none=>simp only[e,AfterS]at h
 | some q=>
   cases q with
   | none=>simp only[e,AfterS]at h
   | some q=>
     obtain⟨w,d⟩:=q
     cases w with
     | sh=>
       simp only[e,AfterS]at h;obtain⟨v,h1,h2⟩:=S.sh i d e;exact⟨v,h1,h v σ H S (Same.refl _) (.shared (h2.mono (aJ λb hb=>.inl hb)))⟩
     | ow=>
       simp only[e,AfterS]at h;obtain⟨a,h1,h2,h3,h4⟩:=S.ow i d e;refine⟨_,h1,h _ σ H S (Same.refl _) ?_⟩;unfold Res;rw[if_pos rfl];refine⟨a,rfl,h3,h2.mono (λ_ z=>z) (aJ λb hb=>?_)⟩;rcases hb with hb | hb
       .exact .inl hb
       .rw[hb];exact .inr ⟨i,⟨.ow,d,e,by decide⟩,h1⟩
     | me=>simp only[e,AfterS]at h
def An{c:Expr}{body:List Stmt}{o:Orc}{t:T}{sb:SL}{pos:Pos}(hp:Us (Rm X.prog X.w) X.A X.env X.xe)(hc:PT X c (tT X W fun δ=>ev o δ ZX t))(hb:PSs X body (tS X W (evSs o sb))) :
 PS X (.While c body [] pos) (tS X W (evS o (.while_ t sb))):=by
 refine PS.imp (Cd hp hc hb) λD σ H ⟨me,B,δ,S,h⟩=>?_
 simp only[evS]at h;refine⟨λm σ H=>∃δ,SR X W me B H σ δ/\AfterS X W me B (vis H (Hid B σ δ)) (b8 (fun δ=>ev o δ ZX t) (evSs o sb) m δ) D,⟨_,δ,S,h⟩,?_⟩
 rintro m σ H ⟨δ,S,h⟩
 cases m with
 | zero=>simp only[b8,AfterS]at h
 | succ m=>
   simp only[b8]at h;obtain⟨k,e,h⟩:=SO.of_ok h;refine⟨me,B,δ,S,?_⟩;rw[e];intro H' s;have h:=AfterS.mono h (au s)
   cases k with
   | false=>
     simp only[QW,if_false,AfterS]at h ⊢;exact h σ H' (S.mono s) (Same.refl _)
   | true=>
     simp only[if_true]at h ⊢;refine⟨fun σ' H'=>∃δ,SR X W me B H' σ' δ/\AfterS X W me B (vis H' (Hid B σ' δ)) (b8 (fun δ=>ev o δ ZX t) (evSs o sb) m δ) D,fun σ' H' q=>⟨m,Nat.lt_succ_self m,q⟩,me,B,δ,S.mono s,?_⟩
     cases e2:evSs o sb δ with
     | nx δ1=>rw[e2]at h;exact fun σ' H' S' s'=>⟨δ1,S',AfterS.mono h s'⟩
     | ct δ1=>rw[e2]at h;exact fun σ' H' S' s'=>⟨δ1,S',AfterS.mono h s'⟩
     | bk δ1=>rw[e2]at h;exact h
     | rt w d δ1=>rw[e2]at h;exact h
     | ex c δ1=>rw[e2]at h;exact h
     | stuck=>rw[e2]at h;exact h.elim
end
section
variable{X:Cx}{W:Wd}{lk lk':Bool}{σ:L2.St}{H H1 H':Hp}{me:Option Addr}{B:Addr->Prop}{δ:Dst}{Q Q':VK}
def Jo{α:Type}{fa:Dst->R (Bool×D)}{g:Bool×D->R α}{C:R α->Hp->Prop}(S:SR X W me B H σ δ)(h:C ((fa δ).bind g) H)(mono:∀r H1,Same H H1->C r H->C r H1)(hx:∀c,C (.exc c) H->EW X W σ H c)(hs:¬C .stuck H) :
 tD X W lk' fa σ H λv H1=>∃r,fa δ=.ok r/\SR X W me B H1 σ δ/\Same H H1/\RepT W H1 (vis H1 (Hid B σ δ)) r.2 v/\Res W (Hid B σ δ) lk' H H1 r.1 r.2 v/\C (g r) H1:=by
 refine tD_iff.mpr ⟨me,B,δ,S,?_⟩
 cases e:fa δ with
 | ok r=>
   rw[e]at h;intro v H1 s q;exact⟨r,rfl,S.mono s,s,q.look,q,mono _ _ s h⟩
 | exc c=>rw[e]at h;exact hx c h
 | stuck=>rw[e]at h;exact hs h
def PE.or{e:Expr}{t t':TE}(h:PE X e t)(h':PE X e t'):PE X e (fun σ H Q=>t σ H Q\/t' σ H Q):=by
 intro pins s σ H Q I q;rcases q with q | q
 .exact h pins s σ H Q I q
 .exact h' pins s σ H Q I q
def RepTs(W:Wd)(H G:Hp):List D->List V->Prop
 | [],[]=>True
 | d::l,v::vs=>RepT W H G d v/\RepTs W H G l vs
 | _,_=>False
theorem RepTs.length:∀{l:List D}{vs:List V},RepTs W H G l vs->l.length=vs.length
 | [],[],_=>rfl
 | [],_::_,h=>by simp only[RepTs]at h
 | _::_,[],h=>by simp only[RepTs]at h
 | d::l,v::vs,h=>by
   simp only[RepTs]at h;simp[RepTs.length h.2]
def AfterL(X:Cx)(W:Wd)(σ:L2.St)(H:Hp)(P:Addr->Prop)(r:R (Bool×List D))(Q:List V->Hp->Prop):Prop:=match r with
 | .ok r=>∀vs H',Same H H'->RepTs W H' (vis H' P) r.2 vs->(r.1=ZZ->Reps W (vis H' P) r.2 vs)->Q vs H'
 | .exc c=>EW X W σ H c
 | .stuck=>False
def tL(X:Cx)(W:Wd)(f:Dst->R (Bool×List D)):TA:=fun σ H Q=>∃me B δ,SR X W me B H σ δ/\AfterL X W σ H (Hid B σ δ) (f δ) Q
theorem AfterL.mono{P:Addr->Prop}{r:R (Bool×List D)}{Q:List V->Hp->Prop}(h:AfterL X W σ H P r Q)(e:Same H H1):AfterL X W σ H1 P r Q:=by
 unfold AfterL at h ⊢
 cases r with
 | ok r=>exact λv H' s q=>h v H' (e.trans s) q
 | exc c=>exact h.mono e
 | stuck=>exact h
def tL.mono{f:Dst->R (Bool×List D)}{Q Q':List V->Hp->Prop}(h:tL X W f σ H Q)(k:∀v H',Q v H'->Q' v H'):tL X W f σ H Q':=by
 obtain⟨me,B,δ,S,h⟩:=h;refine⟨me,B,δ,S,?_⟩;unfold AfterL at h ⊢
 cases e:f δ with
 | ok r=>rw[e]at h;exact λv H' s q q'=>k _ _ (h v H' s q q')
 | exc c=>rw[e]at h;exact h
 | stuck=>rw[e]at h;exact h
def lM{α:Type}{fa:Dst->R (Bool×List D)}{g:Bool×List D->R α}{C:R α->Hp->Prop}(S:SR X W me B H σ δ)(h:C ((fa δ).bind g) H)(mono:∀r H1,Same H H1->C r H->C r H1)(hx:∀c,C (.exc c) H->EW X W σ H c)(hs:¬C .stuck H) :
 tL X W fa σ H λvs H1=>∃r,fa δ=.ok r/\SR X W me B H1 σ δ/\Same H H1/\RepTs W H1 (vis H1 (Hid B σ δ)) r.2 vs/\(r.1=ZZ->Reps W (vis H1 (Hid B σ δ)) r.2 vs)/\C (g r) H1:=by
 refine⟨me,B,δ,S,?_⟩
 cases e:fa δ with
 | ok r=>
   rw[e]at h;intro vs H1 s q q';exact⟨r,rfl,S.mono s,s,q,q',mono _ _ s h⟩
 | exc c=>rw[e]at h;exact hx c h
 | stuck=>rw[e]at h;exact hs h
def DW(o:Orc):PA X [] (tL X W fun δ=>evL o δ .nil):=PA.imp dZ fun σ H Q ⟨me,B,δ,S,h⟩=>by
 simp only[evL,AfterL]at h
 exact h [] H (Same.refl H) (by simp only[RepTs]) λ_=>by simp only[Reps]
def wI{e:Expr}{es:List Expr}{o:Orc}{t:T}{l:TL}(ha:∀lk,PE X e (tD X W lk fun δ=>ev o δ lk t))(hr:PA X es (tL X W fun δ=>evL o δ l))(hs:R3 (e::es) X.env=(ZZ,S8 e X.env)::R3 es X.env) :
 PA X (e::es) (tL X W fun δ=>evL o δ (.cons t l)):=by
 refine PA.imp (bT (PE.or (ha ZX) (ha ZZ)) hr hs) fun σ H Q ⟨me,B,δ,S,h⟩=>?_
 simp only[evL]at h
 have go:∀lk,bR δ t=lk->tD X W lk (fun δ=>ev o δ lk t) σ H λx H1=>tL X W (fun δ=>evL o δ l) σ H1 λxs H2=>Q (x::xs) H2:=by
  intro lk hlk;rw[hlk]at h
  refine tD.mono (Jo (fa:=fun δ=>ev o δ lk t) (C:=λr H=>AfterL X W σ H (Hid B σ δ) r Q) S h (λr H1 s q=>q.mono s) (λc q=>q) (λq=>q)) λv H1 ⟨r1,e1,S1,s1,t1,q1,h1⟩=>?_
  refine tL.mono (lM (fa:=fun δ=>evL o δ l) (C:=λr H=>AfterL X W σ H (Hid B σ δ) r Q) S1 h1 (λr H1 s q=>q.mono s) (λc q=>q) (λq=>q)) λvs H2 ⟨r2,e2,S2,s2,t2,q2,h2⟩=>?_
  refine h2 (v::vs) H2 (Same.refl _) ?_ λhf=>?_
  .simp only[RepTs]
   exact⟨t1.mono s2 (au s2),t2⟩
  .simp only[Rp]at hf
   simp only[Reps];refine⟨?_,q2 hf.2⟩;rw[hf.1]at q1;exact(q1.keep S.know).mono (au s2)
 cases hlk:bR δ t with
 | true=>exact .inl (go ZX hlk)
 | false=>exact .inr (go ZZ hlk)
def spFn(W:Wd)(g:List D->R (Bool×D))(np:Nat):Sp:=λvs H Q _=>vs.length=np/\∃B ds,Soft H B/\(∀b,B b->∃o,H b=Z_ o)/\Reps W (vis H B) ds vs/\∃r,g ds=.ok r/\∀v H',Same H H'->Res W B ZZ H H' r.1 r.2 v->Q v H'
theorem RepTs.lend:∀{l:List D}{vs:List V}(us:List V),(∀v∈vs,v∈us)->RepTs W H (vis H P) l vs->Reps W (vis H λb=>P b/\V.ref b∉us) l vs
 | [],[],_,_,_=>by simp only[Reps]
 | [],_::_,_,_,h=>by simp only[RepTs]at h
 | _::_,[],_,_,h=>by simp only[RepTs]at h
 | d::l,v::vs,us,hu,h=>by
   simp only[RepTs]at h;simp only[Reps];refine⟨?_,RepTs.lend us (λv hv=>hu v (QQ _ hv)) h.2⟩
   have up:Same (vis H P) (vis H λb=>P b/\V.ref b∉us):=aJ λb hb=>hb.1
   have hv:v∈us:=hu v QM
   have see:∀a o,v=.ref a->H a=Z_ o->vis H (λb=>P b/\V.ref b∉us) a=Z_ o:=λa o e h=>bQ h λz=>z.2 (e▸hv)
   cases d with
   | lst l=>
     obtain⟨a,xs,rfl,h1,h2⟩:=h.1;simp only[Rep];refine⟨a,xs,rfl,?_,h2.mono up⟩;rcases h1 with(h1 | ⟨o,h1⟩) | h1
     .exact .inl (.inl (see a _ rfl h1))
     .exact .inl (.inr ⟨o,see a _ rfl h1⟩)
     .exact .inr h1
   | dct ks vs=>
     obtain⟨a,kvs,rfl,h1,h2,h3,h4⟩:=h.1;simp only[Rep];exact⟨a,kvs,rfl,h1.imp λ_ z=>see a _ rfl z,h2,h3,h4.mono up⟩
   | obj c ns vs=>
     obtain⟨a,dx,fs,rfl,h1,h2,h3⟩:=h.1;simp only[Rep];exact⟨a,dx,fs,rfl,see a _ rfl h1,h2,h3.mono up⟩
   | non=>exact Rep.mono up h.1
   | bl b=>exact Rep.mono up h.1
   | int i=>exact Rep.mono up h.1
   | str x=>exact Rep.mono up h.1
   | tup l=>exact Rep.mono up h.1
   | err c=>exact Rep.mono up h.1
def OwnAt.notImm(h:OwnAt W H G a d):d.imm=ZZ:=by
 cases d<;>first | rfl | exact h.elim
def Jr{o:Orc}{f np:Nat}{vs:List V}{ds:List D}{br:Bool}{E:XK}(S:SR X W me B H σ δ)(hn:ds.length=np)(t:RepTs W H (vis H (Hid B σ δ)) ds vs)(q:br=ZZ->Reps W (vis H (Hid B σ δ)) ds vs)
 (h:After X W lk σ H (Hid B σ δ) ((o.fn f ds).bind (lent br)) Q):spFn W (o.fn f) np vs H Q E:=by
 refine⟨by rw[<-t.length];exact hn,?_⟩
 cases e:o.fn f ds with
 | stuck=>rw[e]at h;exact h.elim
 | exc c=>rw[e]at h;exact h.elim
 | ok r=>
   rw[e]at h
   cases br with
   | false=>
     refine⟨Hid B σ δ,ds,S.softH,S.know,q rfl,r,e,λv H' s z=>h v H' s ?_⟩;unfold Res at z ⊢
     by_cases hw:r.1=ZX
     .rw[if_pos hw]at z ⊢;exact z
     .rw[if_neg hw]at z ⊢
      simp only[QW,if_false]at z;split
      .exact z.top bw
      .exact z
   | true=>
     have h':After X W lk σ H (Hid B σ δ) (if r.2.imm then .ok r else .stuck) Q:=h
     by_cases him:r.2.imm=ZX
     .rw[if_pos him]at h'
      refine⟨λb=>Hid B σ δ b/\V.ref b∉vs,ds,λa ha=>S.softH a ha.1,λb hb=>S.know b hb.1,t.lend vs (λv hv=>hv),r,e,λv H' s z=>h' v H' s ?_⟩;unfold Res at z ⊢
      by_cases hw:r.1=ZX
      .rw[if_pos hw]at z
       obtain⟨a,_,_,z⟩:=z;rw[z.notImm]at him;cases him
      .rw[if_neg hw]at z ⊢
       simp only[QW,if_false]at z;have z':Rep W (vis H' (Hid B σ δ)) r.2 v:=(z.mono bw).imm (S.softH.mono S.know s) him;split
       .exact z'.top bw
       .exact z'
     .rw[if_neg him]at h';exact h'.elim
def rW{o:Orc}{f np k:Nat}{x:Str}{fa:Addr}{fd:Sw}{ps:List Str}{e:Expr}{es:List Expr}{l:TL}{p pos:Pos}(hn:∀δ r,evL o δ l=.ok r->r.2.length=np)
 (F:FnOk X.prog X.w X.K X.mg X.base CX0 k fa fd ps (spFn W (o.fn f) np))(hr:Room k X.A)(hg:Gl X x)(hm:X.mg x=Z_ (.ref fa))(hk:Rj X.K (.ref fa)=ZX)(hb:Binds X.K fd ps [])
 (ha:PA X (e::es) (tL X W fun δ=>evL o δ l))(hdb:(x==("__debug__":Str))=ZZ)(he:R3 (e::es) X.env=(ZZ,S8 e X.env)::R3 es X.env)(hpl:(SQ pos (R3 es X.env)).any (·.1)=ZZ) :
 PE X (.Call (.Name x p) (e::es) [] pos) (tD X W lk fun δ=>ev o δ lk (.call f l)):=by
 refine PE.imp (pQ F hr hg hm hk hb .nil ou ha hdb he hpl) fun σ H Q h=>?_
 obtain⟨me,B,δ,S,h⟩:=tD_iff.mp h;simp only[ev]at h
 refine tL.mono (lM (fa:=fun δ=>evL o δ l) (C:=λr H=>After X W lk σ H (Hid B σ δ) r Q) S h (λr H1 s q=>q.mono s) (λc q=>q) (λq=>q)) λvs H1 ⟨r,e1,S1,s1,t1,q1,h1⟩=>?_
 rw[RC];exact Jr S1 (hn δ r e1) t1 q1 h1
variable{a b:Expr}{rest:List Expr}{pos:Pos}{fa fb:Dst->R (Bool×D)}
noncomputable def andD(x:D)(y:R (Bool×D)):R (Bool×D):=match x with
 | .bl true=>y.bind λy=>cj y.2
 | .bl false=>.ok (ZZ,.bl ZZ)
 | _=>.stuck
noncomputable def orD(x:D)(y:R (Bool×D)):R (Bool×D):=match x with
 | .bl true=>.ok (ZZ,.bl ZX)
 | .bl false=>y.bind λy=>cj y.2
 | _=>.stuck
def Cv(h:cj d=.ok r):∃b,d=.bl b/\r=(ZZ,.bl b):=by
 cases d<;>simp only[cj]at h<;>first | (cases h;exact⟨_,rfl,rfl⟩) | cases h
def qt(h:RepT W H G (.bl i) x):x=.bl i:=by simpa only[RepT,Rep]using h
def n8(S:SR X W me B H σ δ)(h:After X W lk σ H (Hid B σ δ) ((fb δ).bind λy=>cj y.2) Q):tD X W ZX fb σ H Q:=by
 refine tD_iff.mpr ⟨me,B,δ,S,?_⟩
 cases e:fb δ with
 | ok r=>
   rw[e]at h;have h:After X W lk σ H (Hid B σ δ) (cj r.2) Q:=h
   cases e2:cj r.2 with
   | ok r'=>
     rw[e2]at h;obtain⟨b,e3,rfl⟩:=Cv e2;intro v H' s q;have q':=q.look;rw[e3]at q';rw[qt q'];exact h _ H' s dq
   | exc c=>rw[e2]at h;exact Rr h
   | stuck=>rw[e2]at h;exact Rr h
 | exc c=>rw[e]at h;exact h
 | stuck=>rw[e]at h;exact h
def Oo(ha:PE X a (tD X W ZX fa))(hb:PE X (.BoolOp .And (b::rest) pos) (tD X W ZX fb)):PE X (.BoolOp .And (a::b::rest) pos) (tD X W lk fun δ=>(fa δ).bind λx=>andD x.2 (fb δ)):=by
 refine PE.imp (JG ha hb) fun σ H Q h=>?_
 obtain⟨me,B,δ,S,h⟩:=tD_iff.mp h
 refine tD.mono (part S h) λv H1 ⟨r,e,S1,s1,t1,_,h1⟩=>?_
 cases e2:r.2 with
 | bl c=>
   rw[e2]at t1 h1;refine⟨c,qt t1,?_⟩
   cases c with
   | true=>exact n8 S1 h1
   | false=>exact h1 _ H1 (Same.refl _) dq
 | _=>rw[e2]at h1;exact h1.elim
def d_or(ha:PE X a (tD X W ZX fa))(hb:PE X (.BoolOp .Or (b::rest) pos) (tD X W ZX fb)):PE X (.BoolOp .Or (a::b::rest) pos) (tD X W lk fun δ=>(fa δ).bind λx=>orD x.2 (fb δ)):=by
 refine PE.imp (Q7 ha hb) fun σ H Q h=>?_
 obtain⟨me,B,δ,S,h⟩:=tD_iff.mp h
 refine tD.mono (part S h) λv H1 ⟨r,e,S1,s1,t1,_,h1⟩=>?_
 cases e2:r.2 with
 | bl c=>
   rw[e2]at t1 h1;refine⟨c,qt t1,?_⟩
   cases c with
   | false=>exact n8 S1 h1
   | true=>exact h1 _ H1 (Same.refl _) dq
 | _=>rw[e2]at h1;exact h1.elim
def KY(ha:PE X a (tD X W lk fa)):PE X (.BoolOp op [a] pos) (tD X W lk fa):=KQ ha
def PW.imp{e:Expr}{t t':TT}(h:PW X e t)(i:∀σ H Q,t' σ H Q->t σ H Q):PW X e t':=λw pins s σ H Q I hw=>h w pins s σ H Q I (i σ H Q hw)
def pG{d:D}{b:Bool}(h:(cj d).bind (λx=>Xu (truth x.2))=.ok b):truth d=Z_ b:=by
 cases d<;>simp only[cj,Xr,truth,Xu]at h<;>first | (cases h;rfl) | cases h
def pZ:(cj d).bind (λx=>Xu (truth x.2))≠.exc c:=by
 cases d<;>simp[cj,Xr,truth,Xu]
def jZ{Q:Bool->Hp->Prop}(S:SR X W me B H σ δ)
 (h:match((fb δ).bind λy=>cj y.2).bind (λx=>Xu (truth x.2))with | .ok b=>∀H',Same H H'->Q b H' | .exc c=>EW X W σ H c | .stuck=>False):tT X W fb σ H Q:=by
 refine⟨me,B,δ,S,?_⟩
 cases e:fb δ with
 | ok r=>
   rw[e]at h;have h:(match(cj r.2).bind (λx=>Xu (truth x.2))with | .ok b=>∀H',Same H H'->Q b H' | .exc c=>EW X W σ H c | .stuck=>False):=h;show(match Xu (truth r.2)with | .ok b=>∀H',Same H H'->Q b H' | .exc c=>EW X W σ H c | .stuck=>False)
   cases e2:(cj r.2).bind (λx=>Xu (truth x.2))with
   | ok b=>rw[e2]at h;rw[pG e2];exact h
   | exc c=>exact absurd e2 pZ
   | stuck=>rw[e2]at h;exact h.elim
 | exc c=>rw[e]at h;exact h
 | stuck=>rw[e]at h;exact h
def Ln(ha:PT X a (tT X W fa))(hb:PW X (.BoolOp .And (b::rest) pos) (tT X W fb)):PW X (.BoolOp .And (a::b::rest) pos) (tT X W fun δ=>(fa δ).bind λx=>andD x.2 (fb δ)):=by
 refine PW.imp (Lh ha hb) fun σ H Q ⟨me,B,δ,S,h⟩=>⟨me,B,δ,S,?_⟩
 dsimp only at h
 cases e:fa δ with
 | ok r=>
   rw[e]at h;have h:(match(andD r.2 (fb δ)).bind (λx=>Xu (truth x.2))with | .ok b=>∀H',Same H H'->Q b H' | .exc c=>EW X W σ H c | .stuck=>False):=h;show(match Xu (truth r.2)with | .ok b=>∀H',Same H H'->if b=ZX then tT X W fb σ H' Q else Q ZZ H' | .exc c=>EW X W σ H c | .stuck=>False)
   cases e2:r.2 with
   | bl c=>
     rw[e2]at h
     cases c with
     | true=>
       intro H' s;refine jZ (S.mono s) ?_;have h:(match((fb δ).bind λy=>cj y.2).bind (λx=>Xu (truth x.2))with | .ok b=>∀H',Same H H'->Q b H' | .exc c=>EW X W σ H c | .stuck=>False):=h
       cases e3:((fb δ).bind λy=>cj y.2).bind (λx=>Xu (truth x.2))with
       | ok b=>rw[e3]at h;exact λH2 s2=>h H2 (s.trans s2)
       | exc c=>rw[e3]at h;exact h.elim
       | stuck=>rw[e3]at h;exact h
     | false=>exact λH' s=>h H' s
   | _=>rw[e2]at h;exact h.elim
 | exc c=>rw[e]at h;exact h
 | stuck=>rw[e]at h;exact h
def Qa(ha:PT X a (tT X W fa))(hb:PW X (.BoolOp .Or (b::rest) pos) (tT X W fb)):PW X (.BoolOp .Or (a::b::rest) pos) (tT X W fun δ=>(fa δ).bind λx=>orD x.2 (fb δ)):=by
 refine PW.imp (Q5 ha hb) fun σ H Q ⟨me,B,δ,S,h⟩=>⟨me,B,δ,S,?_⟩
 dsimp only at h
 cases e:fa δ with
 | ok r=>
   rw[e]at h;have h:(match(orD r.2 (fb δ)).bind (λx=>Xu (truth x.2))with | .ok b=>∀H',Same H H'->Q b H' | .exc c=>EW X W σ H c | .stuck=>False):=h;show(match Xu (truth r.2)with | .ok b=>∀H',Same H H'->if b=ZX then Q ZX H' else tT X W fb σ H' Q | .exc c=>EW X W σ H c | .stuck=>False)
   cases e2:r.2 with
   | bl c=>
     rw[e2]at h
     cases c with
     | false=>
       intro H' s;refine jZ (S.mono s) ?_;have h:(match((fb δ).bind λy=>cj y.2).bind (λx=>Xu (truth x.2))with | .ok b=>∀H',Same H H'->Q b H' | .exc c=>EW X W σ H c | .stuck=>False):=h
       cases e3:((fb δ).bind λy=>cj y.2).bind (λx=>Xu (truth x.2))with
       | ok b=>rw[e3]at h;exact λH2 s2=>h H2 (s.trans s2)
       | exc c=>rw[e3]at h;exact h.elim
       | stuck=>rw[e3]at h;exact h
     | true=>exact λH' s=>h H' s
   | _=>rw[e2]at h;exact h.elim
 | exc c=>rw[e]at h;exact h
 | stuck=>rw[e]at h;exact h
def gG(ha:PT X a (tT X W fa)):PW X (.BoolOp op [a] pos) (tT X W fa):=by
 cases op with
 | And=>exact HF ha
 | Or=>exact Lj ha
end
section
variable{X:Cx}{W:Wd}{lk lk':Bool}{σ:L2.St}{H H1 H':Hp}{me:Option Addr}{B:Addr->Prop}{δ:Dst}{Q Q':VK}{a b:Expr}{pos p:Pos}{fa fb fc:Dst->R (Bool×D)}
def Sem1(W:Wd)(r:List V->Hp->VK->Prop)(g:D->R (Bool×D)):Prop :=
 ∀(lk:Bool)(P:Addr->Prop)(H:Hp)(x:V)(dx:D)(Q:VK)(w:Bool)(d:D),Soft H P->(∀a,P a->∃o,H a=Z_ o)->RepT W H (vis H P) dx x->g dx=.ok (w,d) ->
  (∀v H',Same H H'->Res W P lk H H' w d v->Q v H')->r [x] H Q
def sr(g:D->R (Bool×D)):Prop:=∀x c,g x≠.exc c
def Er{r:List V->Hp->VK->Prop}{g:D->R (Bool×D)}(hs:Sem1 W r g)(hn:sr g){σ:L2.St}{H:Hp}{Q:VK}(h:tD X W lk (fun δ=>(fa δ).bind λx=>g x.2) σ H Q) :
 tCB r (KC (tD X W ZX fa) tNil) σ H Q:=by
 obtain⟨me,B,δ,S,h⟩:=tD_iff.mp h
 refine tD.mono (part S h) λv H1 ⟨r1,e1,S1,s1,t1,_,h1⟩=>?_
 show r [v] H1 Q
 cases e:g r1.2 with
 | ok r'=>
   rw[e]at h1;exact hs lk (Hid B σ δ) H1 v r1.2 Q r'.1 r'.2 S1.softH S1.know t1 e h1
 | exc c=>exact absurd e (hn _ _)
 | stuck=>rw[e]at h1;exact h1.elim
def d_b1{id:String}{x:Str}{r:List V->Hp->VK->Prop}{g:D->R (Bool×D)}(hc:CallR X (.builtin id) r)(hs:Sem1 W r g)(hn:sr g)(hg:Gl X x)(hm:X.mg x=ZW)(hv:Tr x=Z_ (.builtin id))(ha:PE X a (tD X W ZX fa))
 (hx:x≠"__name__")(hdb:(x==("__debug__":Str))=ZZ)(he:R3 [a] X.env=[(ZZ,S8 a X.env)]):PE X (.Call (.Name x p) [a] [] pos) (tD X W lk fun δ=>(fa δ).bind λx=>g x.2) :=
 PE.imp (mC hc hg hm hv (bT ha dZ he) hx hdb he rfl) λ_ _ _ h=>Er hs hn h
def Od{id:String}{x:Str}{r:List V->Hp->VK->Prop}{g:D->R (Bool×D)}(hc:CallR X (.type id) r)(hs:Sem1 W r g)(hn:sr g)(hg:Gl X x)(hm:X.mg x=ZW)(hv:Tr x=Z_ (.type id))(ha:PE X a (tD X W ZX fa))
 (hx:x≠"__name__")(hdb:(x==("__debug__":Str))=ZZ)(he:R3 [a] X.env=[(ZZ,S8 a X.env)]):PE X (.Call (.Name x p) [a] [] pos) (tD X W lk fun δ=>(fa δ).bind λx=>g x.2) :=
 PE.imp (yw hc hg hm hv (bT ha dZ he) hx hdb he rfl) λ_ _ _ h=>Er hs hn h
def lA(b:B1):sr (b1D b):=by
 intro x c
 cases b<;>simp only[b1D]<;>first
  | exact fB
  | (cases x<;>simp[Xz]<;>first | exact fB | (split<;>simp) | skip)
def Gy:Sem1 W (λxs H Q=>∃i,xs=[.int i]/\Q (.int (if i<0 then -i else i)) H) (b1D .abs):=by
 intro lk P H x dx Q w d hS hK hx e k;cases dx<;>simp only[b1D]at e<;>cases e;exact⟨_,by rw[aV hx],k _ H (Same.refl H) dF⟩
def Jm(hk:W.K=X.K):Sem1 W (λxs H Q=>((∃p ys,xs=[.ref p]/\(SqL X.K H p ys\/SqT X.K H p ys)/\Q (.int ys.length) H)\/(∃z,xs=[.str z]/\z.length<=sizeLine/\Q (.int z.length) H))\/(∃a kvs ep,xs=[V.ref a]/\H a=Z_ (.dK kvs ep)/\Q (.int kvs.length) H)) (b1D .len):=by
 intro lk P H x dx Q w d hS hK hx e k;cases dx<;>simp only[b1D]at e<;>cases e
 .obtain⟨rfl,hl⟩:=bz hx
  rename_i s;refine .inl (.inr ⟨_,rfl,by simpa[strV,Str.length,Th]using hl,?_⟩)
  have e1:((strV s).length:Int)=(s.length:Int):=by simp[strV,Str.length]
  rw[e1];exact k _ H (Same.refl H) dF
 .simp only[RepT,Rep]at hx
  obtain⟨a,xs,rfl,h1,h2⟩:=hx;refine .inl (.inl ⟨a,xs,rfl,.inr (hk▸aU bw h1),?_⟩);rw[<-h2.length];exact k _ H (Same.refl H) dF
 .obtain⟨a,xs,rfl,h1,h2⟩:=hx
  refine .inl (.inl ⟨a,xs,rfl,.inl (hk▸h1),?_⟩);rw[<-h2.length];exact k _ H (Same.refl H) dF
 .obtain⟨a,kvs,rfl,⟨ep,h1⟩,h2,h3,h4⟩:=hx
  refine .inr ⟨a,kvs,ep,rfl,h1,?_⟩;have:=congrArg Sx h2;simp only[R5]at this;rw[this];exact k _ H (Same.refl H) dF
def iR{α:Type}{n:Nat}{i:Int}{j:Nat}(h:place n i=Z_ j):ixN n i=Z_ j:=by
 unfold place at h;unfold ixN
 by_cases h0:0<=i
 .rw[if_pos h0]at h ⊢;exact h
 .rw[if_neg h0]at h ⊢
  by_cases h1:0<=i+n
  .rw[if_pos h1]at h;rw[if_pos (by omega)];exact h
  .rw[if_neg h1]at h;cases h
def ul:gJ idxD:=by
 intro x y c
 cases x<;>cases y<;>simp only[idxD]<;>first | exact fB | simp
def dI{α β:Type}{x:Option Nat}{f:Nat->Option α}{g:α->β}{y:β}(h:(x.bind λn=>(f n).map g)=Z_ y):∃n z,x=Z_ n/\f n=Z_ z/\g z=y:=by
 cases x with
 | none=>cases h
 | some n=>
   cases e:f n with
   | none=>simp[e]at h
   | some z=>simp[e]at h;exact⟨n,z,rfl,e,h⟩
def rIx(K:QK):R2:=λx y H Q=>(rIxL K x y H Q\/rIxT K x y H Q)\/rIxS x y H Q
def M5:IxR X (rIx X.K):=IxR.or (IxR.or Ha LK) wL
noncomputable def jT(a i:D):R (Bool×D):=match a with
 | .dct _ _=>.stuck
 | _=>idxD a i
def Gi(hk:W.K=X.K):Sem2 W (rIx X.K) jT:=by
 intro lk P H x y dx dy Q w d hS hK hx hy e k
 cases dx<;>cases dy<;>first | exact nope e | exact iH e | simp only[jT,idxD]at e
 .obtain⟨n,z,h1,h2,h3⟩:=dI (of_ok e)
  cases h3;obtain⟨rfl,hl⟩:=bz hx;rename_i s j;refine .inr ⟨strV s,j,z,rfl,aV hy,by simpa[strV,Str.length,Th]using hl,?_,?_⟩
  .unfold atI
   rw[iR (α:=Nat) (n:=(strV s).cps.toList.length) (by simpa[strV]using h1)];simpa[strV]using h2
  .exact k _ H (Same.refl H) (pP (i:=[z]) (by simp))
 .obtain⟨n,z,h1,h2,h3⟩:=dI (of_ok e)
  cases h3;simp only[RepT,Rep]at hx;obtain⟨a,xs,rfl,q1,q2⟩:=hx;obtain⟨v,e1,e2⟩:=q2.get h2;refine .inl (.inr ⟨a,xs,_,v,rfl,aV hy,hk▸aU bw q1,?_,k v H (Same.refl H) (.shared e2)⟩);unfold atI;rw[iR (α:=V) (by rw[<-q2.length];exact h1)];exact e1
 .obtain⟨n,z,h1,h2,h3⟩:=dI (of_ok e)
  cases h3;obtain⟨a,xs,rfl,q1,q2⟩:=hx;obtain⟨v,e1,e2⟩:=q2.get h2;refine .inl (.inl ⟨a,xs,_,v,rfl,aV hy,hk▸q1,?_,k v H (Same.refl H) (.shared e2)⟩);unfold atI;rw[iR (α:=V) (by rw[<-q2.length];exact h1)];exact e1
def yz(n:Nat)(d:Nat)(i:Int):HT.sIx n d (Z_ i)=clip n i:=by
 unfold clip;show(if i<0 then(i+(n:Int)).toNat else min i.toNat n)=_
 by_cases h:0<=i
 .rw[if_neg (by omega),if_pos h]
 .rw[if_pos (by omega),if_neg h]
def EY{α:Type}(l:List α)(p q:Nat):cut l p q=(l.drop p).take (q-p):=by
 unfold cut;rw[List.drop_take]
def IsO(t:T)(e:Option Expr)(X:Cx)(W:Wd)(o:Orc):Prop:=(e=ZW/\t=.cst .non)\/∃e',e=Z_ e'/\t≠.cst .non/\∀lk,PE X e' (tD X W lk fun δ=>ev o δ lk t)
def tO(X:Cx)(W:Wd)(o:Orc)(t:T):TO:=fun σ H C=>∃me B δ,SR X W me B H σ δ/\match(ev o δ ZX t).bind (λy=>Xu (bnd t y.2))with
 | .ok oi=>∀H',Same H H'->C oi H'
 | .exc c=>EW X W σ H c
 | .stuck=>False
def PO.imp{e:Option Expr}{t t':TO}(h:PO X e t)(i:∀σ H Q,t' σ H Q->t σ H Q):PO X e t':=λpins s σ H Q I hw=>h pins s σ H Q I (i σ H Q hw)
def GQ{t:T}{d:D}{oi:Option Int}(ht:t≠.cst .non)(h:bnd t d=Z_ oi):∃i,d=.int i/\oi=Z_ i:=by
 unfold bnd at h;split at h
 .exact absurd rfl ht
 .cases d<;>simp at h
  exact⟨_,rfl,h.symm⟩
def d_po{t:T}{e:Option Expr}{o:Orc}(h:IsO t e X W o):PO X e (tO X W o t):=by
 rcases h with⟨rfl,rfl⟩ | ⟨e',rfl,ht,h⟩
 .refine PO.imp GP fun σ H C ⟨me,B,δ,S,h⟩=>?_
  simp only[ev,Xr,bnd,Xu]at h;exact h H (Same.refl H)
 .refine PO.imp (HB (h ZX)) fun σ H C ⟨me,B,δ,S,h⟩=>?_
  refine tD_iff.mpr ⟨me,B,δ,S,?_⟩
  cases e:ev o δ ZX t with
  | ok r=>
    rw[e]at h;have h:(match Xu (bnd t r.2)with | .ok oi=>∀H',Same H H'->C oi H' | .exc c=>EW X W σ H c | .stuck=>False):=h
    cases e2:bnd t r.2 with
    | none=>rw[e2]at h;exact h.elim
    | some oi=>
      rw[e2]at h;obtain⟨i,h1,rfl⟩:=GQ ht e2;intro v H' s q;have q':=q.look;rw[h1]at q';exact⟨i,aV q',h H' s⟩
  | exc c=>rw[e]at h;exact h
  | stuck=>rw[e]at h;exact h
def tO.mono{o:Orc}{t:T}{C C':Option Int->Hp->Prop}(h:tO X W o t σ H C)(k:∀oi H',C oi H'->C' oi H'):tO X W o t σ H C':=by
 obtain⟨me,B,δ,S,h⟩:=h;refine⟨me,B,δ,S,?_⟩
 cases e:(ev o δ ZX t).bind (λy=>Xu (bnd t y.2))with
 | ok oi=>rw[e]at h;exact λH' s=>k _ _ (h H' s)
 | exc c=>rw[e]at h;exact h
 | stuck=>rw[e]at h;exact h
def QH{o:Orc}{t:T}{g:Bool×D->R (Bool×D)}{g':Option Int->R (Bool×D)}(hg:∀r,g r=(Xu (bnd t r.2)).bind g')(S:SR X W me B H σ δ)(h:After X W lk σ H (Hid B σ δ) ((ev o δ ZX t).bind g) Q) :
 tO X W o t σ H λoi H1=>SR X W me B H1 σ δ/\Same H H1/\After X W lk σ H1 (Hid B σ δ) (g' oi) Q:=by
 refine⟨me,B,δ,S,?_⟩
 cases e:ev o δ ZX t with
 | ok r=>
   rw[e]at h;have h:After X W lk σ H (Hid B σ δ) (g r) Q:=h;rw[hg]at h;show(match Xu (bnd t r.2)with | .ok oi=>∀H',Same H H'->SR X W me B H' σ δ/\Same H H'/\After X W lk σ H' (Hid B σ δ) (g' oi) Q | .exc c=>EW X W σ H c | .stuck=>False)
   cases e2:bnd t r.2 with
   | none=>rw[e2]at h;exact h.elim
   | some oi=>rw[e2]at h;exact λH' s=>⟨S.mono s,s,After.mono h s⟩
 | exc c=>rw[e]at h;exact h
 | stuck=>rw[e]at h;exact h
theorem Reps.cut{G:Hp}{l:List D}{vs:List V}(h:Reps W G l vs)(p q:Nat):Reps W G (cut l p q) (cut vs p q):=(h.take q).drop p
def jC{P:Addr->Prop}{q:Addr}{l:List D}{xs:List V}(hn:H q=ZW)(h:Reps W (vis H P) l xs)(hP:∀a,P a->∃o,H a=Z_ o):Res W P lk H (upd H q (.lst xs)) ZX (.lst l) (.ref q):=by
 unfold Res;rw[if_pos rfl];refine⟨q,rfl,hn,xs,bA,h.mono λb o e=>?_⟩;obtain⟨e1,e2⟩:=bK e;have hb:b≠q:=bJ e1 hn
 refine bQ (by rw[aX hb];exact e1) λz=>?_
 rcases z with z | z
 .exact e2 z
 .exact hb z
def gq{P:Addr->Prop}{q:Addr}{l:List D}{xs:List V}(hn:H q=ZW)(h:Reps W (vis H P) l xs)(hP:∀a,P a->∃o,H a=Z_ o):Res W P lk H (upd H q (.tup xs)) ZZ (.tup l) (.ref q):=by
 refine .shared ?_;simp only[Rep]
 have nP:¬P q:=λz=>by obtain⟨o,e⟩:=hP q z;rw[hn]at e;cases e
 refine⟨q,xs,rfl,.inl (.inl (bQ bA nP)),h.mono λb o e=>?_⟩;obtain⟨e1,e2⟩:=bK e;exact bQ (by rw[aX (bJ e1 hn)];exact e1) e2
def SemS(W:Wd)(r:V->Option Int->Option Int->Hp->VK->Prop)(g:D->Option Int->Option Int->Option (Bool×D)):Prop :=
 ∀(lk:Bool)(P:Addr->Prop)(H:Hp)(x:V)(dx:D)(lo hi:Option Int)(Q:VK)(w:Bool)(d:D),Soft H P->(∀a,P a->∃o,H a=Z_ o)->RepT W H (vis H P) dx x->g dx lo hi=Z_ (w,d) ->
  (∀v H',Same H H'->Res W P lk H H' w d v->Q v H')->r x lo hi H Q
def Fo{α β:Type}(x:Option α)(f:α->Option β):Xu (x.bind f)=(Xu x).bind λa=>Xu (f a):=by cases x<;>rfl
def Qc{o:Orc}{tl th:T}{lo hi:Option Expr}{p2:Pos}{r:V->Option Int->Option Int->Hp->VK->Prop}{g:D->Option Int->Option Int->Option (Bool×D)}(hr:SlR X r)(hs:SemS W r g)(ha:PE X a (tD X W ZX fa))(hl:IsO tl lo X W o)(hh:IsO th hi X W o) :
 PE X (.Subscript a (.Slice lo hi none p2) pos) (tD X W lk fun δ=>(fa δ).bind λx=>(ev o δ ZX tl).bind λy=>(ev o δ ZX th).bind λz=>.of ((bnd tl y.2).bind λl=>(bnd th z.2).bind λh=>g x.2 l h)):=by
 refine PE.imp (Aq hr ha (d_po hl) (d_po hh)) fun σ H Q h=>?_
 obtain⟨me,B,δ,S,h⟩:=tD_iff.mp h
 refine tD.mono (part S h) λv H1 ⟨r1,e1,S1,s1,t1,_,h1⟩=>?_
 refine⟨me,B,δ,S1,?_⟩
 cases e2:ev o δ ZX tl with
 | ok y=>
   rw[e2]at h1;have h1:After X W lk σ H1 (Hid B σ δ) ((ev o δ ZX th).bind λz=>.of ((bnd tl y.2).bind λl=>(bnd th z.2).bind λh=>g r1.2 l h)) Q:=h1;show(match Xu (bnd tl y.2)with | .ok oi=>∀H',Same H1 H'->tO X W o th σ H' λu H3=>r v oi u H3 Q | .exc c=>EW X W σ H1 c | .stuck=>False)
   cases e3:bnd tl y.2 with
   | none=>
     rw[e3]at h1
     cases e4:ev o δ ZX th with
     | ok z=>rw[e4]at h1;exact h1.elim
     | exc c=>rw[e4]at h1;exact h1.elim
     | stuck=>rw[e4]at h1;exact h1.elim
   | some l=>
     rw[e3]at h1;intro H2 s2;have h2:After X W lk σ H2 (Hid B σ δ) ((ev o δ ZX th).bind λz=>.of ((bnd th z.2).bind λh=>g r1.2 l h)) Q:=After.mono h1 s2
     refine tO.mono (QH (g':=λh=>Xu (g r1.2 l h)) (λr=>Fo _ _) (S1.mono s2) h2) λu H3 ⟨S3,s3,h3⟩=>?_
     cases e5:g r1.2 l u with
     | none=>rw[e5]at h3;exact h3.elim
     | some q=>
       rw[e5]at h3;exact hs lk (Hid B σ δ) H3 v r1.2 l u Q q.1 q.2 S3.softH S3.know (t1.mono (s2.trans s3) (au (s2.trans s3))) e5 h3
 | exc c=>rw[e2]at h1;exact h1.elim
 | stuck=>rw[e2]at h1;exact h1.elim
def rSlS:V->Option Int->Option Int->Hp->VK->Prop:=λx lo hi H Q=>∃z:Str,x=.str z/\z.length<=sizeLine/\Q (.str (U7 z lo hi)) H
def JH:SlR X rSlS:=by
 intro pins s σ H x v vl vu lo hi sl Q I rx hs pl pu h;obtain⟨z,rfl,hz,q⟩:=h;obtain⟨t,rfl⟩:=rx;refine⟨"str",_,PySem.F.slot_str_getitem.lookup,typeIs_str _ _ _,?_⟩
 cases pl with
 | none=>
   cases pu with
   | none=>exact Vg (l:=ZW) (u:=ZW) (st:=ZW) hs rfl (Wb ⟨RP (Vn z none none) hz,λt' k=>⟨.str (U7 z none none),H,I.tok _,⟨t',rfl⟩,q⟩⟩)
   | int j tj=>exact Vg (l:=ZW) (u:=Z_ (j,tj)) (st:=ZW) hs rfl (Wb ⟨RP (Vn z none (Z_ j)) hz,λt' k=>⟨.str (U7 z none (Z_ j)),H,I.tok _,⟨t',rfl⟩,q⟩⟩)
 | int i ti=>
   cases pu with
   | none=>exact Vg (l:=Z_ (i,ti)) (u:=ZW) (st:=ZW) hs rfl (Wb ⟨RP (Vn z (Z_ i) none) hz,λt' k=>⟨.str (U7 z (Z_ i) none),H,I.tok _,⟨t',rfl⟩,q⟩⟩)
   | int j tj=>exact Vg (l:=Z_ (i,ti)) (u:=Z_ (j,tj)) (st:=ZW) hs rfl (Wb ⟨RP (Vn z (Z_ i) (Z_ j)) hz,λt' k=>⟨.str (U7 z (Z_ i) (Z_ j)),H,I.tok _,⟨t',rfl⟩,q⟩⟩)
def wL(l u:Option Int)(n:Nat):Sh.Str.strSliceIndices l u 1 n=(Ru (bW n u-dU n l)).map λk=>dU n l+k:=by
 have cl:∀i:Int,max 0 (min (if i<0 then i+(n:Int)else i) (n:Int))=((clip n i:Nat):Int):=λi=>by
  unfold clip
  by_cases h:i<0
  .rw[if_pos h,if_neg (by omega)];omega
  .rw[if_neg h,if_pos (by omega)];omega
 have e:Sh.Str.strSliceIndices l u 1 n=sliceRange (dU n l:Int) (bW n u:Int) 1:=by
  unfold Sh.Str.strSliceIndices;cases l<;>cases u<;>simp only[show(1:Int)>0 by decide,if_true,cl,dU,bW]<;>rfl
 rw[e];generalize dU n l=p;generalize bW n u=q;unfold sliceRange;simp only[show(1:Int)>0 by decide,if_true]
 by_cases h:(p:Int)<q
 .have:(((q:Int)-p+1-1)/1).toNat=q-p:=by rw[Int.ediv_one];omega
  rw[if_pos h,this]
  exact List.map_congr_left λk _=>by omega
 .rw[if_neg h,show q-p=0 by omega];rfl
def yM(x:List Nat)(l u:Option Int):U7 (strV x) l u=strV (cut x (dU x.length l) (bW x.length u)):=by
 have hn:(strV x).length=x.length:=by simp[strV,Str.length]
 have hh:bW x.length u<=x.length:=by
  cases u with
  | none=>exact Ra _
  | some i=>show clip x.length i<=x.length;unfold clip;split<;>omega
 unfold U7;rw[wL,hn,EY];generalize dU x.length l=p;generalize bW x.length u=q at hh;split
 .rename_i h
  simp only[BEq.rfl,Wi,beq_iff_eq,R5,List.length_range]at h
  have hx:x.length=0\/(p=0/\q=x.length):=by omega
  rcases hx with hx | ⟨rfl,rfl⟩
  .have:x=[]:=List.length_eq_zero_iff.mp hx
   subst this;simp
  .simp
 .congr 1
  by_cases hp:p<=q
  .have:=PySem.StrLaws.picks x (q-p) p (by omega)
   simpa[strV]using congrArg List.toArray this
  .rw[show q-p=0 by omega];simp
def rSl(K:QK):V->Option Int->Option Int->Hp->VK->Prop:=λx lo hi H Q=>(rSlL K x lo hi H Q\/rSlT K x lo hi H Q)\/rSlS x lo hi H Q
def La:SlR X (rSl X.K):=SlR.or (SlR.or Fw KZ) JH
def DP(n:Nat)(o:Option Int):HT.sIx n 0 o=dU n o:=by cases o with | none=>rfl | some i=>exact yz n 0 i
def yI(n:Nat)(o:Option Int):HT.sIx n n o=bW n o:=by cases o with | none=>rfl | some i=>exact yz n n i
def yK(xs:List V)(lo hi:Option Int):cutV xs lo hi=cut xs (dU xs.length lo) (bW xs.length hi):=by
 unfold cutV;rw[DP,yI,EY]
def Ge(hk:W.K=X.K):SemS W (rSl X.K) slcD:=by
 intro lk P H x dx lo hi Q w d hS hK hx e k
 cases dx<;>first | exact nope e | exact iH e | simp only[slcD]at e
 .cases e
  obtain⟨rfl,hl⟩:=bz hx;refine .inr ⟨strV _,rfl,by simpa[strV,Str.length,Th]using hl,?_⟩;rw[yM];exact k _ _ (Same.refl _) (.shared (by simp only[Rep];exact⟨trivial,RP (by unfold cut;simp;omega) hl⟩))
 .split at e
  .cases e
  .rename_i hne
   cases e;simp only[RepT,Rep]at hx;obtain⟨a,xs,rfl,q1,q2⟩:=hx;refine .inl (.inr ⟨a,xs,rfl,hk▸aU bw q1,?_,λp hp=>?_⟩)
   .rw[DP,yI,<-q2.length];exact hne
   .rw[yK,<-q2.length]
    exact k _ _ (Same.upd hp) (gq hp (q2.cut _ _) hK)
 .cases e
  obtain⟨a,xs,rfl,q1,q2⟩:=hx;refine .inl (.inl ⟨a,xs,rfl,hk▸q1,λp hp=>?_⟩);rw[yK,<-q2.length];exact k _ _ (Same.upd hp) (jC hp (q2.cut _ _) hK)
noncomputable def cX:Ty->Option String
 | .int=>some "int"
 | .bool=>some "bool"
 | .str=>some "str"
 | .tup=>some "tuple"
 | .lst=>some "list"
 | .dct=>some "dict"
 | _=>none
end
section
variable{X:Cx}{W:Wd}{lk lk':Bool}{σ:L2.St}{H H1 H':Hp}{me:Option Addr}{B:Addr->Prop}{δ:Dst}{Q Q':VK}{a b:Expr}{pos p:Pos}{fa fb fc:Dst->R (Bool×D)}
def TyS(K:QK)(H:Hp)(x:V)(t:String):Prop:=match x with
 | .non=>t="NoneType"
 | .bl _=>t="bool"
 | .int _=>t="int"
 | .str _=>t="str"
 | .ref a=>(t="list"/\∃xs,SqL K H a xs)\/(t="tuple"/\∃xs,SqT K H a xs)\/(t="dict"/\∃kvs,IsK H a kvs)
 | _=>False
def Hn:CallR X (.builtin "isinstance") (λxs H Q=>∃x T t b,xs=[x,.ty T]/\TyS X.K H x t/\PySem.W.kitOne X.K (.type t) (.type T)=Z_ b/\Q (.bl b) H):=by
 intro pins s σ H xs us Q I r h;obtain⟨x,T,t,b,rfl,ty,e,q⟩:=h
 cases r with
 | cons rx r2=>
   cases r2 with
   | cons rT r3=>
     cases r3;cases (show _=Value.type T from rT)
     have fin:∀tk,EP X pins σ Q (.bool b) { s with toks:=tk }:=λtk=>⟨.bl b,H,I.tok _,rfl,q⟩
     cases x with
     | non=>cases (show _=Value.none from rx);cases (show t="NoneType" from ty);exact U9 PySem.W.kitx_none I.kIn Ur e (λz=>nomatch z) fin
     | bl y=>cases (show _=Value.bool y from rx);cases (show t="bool" from ty);exact U9 PySem.W.kitx_bool I.kIn Ur e (λz=>nomatch z) fin
     | int i=>obtain⟨tk,q⟩:=(show ∃t,_=Value.int i t from rx);cases q;cases (show t="int" from ty);exact U9 PySem.W.kitx_int I.kIn Ur e (λz=>nomatch z) fin
     | str y=>obtain⟨tk,q⟩:=(show ∃t,_=Value.str y t from rx);cases q;cases (show t="str" from ty);exact U9 PySem.W.kitx_str I.kIn Ur e (λz=>nomatch z) fin
     | ref a=>
       cases (show _=Value.ref a from rx);rcases(show(t="list"/\∃xs,SqL X.K H a xs)\/(t="tuple"/\∃xs,SqT X.K H a xs)\/(t="dict"/\∃kvs,IsK H a kvs)from ty)with⟨rfl,xs,h⟩ | ⟨rfl,xs,h⟩ | ⟨rfl,kvs,ep,h⟩
       .obtain⟨its,_,pl,_⟩:=I.list h
        obtain⟨o,ho,hc,_⟩:=pl.isList;exact U9 PySem.W.kitx_list I.kIn ⟨o,ho,hc⟩ e (λz=>nomatch z) fin
       .obtain⟨its,_,pl,_⟩:=I.tuple h
        obtain⟨o,ho,hc,_⟩:=pl;exact U9 PySem.W.kitx_tuple I.kIn ⟨o,ho,hc⟩ e (λz=>nomatch z) fin
       .obtain⟨_,_,vs,_,p⟩:=(show ObjOk X.prog X.w H s.heap a (.dK kvs ep)from I.hok a _ h)
        obtain⟨o,es,h1,h2,_⟩:=p;exact U9 PySem.W.kitx_dict I.kIn ⟨o,h1,h2.1⟩ e (λz=>nomatch z) fin
     | _=>exact(show False from ty).elim
noncomputable def subB(t T:String):Bool:=t==T||(t=="bool"&&T=="int")
def Hh(K:QK):∀t∈["NoneType","bool","int","str","list","tuple","dict"],∀T∈["int","bool","str","tuple","list","dict"],PySem.W.kitOne K (.type t) (.type T)=Z_ (subB t T):=by
 intro t ht T hT;simp only[R8,Ti,or_false]at ht hT;rcases ht with rfl | rfl | rfl | rfl | rfl | rfl | rfl<;>rcases hT with rfl | rfl | rfl | rfl | rfl | rfl<;>(with_unfolding_all rfl)
def MT{ty:Ty}{T:String}(h:cX ty=Z_ T):T∈["int","bool","str","tuple","list","dict"]:=by
 cases ty<;>simp[cX]at h<;>subst h<;>simp
def K4{o:Orc}{ty:Ty}{T:String}{d:D}{b:Bool}{v:V}(hk:W.K=X.K)(hT:cX ty=Z_ T)(h:RepT W H (vis H B) d v)(e:isD o ty d=Z_ b):∃t,TyS X.K H v t/\t∈["NoneType","bool","int","str","list","tuple","dict"]/\subB t T=b:=by
 cases d with
 | non=>
   simp only[RepT,Rep]at h;subst h;refine⟨"NoneType",rfl,by simp,?_⟩;cases ty<;>simp[cX]at hT<;>subst hT<;>simp[isD]at e<;>subst e<;>rfl
 | bl x=>
   simp only[RepT,Rep]at h;subst h;refine⟨"bool",rfl,by simp,?_⟩;cases ty<;>simp[cX]at hT<;>subst hT<;>simp[isD]at e<;>subst e<;>rfl
 | int x=>
   simp only[RepT,Rep]at h;subst h;refine⟨"int",rfl,by simp,?_⟩;cases ty<;>simp[cX]at hT<;>subst hT<;>simp[isD]at e<;>subst e<;>rfl
 | str x=>
   obtain⟨rfl,_⟩:=bz h;refine⟨"str",rfl,by simp,?_⟩;cases ty<;>simp[cX]at hT<;>subst hT<;>simp[isD]at e<;>subst e<;>rfl
 | tup l=>
   simp only[RepT,Rep]at h;obtain⟨a,xs,rfl,h1,h2⟩:=h;refine⟨"tuple",.inr (.inl ⟨rfl,xs,hk▸aU bw h1⟩),by simp,?_⟩;cases ty<;>simp[cX]at hT<;>subst hT<;>simp[isD]at e<;>subst e<;>rfl
 | lst l=>
   obtain⟨a,xs,rfl,h1,h2⟩:=h;refine⟨"list",.inl ⟨rfl,xs,hk▸h1⟩,by simp,?_⟩;cases ty<;>simp[cX]at hT<;>subst hT<;>simp[isD]at e<;>subst e<;>rfl
 | dct ks vs=>
   obtain⟨a,kvs,rfl,h1,h2⟩:=h;refine⟨"dict",.inr (.inr ⟨rfl,kvs,h1⟩),by simp,?_⟩;cases ty<;>simp[cX]at hT<;>subst hT<;>simp[isD]at e<;>subst e<;>rfl
 | obj c ns vs=>cases ty<;>simp[cX]at hT<;>simp[isD]at e
 | err c=>cases ty<;>simp[cX]at hT<;>simp[isD]at e
def Kz{o:Orc}{ty:Ty}{T:String}{tn:Str}{p2:Pos}(hk:W.K=X.K)(hT:cX ty=Z_ T)(hg:Gl X "isinstance")(hm:X.mg "isinstance"=ZW)(hg2:Gl X tn)(hm2:X.mg tn=ZW)(hv2:Tr tn=Z_ (.type T))(hx2:tn≠"__name__")(hd2:(tn==("__debug__":Str))=ZZ)
 (ha:PE X a (tD X W ZX fa))(he:R3 [a,.Name tn p2] X.env=(ZZ,S8 a X.env)::R3 [.Name tn p2] X.env) :
 PE X (.Call (.Name "isinstance" p) [a,.Name tn p2] [] pos) (tD X W lk fun δ=>(fa δ).bind λx=>.of ((isD o ty x.2).map λt=>(ZZ,.bl t))):=by
 refine PE.imp (mC Hn hg hm PyProof.Rows.boot_isinstance (bT ha (bT (Hb (v:=.ty T) hg2 hm2 hv2 rfl hx2 hd2) dZ) he) (by decide) (by decide) he rfl) fun σ H Q h=>?_
 obtain⟨me,B,δ,S,h⟩:=tD_iff.mp h
 refine tD.mono (part S h) λv H1 ⟨r1,e1,S1,s1,t1,_,h1⟩=>?_
 cases e:isD o ty r1.2 with
 | none=>rw[e]at h1;exact h1.elim
 | some b=>
   rw[e]at h1;obtain⟨t,h2,h3,h4⟩:=K4 hk hT t1 e;exact⟨v,T,t,b,rfl,h2,by rw[Hh _ t h3 T (MT hT),h4],h1 _ H1 (Same.refl _) dq⟩
def TgOk(X:Cx)(W:Wd)(tg:Expr)(is:List Nat)(tup:Bool)(g:TG):Prop:=PG X tg g /\
 ∀{me:Option Addr} {B:Addr->Prop} {σ:L2.St} {H:Hp} {δ δ1:Dst} {d:D} {ds:List D} {v:V} {C:L2.St->Hp->Prop},SR X W me B H σ δ->Rep W (vis H (Hid B σ δ)) d v->takes is.length tup d=Z_ ds->aM δ is ds=Z_ δ1 ->
  (∀σ1,SR X W me B H σ1 δ1->Same (vis H (Hid B σ δ)) (vis H (Hid B σ1 δ1))->C σ1 H)->g v σ H C
def yq(S:SR X W me B H σ δ)(r:Rep W (vis H (Hid B σ δ)) d v)(e:setSlot δ i ZZ d=Z_ δ1):SR X W me B H (σ.set i (Z_ v)) δ1/\Same (vis H (Hid B σ δ)) (vis H (Hid B (σ.set i (Z_ v)) δ1)):=by
 obtain⟨h1,rfl⟩:=fC e;exact S.store (w:=ZZ) (Same.refl H) (.shared r) h1
def G4(hN:X.N.Nodup)(hi:X.N[i]?=Z_ x)(hx:Loc X.env.scope x)(hf:X.fn x=ZX\/X.env.scope.names.lookup x=Z_ .local):TgOk X W (.Name x pos) [i] ZZ (tY i):=by
 refine⟨mH hN hi hx hf,λ{me B σ H δ δ1 d ds v C} S r e1 e2 k=>?_⟩;simp only[takes,QW,if_false,QX]at e1;subst e1;simp only[aM]at e2
 cases e3:setSlot δ i ZZ d with
 | none=>rw[e3]at e2;cases e2
 | some δ'=>
   rw[e3]at e2;cases e2;obtain⟨S1,s1⟩:=yq S r e3;exact k _ S1 s1
def fL:List Nat->TGs
 | []=>gNil
 | i::l=>Lr (tY i) (fL l)
theorem fY:∀{is:List Nat} {ds:List D} {vs:List V} {σ:L2.St} {δ δ1:Dst},SR X W me B H σ δ->Reps W (vis H (Hid B σ δ)) ds vs->aM δ is ds=Z_ δ1 ->
 (∀σ1,SR X W me B H σ1 δ1->Same (vis H (Hid B σ δ)) (vis H (Hid B σ1 δ1))->C σ1 H)->fL is vs σ H C
 | [],[],[],σ,δ,δ1,S,r,e,k=>by
   simp only[aM,QX]at e;subst e;exact⟨rfl,k σ S (Same.refl _)⟩
 | [],[],_::_,_,_,_,_,r,_,_=>by simp only[Reps]at r
 | [],_::_,_,_,_,_,_,_,e,_=>by simp[aM]at e
 | _::_,[],_,_,_,_,_,_,e,_=>by simp[aM]at e
 | _::_,_::_,[],_,_,_,_,r,_,_=>by simp only[Reps]at r
 | i::is,d::ds,v::vs,σ,δ,δ1,S,r,e,k=>by
   simp only[Reps]at r;simp only[aM]at e
   cases e3:setSlot δ i ZZ d with
   | none=>rw[e3]at e;cases e
   | some δ'=>
     rw[e3]at e;obtain⟨S1,s1⟩:=yq S r.1 e3;exact⟨v,vs,rfl,fY S1 (r.2.mono s1) e fun σ1 S2 s2=>k σ1 S2 (s1.trans s2)⟩
def Kw(hk:W.K=X.K)(hc:X.calm=ZX)(h:PGs X es (fL is))(hn:(T7 es X.env).length=is.length)(hst:(T7 es X.env).findIdx? (·.1)=ZW):TgOk X W (.Tuple es kk pos) is ZX (gTup X.K is.length (fL is)):=by
 refine⟨Ej hc h hn hst,λ{me B σ H δ δ1 d ds v C} S r e1 e2 k=>?_⟩;simp only[takes,if_true]at e1
 cases d with
 | tup l=>
   simp only at e1;split at e1
   .rename_i hl
    cases e1;simp only[Rep]at r;obtain⟨a,xs,rfl,r1,r2⟩:=r;exact⟨a,xs,rfl,hk▸aU bw r1,by rw[<-r2.length];exact hl,fY S r2 e2 k⟩
   .cases e1
 | _=>simp at e1
def PI.or{tg e:Expr}{t t':L2.TI}(h:PI X tg e t)(h':PI X tg e t'):PI X tg e (fun σ H R=>t σ H R\/t' σ H R):=by
 intro pins s σ H R I q;rcases q with q | q
 .exact h pins s σ H R I q
 .exact h' pins s σ H R I q
noncomputable def cY(ds:List D)(n:Nat):Dst:=ds.map (λd=>some (Own.sh,d))++Ry n none
def cL{ds:List D}{n i:Nat}{w:Own}{d:D}(h:(cY ds n)[i]?=Z_ (Z_ (w,d))):w=.sh/\ds[i]?=Z_ d:=by
 unfold cY at h
 by_cases hi:i<ds.length
 .rw[S6 (by simpa using hi),RM]at h
  cases e:ds[i]? with
  | none=>rw[e]at h;cases h
  | some x=>rw[e]at h;cases h;exact⟨rfl,rfl⟩
 .rw[RT (by simpa using hi),V8]at h
  split at h<;>cases h
def jK{N:List Str}{vs:List V}{i:Nat}{v:V}(h:vs[i]?=Z_ v):(L2.start N vs)[i]?=Z_ (Z_ v):=by
 unfold L2.start;have hi:i<vs.length:=(R9.mp h).1;rw[S6 (by simpa using hi),RM,h]
 rfl
theorem SR.start{N:List Str}{ds:List D}{vs:List V}(hk:W.K=X.K)(h0:X.H₀=H)(hb:Soft H B)(hg:∀b,B b->∃o,H b=Z_ o)(hr:Reps W (vis H B) ds vs)(hl:vs.length<=N.length) :
 SR X W none B H (L2.start N vs) (cY ds (N.length-vs.length)):=by
 have hid:∀b,Hid B (L2.start N vs) (cY ds (N.length-vs.length)) b->B b:=λb hb=>by
  rcases hb with hb | ⟨i,⟨w,d,h1,h2⟩,_⟩
  .exact hb
  .exact absurd (cL h1).1 h2
 refine⟨hk,?_,λi d h=>?_,λi d h=>?_,λi d h=>?_,λi j a h1 _=>?_,λb o h _=>by rw[<-h0];exact h,hb,hg,λx h=>nomatch h⟩
 .unfold L2.start cY
  simp[hr.length]
 .obtain⟨v,e1,e2⟩:=hr.get (cL h).2
  exact⟨v,jK e1,e2.mono (aJ hid)⟩
 .exact absurd (cL h).1 (by decide)
 .exact absurd (cL h).1 (by decide)
 .obtain⟨⟨w,d,h1,h2⟩,_⟩:=h1
  exact absurd (cL h1).1 h2
end
section
variable{X:Cx}{W:Wd}{me:Option Addr}{B:Addr->Prop}{H H':Hp}{σ:L2.St}{δ:Dst}{E:Value->Shared->Prop}{s s':Shared}{cls:Value}{a:Addr}{tr:Bool}
theorem SR.wish(S:SR X W me B H σ δ):SR (X.wish E) W me B H σ δ:=⟨S.kf,S.len,S.sh,S.ow,S.mi,S.apart,S.same,S.soft,S.gone,S.live⟩
def SR.unwish(S:SR (X.wish E) W me B H σ δ):SR X W me B H σ δ:=⟨S.kf,S.len,S.sh,S.ow,S.mi,S.apart,S.same,S.soft,S.gone,S.live⟩
def Fly.unwish(F:Fly (X.wish E) H s cls a H' s' tr):Fly X H s cls a H' s' tr:=⟨F.os,F.bare,F.un,F.hok,F.newE,F.freeE,F.ff,F.fr,F.exc⟩
def PE.lift(h:PE X.nox e (tD X.nox W lk f)):PE X e (tD X W lk f):=PE.imp (PE.nox h) fun σ H Q q=>by
 obtain⟨me,B,δ,S,q⟩:=tD_iff.mp q;exact tD_iff.mpr ⟨me,B,δ,S.wish,q⟩
def PT.lift(h:PT X.nox e (tT X.nox W f)):PT X e (tT X W f):=PT.imp (PT.nox h) fun σ H Q ⟨me,B,δ,S,q⟩=>⟨me,B,δ,S.wish,q⟩
def PS.lift{st:Stmt}{g:Dst->SO}(h:PS X.nox st (tS X.nox W g))(hn:∀δ c δ',g δ≠.ex c δ'):PS X st (tS X W g):=by
 intro pins s σ H D I ⟨me,B,δ,S,q⟩
 refine Tp (h pins s σ H D (I.wish _) ⟨me,B,δ,S.wish,?_⟩) (λ_ _ q=>q.unwish) λ_ _ z=>Rr z
 cases e:g δ with
 | nx δ1=>rw[e]at q;exact fun σ H S z=>q σ H S.unwish z
 | bk δ1=>rw[e]at q;exact fun σ H S z=>q σ H S.unwish z
 | ct δ1=>rw[e]at q;exact fun σ H S z=>q σ H S.unwish z
 | rt w d δ1=>rw[e]at q;exact λv σ H S z=>q v σ H S.unwish z
 | ex c δ1=>exact absurd e (hn δ c δ1)
 | stuck=>rw[e]at q;exact q
def PSs.unw{st:List Stmt}{t:TS}(h:PSs (X.wish E) st t)(k:∀e s,E e s->X.xe e s):PSs X st t:=λpins s σ H D I hw=>
 Tp (h pins s σ H D (I.wish _) hw) (λ_ _ q=>q.unwish) λe s' z=>k e s' z
end
def CXZ(P:Rt)(w:RX)(base:Rc)(W:Wd):CXT:=λouter H s E e s'=>∃a c H',e=.ref a/\s'.os=s.os/\Vq s'.gens/\Un (frs outer) [] H H' s.heap s'.heap/\HOk P w H' s'.heap/\s.heap.get? a=ZW/\H' a=ZW /\
 ExcAt s'.heap s.heap H' a (.ref (W.CT c)) ZX/\Same H H'/\E (.ref (W.CT c)) (Z_ a) H'
def spEx(W:Wd)(g:List D->R (Bool×D))(np:Nat):Sp:=λvs H _ E=>vs.length=np/\∃B ds,Soft H B/\(∀b,B b->∃o,H b=Z_ o)/\Reps W (vis H B) ds vs/\∃c,g ds=.exc c/\∀a H',Same H H'->E (.ref (W.CT c)) a H'
def spB(W:Wd)(g:List D->R (Bool×D))(np:Nat):Sp:=λvs H Q E=>spFn W g np vs H Q E\/spEx W g np vs H Q E
section
variable{P:Rt}{w:RX}{K:QK}{mg:Str->Option Value}{base:Rc}{k:Nat}{f:Addr}{fd:Sw}{ps:List Str}{W:Wd}{g:List D->R (Bool×D)}{np:Nat}
def ok0(F:FnOk P w K mg base (CXZ P w base W) k f fd ps (spB W g np)):FnOk P w K mg base CX0 k f fd ps (spFn W g np):=by
 refine⟨λvs H Q E q=>F.len vs H Q E (.inl q),λA outer s H args us vs Q E hr he hb hv hs=>?_⟩
 refine Uj (F.run A outer s H args us vs Q E0 hr he hb hv (.inl hs)) λr s' q=>?_
 cases r with
 | ok fl=>cases fl<;>exact q
 | error e=>obtain⟨_,_,_,_,_,_,_,_,_,_,_,_,z⟩:=q;exact z.elim
end
section
variable{X:Cx}{W:Wd}{pins:List (Addr×Obj)}{σ:L2.St}{H H':Hp}{s s':Shared}
def Fly.of(I:Inv X pins σ H s)(os:s'.os=s.os)(bare:Vq s'.gens)(un:Un (frs X.stack) [] H H' s.heap s'.heap)(hok:HOk X.prog X.w H' s'.heap)(n1:s.heap.get? a=ZW)(n2:H' a=ZW)(ex:ExcAt s'.heap s.heap H' a cls tr) :
 Fly X H s cls a H' s' tr:=by
 have fr0:=I.stkFree;have ff0:=I.stack;refine⟨os,bare,un,hok,n1,n2,?_,λb hb=>?_,ex⟩
 .have go:∀l:List Env,(∀b∈frs l,b∈frs X.stack)->s.heap.FunFrames X.base l->s'.heap.FunFrames X.base l:=by
   intro l
   induction l with
   | nil=>intro _ _;trivial
   | cons env r ih=>
     intro hs ⟨hk,⟨L,o,hf,hn,ho,hd⟩,hr⟩
     have e:frs (env::r)=L::frs r:=by unfold frs;rw[Uz,hf]
     rw[e]at hs;obtain⟨sl,q⟩:=un.slot L o ho (fr0 L (hs L QM)) (hs L QM) (by simp);exact⟨hk,⟨L,_,hf,hn,q,hd⟩,ih (λb hb=>hs b (QQ _ hb)) hr⟩
  exact go X.stack (λ_ z=>z) ff0
 .obtain⟨_,o,ho,_⟩:=ff0.mem hb
  exact un.free b o ho (fr0 b hb) (by simp)
def XEf(X:Cx)(W:Wd)(E:XK):Value->Shared->Prop:=λe s'=>∃pins σ H1 s1 c a H' tr,e=.ref a/\Inv X pins σ H1 s1/\Same X.H₀ H1/\Fly X H1 s1 (.ref (W.CT c)) a H' s' tr/\Same H1 H'/\∀a' H'',Same X.H₀ H''->E (.ref (W.CT c)) a' H''
end
section
variable{P:Rt}{w:RX}{K:QK}{mg:Str->Option Value}{base:Rc}{x qual:Str}{st:Stmt}{f:Addr}{fd:Sw}{N ps:List Str}{k:Nat}{o:Orc}{W:Wd}{np ns:Nat}{body:SL}
noncomputable abbrev cxB(P:Rt)(w:RX)(K:QK)(mg:Str->Option Value)(base:Rc)(W:Wd)(N:List Str)(qual:Str)(st:Stmt)(f:Addr)(cdv:Value)(A:S5)(outer:List Env)(s:Shared)(H:Hp)(E:XK):Cx:=cxOf (CXZ P w base W) P w K mg base N qual (aH st) f cdv A outer s H E
noncomputable abbrev cxX(P:Rt)(w:RX)(K:QK)(mg:Str->Option Value)(base:Rc)(W:Wd)(N:List Str)(qual:Str)(st:Stmt)(f:Addr)(cdv:Value)(A:S5)(outer:List Env)(s:Shared)(H:Hp)(E:XK):Cx:=(cxB P w K mg base W N qual st f cdv A outer s H E).wish (XEf (cxB P w K mg base W N qual st f cdv A outer s H E) W E)
def lV(h:XEf (cxB P w K mg base W N qual st f cdv A outer s H E) W E e s'):(cxB P w K mg base W N qual st f cdv A outer s H E).xe e s':=by
 obtain⟨pins,σ,H1,s1,c,a,H',tr,rfl,I,sm,F,sm',k⟩:=h
 have hX:Top (cxB P w K mg base W N qual st f cdv A outer s H E) s.heap.objs.size:=⟨rfl,rfl,I.ok.frames⟩
 refine tZ (X:=cxB P w K mg base W N qual st f cdv A outer s H E) hX F λh' F'=>?_
 have new:∀b,s1.heap.get? b=ZW->s.heap.get? b=ZW:=λb hb=>by
  cases e:s.heap.get? b with
  | none=>rfl
  | some ob=>obtain⟨o',q⟩:=I.base.there b ob e (by exact Ti);rw[hb]at q;cases q
 have hfs:∀b o,s.heap.get? b=Z_ o->b∉frs outer->b∉frs (cxB P w K mg base W N qual st f cdv A outer s H E).stack:=λb ob e hb z=>by
  have z:b∈s.heap.objs.size::frs outer:=z;rcases R8.mp z with z | z
  .have:=Rb e;rw[z]at this;exact absurd this (Uh _)
  .exact hb z
 have un:Un (frs outer) [] H H' s.heap h':=by
  refine⟨λb ob e n hb hx=>?_,λb ob e n hb hx=>?_,λb ob e n hx=>?_,λb ob e hx=>?_,λb xs e=>F'.un.tups b xs (I.base.tups b xs e),λb ob u e=>F'.un.frzs b ob u (I.base.frzs b ob u e),λb pq e=>?_⟩
  .exact F'.un.keep b ob (I.base.keep b ob e n hb hx) (I.base.free b ob e n hx) (hfs b ob e hb) hx
  .obtain⟨sl,q⟩:=I.base.slot b ob e n hb hx
   obtain⟨sl',q'⟩:=F'.un.slot b _ q (I.base.free b ob e n hx) (show b∈s.heap.objs.size::frs outer from QQ _ hb) hx;exact⟨sl',q'⟩
  .obtain⟨o',q⟩:=I.base.there b ob e hx
   exact F'.un.free b o' q (I.base.free b ob e n hx) hx
  .obtain⟨o',q⟩:=I.base.there b ob e hx
   exact F'.un.there b o' q hx
  .obtain⟨m1,q1⟩:=I.base.tbls b pq e
   obtain⟨m2,q2⟩:=F'.un.tbls b _ q1;exact⟨m1++m2,by rw[q2,Array.append_assoc]⟩
 obtain⟨oe,vs,x1,x2,x3,x4,x5⟩:=F'.exc;refine⟨a,c,H',rfl,F'.os.trans I.os,F'.bare,un,F'.hok,new a F'.newE,F'.freeE,⟨oe,vs,x1,x2,x3,x4,?_⟩,sm.trans sm',k (Z_ a) H' (sm.trans sm')⟩;rcases x5 with⟨z,_⟩ | ⟨T,oT,ts,y1,y2,y3,y4⟩
 .cases z
 .exact .inr ⟨T,oT,ts,y1,y2,new T y3,y4⟩
def vK(F:Fun K x qual st f fd)(Sc:FnScope N ps (aH st))(hp:ps.length=np)(hn:N.length=ns)
 (hb:∀(cdv:Value)(A:S5)(outer:List Env)(s:Shared)(H:Hp)(E:XK),Room k (A.deeper (VR qual (aH st) s.heap.objs.size f cdv)) ->
  PSs (cxX P w K mg base W N qual st f cdv A outer s H E) (bF st) (tS (cxX P w K mg base W N qual st f cdv A outer s H E) W (evSs o body))) (hk:W.K=K) :
 FnOk P w K mg base (CXZ P w base W) (k+1) f fd ps (spB W (bf o ⟨np,ns,body⟩) np):=by
 obtain⟨oc,od,kV,doc,pm,an,cdv,ct,osl,dV,rfl,lk,hcd⟩:=F.ex
 have hlen:∀vs H Q E,spB W (bf o ⟨np,ns,body⟩) np vs H Q E->vs.length=np:=λvs H Q E q=>q.elim (·.1) (·.1)
 refine Ff lk hcd Sc (λvs H Q E q=>by rw[hp];exact hlen vs H Q E q) λA outer s H vs Q E hr hsp=>⟨tS (cxX P w K mg base W N qual st f cdv A outer s H E) W (evSs o body),PSs.unw (hb cdv A outer s H E hr) (λe s' z=>lV z),?_⟩
 have hl:vs.length=np:=hlen vs H Q E hsp
 have hle:vs.length<=N.length:=by
  have:=congrArg Sx Sc.pre;rw[Uu]at this;omega
 have run:∀ds:List D,ds.length=vs.length->bf o ⟨np,ns,body⟩ ds=(match evSs o body (cY ds (N.length-vs.length))with | .rt w d _=>Yd (w,d) | .nx _=>.ok (ZZ,.non) | .ex c _=>.exc c | _=>.stuck):=λds hd=>by
  unfold bf cY;rw[if_pos (by rw[hd];exact hl),hn,hl]
  try rfl
 have same:∀{σ':L2.St} {H':Hp} {δ':Dst} {B:Addr->Prop},SR (cxX P w K mg base W N qual st f cdv A outer s H E) W none B H' σ' δ'->Same H H':=λS' b o h=>S'.same b o h (by simp)
 rcases hsp with⟨_,B,ds,b1,b2,b3,r,e,k1⟩ | ⟨_,B,ds,b1,b2,b3,c,e,k1⟩
 .refine⟨none,B,_,SR.start (N:=N) (by exact hk) rfl b1 b2 b3 hle,?_⟩
  rw[run ds b3.length]at e
  cases e2:evSs o body (cY ds (N.length-vs.length))with
  | rt w d δ'=>
    rw[e2]at e;cases e
    exact λv σ' H' S' _ q=>k1 v H' (same S') q
  | nx δ'=>
    rw[e2]at e;cases e
    exact fun σ' H' S' _=>k1 .non H' (same S') (.shared (by simp only[Rep]))
  | bk δ'=>rw[e2]at e;cases e
  | ct δ'=>rw[e2]at e;cases e
  | ex c δ'=>rw[e2]at e;cases e
  | stuck=>rw[e2]at e;cases e
 .refine⟨none,B,_,SR.start (N:=N) (by exact hk) rfl b1 b2 b3 hle,?_⟩
  rw[run ds b3.length]at e
  cases e2:evSs o body (cY ds (N.length-vs.length))with
  | rt w d δ'=>rw[e2]at e;cases e
  | nx δ'=>rw[e2]at e;cases e
  | bk δ'=>rw[e2]at e;cases e
  | ct δ'=>rw[e2]at e;cases e
  | stuck=>rw[e2]at e;cases e
  | ex c' δ'=>
    rw[e2]at e;cases e;intro pins σ' H1 s1 I S _ a H' s' tr Fl sm;exact⟨pins,σ',H1,s1,c,a,H',tr,rfl,I.unwish,same S,Fl.unwish,sm,k1⟩
def wj:Us (Rm P w) (cxX P w K mg base W N qual st f cdv A outer s H E).A (cxX P w K mg base W N qual st f cdv A outer s H E).env (cxX P w K mg base W N qual st f cdv A outer s H E).xe:=by
 intro e s' h;obtain⟨pins,σ,H1,s1,c,a,H',tr,rfl,I,sm,F,sm',k⟩:=id h
 have hX:Top (cxB P w K mg base W N qual st f cdv A outer s H E) s.heap.objs.size:=⟨rfl,rfl,I.ok.frames⟩
 refine ni (M:=Rm P w) (X:=cxB P w K mg base W N qual st f cdv A outer s H E) (P:=XEf (cxB P w K mg base W N qual st f cdv A outer s H E) W E) hX (λe2 s2 h2=>?_) (.ref a) s' h;obtain⟨pins,σ,H1,s1,c,a,H',tr,rfl,I,sm,F,sm',k⟩:=h2;exact⟨H1,s1,_,a,H',tr,rfl,F,λh' F'=>⟨pins,σ,H1,s1,c,a,H',ZX,rfl,I,sm,F',sm',k⟩⟩
end
section
variable{X:Cx}{W:Wd}{o:Orc}
def call_exc{f np k:Nat}{x:Str}{fa:Addr}{fd:Sw}{ps:List Str}{e:Expr}{es:List Expr}{l:TL}{p cpos:Pos}{pins:List (Addr×Obj)}{s:Shared}{σ:L2.St}{H:Hp}{me:Option Addr}{B:Addr->Prop}{δ:Dst}{xs:Bool×List D}{c:Nat}{En:Ends}{Q:Value->Shared->Prop}(hn:∀δ r,evL o δ l=.ok r->r.2.length=np)
 (F:FnOk X.prog X.w X.K X.mg X.base (CXZ X.prog X.w X.base W) k fa fd ps (spB W (o.fn f) np))(hr:Room k X.A)(hg:Gl X x)(hm:X.mg x=Z_ (.ref fa))(hk:Rj X.K (.ref fa)=ZX)(hb:Binds X.K fd ps [])
 (ha:PA X (e::es) (tL X W fun δ=>evL o δ l))(hdb:(x==("__debug__":Str))=ZZ)(he:R3 (e::es) X.env=(ZZ,S8 e X.env)::R3 es X.env)(hpl:(SQ cpos (R3 es X.env)).any (·.1)=ZZ)
 (I:Inv X pins σ H s)(S:SR X W me B H σ δ)(e1:evL o δ l=.ok xs)(e2:o.fn f xs.2=.exc c)(h:AfterS X W me B (vis H (Hid B σ δ)) (.ex c δ) En):Rg (Rm X.prog X.w) X.A (S8 (.Call (.Name x p) (e::es) [] cpos) X.env) Q X.xe s:=by
 have hL:tL X W (fun δ=>evL o δ l) σ H λvs H1=>SR X W me B H1 σ δ/\Same H H1/\RepTs W H1 (vis H1 (Hid B σ δ)) xs.2 vs/\vs.length=np:=by
  refine tL.mono (lM (fa:=fun δ=>evL o δ l) (g:=Yd) (C:=λr _=>r=.ok xs) S (by rw[e1];rfl) (λ_ _ _ q=>q) (λc q=>(nomatch q)) (λq=>(nomatch q))) λvs H1 ⟨r,e3,S1,s1,t1,q1,h1⟩=>?_
  rw[e1]at e3;cases e3;exact⟨S1,s1,t1,by rw[<-t1.length];exact hn δ xs e1⟩
 refine Ui (fZ I hg hm ?_ hdb);refine UJ (h₀:=X.base) I.ok.mod.kin hk (thn (ha cpos pins s σ H _ I hL) λus s1 ⟨vs,H1,I1,r,S1,q1,t1,hv⟩=>⟨I1.kIn,?_⟩) he hpl;have hsp:spB W (o.fn f) np vs H1 (λ_ _=>False) (λcl _ H2=>cl=.ref (W.CT c)/\Same H1 H2):=.inr ⟨hv,λb=>Hid B σ δ b/\V.ref b∉vs,xs.2,λa ha=>S1.softH a ha.1,λb hb=>S1.know b hb.1,t1.lend vs (λv hv=>hv),c,e2,λa H2 z=>⟨rfl,z⟩⟩;have r2:Vals (vs++[]) (us++[]):=r.append .nil
 have hlen:(us++[]).length=ps.length:=by rw[<-r2.length,RC];exact F.len _ _ _ _ hsp
 refine wpAny_call (Uj (F.run X.A X.stack s1 H1 ⟨us,[]⟩ (us++[]) (vs++[]) _ _ hr I1.env0 (hb s1 us I1.kIn hlen) r2 (by rw[RC];exact hsp)) λr s' hq=>?_)
 cases r with
 | ok fl=>
   cases fl with
   | ret u=>obtain⟨_,_,_,_,_,_,_,z⟩:=hq;exact z.elim
   | next=>exact Rr hq
   | brk=>exact Rr hq
   | cont=>exact Rr hq
 | error er=>
   obtain⟨a,c',H',rfl,x1,x2,x3,x4,x5,x6,x7,x8,x9,_⟩:=hq;rw[x9]at x7;exact h pins σ H1 s1 I1 S1 (au q1) a H' s' ZX (Fly.of I1 x1 x2 x3 x4 x5 x6 x7) x8
def zy{f np k:Nat}{x:Str}{fa:Addr}{fd:Sw}{ps:List Str}{e:Expr}{es:List Expr}{l:TL}{p cpos pos:Pos}(hn:∀δ r,evL o δ l=.ok r->r.2.length=np)
 (F:FnOk X.prog X.w X.K X.mg X.base (CXZ X.prog X.w X.base W) k fa fd ps (spB W (o.fn f) np))(hr:Room k X.A)(hg:Gl X x)(hm:X.mg x=Z_ (.ref fa))(hk:Rj X.K (.ref fa)=ZX)(hb:Binds X.K fd ps [])
 (ha:PA X (e::es) (tL X W fun δ=>evL o δ l))(hdb:(x==("__debug__":Str))=ZZ)(he:R3 (e::es) X.env=(ZZ,S8 e X.env)::R3 es X.env)(hpl:(SQ cpos (R3 es X.env)).any (·.1)=ZZ)
 (hok:PE X (.Call (.Name x p) (e::es) [] cpos) (tD X W ZX fun δ=>ev o δ ZX (.call f l))):PS X (.Expr (.Call (.Name x p) (e::es) [] cpos) pos) (tS X W (evS o (.expr (.call f l)))):=by
 intro pins s σ H D I ⟨me,B,δ,S,h⟩;simp only[evS]at h;obtain⟨xs,e1,h⟩:=SO.of_ok h;refine wpAny_Expr_any ?_ I.quiet rfl
 cases e2:o.fn f xs.2 with
 | stuck=>rw[e2]at h;exact h.elim
 | ok r=>
   have er:ev o δ ZX (.call f l)=lent xs.1 r:=by simp only[ev,e1,Xr,e2]
   rw[e2]at h
   cases e3:lent xs.1 r with
   | ok r'=>
     have h:AfterS X W me B (vis H (Hid B σ δ)) (SO.ofX δ (lent xs.1 r) λ_=>.nx δ) D:=h;rw[e3]at h
     refine thn (hok pins s σ H (λv H1=>Same H H1) I (tD_iff.mpr ⟨me,B,δ,S,?_⟩)) λv s1 ⟨y,H1,I1,_,q1⟩=>⟨σ,H1,I1,h _ _ (S.mono q1) (au q1)⟩
     rw[er,e3]
     exact λv H1 s1 _=>s1
   | exc c=>
     have h:AfterS X W me B (vis H (Hid B σ δ)) (SO.ofX δ (lent xs.1 r) λ_=>.nx δ) D:=h;unfold lent at e3;split at e3
     .split at e3<;>cases e3
     .cases e3
   | stuck=>
     have h:AfterS X W me B (vis H (Hid B σ δ)) (SO.ofX δ (lent xs.1 r) λ_=>.nx δ) D:=h;rw[e3]at h;exact h.elim
 | exc c=>
   rw[e2]at h;have h:AfterS X W me B (vis H (Hid B σ δ)) (.ex c δ) D:=h;exact call_exc hn F hr hg hm hk hb ha hdb he hpl I S e1 e2 h
def Jl{i f np k:Nat}{y x:Str}{fa:Addr}{fd:Sw}{ps:List Str}{e:Expr}{es:List Expr}{l:TL}{p cpos pos pos':Pos}(hn:∀δ r,evL o δ l=.ok r->r.2.length=np)
 (F:FnOk X.prog X.w X.K X.mg X.base (CXZ X.prog X.w X.base W) k fa fd ps (spB W (o.fn f) np))(hr:Room k X.A)(hg:Gl X x)(hm:X.mg x=Z_ (.ref fa))(hk:Rj X.K (.ref fa)=ZX)(hb:Binds X.K fd ps [])
 (ha:PA X (e::es) (tL X W fun δ=>evL o δ l))(hdb:(x==("__debug__":Str))=ZZ)(he:R3 (e::es) X.env=(ZZ,S8 e X.env)::R3 es X.env)(hpl:(SQ cpos (R3 es X.env)).any (·.1)=ZZ)
 (hok:PE X (.Call (.Name x p) (e::es) [] cpos) (tD X W ZZ fun δ=>ev o δ ZZ (.call f l)))(hN:X.N.Nodup)(hi:X.N[i]?=Z_ y)(hx:Loc X.env.scope y)(hf:X.fn y=ZX\/X.env.scope.names.lookup y=Z_ .local) :
 PS X (.Assign [.Name y pos'] (.Call (.Name x p) (e::es) [] cpos) pos) (tS X W (evS o (.setx i f l))):=by
 intro pins s σ H D I ⟨me,B,δ,S,h⟩;simp only[evS]at h;obtain⟨xs,e1,h⟩:=SO.of_ok h
 cases e2:o.fn f xs.2 with
 | stuck=>rw[e2]at h;exact h.elim
 | exc c=>
   rw[e2]at h;exact wpAny_Assign_Name (call_exc hn F hr hg hm hk hb ha hdb he hpl I S e1 e2 (show AfterS X W me B (vis H (Hid B σ δ)) (.ex c δ) D from h)) rfl
 | ok r=>
   refine zu hN hi hx hok rfl hf pins s σ H D I ⟨me,B,δ,S,?_⟩
   have er:ev o δ ZZ (.call f l)=lent xs.1 r:=by simp only[ev,e1,Xr,e2]
   rw[e2]at h;have h:AfterS X W me B (vis H (Hid B σ δ)) (SO.ofX δ (lent xs.1 r) λr=>aB ((setSlot δ i r.1 r.2).map .nx)) D:=h
   cases e3:lent xs.1 r with
   | ok r'=>
     rw[e3]at h er
     have ef:evF o δ (.call f l)=(δ,.ok r'):=by unfold Z.evF;rw[er]
     simp only[evS,ef];exact h
   | exc c=>
     unfold lent at e3;split at e3
     .split at e3<;>cases e3
     .cases e3
   | stuck=>rw[e3]at h;exact h.elim
end
variable{W:Wd}{X:Cx}
theorem j0:∀{ks:List DK}{vs:List D}{kvs:List (Key×V)}{x:DK}{d:D},kvs.map (·.1)=ks.map keyV->Reps W G vs (kvs.map (·.2))->look ks vs x=Z_ d->∃v,valV kvs (keyV x)=Z_ v/\Rep W G d v
 | [],_,_,_,_,_,_,h=>by simp[look]at h
 | _::_,[],_,_,_,_,_,h=>by simp[look]at h
 | k::ks,d'::vs,[],_,_,e,_,_=>by simp at e
 | k::ks,d'::vs,(k',v')::kvs,x,d,e,r,h=>by
   simp only[QL,Tj]at e;simp only[QL,Reps]at r;obtain⟨e1,e2⟩:=e;subst e1;simp only[look]at h
   by_cases hk:k=x
   .subst hk
    rw[if_pos rfl]at h;cases h;exact⟨v',by simp[valV],r.1⟩
   .rw[if_neg hk]at h
    obtain⟨v,h1,h2⟩:=j0 e2 r.2 h;refine⟨v,?_,h2⟩
    have:¬keyV k=keyV x:=λz=>hk (iM z)
    simp only[valV]at h1 ⊢;rw[List.find?_cons_of_neg (by simp[this])];exact h1
theorem gA:∀{ks:List DK}{vs:List D}{kvs:List (Key×V)}{x:DK},kvs.map (·.1)=ks.map keyV->Reps W G vs (kvs.map (·.2))->look ks vs x=ZW->valV kvs (keyV x)=ZW
 | [],_,[],_,_,_,_=>rfl
 | [],_,_::_,_,e,_,_=>by simp at e
 | _::_,_,[],_,e,_,_=>by simp at e
 | _::_,[],_::_,_,_,r,_=>by simp only[QL,Reps]at r
 | k::ks,d'::vs,(k',v')::kvs,x,e,r,h=>by
   simp only[QL,Tj]at e;simp only[QL,Reps]at r;obtain⟨e1,e2⟩:=e;subst e1;simp only[look]at h
   by_cases hk:k=x
   .subst hk;rw[if_pos rfl]at h;cases h
   .rw[if_neg hk]at h
    have:=gA e2 r.2 h
    have hne:¬keyV k=keyV x:=λz=>hk (iM z)
    simp only[valV]at this ⊢;rw[List.find?_cons_of_neg (by simp[hne])];exact this
section
variable{X:Cx}{W:Wd}{lk lk':Bool}{σ:L2.St}{H H1 H':Hp}{me:Option Addr}{B:Addr->Prop}{δ:Dst}{Q Q':VK}{a b:Expr}{pos p:Pos}{fa fb fc:Dst->R (Bool×D)}
section
open PySem.SeqAt
open PySem.AutoSeq1 (wpAny_loadPart')
open MeetsSeq
def list_addW(l b:Addr)(items items2:Array Value)(n n2:Nat)(dd dd2:Option Addr)(sl sl2:Array (Option Value))(hc0:items.size+items2.size<=sizeLine) :
 Meets (Sh.«list.__add__» ⟨[.ref l,.ref b],[]⟩) (λ_ R s=>s.heap.get? l=Z_ { cls:=.type "list",dict:=dd,data:=.seq items n,slots:=sl }/\s.heap.get? b=Z_ { cls:=.type "list",dict:=dd2,data:=.seq items2 n2,slots:=sl2 } /\
  R (.ok (.ret (Value.ref s.heap.objs.size))) { s with heap:=s.heap.push { cls:=Value.type "list",data:=WL (items++items2) } }) :=
 .of_wp λprog w A R s h=>by
  obtain⟨hp,g,d,tk,os⟩:=s;obtain⟨hl,hb,h⟩:=h;have f1:=PySem.AutoSeq1.idx_int;have f2:=PySem.AutoSeq1.sub_tuple_tuple;have f3:=PySem.AutoSeq1.sub_list_list;have f4:=PySem.AutoSeq1.sub_tuple_list;have f5:=PySem.AutoSeq1.sub_list_tuple
  wp_walk using Vw hl,Vw hb;exact⟨_,rfl,h⟩
end
def M8(K:QK):R2:=λx y H Q=>∃l b xs zs,x=.ref l/\y=.ref b/\SqL K H l xs/\SqL K H b zs/\xs.length+zs.length<=sizeLine/\∀p,H p=ZW->Q (.ref p) (upd H p (.lst (xs++zs)))
def Gm:OpR X (Ud .Add) (M8 X.K):=by
 intro pins s σ H x y v u Q I rx ry h;obtain⟨l,b,xs,zs,rfl,rfl,hH,hB,hz,q⟩:=h;cases rx;cases ry;obtain⟨its,r,⟨⟨cls,dd,data,sl⟩,n,ho,hc,_,hd⟩,z⟩:=I.list hH;obtain⟨its2,r2,⟨⟨cls2,dd2,data2,sl2⟩,n2,ho2,hc2,_,hd2⟩,z2⟩:=I.list hB;simp only at hc hd hc2 hd2;subst hc hd hc2 hd2;have l1:=r.length;have l2:=r2.length
 have ea:its.toArray++its2.toArray=(its++its2).toArray:=by simp
 refine Wz ⟨_,ho,rfl⟩ ⟨_,ho2,rfl⟩ noFill_list_add seq_list_add PySem.F.slot_list_add PySem.F.entry_list_add (PySem.F.args_list_add_2 _ _) (list_addW l b its.toArray its2.toArray n n2 dd dd2 sl sl2 (by rw[Ri,Ri];omega)) ⟨ho,ho2,?_⟩;rw[ea];exact⟨.ref _,_,I.lnew (t':=s.toks) (r.append r2) (by rw[R4];omega),rfl,q _ I.fresh⟩
def DX(K:QK):R2:=λx y H Q=>∃a b ys,x=.ref a/\y=.ref b/\SqT K H a []/\SqT K H b ys/\Q (.ref b) H
def Br:OpR X (Ud .Add) (DX X.K):=by
 intro pins s σ H x y v u Q I rx ry h;obtain⟨a,b,ys,rfl,rfl,ha,hb,q⟩:=h;cases rx;cases ry;obtain⟨its,r1,p1,_⟩:=I.tuple ha;obtain⟨its2,r2,p2,_⟩:=I.tuple hb;cases r1;obtain⟨⟨cls,dd,data,sl⟩,ho,hc,n,hd⟩:=id p1;obtain⟨⟨cls2,dd2,data2,sl2⟩,ho2,hc2,n2,hd2⟩:=id p2;simp only at hc hd hc2 hd2;subst hc hd hc2 hd2
 exact Wz ⟨_,ho,rfl⟩ ⟨_,ho2,rfl⟩ noFill_tuple_add seq_tuple_add PySem.F.slot_tuple_add PySem.F.entry_tuple_add (PySem.F.args_tuple_add_2 _ _)
  (tuple_addW0 a b _ its2.toArray n n2 dd dd2 sl sl2 (by simp)) ⟨ho,ho2,⟨.ref b,H,I,rfl,q⟩⟩
def vq(K:QK):R2:=λx y H Q=>(((rI0 (λi j=>.int (i+j)) x y H Q\/(∃i j,x=.str i/\y=.str j/\i.length+j.length<=sizeLine/\Q (.str (i++j)) H))\/M8 K x y H Q)\/Ku K x y H Q)\/DX K x y H Q
def zp:OpR X (Ud .Add) (vq X.K):=OpR.or (OpR.or (OpR.or (OpR.or Lp ud) Gm) Gw) Br
def dg(h:size n=ZX):n<=sizeLine:=by rw[Th];simpa[size]using h
def fW(x y:List Nat):strV x++strV y=strV (x++y):=by
 show(⟨(strV x).cps++(strV y).cps⟩:Str)=_;simp[strV]
def iY(x:List Nat):(strV x).length=x.length:=by simp[strV,Str.length]
def HJ(hk:W.K=X.K):Sem2 W (vq X.K) (o2 .add):=by
 intro lk P H x y dx dy Q w d hS hK hx hy e k
 cases dx<;>cases dy<;>first | exact nope e | exact iH e | simp only[o2]at e
 .simp only[arith]at e
  cases e;exact .inl (.inl (.inl (.inl ⟨_,_,aV hx,aV hy,k _ H (Same.refl H) dF⟩)))
 .obtain⟨h1,e⟩:=ie e
  cases e;obtain⟨rfl,l1⟩:=bz hx;obtain⟨rfl,l2⟩:=bz hy;refine .inl (.inl (.inl (.inr ⟨_,_,rfl,rfl,by rw[iY,iY];exact dg h1,?_⟩)));rw[fW];exact k _ H (Same.refl H) (pP (by rw[R4];simpa[size]using h1))
 .obtain⟨h1,e⟩:=ie e
  cases e;simp only[RepT,Rep]at hx hy;obtain⟨a,xs,rfl,q1,q2⟩:=hx;obtain⟨b,ys,rfl,p1,p2⟩:=hy
  have hz:xs.length+ys.length<=sizeLine:=by rw[<-q2.length,<-p2.length];exact dg h1
  by_cases hx:xs=[]
  .subst hx
   have hl:_=[]:=Ub q2.length;refine .inr ⟨a,b,ys,rfl,rfl,hk▸aU bw q1,hk▸aU bw p1,k _ H (Same.refl H) (.shared ?_)⟩;simp only[Rep];rw[hl];exact⟨b,ys,rfl,p1,p2⟩
  .refine .inl (.inr ⟨a,b,xs,ys,rfl,rfl,hk▸aU bw q1,hk▸aU bw p1,hx,hz,λhy=>?_,λ_ p hp=>?_⟩)
   .subst hy
    have hl:_=[]:=Ub p2.length;refine k _ H (Same.refl H) (.shared ?_);simp only[Rep];rw[hl,RC];exact⟨a,xs,rfl,q1,q2⟩
   .exact k _ _ (Same.upd hp) (gq hp (q2.append p2) hK)
 .obtain⟨h1,e⟩:=ie e
  cases e;obtain⟨a,xs,rfl,q1,q2⟩:=hx;obtain⟨b,ys,rfl,p1,p2⟩:=hy;refine .inl (.inl (.inr ⟨a,b,xs,ys,rfl,rfl,hk▸q1,hk▸p1,by rw[<-q2.length,<-p2.length];exact dg h1,λp hp=>?_⟩));exact k _ _ (Same.upd hp) (jC hp (q2.append p2) hK)
def w5{dx dy:D}{x y:V}{G:Hp}{t:Bool}(hx:RepT W H G dx x)(hy:RepT W H G dy y)(e:eqS dx dy=Z_ t):scal x y=ZX/\decide (x=y)=t:=by
 cases dx<;>cases dy<;>first | exact nope e | exact iH e | simp only[eqS]at e
 all_goals simp only[QX]at e
 all_goals (first | (have hx:=(bz hx).1) | (simp only[RepT,Rep]at hx))
 all_goals (first | (have hy:=(bz hy).1) | (simp only[RepT,Rep]at hy))
 all_goals subst hx
 all_goals subst hy
 all_goals (refine⟨rfl,?_⟩;rw[<-e])
 all_goals first
  | simp
  | skip
 all_goals exact⟨λh=>fG h,λh=>by rw[h]⟩
def MP:Sem2 W rEq (o2 .eq):=by
 intro lk P H x y dx dy Q w d hS hK hx hy e k;simp only[o2,eqA]at e
 cases e1:eqS dx dy with
 | none=>rw[e1]at e;cases e
 | some t=>
   rw[e1]at e;cases e;obtain⟨h1,h2⟩:=w5 hx hy e1;exact⟨h1,by rw[h2];exact k _ H (Same.refl H) dq⟩
def Ng:Sem2 W rNe (o2 .ne):=by
 intro lk P H x y dx dy Q w d hS hK hx hy e k;simp only[o2,eqA]at e
 cases e1:eqS dx dy with
 | none=>rw[e1]at e;cases e
 | some t=>
   rw[e1]at e;cases e;obtain⟨h1,h2⟩:=w5 hx hy e1;exact⟨h1,by rw[h2];exact k _ H (Same.refl H) dq⟩
def DN:R2:=rI0 (λi j=>.bl (decide (i<j)))
def zY:OpR X (Tq .Lt) DN:=Qj
theorem Ec:∀x y:List Nat,ltS x y=decide (x<y)
 | [],[]=>by simp[ltS]
 | [],b::y=>by simp[ltS]
 | a::x,[]=>by simp[ltS]
 | a::x,b::y=>by
   simp only[ltS,Ec x y,List.cons_lt_cons_iff]
   by_cases h1:a<b
   .simp[h1]
   .by_cases h2:b<a
    .have:a≠b:=by omega
     simp[h1,h2,this]
    .have:a=b:=by omega
     simp[this]
def Nv:Sem2 W DN (o2 .lt):=by
 intro lk P H x y dx dy Q w d hS hK hx hy e k
 cases dx<;>cases dy<;>first | exact nope e | exact iH e | simp only[o2]at e
 .simp only[arith]at e
  cases e;exact⟨_,_,aV hx,aV hy,k _ H (Same.refl H) dq⟩
end
end Z
namespace L2
open PySem PySem.Spec PyProof.Rows
theorem jd{α β:Type}{f:α->β->Sem (ForInStep β)}(step:α->β->β):∀(l:List α)(c:β),(∀x∈l,∀c,f x c=pure (.yield (step x c)))->forIn l c f=pure (l.foldl (λc x=>step x c) c)
 | [],c,_=>rfl
 | x::l,c,h=>by
   rw[List.forIn_cons,h x QM,pure_bind]
   exact jd step l (step x c) λy hy=>h y (QQ _ hy)
noncomputable def cg(env:Env)(x:Str×SX)(c:List (Str×Addr)):List (Str×Addr):=if x.2=.free then(x.1,(env.cells.lookup x.1).getD 0)::c else c
noncomputable def di(env:Env)(names:List (Str×SX)):List (Str×Addr):=names.foldl (λc x=>cg env x c) []
def xN{scope:Scope}{env:Env}(h:∀y∈scope.names,y.2=.free->∃c,env.cells.lookup y.1=Z_ c):closureFor scope env=pure (di env scope.names):=by
 simp only[closureFor];rw[jd (cg env) scope.names [] (λx hx c=>?_)]
 .rfl
 .obtain⟨n,kind⟩:=x
  by_cases hk:kind=.free
  .subst hk
   obtain⟨a,e⟩:=h _ hx rfl;simp only at e;simp[cg,cellOf,e]
  .have hb:(kind==Tf)=ZZ:=by simpa using hk
   simp[cg,hb,hk]
theorem qR:∀(names:List (Str×SX))(acc:List (Str×Addr)),p∈names.foldl (λc x=>cg env x c) acc->p∈acc\/((p.1,Tf)∈names/\p.2=(env.cells.lookup p.1).getD 0)
 | [],acc,h=>.inl h
 | (n,k)::r,acc,h=>by
   rcases qR r _ h with h | ⟨h1,h2⟩
   .simp only[cg]at h
    split at h
    .rename_i hk
     rcases R8.mp h with e | h
     .subst e
      exact .inr ⟨by subst hk;exact QM,rfl⟩
     .exact .inl h
    .exact .inl h
   .exact .inr ⟨QQ _ h1,h2⟩
theorem qL:∀(names:List (Str×SX))(acc:List (Str×Addr)),p∈acc->p∈names.foldl (λc x=>cg env x c) acc
 | [],_,h=>h
 | (n,k)::r,acc,h=>by
   refine qL r _ ?_;simp only[cg];split
   .exact QQ _ h
   .exact h
theorem rN:∀(names:List (Str×SX))(acc:List (Str×Addr)),(x,Tf)∈names->(x,(env.cells.lookup x).getD 0)∈names.foldl (λc x=>cg env x c) acc
 | [],_,h=>by simp at h
 | (n,k)::r,acc,h=>by
   rcases R8.mp h with e | h
   .cases e
    refine qL r _ ?_;simp[cg]
   .exact rN r _ h
theorem kI:∀{l:List (Str×α)},(x,c)∈l->∃c',l.lookup x=Z_ c'
 | [],h=>by simp at h
 | (y,d)::l,h=>by
   simp only[Sq]
   cases e:(x==y)with
   | true=>exact⟨d,rfl⟩
   | false=>
     rcases R8.mp h with z | z
     .cases z;simp at e
     .exact kI z
def dB(h:∀y∈names,y.2=.free->∃c,env.cells.lookup y.1=Z_ c)(e:(di env names).lookup x=Z_ c):env.cells.lookup x=Z_ c:=by
 have hm:=Td e;rcases qR names [] hm with z | ⟨h1,h2⟩
 .simp at z
 .obtain⟨a,e'⟩:=h _ h1 rfl
  simp only at e' h2;rw[e']at h2 ⊢;rw[h2];rfl
def rE(h:(x,Tf)∈names):∃c,(di env names).lookup x=Z_ c:=kI (rN names [] h)
def fO:(Wy scope env).names.lookup x=(scope.names.lookup x).map λk=>if(k==.free&&env.scope.kind==.function&&env.kindOf x==Z_ .cell)then .cell else k:=by
 show Ua x (scope.names.map λ(n,k)=>if(k==Tf&&env.scope.kind==.function&&env.kindOf n==Z_ .cell)then(n,W3)else(n,k))=_
 induction scope.names with
 | nil=>rfl
 | cons p r ih=>
   obtain⟨n,k⟩:=p;rw[QL]
   by_cases hx:x=n
   .subst hx
    by_cases hc:(k==Tf&&env.scope.kind==.function&&env.kindOf x==Z_ .cell)=ZX
    .simp only[hc,if_true,Sq,beq_self_eq_true,Ro]
    .simp only[hc,if_false,Sq,beq_self_eq_true,Ro,QW]
   .have hb:(x==n)=ZZ:=by simpa using hx
    have e:Ua x ((if(k==Tf&&env.scope.kind==.function&&env.kindOf n==Z_ .cell)=ZX then(n,W3)else(n,k))::(r.map λ(n,k)=>if(k==Tf&&env.scope.kind==.function&&env.kindOf n==Z_ .cell)then(n,W3)else(n,k))) =
     Ua x (r.map λ(n,k)=>if(k==Tf&&env.scope.kind==.function&&env.kindOf n==Z_ .cell)then(n,W3)else(n,k)):=by
     split<;>simp only[Sq,hb]
    simp only[Sq,hb];exact e.trans ih
noncomputable def cxC(X:Cx)(scope:Scope)(N:List Str)(fp:List Addr)(pins:List (Addr×Obj))(s:Shared)(H:Hp):Cx :=
 { X with N:=N,s₀:=s,H₀:=H,env:=compEnvC scope (di X.env scope.names) s.heap.objs.size X.env,outer:=X.stack,ex:=fp,fn:=λ_=>false,pn:=X.pn++pins }
structure Blk(scope:Scope):Prop where
 kind:scope.kind=.function
 nocell:∀y∈scope.names,y.2≠.cell
 loc:∀y∈scope.names,y.2=.local->scope.names.lookup y.1=Z_ .local
 fre:∀y∈scope.names,y.2=.free->scope.names.lookup y.1=Z_ .free
section
variable{X:Cx}{pins:List (Addr×Obj)}{σ:St}{H:Hp}{s:Shared}{scope:Scope}{N:List Str}{fp:List Addr}
def zO(I:Inv X pins σ H s)(B:Blk scope)(hfr:∀y∈scope.names,y.2=.free->∃c,X.env.cells.lookup y.1=Z_ c)(hf:∀b∈fp,FpOk X pins H b)(hob:∀b∈fp,∃o,s.heap.get? b=Z_ o)
 (hns:∃m,h₁.Ns s.heap.objs.size m)(hkeep:∀b o,s.heap.get? b=Z_ o->h₁.get? b=Z_ o)(hl:σ'.length=N.length)
 (hσ:∀(i:Nat)(x:Str)(v:V),N[i]?=Z_ x->σ'[i]?=Z_ (Z_ v)->scope.names.lookup x=Z_ .free/\(X.env.scope.names.lookup x=Z_ .cell\/X.env.scope.names.lookup x=Z_ .free)/\∃j:Nat,X.N[j]?=Z_ x/\σ[j]?=Z_ (Z_ v)) :
 Inv (cxC X scope N fp pins s H) [] σ' H { s with heap:=h₁,toks:=tk }:=by
 have lt:∀{b:Addr}{o:Obj},s.heap.get? b=Z_ o->b≠s.heap.objs.size:=λe=>RL (Rb e)
 have kd:∀x,((Wy scope X.env).names.lookup x=Z_ .cell\/(Wy scope X.env).names.lookup x=Z_ .free)->(x,Tf)∈scope.names:=λx hx=>by
  rw[fO]at hx
  cases e:scope.names.lookup x with
  | none=>rw[e]at hx;simp at hx
  | some k=>
    have hm:=Td e;rw[e]at hx;simp only[Ro,QX]at hx
    cases k with
    | free=>exact hm
    | cell=>exact absurd rfl (B.nocell _ hm)
    | _=>simp at hx
 refine⟨⟨I.ok.mod,?_,I.ok.glob,I.ok.blt,Ra _,λx y c h1 h2=>I.ok.inj x y c (dB hfr h1) (dB hfr h2),λx hx=>rE (kd x hx),λx c h=>(nomatch h),I.ok.hd,I.ok.frames,.inl rfl,λb hb=>⟨?_,λx c e=>?_⟩,I.bs,RP I.ok.bsz I.sz,λb o e hb=>?_,λb hb z=>?_,I.stack,I.stkFree⟩,
  rfl,I.bare,Un.kept hkeep,?_,λx c e=>?_,I.hok.fresh (Ra _),λx c e=>I.freeC x c (dB hfr e),λp hp=>?_,I.hok.kept hkeep,hl⟩
 .exact B.kind
 .obtain⟨o,e⟩:=hob b hb
  exact lt e
 .exact(hf b hb).2.2.2.2.1 x c (dB hfr e)
 .rcases(hf b hb).2.2.2.1 with z | z
  .exact I.ok.noex b o e z
  .exact absurd (Rk (Rb (I.ok.bs b o e).1) z) (Uh _)
 .obtain⟨_,f1,f2,_⟩:=hf b hb
  rcases R8.mp (I.stkSub b z)with e | e
  .exact f1 e
  .exact f2 e
 .obtain⟨m,hm⟩:=hns
  refine⟨m,hm,λi x v h1 h2 h3=>?_⟩;obtain⟨k1,k2,j,j1,j2⟩:=hσ i x v h1 h2;obtain⟨m0,_,hl0⟩:=I.loc;obtain⟨u,r,q⟩:=hl0 j x v j1 j2 (k2.elim (λz=>.inr (.inl z)) λz=>.inr (.inr z));refine⟨u,r,.inr ⟨?_,?_⟩⟩
  .show(Wy scope X.env).names.lookup x=Z_ .cell\/(Wy scope X.env).names.lookup x=Z_ .free
   rw[fO,k1];simp only[Ro,QX];split
   .exact .inl rfl
   .exact .inr rfl
  .rcases q with⟨q,_⟩ | ⟨_,c,e,z⟩
   .have q:X.env.scope.names.lookup x=Z_ .local:=q
    rcases k2 with k2 | k2<;>(rw[q]at k2;cases k2)
   .obtain⟨c',e'⟩:=rE (env:=X.env) (Td k1)
    have:=dB hfr e';rw[e]at this;cases this;obtain⟨o,ho,hd⟩:=z;exact⟨c,e',o,hkeep c o ho,hd⟩
 .obtain⟨v,o,ho,hd⟩:=I.cell x c (dB hfr e)
  exact⟨v,o,hkeep c o ho,hd⟩
 .have hp:p∈X.pn++pins:=by
   have hp:p∈(X.pn++pins)++[]:=hp
   rwa [RC]at hp
  obtain⟨e,n,ne,nf,d⟩:=I.pin p hp;exact⟨hkeep _ _ e,n,lt e,λz=>(R8.mp (I.stkSub _ z)).elim ne nf,d⟩
def Cg(I:Inv X pins σ H s)(hf:∀b∈fp,FpOk X pins H b)(J:Inv (cxC X scope N fp pins s H) pins' σ' H' s')(sb:Uv s.heap.objs.size s'.heap h2):Inv X pins σ H' { s' with heap:=h2 }:=by
 have lt:∀{b:Addr}{o:Obj},s.heap.get? b=Z_ o->b≠s.heap.objs.size:=λe=>RL (Rb e)
 have U:Un (frs X.stack) fp H H' s.heap s'.heap:=J.base
 have U2:Un (frs X.stack) fp H H' s.heap h2:=by
  refine⟨λb o e n hb hx=>(sb.2 b (lt e)).trans (U.keep b o e n hb hx),λb o e n hb hx=>?_,U.free,λb o e hx=>?_,U.tups,U.frzs,U.tbls⟩
  .obtain⟨sl,q⟩:=U.slot b o e n hb hx
   exact⟨sl,(sb.2 b (lt e)).trans q⟩
  .obtain⟨o',q⟩:=U.there b o e hx
   exact⟨o',(sb.2 b (lt e)).trans q⟩
 have hC:H' s.heap.objs.size=ZW:=J.free
 have hok:HOk X.prog X.w H' h2:=λb ob e=>(J.hok b ob e).stay (λc u hc q=>(sb.2 c (λz=>by
  subst z;rcases hc with z | z
  .rw[<-z,hC]at e;cases e
  .rw[hC]at z;cases z)).trans q) (λ_ q=>q) λ_ _ q=>q
 have os:s'.os=s.os:=J.os
 have e:({ s' with heap:=h2 }:Shared)={ s with heap:=h2,gens:=s'.gens,drawn:=s'.drawn,toks:=s'.toks }:=by
  cases s';cases s;simp only at os;subst os
  rfl
 rw[e]
 exact I.call U2 hok J.bare λb hb=>⟨(hf b hb).2.2.2.1,(hf b hb).2.1,(hf b hb).2.2.2.2.1,(hf b hb).2.2.2.2.2⟩
noncomputable abbrev tests(ifs:List Expr)(env:Env):Sem Bool:=forIn ifs ZX λc r=>if r=ZX then do let ok <-isTrue c env (S8 c env);pure (ForInStep.yield ok)else pure (ForInStep.yield r)
abbrev gF:Value->Shared->Prop:=λ_ _=>False
def never{α:Type}{t:Sem α}{Q Q':α->Shared->Prop}{M:Model}{A:S5}{E:Value->Shared->Prop}{s:Shared}(h:Rg M A t Q gF s)(hQ:∀a s,Q a s->Q' a s):Rg M A t Q' E s:=Tp h hQ λ_ _ z=>z.elim
def vW{prog:Rt}{w:RX}{A:S5}{elt tg iter:Expr}{ifs:List Expr}{pos:Pos}{it acc:Value}{env:Env}{R:Result->Shared->Prop}(Iv:Nat->Shared->Prop)
 (turn:∀n s,Iv n s->Rg (Rm prog w) A (WM it) (λr s1=>match r with
  | none=>R (.ok .next) s1
  | some v=>Rg (Rm prog w) A (Wc tg it v) (λ_ s2=>Rg (Rm prog w) A (VG tg env v) (λ_ s3=>Rg (Rm prog w) A (tests ifs env) (λok s4=>
   if ok=ZX then Rg (Rm prog w) A (S8 elt env) (λx s5=>Rg (Rm prog w) A (call (.builtin "list.append") [acc,x]) (λ_ s6=>∃m,m<n/\Iv m s6) gF s5) gF s4
   else ∃m,m<n/\Iv m s4) gF s3) gF s2) gF s1) gF s)
 (n:Nat) (h:Iv n s):W6 (Rm prog w) A (.compLoop (.ListComp elt [⟨tg,iter,ifs,0⟩] scope pos) 0 it acc env) R s:=by
 refine codeAny_loop rfl Iv (λn s hI=>?_) n h;show Rg _ A ((compTurn (.ListComp elt [⟨tg,iter,ifs,0⟩] scope pos) 0 it acc env).onRaise (λe=>do X6 e env;theTreesLotGoes e)) _ _ s;refine wpAny_noted ?_;rw[compTurn_list];refine QS (wpAny_standAt (QS (never (turn n s hI) λr s1 h1=>?_)))
 cases r with
 | none=>exact Rh h1
 | some v=>
   refine QS (never h1 λ_ s2 h2=>QS (never h2 λ_ s3 h3=>QS (never h3 λok s4 h4=>?_)))
   cases ok with
   | false=>exact Rh ⟨rfl,h4⟩
   | true=>exact QS (QS (never h4 λx s5 h5=>QS (never h5 λ_ s6 h6=>Rh (Rh ⟨rfl,h6⟩))))
noncomputable def dC(σ:St)(m:Nat)(caps:List Nat):St:=Ry m none++caps.map λi=>(σ[i]?).join
def Cw(wi:TI)(m:Nat)(caps:List Nat)(g:TG)(tc:Hp->TT)(te:Hp->TE):TE:=fun σ H Q=>wi σ H λJ H1=>∀D,H1 D=ZW->∃W:Nat->Nat->List V->St->Hp->Prop,(∃k,W 0 k [] (dC σ m caps) (upd H1 D (.lst []))) /\
 ∀i k ys σ' H',W i k ys σ' H'->(J.stop i H'/\Q (.ref D) H')\/(J.go i H'/\∀x H2,J.yld i H' x H2->g x σ' H2 fun σ3 H3=>tc (upd H1 D (.lst [])) σ3 H3 λb H4=>
  if b=ZX then te (upd H1 D (.lst [])) σ3 H4 λy H5=>H5 D=Z_ (.lst ys)/\ys.length<sizeLine/\∃k',k'<k/\W (i+1) k' (ys++[y]) σ3 (upd H5 D (.lst (ys++[y])))else ∃k',k'<k/\W (i+1) k' ys σ3 H4)
def PIf(X:Cx)(ifs:List Expr)(t:TT):Prop:=∀(pins:List (Addr×Obj)) (s:Shared) (σ:St) (H:Hp) (Q:Bool->Hp->Prop),Inv X pins σ H s->t σ H Q->Rg (Rm X.prog X.w) X.A (tests ifs X.env) (TP X pins σ Q) X.xe s
def GF:PIf X [] (λ_ H Q=>Q ZX H):=λpins s σ H Q I h=>Rh ⟨H,I,h⟩
def Jt{c:Expr}{t:TT}(h:PT X c t):PIf X [c] t:=λpins s σ H Q I q=>by
 unfold tests;simp only[List.forIn_cons,List.forIn_nil,if_true];exact QS (QS (thn (h pins s σ H Q I q) λb s' hb=>Rh (Rh hb)))
def zH{σ:St}{i:Nat}{v:V}(h:(σ[i]?).join=Z_ v):σ[i]?=Z_ (Z_ v):=by
 cases e:σ[i]? with
 | none=>rw[e]at h;cases h
 | some o=>rw[e]at h;simp at h;rw[h]
def FQ(h:(dC σ m caps)[i]?=Z_ (Z_ v)):∃j k:Nat,i=m+j/\caps[j]?=Z_ k/\σ[k]?=Z_ (Z_ v):=by
 unfold dC at h
 by_cases hi:i<m
 .rw[S6 (by simpa using hi),V8]at h
  split at h<;>cases h
 .rw[RT (by simpa using hi),Tg,RM]at h
  cases e:caps[i-m]? with
  | none=>rw[e]at h;cases h
  | some k=>
    rw[e]at h;exact⟨i-m,k,by omega,e,zH (Sv h)⟩
structure Caps(X:Cx)(scope:Scope)(N:List Str)(m:Nat)(caps:List Nat):Prop where
 len:N.length=m+caps.length
 see:∀(j k:Nat)(x:Str),caps[j]?=Z_ k->N[m+j]?=Z_ x->X.N[k]?=Z_ x/\scope.names.lookup x=Z_ .free/\(X.env.scope.names.lookup x=Z_ .cell\/X.env.scope.names.lookup x=Z_ .free)
 fre:∀y∈scope.names,y.2=.free->X.env.scope.names.lookup y.1=Z_ .cell\/X.env.scope.names.lookup y.1=Z_ .free
section
variable{elt tg iter:Expr}{ifs:List Expr}{pos:Pos}{wi:TI}{m:Nat}{caps:List Nat}{g:TG}{tc:Hp->TT}{te:Hp->TE}
def mZ(hx:X.xe=gF)(hc:X.calm=ZX)(B:Blk scope)(C:Caps X scope N m caps)(hi:PI X tg iter wi)
 (hg:∀fp pins s H,PG (cxC X scope N fp pins s H) tg g)(ht:∀fp pins s H,PIf (cxC X scope N fp pins s H) ifs (tc H))(he:∀fp pins s H,PE (cxC X scope N fp pins s H) elt (te H))
 (hs:∀x,Te iter X.env x=pure x)(I:Inv X pins σ H s)(h:Cw wi m caps g tc te σ H Q)
 (fin:∀(Cx':Addr)(D:Addr)(H':Hp)(s':Shared),(∃mm,s'.heap.Ns Cx' mm)->(∀h2,Uv Cx' s'.heap h2->Inv X pins σ H' { s' with heap:=h2 })->FpOk X pins H' Cx'->Q (.ref D) H' ->
  compPost (Rm X.prog X.w) X.A X.xe use Q' (.ref D) Cx' (.ok .next) s') :
 Rg (Rm X.prog X.w) X.A (comprehension (.ListComp elt [⟨tg,iter,ifs,0⟩] scope pos) scope X.env (firstIterPos [⟨tg,iter,ifs,0⟩] pos) (newList []) ZZ (S8 iter X.env) use) Q' X.xe s:=by
 have hfr:∀y∈scope.names,y.2=.free->∃c,X.env.cells.lookup y.1=Z_ c:=λy hy hk=>I.ok.has y.1 (C.fre y hy hk)
 refine wpAny_comprehension_free rfl hs (xN hfr) B.kind B.loc (thn (hi pins s σ H _ I h) λv s1 h1=>thn h1 λitv s2 h2=>?_);obtain⟨it,fp,tn,J,H2,rfl,I2,T,st2,f2,R⟩:=h2;refine U4 ?_;have hD:H2 s2.heap.objs.size=ZW:=I2.fresh;have I3:=I2.lnew (its:=[]) (ys:=[]) (t':=s2.toks) .nil (Va _)
 have keep2:∀b o,s2.heap.get? b=Z_ o->(s2.heap.push { cls:=.type "list",data:=.seq ([]:List Value).toArray }).get? b=Z_ o:=λb o e=>QV _ e
 have st3:=T.keep 0 _ _ st2 λb _ o e=>keep2 b o e
 have nD:∀b∈fp,b≠s2.heap.objs.size:=λb hb=>by
  obtain⟨o,e,_⟩:=T.obj 0 _ st2 b hb;exact RL (Rb e)
 have f3:∀b∈fp,FpOk X pins (upd H2 s2.heap.objs.size (.lst [])) b:=λb hb=>⟨by rw[aX (nD b hb)];exact(f2 b hb).1,(f2 b hb).2⟩
 obtain⟨W,⟨k0,w0⟩,turn⟩:=R _ hD;generalize hD':s2.heap.objs.size=D at *;have e3:({ s2 with heap:=s2.heap.push { cls:=.type "list",data:=.seq ([]:List Value).toArray } }:Shared)={ s2 with heap:=s2.heap.push { cls:=.type "list",data:=.seq ([]:List Value).toArray },toks:=s2.toks }:=rfl;generalize hs3:({ s2 with heap:=s2.heap.push { cls:=.type "list",data:=.seq ([]:List Value).toArray },toks:=s2.toks }:Shared)=s3 at *
 have st3':tn 0 s3.heap:=by rw[<-hs3];exact st3
 show Rg _ X.A (newFunctionEnv scope X.env.globals (di X.env scope.names) [] X.env.qual none .none (Z_ X.env)) _ _ _;rw[e3];refine wpAny_newFunctionEnv B.nocell (by intro y hy;simp at hy) (λh₁ hns hsb=>?_) B.kind
 have hkeep:∀b o,s3.heap.get? b=Z_ o->h₁.get? b=Z_ o:=λb o e=>hsb.extBut b o (RL (Rb e)) (QV _ e)
 have hob:∀b∈fp,∃o,s3.heap.get? b=Z_ o:=λb hb=>let⟨o,e,_⟩:=T.obj 0 _ st3' b hb;⟨o,e⟩
 have IC:Inv (cxC X scope N fp pins s3 (upd H2 D (.lst []))) [] (dC σ m caps) (upd H2 D (.lst [])) { s3 with heap:=h₁,toks:=s3.toks+([]:List (Str×Value)).length }:=by
  refine zO I3 B hfr f3 hob ⟨_,hns⟩ hkeep ?_ λi x v h1 h2=>?_
  .unfold dC
   rw[R4,Tg,R5,C.len]
  .obtain⟨j,k,rfl,e1,e2⟩:=FQ h2
   obtain⟨q1,q2,q3⟩:=C.see j k x e1 h1;exact⟨q2,q3,k,q1,e2⟩
 have st4:tn 0 h₁:=T.keep 0 _ _ st3' λb _ o e=>hkeep b o e
 have stat:∀{H':Hp},(∀b∈fp,H' b=ZW)->∀b∈fp,FpOk (cxC X scope N fp pins s3 (upd H2 D (.lst []))) [] H' b:=λ{H'} hn b hb=>by
  obtain⟨o,e⟩:=hob b hb;obtain⟨_,f1,f2,_,f4,f5⟩:=f3 b hb;refine⟨hn b hb,RL (Rb e),λz=>?_,.inl hb,λx c q=>f4 x c (dB hfr q),λp hp=>f5 p ?_⟩
  .exact(R8.mp (I3.stkSub b z)).elim f1 f2
  .have hp:p∈(X.pn++pins)++[]:=hp
   rwa [RC]at hp
 have Dfp:∀b∈fp,b≠D:=nD
 have loop:W6 (Rm X.prog X.w) X.A (.compLoop (.ListComp elt [⟨tg,iter,ifs,0⟩] scope pos) 0 (.ref it) (.ref D) (compEnvC scope (di X.env scope.names) s3.heap.objs.size X.env)) (compPost (Rm X.prog X.w) X.A X.xe use Q' (.ref D) s3.heap.objs.size) { s3 with heap:=h₁,toks:=s3.toks+([]:List (Str×Value)).length }:=by
  refine vW (λn s'=>∃i ys σ' H',Inv (cxC X scope N fp pins s3 (upd H2 D (.lst []))) [] σ' H' s'/\tn i s'.heap/\(∀b∈fp,H' b=ZW)/\W i n ys σ' H') ?_ k0 ⟨0,[],_,_,IC,st4,λb hb=>(f3 b hb).1,w0⟩
  rintro n s4 ⟨i,ys,σ4,H4,I4,st4,fr4,w4⟩
  rcases turn i n ys σ4 H4 w4 with⟨stop,qn⟩ | ⟨go,step⟩
  .refine thn (T.done (cxC X scope N fp pins s3 (upd H2 D (.lst []))) rfl rfl rfl hc i [] s4 σ4 H4 gF I4 (stat fr4) st4 stop) λr s5 ⟨hr,I5⟩=>?_
   subst hr;exact fin _ D H4 s5 (let⟨mm,hm,_⟩:=I5.loc;⟨mm,hm⟩) (λh2 sb=>Cg I3 f3 I5 sb) (I3.fpOk (Ra _) I5.free) qn
  .refine thn (T.item (cxC X scope N fp pins s3 (upd H2 D (.lst []))) rfl rfl rfl hc i [] s4 σ4 H4 gF I4 (stat fr4) st4 go) λr s5 ⟨u,hr,h5⟩=>?_
   subst hr
   refine thn h5 λ_ s6 ⟨x,H6,I6,r6,y6,st6,fr6⟩=>?_
   have I6':=I6.pinned (stat fr6) (T.obj _ _ st6)
   have xn:∀{α:Type} {t:Sem α} {Q1:α->Shared->Prop} {s:Shared},Rg (Rm X.prog X.w) X.A t Q1 X.xe s->Rg (Rm X.prog X.w) X.A t Q1 gF s:=λh=>by rw[hx]at h;exact h
   refine thn (xn (hg fp pins s3 _ _ s6 σ4 H6 x u _ I6' r6 (step x H6 y6))) λ_ s7 ⟨σ7,H7,I7,q7⟩=>?_
   refine thn (xn (ht fp pins s3 _ _ s7 σ7 H7 _ I7 q7)) λok s8 ⟨H8,I8,q8⟩=>?_
   have again:∀{H9:Hp}{s9:Shared}{ys':List V},Inv (cxC X scope N fp pins s3 (upd H2 D (.lst []))) ([]++oO fp s6.heap) σ7 H9 s9->(∃k',k'<n/\W (i+1) k' ys' σ7 H9) ->
    ∃k',k'<n/\∃i ys σ' H',Inv (cxC X scope N fp pins s3 (upd H2 D (.lst []))) [] σ' H' s9/\tn i s9.heap/\(∀b∈fp,H' b=ZW)/\W i k' ys σ' H':=λ{H9 s9 ys'} I9 w9=>by
    obtain⟨k',hk',w9⟩:=w9;refine⟨k',hk',i+1,ys',σ7,H9,I9.unpinned,T.keep _ _ _ st6 λb hb o e=>(I9.pin (b,o) (RZ _ (RZ _ (fH hb e)))).1,λb hb=>?_,w9⟩;obtain⟨o,e,d⟩:=T.obj _ _ st6 b hb;exact(I9.pin (b,o) (RZ _ (RZ _ (fH hb e)))).2.1
   cases ok with
   | false=>exact again I8 q8
   | true=>
     refine thn (xn (he fp pins s3 _ _ s8 σ7 H8 _ I8 q8)) λyv s9 ⟨y,H9,I9,r9,hD9,hz9,q9⟩=>?_
     refine thn (xn (jr (X:=cxC X scope N fp pins s3 (upd H2 D (.lst []))) _ s9 σ7 H9 (.ref D) [y] (.ref D) [yv] (λ_ H'=>H'=upd H9 D (.lst (ys++[y]))) I9 rfl (.cons r9 .nil) ⟨D,ys,y,rfl,rfl,hD9,hz9,rfl⟩)) λ_ s10 ⟨_,H10,I10,_,e10⟩=>?_
     subst e10;exact again I10 q9
 exact codeAny_compStart_list loop (T.self _ 0 _ _ _ st4 loop)
def Hi(hx:X.xe=gF)(hc:X.calm=ZX)(B:Blk scope)(C:Caps X scope N m caps)(hi:PI X tg iter wi)(hg:∀fp pins s H,PG (cxC X scope N fp pins s H) tg g)(ht:∀fp pins s H,PIf (cxC X scope N fp pins s H) ifs (tc H))(he:∀fp pins s H,PE (cxC X scope N fp pins s H) elt (te H))
 (hs:∀x,Te iter X.env x=pure x):PE X (.ListComp elt [⟨tg,iter,ifs,0⟩] scope pos) (Cw wi m caps g tc te):=by
 intro pins s σ H Q I h;rw[eval_ListComp]
 refine mZ (use:=ZW) hx hc B C hi hg ht he hs I h λC' D H' s' hn hb _ q=>?_
 obtain⟨mm,hm⟩:=hn;exact⟨mm,hm,λh2 sb=>⟨.ref D,H',hb h2 sb,rfl,q⟩⟩
def uf(hx:X.xe=gF)(hc:X.calm=ZX)(B:Blk scope)(C:Caps X scope N m caps)(hi:PI X tg iter wi)(hg:∀fp pins s H,PG (cxC X scope N fp pins s H) tg g)(ht:∀fp pins s H,PIf (cxC X scope N fp pins s H) ifs (tc H))(he:∀fp pins s H,PE (cxC X scope N fp pins s H) elt (te H))
 (hs:∀x,Te iter X.env x=pure x)(hN:X.N.Nodup)(hix:X.N[i]?=Z_ x)(hl:X.env.scope.names.lookup x=Z_ .local)(hsw:Uc (.ListComp elt [⟨tg,iter,ifs,0⟩] scope pos) (Z_ (.Name x px)) spos.line X.env=pure ZX) :
 PS X (.Assign [.Name x px] (.ListComp elt [⟨tg,iter,ifs,0⟩] scope pos) spos) (λD σ H=>Cw wi m caps g tc te σ H λv H'=>D.nx (σ.set i (Z_ v)) H'):=by
 intro pins s σ H D I h;rw[exec_Assign_Name_used _ _ _ _ hsw];refine QS (wpAny_standAt (QS ?_));show Rg _ X.A (do let _ <-comprehension (.ListComp elt [⟨tg,iter,ifs,0⟩] scope pos) scope X.env (firstIterPos [⟨tg,iter,ifs,0⟩] pos) (newList []) ZZ (S8 iter X.env) (Z_ (VG (.Name x px) X.env))) _ _ s;refine QS (thn (mZ (use:=Z_ (VG (.Name x px) X.env)) (Q:=λv H'=>D.nx (σ.set i (Z_ v)) H') (Q':=λ_ s'=>SP X pins D .next s') hx hc B C hi hg ht he hs I h λC' Da H' s' hn hb hf q=>?_) λ_ s' hq=>Rh (Rh hq));obtain⟨mm,hm⟩:=hn;obtain⟨f0,f1,f2,f3,f4,f5⟩:=hf;have I':Inv X pins σ H' s':=hb s'.heap (Uv.refl _ _);show Rg _ X.A (VG (.Name x px) X.env (.ref Da)) _ _ s';refine wpAny_assign_Name (oM I' hN hix (.inl hl) (v:=.ref Da) rfl (λs'' I'' ⟨a,sb,ha⟩=>?_) (.inr hl))
 have hca:C'≠a:=by
  rcases ha with e | e
  .rw[e];exact f1
  .exact λz=>f4 x a e z.symm
 refine⟨mm,hm.sameBut sb hca,λh2 sb2=>⟨_,H',?_,q⟩⟩;have:=I''.turned (it:=C') (h':=h2) (t':=s''.toks) (λb o hb e=>(sb2.2 b hb).trans e) f0 f1 f3 f4 f5;exact this
end
end
end L2
namespace Z
open PySem PySem.Spec PyProof.Rows L2
section
variable{X:Cx}{W:Wd}{lk lk':Bool}{σ:L2.St}{H H1 H':Hp}{me:Option Addr}{B:Addr->Prop}{δ:Dst}{Q Q':VK}{a b:Expr}{pos p:Pos}{o:Orc}
def eN{P:Addr->Prop}{t:Bool}{x:R (Bool×D)}(h:After X W lk σ H P (Xz t x) Q):t=ZX/\After X W lk σ H P x Q:=by
 cases t with
 | true=>exact⟨rfl,h⟩
 | false=>exact h.elim
def O9(ha:PA X es (tL X W fun δ=>evL o δ l)):PE X (.Tuple es x1 pos) (tD X W lk fun δ=>ev o δ lk (.tup l)):=by
 refine PE.imp (Dg ha) fun σ H Q h=>?_
 obtain⟨me,B,δ,S,h⟩:=tD_iff.mp h;simp only[ev]at h
 refine tL.mono (lM (fa:=fun δ=>evL o δ l) (C:=λr H=>After X W lk σ H (Hid B σ δ) r Q) S h (λr H1 s q=>q.mono s) (λc q=>q) (λq=>q)) λvs H1 ⟨r,e1,S1,s1,t1,q1,h1⟩=>?_
 obtain⟨hc,h1⟩:=eN h1;simp only[QR,Rf]at hc;have hr:=q1 hc.1;exact⟨by rw[<-hr.length];exact dg hc.2,λp hp=>h1 _ _ (Same.upd hp) (gq hp hr S1.know)⟩
def Q9(ha:PA X es (tL X W fun δ=>evL o δ l)):PE X (.List es pos) (tD X W lk fun δ=>ev o δ lk (.lst l)):=by
 refine PE.imp (Es ha) fun σ H Q h=>?_
 obtain⟨me,B,δ,S,h⟩:=tD_iff.mp h;simp only[ev]at h
 refine tL.mono (lM (fa:=fun δ=>evL o δ l) (C:=λr H=>After X W lk σ H (Hid B σ δ) r Q) S h (λr H1 s q=>q.mono s) (λc q=>q) (λq=>q)) λvs H1 ⟨r,e1,S1,s1,t1,q1,h1⟩=>?_
 obtain⟨hc,h1⟩:=eN h1;simp only[QR,Rf]at hc;have hr:=q1 hc.1;exact⟨by rw[<-hr.length];exact dg hc.2,λp hp=>h1 _ _ (Same.upd hp) (jC hp hr S1.know)⟩
def Qq{t:T}(ha:PE X a (tD X W ZX fun δ=>ev o δ ZX t)):PE X (.UnaryOp .USub a pos) (tD X W lk fun δ=>ev o δ lk (.neg t)):=by
 refine PE.imp (Qh KR ha) fun σ H Q h=>?_
 obtain⟨me,B,δ,S,h⟩:=tD_iff.mp h;simp only[ev]at h
 refine tD.mono (part (fa:=fun δ=>ev o δ ZX t) S h) λv H1 ⟨r,e,S1,s1,t1,_,h1⟩=>?_
 cases e2:r.2 with
 | int i=>
   rw[e2]at t1 h1;exact⟨i,aV t1,h1 _ H1 (Same.refl _) dF⟩
 | _=>rw[e2]at h1;exact h1.elim
def Oe(hc:PT X c (tT X W fun δ=>ev o δ ZX tc))(ha:PE X a (tD X W lk fun δ=>ev o δ lk ta))(hb:PE X b (tD X W lk fun δ=>ev o δ lk tb)) :
 PE X (.IfExp c a b pos) (tD X W lk fun δ=>ev o δ lk (.ite tc ta tb)):=by
 refine PE.imp (rO hc ha hb) fun σ H Q h=>?_
 obtain⟨me,B,δ,S,h⟩:=tD_iff.mp h;simp only[ev]at h;refine⟨me,B,δ,S,?_⟩
 cases e:ev o δ ZX tc with
 | ok r=>
   rw[e]at h;dsimp only;rw[e];simp only[Xr]
   cases e2:truth r.2 with
   | none=>simp only[Xr,e2,Xu]at h;exact h.elim
   | some t=>
     simp only[Xr,e2,Xu]at h ⊢;intro H1 s
     cases t with
     | true=>exact tD_iff.mpr ⟨me,B,δ,S.mono s,After.mono h s⟩
     | false=>exact tD_iff.mpr ⟨me,B,δ,S.mono s,After.mono h s⟩
 | exc c=>rw[e]at h;exact h.elim
 | stuck=>rw[e]at h;exact h.elim
def tIfT(t ta tb:TT):TT:=fun σ H Q=>t σ H λc H1=>if c=ZX then ta σ H1 Q else tb σ H1 Q
def zF(hc:PT X c tA)(ha:PT X a ta)(hb:PT X b tb):PT X (.IfExp c a b pos) (tIfT tA ta tb):=by
 intro pins s σ H Q I h
 have e:∀whole,isTrue (.IfExp c a b pos) X.env whole=(isTrue c X.env (S8 c X.env) >>= λt=>if t=ZX then isTrue a X.env (S8 a X.env)else isTrue b X.env (S8 b X.env)):=λ_=>by simp only[PySem.isTrue]
 rw[e];refine QS (thn (hc pins s σ H _ I h) λd s1 ⟨H1,I1,q1⟩=>?_)
 cases d with
 | true=>exact ha pins s1 σ H1 Q I1 q1
 | false=>exact hb pins s1 σ H1 Q I1 q1
def O5(hc:PT X c (tT X W fun δ=>ev o δ ZX tc))(ha:PT X a (tT X W fun δ=>ev o δ ZX ta))(hb:PT X b (tT X W fun δ=>ev o δ ZX tb)) :
 PT X (.IfExp c a b pos) (tT X W fun δ=>ev o δ ZX (.ite tc ta tb)):=by
 refine PT.imp (zF hc ha hb) fun σ H Q h=>?_
 obtain⟨me,B,δ,S,h⟩:=h;simp only[ev]at h;refine⟨me,B,δ,S,?_⟩
 cases e:ev o δ ZX tc with
 | ok r=>
   rw[e]at h;dsimp only;rw[e];simp only[Xr]
   cases e2:truth r.2 with
   | none=>simp only[Xr,e2,Xu]at h
   | some t=>
     simp only[Xr,e2,Xu]at h ⊢;intro H1 s
     cases t with
     | true=>
       refine⟨me,B,δ,S.mono s,?_⟩;simp only[if_true]at h;dsimp only
       cases e3:ev o δ ZX ta with
       | ok r2=>
         simp only[e3,Xr]at h ⊢
         cases e4:truth r2.2 with
         | none=>simp only[e4,Xu]at h
         | some b=>
           simp only[e4,Xu]at h ⊢
           exact λH' s'=>h H' (s.trans s')
       | exc c=>simp only[e3,Xr]at h;exact h.elim
       | stuck=>simp only[e3,Xr]at h
     | false=>
       refine⟨me,B,δ,S.mono s,?_⟩;simp only[QW,if_false]at h;dsimp only
       cases e3:ev o δ ZX tb with
       | ok r2=>
         simp only[e3,Xr]at h ⊢
         cases e4:truth r2.2 with
         | none=>simp only[e4,Xu]at h
         | some b=>
           simp only[e4,Xu]at h ⊢
           exact λH' s'=>h H' (s.trans s')
       | exc c=>simp only[e3,Xr]at h;exact h.elim
       | stuck=>simp only[e3,Xr]at h
 | exc c=>rw[e]at h;exact h.elim
 | stuck=>rw[e]at h;exact h.elim
def SR.plain(hk:W.K=X.K)(hl:σ.length=δ.length)(hsh:∀(i:Nat)(w:Own)(d:D),δ[i]?=Z_ (Z_ (w,d))->w=.sh/\∃v,σ[i]?=Z_ (Z_ v)/\Rep W (vis H B) d v)
 (same:∀b o,X.H₀ b=Z_ o->some b≠me->H b=Z_ o)(soft:Soft H B)(gone:∀b,B b->∃o,H b=Z_ o)(live:∀x,me=Z_ x->∃o,H x=Z_ o):SR X W me B H σ δ:=by
 have hid:∀b,Hid B σ δ b->B b:=λb hb=>by
  rcases hb with hb | ⟨i,⟨w,d,h1,h2⟩,_⟩
  .exact hb
  .exact absurd (hsh i w d h1).1 h2
 refine⟨hk,hl,λi d h=>?_,λi d h=>?_,λi d h=>?_,λi j a h1 _=>?_,same,soft,gone,live⟩
 .obtain⟨_,v,e1,e2⟩:=hsh i _ d h
  exact⟨v,e1,e2.mono (aJ hid)⟩
 .exact absurd (hsh i _ d h).1 (by decide)
 .exact absurd (hsh i _ d h).1 (by decide)
 .obtain⟨⟨w,d,h1,h2⟩,_⟩:=h1
  exact absurd (hsh i w d h1).1 h2
def yg(hsh:∀(i:Nat)(w:Own)(d:D),δ[i]?=Z_ (Z_ (w,d))->w=.sh){b:Addr}:Hid B σ δ b↔B b:=by
 refine⟨λhb=>?_,.inl⟩;rcases hb with hb | ⟨i,⟨w,d,h1,h2⟩,_⟩
 .exact hb
 .exact absurd (hsh i w d h1) h2
def jj(hsh:∀(i:Nat)(w:Own)(d:D),δ[i]?=Z_ (Z_ (w,d))->w=.sh):vis H (Hid B σ δ)=vis H B:=by
 have:Hid B σ δ=B:=funext λb=>propext (yg hsh)
 rw[this]
theorem o8(S:SR X W me B H σ δ):∀{caps:List Nat}{cs:List D},cW δ caps=Z_ cs->∃vs:List V,caps.map (λi=>(σ[i]?).join)=vs.map some/\RepTs W H (vis H (Hid B σ δ)) cs vs/\((caps.all λi=>!isOwn δ i)=ZX->Reps W (vis H (Hid B σ δ)) cs vs)
 | [],cs,h=>by
   simp only[cW,QX]at h;subst h;exact⟨[],rfl,by simp only[RepTs],λ_=>by simp only[Reps]⟩
 | i::caps,cs,h=>by
   simp only[cW]at h
   cases e:ut δ i with
   | none=>rw[e]at h;cases h
   | some d=>
     rw[e]at h
     cases e2:cW δ caps with
     | none=>rw[e2]at h;cases h
     | some cs'=>
       rw[e2]at h;cases h;obtain⟨vs,h1,h2,h3⟩:=o8 S e2
       have key:∃v,σ[i]?=Z_ (Z_ v)/\RepT W H (vis H (Hid B σ δ)) d v/\(isOwn δ i=ZZ->Rep W (vis H (Hid B σ δ)) d v):=by
        unfold ut at e;split at e
        .rename_i w d' ed
         cases e
         cases w with
         | sh=>obtain⟨v,q1,q2⟩:=S.sh i _ ed;exact⟨v,q1,q2.top bw,λ_=>q2⟩
         | ow=>obtain⟨a,q1,q2,_⟩:=S.ow i _ ed;exact⟨_,q1,q2.top,λz=>by simp[isOwn,ed]at z⟩
         | me=>obtain⟨_,a,_,q1,q2,_⟩:=S.mi i _ ed;exact⟨_,q1,q2.top,λz=>by simp[isOwn,ed]at z⟩
        .cases e
       obtain⟨v,k1,k2,k3⟩:=key;refine⟨v::vs,by simp[k1,h1],?_,λhall=>?_⟩
       .simp only[RepTs];exact⟨k2,h2⟩
       .simp only[Wg,QR,Rf]at hall
        simp only[Reps];exact⟨k3 hall.1,h3 hall.2⟩
structure Yields(J:It)(H2:Hp)(xs:List V):Prop where
 go:∀i H',Same H2 H'->i<xs.length->J.go i H'
 yld:∀i H' x H'',Same H2 H'->i<xs.length->J.yld i H' x H''->H''=H'/\xs[i]?=Z_ x
 stop:∀H',Same H2 H'->J.stop xs.length H'
def qJ{K:QK}{H2:Hp}{c:Addr}{xs:List V}(h:SqL K H2 c xs):Yields (Itl K c) H2 xs where
 go:=λi H' s hi=>⟨xs,xs[i],s.seq h,by simp[hi]⟩
 yld:=λi H' x H'' s _ ⟨e,y⟩=>⟨e,y xs (s.seq h)⟩
 stop:=λH' s=>⟨xs,s.seq h,Ra _⟩
def u9{K:QK}{H2:Hp}{c:Addr}{xs:List V}(h:SqT K H2 c xs):Yields (Itt K c) H2 xs where
 go:=λi H' s hi=>⟨xs,xs[i],aU s h,by simp[hi]⟩
 yld:=λi H' x H'' s _ ⟨e,y⟩=>⟨e,y xs (aU s h)⟩
 stop:=λH' s=>⟨xs,aU s h,Ra _⟩
def mW(lo:Int)(n:Nat):Yields (Itr lo n) H2 ((Ru n).map λ(k:Nat)=>V.int (lo+(k:Int)))where
 go:=λi H' s hi=>by simpa[Itr]using hi
 yld:=λi H' x H'' s hi ⟨e,y⟩=>by
  refine⟨e,?_⟩
  have hi:i<n:=by simpa using hi
  rw[RM,List.getElem?_range hi,y]
  rfl
 stop:=λH' s=>by simp[Itr]
def Yl(W:Wd)(G0:Hp)(d:D)(x:V)(H' H'':Hp):Prop:=(H''=H'/\Rep W G0 d x)\/∃(p:Addr)(d1 d2:D)(v1 v2:V),d=.tup [d1,d2]/\x=.ref p/\H' p=ZW/\H''=upd H' p (.tup [v1,v2])/\Rep W G0 d1 v1/\Rep W G0 d2 v2
def Yl.rep(h:Yl W G0 d x H' H'')(g:Same G0 (vis H' P))(gone:∀b,P b->∃u,H' b=Z_ u):Same H' H''/\Rep W (vis H'' P) d x:=by
 rcases h with⟨rfl,r⟩ | ⟨p,d1,d2,v1,v2,rfl,rfl,hp,rfl,r1,r2⟩
 .exact⟨Same.refl _,r.mono g⟩
 .refine⟨Same.upd hp,?_⟩
  have up:=g.trans (au (P:=P) (Same.upd (o:=.tup [v1,v2]) hp));simp only[Rep];refine⟨p,[v1,v2],rfl,.inl (.inl (bQ bA λz=>?_)),?_⟩
  .obtain⟨u,e⟩:=gone p z
   rw[hp]at e;cases e
  .simp only[Reps]
   exact⟨r1.mono up,r2.mono up,trivial⟩
structure Ylds(W:Wd)(J:It)(G G0:Hp)(l:List D):Prop where
 go:∀i H',Same G H'->i<l.length->J.go i H'
 yld:∀i H' x H'' d,Same G H'->l[i]?=Z_ d->J.yld i H' x H''->Yl W G0 d x H' H''
 stop:∀H',Same G H'->J.stop l.length H'
def Ylds.of(y:Yields J G xs)(r:Reps W G0 l xs):Ylds W J G G0 l where
 go:=λi H' s hi=>y.go i H' s (by rw[<-r.length];exact hi)
 yld:=λi H' x H'' d s e z=>by
  have hi:i<xs.length:=by rw[<-r.length];exact(R9.mp e).1
  obtain⟨h1,h2⟩:=y.yld i H' x H'' s hi z;obtain⟨v,h3,h4⟩:=r.get e;rw[h2]at h3;cases h3;exact .inl ⟨h1,h4⟩
 stop:=λH' s=>by rw[r.length];exact y.stop H' s
def SR.cx(S:SR X W me B H σ δ)(h1:X'.K=X.K)(h2:X'.H₀=X.H₀):SR X' W me B H σ δ :=
 ⟨by rw[h1];exact S.kf,S.len,S.sh,λi d h=>let⟨a,q1,q2,q3,q4⟩:=S.ow i d h;⟨a,q1,q2,by rw[h2];exact q3,q4⟩,S.mi,S.apart,λb o h=>S.same b o (by rw[<-h2];exact h),S.soft,S.gone,S.live⟩
theorem tD.cx(h1:X'.K=X.K)(h2:X'.H₀=X.H₀)(h:tD X W lk f σ H Q):tD X' W lk f σ H Q:=by
 obtain⟨me,B,δ,S,h⟩:=h;exact⟨me,B,δ,S.cx h1 h2,h⟩
theorem tT.cx(h1:X'.K=X.K)(h2:X'.H₀=X.H₀)(h:tT X W f σ H C):tT X' W f σ H C:=by
 obtain⟨me,B,δ,S,h⟩:=h;exact⟨me,B,δ,S.cx h1 h2,h⟩
def TgR(X:Cx)(W:Wd)(is:List Nat)(tup:Bool)(g:TG):Prop :=
 ∀{me:Option Addr} {B:Addr->Prop} {σ:L2.St} {H:Hp} {δ δ1:Dst} {d:D} {ds:List D} {v:V} {C:L2.St->Hp->Prop},SR X W me B H σ δ->Rep W (vis H (Hid B σ δ)) d v->takes is.length tup d=Z_ ds->aM δ is ds=Z_ δ1 ->
  (∀σ1,SR X W me B H σ1 δ1->Same (vis H (Hid B σ δ)) (vis H (Hid B σ1 δ1))->C σ1 H)->g v σ H C
def zM:TgR X W [i] ZZ (tY i):=by
 intro me B σ H δ δ1 d ds v C S r e1 e2 k;simp only[takes,QW,if_false,QX]at e1;subst e1;simp only[aM]at e2
 cases e3:setSlot δ i ZZ d with
 | none=>rw[e3]at e2;cases e2
 | some δ'=>
   rw[e3]at e2;cases e2;obtain⟨S1,s1⟩:=yq S r e3;exact k _ S1 s1
def Ho(hk:W.K=X.K):TgR X W is ZX (gTup X.K is.length (fL is)):=by
 intro me B σ H δ δ1 d ds v C S r e1 e2 k;simp only[takes,if_true]at e1
 cases d with
 | tup l=>
   simp only at e1;split at e1
   .rename_i hl
    cases e1;simp only[Rep]at r;obtain⟨a,xs,rfl,r1,r2⟩:=r;exact⟨a,xs,rfl,hk▸aU bw r1,by rw[<-r2.length];exact hl,fY S r2 e2 k⟩
   .cases e1
 | _=>simp at e1
noncomputable def bZ(l:List D):Dst:=l.map λd=>some (Own.sh,d)
def mX{l:List D}{i:Nat}{w:Own}{d:D}(h:(bZ l)[i]?=Z_ (Z_ (w,d))):w=.sh/\l[i]?=Z_ d:=by
 unfold bZ at h;rw[RM]at h
 cases e:l[i]? with
 | none=>rw[e]at h;cases h
 | some x=>rw[e]at h;cases h;exact⟨rfl,rfl⟩
theorem jD:∀(ds:List D)(pre post:Dst)(mid:Dst),mid.length=ds.length->aM (pre++mid++post) (V7 pre.length ds.length) ds=Z_ (pre++bZ ds++post)
 | [],pre,post,mid,h=>by
   have:mid=[]:=Ub h;subst this;simp[aM,bZ]
 | d::ds,pre,post,[],h=>by simp at h
 | d::ds,pre,post,x::mid,h=>by
   simp only[R6,Nat.add_right_cancel_iff]at h;rw[R6,Vj];simp only[aM]
   have e1:setSlot (pre++x::mid++post) pre.length ZZ d=Z_ ((pre++[some (Own.sh,d)])++mid++post):=by
    unfold setSlot;rw[if_pos (by simp)];simp[List.set_append]
   rw[e1];simp only[R7];have:=jD ds (pre++[some (Own.sh,d)]) post mid h;rw[R4,List.length_singleton]at this;rw[this];simp[bZ]
def nM(ds:List D)(mid post:Dst)(h:mid.length=ds.length):aM (mid++post) (Ru ds.length) ds=Z_ (bZ ds++post):=by
 have:=jD ds [] post mid h;simpa[Ut]using this
def yL(hm:tup=ZZ->m=1)(h:takes m tup d=Z_ ds):ds.length=m:=by
 unfold takes at h;split at h
 .split at h
  .split at h
   .cases h;assumption
   .cases h
  .cases h
 .rename_i ht
  cases h;rw[hm (by simpa using ht)];rfl
def nY{wi:L2.TI}{g:TG}{m:Nat}{caps:List Nat}{tup:Bool}{tc te:T}{it:TI}(hk:W.K=X.K)(hm:tup=ZZ->m=1)
 (hwi:∀σ H (K:It->Hp->Prop),(∃me B δ l,SR X W me B H σ δ/\evI o δ ZX it=.ok l/\∀J H2,Same H H2->Ylds W J H2 (vis H2 (Hid B σ δ)) l->K J H2)->wi σ H K)
 (hg:∀H0,TgR { X with H₀:=H0 } W (Ru m) tup g)(h:tD X W lk (fun δ=>ev o δ lk (.comp caps m tup it tc te)) σ H Q) :
 Cw wi m caps g (λH0=>tT { X with H₀:=H0 } W fun δ=>ev o δ ZX tc) (λH0=>tD { X with H₀:=H0 } W ZZ fun δ=>ev o δ ZZ te) σ H Q:=by
 obtain⟨me,B,δ,S,h⟩:=tD_iff.mp h;simp only[ev]at h
 cases e1:evI o δ ZX it with
 | exc c=>rw[e1]at h;exact h.elim
 | stuck=>rw[e1]at h;exact h.elim
 | ok l=>
 rw[e1]at h
 cases e2:cW δ caps with
 | none=>rw[e2]at h;exact h.elim
 | some cs=>
 rw[e2]at h
 have h:After X W lk σ H (Hid B σ δ) ((bB (λx=>ev o ((x++cs).map λd=>some (.sh,d)) ZZ te) (λx=>ev o ((x++cs).map λd=>some (.sh,d)) ZX tc) m tup l).bind λr=>
  Xz (size r.length&&(immL r||caps.all λi=>!isOwn δ i)) (.ok (ZX,.lst r))) Q:=h
 refine hwi σ H _ ⟨me,B,δ,l,S,e1,λJ H2 s yl=>?_⟩;intro Da hD;obtain⟨vs,c1,c2,c3⟩:=o8 S e2;generalize hown:(caps.all λi=>!isOwn δ i)=own at h c3;generalize hP:Hid B σ δ=P at *
 have softP:Soft H2 P:=by subst hP;exact S.softH.mono S.know s
 have goneP:∀b,P b->∃u,H2 b=Z_ u:=λb hb=>by
  subst hP;obtain⟨u,e⟩:=S.know b hb;exact⟨u,s b u e⟩
 let Bq:Addr->Prop:=λb=>(P b/\(own=ZX\/V.ref b∉vs))\/b=Da
 have nD:∀{b:Addr}{u:HO},H2 b=Z_ u->b≠Da:=λe z=>by rw[z,hD]at e;cases e
 have upv:∀{H':Hp},Same H2 H'->Same (vis H2 Bq) (vis H' Bq):=λs'=>au s'
 have inP:Same (vis H2 P) (vis H2 Bq):=λb u e=>by
  obtain⟨e1,e2⟩:=bK e
  refine bQ e1 λz=>?_
  rcases z with⟨z,_⟩ | z
  .exact e2 z
  .exact nD e1 z
 have capR:Reps W (vis H2 Bq) cs vs:=by
  cases own with
  | true=>exact((c3 rfl).mono (au s)).mono inP
  | false=>
    have q:=c2.lend vs (λv hv=>hv)
    refine(q.mono (au s)).mono λb u e=>?_
    obtain⟨e1,e2⟩:=bK e
    refine bQ e1 λz=>?_
    rcases z with⟨z1,z2⟩ | z
    .rcases z2 with z2 | z2
     .cases z2
     .exact e2 ⟨z1,z2⟩
    .exact nD e1 z
 let δ0:Dst:=Ry m none++bZ cs
 have δ0sh:∀(i:Nat)(w:Own)(d:D),δ0[i]?=Z_ (Z_ (w,d))->w=.sh/\m<=i/\cs[i-m]?=Z_ d:=λi w d e=>by
  by_cases hi:i<m
  .have e:(Ry m none++bZ cs)[i]?=Z_ (Z_ (w,d)):=e
   rw[S6 (by simpa using hi),V8]at e;split at e<;>cases e
  .have e:(Ry m none++bZ cs)[i]?=Z_ (Z_ (w,d)):=e
   rw[RT (by simpa using hi),Tg]at e;obtain⟨e1,e2⟩:=mX e;exact⟨e1,by omega,e2⟩
 have softQ:∀{H':Hp}{ys:List V},Same H2 H'->H' Da=Z_ (.lst ys)->Soft H' Bq:=λ{H' ys} s' hd b hb u e=>by
  rcases hb with⟨hb,_⟩ | hb
  .obtain⟨u',e'⟩:=goneP b hb
   have:=s' b u' e';rw[e]at this;cases this;exact softP b hb u e'
  .rw[hb,hd]at e;cases e
   exact⟨(by intro _ z;cases z),(by intro _ _ z;cases z)⟩
 have goneQ:∀{H':Hp}{ys:List V},Same H2 H'->H' Da=Z_ (.lst ys)->∀b,Bq b->∃u,H' b=Z_ u:=λ{H' ys} s' hd b hb=>by
  rcases hb with⟨hb,_⟩ | hb
  .obtain⟨u',e'⟩:=goneP b hb
   exact⟨u',s' b u' e'⟩
  .exact⟨_,by rw[hb];exact hd⟩
 let X0:Cx:={ X with H₀:=upd H2 Da (.lst []) }
 have mkS:∀{H':Hp} {σ':L2.St} {ys:List V},σ'.length=m+cs.length->(∀(j:Nat)(d:D),cs[j]?=Z_ d->∃v,σ'[m+j]?=Z_ (Z_ v)/\Rep W (vis H' Bq) d v)->Same H2 H'->H' Da=Z_ (.lst ys)->SR X0 W (Z_ Da) Bq H' σ' δ0:=λ{H' σ' ys} hl hc s' hd=>by
  refine SR.plain hk (by rw[hl];simp[δ0,bZ]) (λi w d e=>?_) (λb u e hb=>?_) (softQ s' hd) (goneQ s' hd) (λx hx=>by cases hx;exact⟨_,hd⟩)
  .obtain⟨h1,h2,h3⟩:=δ0sh i w d e
   obtain⟨v,q1,q2⟩:=hc _ d h3;exact⟨h1,v,by rw[<-q1];congr 1;omega,q2⟩
  .have hb':b≠Da:=λz=>hb (by rw[z])
   have e:upd H2 Da (.lst []) b=Z_ u:=e;rw[aX hb']at e;exact s' b u e
 generalize hT:((bB (λx=>ev o ((x++cs).map λd=>some (.sh,d)) ZZ te) (λx=>ev o ((x++cs).map λd=>some (.sh,d)) ZX tc) m tup l).bind λr=>
  Xz (size r.length&&(immL r||own)) (Yd (ZX,Yr r)))=Tt at h
 refine⟨λi k ys σ' H'=>∃rs,i<=l.length/\k=l.length-i/\σ'.length=m+cs.length/\(∀(j:Nat)(d:D),cs[j]?=Z_ d->∃v,σ'[m+j]?=Z_ (Z_ v)/\Rep W (vis H' Bq) d v)/\Same H2 H'/\H' Da=Z_ (.lst ys)/\Reps W (vis H' Bq) rs ys /\
  ((bB (λx=>ev o ((x++cs).map λd=>some (.sh,d)) ZZ te) (λx=>ev o ((x++cs).map λd=>some (.sh,d)) ZX tc) m tup (l.drop i)).bind λr=>Xz (size (rs++r).length&&(immL (rs++r)||own)) (Yd (ZX,Yr (rs++r))))=Tt,⟨l.length,[],Va _,by simp,?_,?_,Same.upd hD,bA,by simp only[Reps],by simpa using hT⟩,?_⟩
 .unfold dC
  rw[c1,R4,Tg,R5,capR.length]
 .intro j d e
  obtain⟨v,q1,q2⟩:=capR.get e;refine⟨v,?_,q2.mono (upv (Same.upd hD))⟩;unfold dC;rw[c1,RT (by simp),Tg,U8,RM,q1]
  rfl
 .rintro i k ys σ' H' ⟨rs,hi,rfl,hl,hc,s',hd,hr,hTi⟩
  by_cases hlt:i<l.length
  ·
   refine .inr ⟨yl.go i H' s' (by omega),λx H'' y=>?_⟩
   obtain⟨d,ed⟩:∃d,l[i]?=Z_ d:=⟨_,Rn hlt⟩
   obtain⟨sy,rd⟩:=(yl.yld i H' x H'' d s' ed y).rep (inP.trans (upv s')) (goneQ s' hd)
   replace hc:∀(j:Nat)(d:D),cs[j]?=Z_ d->∃v,σ'[m+j]?=Z_ (Z_ v)/\Rep W (vis H'' Bq) d v:=λj d e=>
    let⟨v,q1,q2⟩:=hc j d e
    ⟨v,q1,q2.mono (au sy)⟩
   replace hd:=sy Da _ hd
   replace hr:=hr.mono (au (P:=Bq) sy)
   replace s':=s'.trans sy
   have hdr:l.drop i=d::l.drop (i+1):=by
    obtain⟨h1,h2⟩:=R9.mp ed;rw[List.drop_eq_getElem_cons h1,h2]
   rw[hdr,bB]at hTi
   cases e3:takes m tup d with
   | none=>rw[e3]at hTi;subst hTi;exact h.elim
   | some ds=>
   rw[e3]at hTi;have lds:=yL hm e3;have S0:=mkS hl hc s' hd
   have hset:aM δ0 (Ru m) ds=Z_ (bZ ds++bZ cs):=by
    have:=nM ds (Ry m none) (bZ cs) (by simp[lds]);rw[lds]at this;exact this
   have δ1sh:∀(i:Nat)(w:Own)(d:D),(bZ ds++bZ cs)[i]?=Z_ (Z_ (w,d))->w=.sh:=λi w d e=>by
    have:bZ ds++bZ cs=bZ (ds++cs):=by simp[bZ]
    rw[this]at e;exact(mX e).1
   have hap:(bZ ds++bZ cs)=(ds++cs).map λd=>some (Own.sh,d):=by simp[bZ]
   have vp0:vis H'' (Hid Bq σ' δ0)=vis H'' Bq:=jj λi w d e=>(δ0sh i w d e).1
   refine hg (upd H2 Da (.lst [])) S0 (by rw[vp0];exact rd) (by rw[List.length_range];exact e3) hset fun σ1 S1 s1=>?_
   have capS:∀{H4:Hp},Same H'' H4->∀(j:Nat)(d:D),cs[j]?=Z_ d->∃v,σ1[m+j]?=Z_ (Z_ v)/\Rep W (vis H4 Bq) d v:=λ{H4} s4 j d e=>by
    obtain⟨v,q1,q2⟩:=S1.sh (m+j) d (by
     rw[RT (by simp[bZ,lds])]
     simp[bZ,lds,e])
    rw[jj δ1sh]at q2;exact⟨v,q1,q2.mono (au s4)⟩
   have len1:σ1.length=m+cs.length:=by rw[S1.len];simp[bZ,lds]
   have hTi:((ev o ((ds++cs).map λd=>some (.sh,d)) ZX tc).bind λt=>(Xu (truth t.2)).bind λb=>if b then(ev o ((ds++cs).map λd=>some (.sh,d)) ZZ te).bind λy=>(bB (λx=>ev o ((x++cs).map λd=>some (.sh,d)) ZZ te) (λx=>ev o ((x++cs).map λd=>some (.sh,d)) ZX tc) m tup (l.drop (i+1))).bind λr=>.ok (y.2::r)
    else bB (λx=>ev o ((x++cs).map λd=>some (.sh,d)) ZZ te) (λx=>ev o ((x++cs).map λd=>some (.sh,d)) ZX tc) m tup (l.drop (i+1))).bind (λr=>Xz (size (rs++r).length&&(immL (rs++r)||own)) (Yd (ZX,Yr (rs++r))))=Tt:=hTi
   refine⟨some Da,Bq,_,S1,?_⟩;show(match(ev o (bZ ds++bZ cs) ZX tc).bind (λx=>Xu (truth x.2))with | .ok b=>_ | .exc c=>_ | .stuck=>_);rw[hap]
   cases e4:ev o ((ds++cs).map λd=>some (Own.sh,d)) ZX tc with
   | exc c=>rw[e4]at hTi;subst hTi;exact h.elim
   | stuck=>rw[e4]at hTi;subst hTi;exact h.elim
   | ok t=>
   rw[e4]at hTi;show(match Xu (truth t.2)with | .ok b=>_ | .exc c=>_ | .stuck=>_)
   cases e5:truth t.2 with
   | none=>simp only[Xr,e5,Xu]at hTi;subst hTi;exact h.elim
   | some bb=>
   simp only[Xr,e5,Xu]at hTi;intro H4 s4;have hd4:H4 Da=Z_ (.lst ys):=s4 Da _ hd
   cases bb with
   | false=>
     simp only[QW,if_false]at hTi ⊢;exact⟨l.length-(i+1),by omega,rs,by omega,rfl,len1,capS s4,s'.trans s4,hd4,hr.mono (au s4),hTi⟩
   | true=>
     simp only[if_true]at hTi ⊢;refine tD_iff.mpr ⟨some Da,Bq,_,S1.mono s4,?_⟩;rw[hap]
     cases e6:ev o ((ds++cs).map λd=>some (Own.sh,d)) ZZ te with
     | exc c=>rw[e6]at hTi;subst hTi;exact h.elim
     | stuck=>rw[e6]at hTi;subst hTi;exact h.elim
     | ok y6=>
     rw[e6]at hTi
     cases e7:bB (λx=>ev o ((x++cs).map λd=>some (.sh,d)) ZZ te) (λx=>ev o ((x++cs).map λd=>some (.sh,d)) ZX tc) m tup (l.drop (i+1))with
     | exc c=>simp only[e7]at hTi;subst hTi;exact h.elim
     | stuck=>simp only[e7]at hTi;subst hTi;exact h.elim
     | ok rr=>
     simp only[e7]at hTi;intro v H5 s5 q;rw[<-hap]at q;have q':=q.keep (S1.mono s4).know;rw[jj δ1sh]at q';have hd5:H5 Da=Z_ (.lst ys):=s5 Da _ hd4
     have hsz:size (rs++y6.2::rr).length=ZX:=by
      subst hTi;have:=(eN h).1;simp only[QR]at this;exact this.1
     have hlen:ys.length<sizeLine:=by
      have:=dg hsz;rw[R4,R6,hr.length]at this;omega
     have up6:Same (vis H5 Bq) (vis (upd H5 Da (.lst (ys++[v]))) Bq):=λb u e=>by
      obtain⟨z1,z2⟩:=bK e
      have hb:b≠Da:=λz=>z2 (.inr z)
      exact bQ (by rw[aX hb];exact z1) z2
     have s6:Same H2 (upd H5 Da (.lst (ys++[v]))):=λb u e=>by
      rw[aX (nD e)];exact s5 b u (s4 b u (s' b u e))
     refine⟨hd5,hlen,l.length-(i+1),by omega,rs++[y6.2],by omega,rfl,len1,λj d e=>?_,s6,bA,?_,?_⟩
     .obtain⟨w,q1,q2⟩:=capS (s4.trans s5) j d e
      exact⟨w,q1,q2.mono up6⟩
     .refine Reps.append ((hr.mono (au (s4.trans s5))).mono up6) ?_
      simp only[Reps];exact⟨q'.mono up6,trivial⟩
     .show Xz _ _=_
      rw[<-hTi];simp only[Xr,S7,List.singleton_append]
  ·
   have hil:i=l.length:=by omega
   subst hil;refine .inl ⟨yl.stop H' s',?_⟩;rw[List.drop_length,bB]at hTi;simp only[Xr,RC]at hTi;subst hTi;obtain⟨hc1,h⟩:=eN h;simp only[QR,V1]at hc1;refine h (.ref Da) H' (s.trans s') ?_;unfold Res;rw[if_pos rfl];refine⟨Da,rfl,s.free hD,ys,hd,?_⟩;rcases hc1.2 with him | ho
   .refine(Reps.imm (H:=H') (P:=λb=>P b\/b=Da) (λb hb u e=>?_) him (hr.mono bw))
    rcases hb with hb | hb
    .obtain⟨u',e'⟩:=goneP b hb
     have:=s' b u' e';rw[e]at this;cases this;exact softP b hb u e'
    .rw[hb,hd]at e;cases e
     exact⟨(by intro _ z;cases z),(by intro _ _ z;cases z)⟩
   .refine hr.mono (aJ λb hb=>?_)
    rcases hb with hb | hb
    .exact .inl ⟨hb,.inl ho⟩
    .exact .inr hb
end
def Mi{k k':Key}(h:kV k=kV k'):k=k':=by
 cases k<;>cases k'<;>simp[kV]at h<;>simp[h]
def Bt{H H':Hp}{a:Addr}{kvs:List (Key×V)}{k:Key}{v:V}{ep:Nat}(e:H a=Z_ (.dK kvs ep))(g:DPut H a (kV k) v H'):∃ep',H'=upd H a (.dK (putK kvs k v) ep'):=by
 rcases g with⟨kvs',k',e1,e2,h1,h2,_,h3⟩ | ⟨kvs',k',b,h1,h2,_⟩
 .rw[e]at h1
  cases h1;rw[Mi h2];exact⟨e2,h3⟩
 .rw[e]at h1;cases h1
section
variable{X:Cx}{W:Wd}{lk lk':Bool}{σ:L2.St}{H H1 H':Hp}{me:Option Addr}{B:Addr->Prop}{δ:Dst}{Q Q':VK}{a b:Expr}{pos p pos':Pos}{o:Orc}
def get_set(hi:δ[i]?=Z_ (Z_ (w,d)))(h:(δ.set i (Z_ (w,d')))[j]?=Z_ (Z_ (w',x))):(j=i/\w'=w/\x=d')\/(j≠i/\δ[j]?=Z_ (Z_ (w',x))):=by
 have hl:i<δ.length:=(R9.mp hi).1
 by_cases hj:j=i
 .subst hj
  rw[RG hl]at h;cases h;exact .inl ⟨rfl,rfl,rfl⟩
 .rw[RQ (SJ hj)]at h
  exact .inr ⟨hj,h⟩
def dz(hi:δ[i]?=Z_ (Z_ (w,d))):fP σ (δ.set i (Z_ (w,d'))) j c↔fP σ δ j c:=by
 have hl:i<δ.length:=(R9.mp hi).1
 constructor
 .rintro⟨⟨w',x,h1,h2⟩,h3⟩
  rcases get_set hi h1 with⟨rfl,rfl,rfl⟩ | ⟨_,h⟩
  .exact⟨⟨_,_,hi,h2⟩,h3⟩
  .exact⟨⟨w',x,h,h2⟩,h3⟩
 .rintro⟨⟨w',x,h1,h2⟩,h3⟩
  by_cases hj:j=i
  .subst hj
   rw[hi]at h1;cases h1;exact⟨⟨w,d',by rw[RG hl],h2⟩,h3⟩
  .exact⟨⟨w',x,by rw[RQ (SJ hj)];exact h1,h2⟩,h3⟩
def dG(hi:δ[i]?=Z_ (Z_ (w,d))):Hid B σ (δ.set i (Z_ (w,d')))=Hid B σ δ:=by
 funext c
 apply propext
 unfold Hid
 constructor
 .rintro(h | ⟨j,h⟩)
  .exact .inl h
  .exact .inr ⟨j,(dz hi).mp h⟩
 .rintro(h | ⟨j,h⟩)
  .exact .inl h
  .exact .inr ⟨j,(dz hi).mpr h⟩
def SR.own(S:SR X W me B H σ δ)(hi:ownD δ i=Z_ (w,d)):δ[i]?=Z_ (Z_ (w,d))/\w≠.sh/\∃c,σ[i]?=Z_ (Z_ (V.ref c))/\OwnAt W H (vis H (Hid B σ δ)) c d/\¬B c/\(∀u,X.H₀ c=Z_ u->some c=me):=by
 unfold ownD at hi;split at hi
 .rename_i d' e
  cases hi;obtain⟨c,h1,h2,h3,h4,h5⟩:=S.ow i _ e;exact⟨e,by decide,c,h1,h2,h4,λu z=>by rw[h3]at z;cases z⟩
 .rename_i d' e
  cases hi;obtain⟨_,c,h0,h1,h2,h4⟩:=S.mi i _ e;exact⟨e,by decide,c,h1,h2,h4,λu _=>h0.symm⟩
 .cases hi
def SR.write(S:SR X W me B H σ δ)(hi:δ[i]?=Z_ (Z_ (w,d)))(hw:w≠.sh)(hc:σ[i]?=Z_ (Z_ (V.ref c)))(hB:¬B c)(hX:∀u,X.H₀ c=Z_ u->some c=me)
 (new:OwnAt W (upd H c u) (vis H (Hid B σ δ)) c d'):SR X W me B (upd H c u) σ (δ.set i (Z_ (w,d')))/\Same (vis H (Hid B σ δ)) (vis (upd H c u) (Hid B σ (δ.set i (Z_ (w,d'))))):=by
 have hid:Hid B σ δ c:=.inr ⟨i,⟨w,d,hi,hw⟩,hc⟩
 have up:Same (vis H (Hid B σ δ)) (vis (upd H c u) (Hid B σ δ)):=λb v e=>by
  obtain⟨e1,e2⟩:=bK e
  have hb:b≠c:=λz=>e2 (z▸hid)
  exact bQ (by rw[aX hb];exact e1) e2
 have other:∀{j:Nat}{x:Own}{y:D},j≠i->δ[j]?=Z_ (Z_ (x,y))->x≠.sh->∀{e:Addr},σ[j]?=Z_ (Z_ (V.ref e))->e≠c:=λhj h1 h2 e h3 z=>by
  subst z;exact hj (S.apart _ _ _ ⟨⟨_,_,h1,h2⟩,h3⟩ ⟨⟨_,_,hi,hw⟩,hc⟩)
 refine⟨?_,by rw[dG hi];exact up⟩;refine⟨S.kf,by simp[S.len],λj y h=>?_,λj y h=>?_,λj y h=>?_,λj k e h1 h2=>S.apart j k e ((dz hi).mp h1) ((dz hi).mp h2),λb v e hb=>?_,λb hb v e=>?_,λb hb=>?_,λx hx=>?_⟩
 .rw[dG hi]
  rcases get_set hi h with⟨_,rfl,_⟩ | ⟨_,h⟩
  .exact absurd rfl hw
  .obtain⟨v,h1,h2⟩:=S.sh j y h
   exact⟨v,h1,h2.mono up⟩
 .rw[dG hi]
  rcases get_set hi h with⟨rfl,rfl,rfl⟩ | ⟨hj,h⟩
  .obtain⟨e,h1,h2,h3,h4,h5⟩:=S.ow j d hi
   rw[hc]at h1;cases h1;exact⟨c,hc,new.mono (λ_ q=>q) up,h3,h4,h5⟩
  .obtain⟨e,h1,h2,h3⟩:=S.ow j y h
   exact⟨e,h1,h2.mono (λv q=>by rw[aX (other hj h (by decide) h1)];exact q) up,h3⟩
 .rw[dG hi]
  rcases get_set hi h with⟨rfl,rfl,rfl⟩ | ⟨hj,h⟩
  .obtain⟨h0,e,h1,h2,h3,h4⟩:=S.mi j d hi
   rw[hc]at h2;cases h2;exact⟨h0,c,h1,hc,new.mono (λ_ q=>q) up,h4⟩
  .obtain⟨h0,e,h1,h2,h3,h4⟩:=S.mi j y h
   exact⟨h0,e,h1,h2,h3.mono (λv q=>by rw[aX (other hj h (by decide) h2)];exact q) up,h4⟩
 .have hbc:b≠c:=λz=>hb (by subst z;exact hX v e)
  rw[aX hbc];exact S.same b v e hb
 .have hbc:b≠c:=λz=>hB (z▸hb)
  rw[aX hbc]at e;exact S.soft b hb v e
 .have hbc:b≠c:=λz=>hB (z▸hb)
  rw[aX hbc];exact S.gone b hb
 .by_cases hxc:x=c
  .subst hxc;exact⟨u,bA⟩
  .rw[aX hxc];exact S.live x hx
def PS.or{st:Stmt}{t t':TS}(h:PS X st t)(h':PS X st t'):PS X st (λD σ H=>t D σ H\/t' D σ H):=by
 intro pins s σ H D I q;rcases q with q | q
 .exact h pins s σ H D I q
 .exact h' pins s σ H D I q
def je(h:keyOf d=Z_ x)(r:RepT W H G d y):y=kV (keyV x):=by
 cases d<;>first | exact nope h | simp only[keyOf]at h
 .cases h;exact aV r
 .cases h;exact(bz r).1
def HY(h:keyOf d=Z_ x)(r:RepT W H G d y)(e:Y4 z=x):z.length<=16777216:=by
 subst e
 cases d<;>simp only[keyOf]at h<;>first | (cases h;done) | skip
 cases h;exact(bz r).2
def Fv{q:Key×V}{r:List (Key×V)}{k:Key}{v:V}(h:q.1≠k):putK (q::r) k v=q::putK r k v:=by
 unfold putK;rw[RN,decide_eq_false h,Ug];split
 .rw[QL,if_neg h]
 .rfl
def GD{q:Key×V}{r:List (Key×V)}{k:Key}{v:V}(h:q.1=k)(hn:k∉r.map (·.1)):putK (q::r) k v=(q.1,v)::r:=by
 unfold putK;rw[RN,decide_eq_true h,Bool.true_or,if_pos rfl,QL,if_pos h]
 congr 1
 rw[List.map_congr_left (g:=id) (λp hp=>?_),List.map_id]
 have:p.1≠k:=λz=>hn (z▸Uy hp)
 simp[this]
def Bu{ks:List DK}{x:DK}:keyV x∈ks.map keyV↔x∈ks:=by
 constructor
 .intro h
  obtain⟨y,hy,e⟩:=Rx.mp h;rw[<-iM e];exact hy
 .exact λh=>Uy h
theorem tG(rd:Rep W G d v):∀{ks:List DK}{vs:List D}{kvs:List (Key×V)},kvs.map (·.1)=ks.map keyV->ks.Nodup->Reps W G vs (kvs.map (·.2)) ->
 (putK kvs (keyV x) v).map (·.1)=(cO ks x).map keyV/\Reps W G (putV ks vs x d) ((putK kvs (keyV x) v).map (·.2))
 | [],[],[],_,_,_=>by
   refine⟨rfl,?_⟩;simp only[putV,putK,VM,QW,if_false,List.nil_append,QL,S9,Reps];exact⟨rd,trivial⟩
 | [],_::_,[],_,_,r=>by simp only[S9,Reps]at r
 | [],_,_::_,e,_,_=>by simp at e
 | _::_,_,[],e,_,_=>by simp at e
 | _::_,[],_::_,_,_,r=>by simp only[QL,Reps]at r
 | k0::ks,d0::vs,q::kvs,e,nd,r=>by
   simp only[QL,Tj]at e;simp only[QL,Reps]at r;obtain⟨nd1,nd2⟩:=T3.mp nd
   by_cases hx:k0=x
   .subst hx
    rw[GD e.1 (by rw[e.2,Bu];exact nd1)];simp only[cO,putV,if_true,QL,e.1,e.2,Reps];exact⟨trivial,rd,r.2⟩
   .have hk:q.1≠keyV x:=λz=>hx (iM (e.1.symm.trans z))
    obtain⟨h1,h2⟩:=tG rd e.2 nd2 r.2;rw[Fv hk];simp only[cO,putV,if_neg hx,QL,e.1,Reps];exact⟨by rw[h1],r.1,h2⟩
theorem putKs_mem:∀{ks:List DK},y∈cO ks x↔y∈ks\/y=x
 | []=>by simp[cO]
 | k::ks=>by
   simp only[cO];split
   .rename_i h
    subst h
    constructor
    .exact .inl
    .rintro(h | h)
     .exact h
     .rw[h];exact QM
   .rw[R8,putKs_mem,R8,or_assoc]
theorem jb:∀{ks:List DK},ks.Nodup->(cO ks x).Nodup
 | [],_=>by simp[cO]
 | k::ks,h=>by
   obtain⟨h1,h2⟩:=T3.mp h;simp only[cO];split
   .exact h
   .rename_i hk
    refine T3.mpr ⟨λz=>?_,jb h2⟩;rcases putKs_mem.mp z with z | z
    .exact h1 z
    .exact hk z
def zW:Uc e (Z_ (.Subscript o' i' pp)) l env=pure ZZ:=by
 cases e<;>rfl
def Hz{i:Nat}{x:Str}{k e:Expr}{tk te:T}(hk:W.K=X.K)(hu:X.A.units+1<Vz)(hv:PE X (.Name x p) (tVar i))(hK:PE X k (tD X W ZX fun δ=>ev o δ ZX tk))(he:PE X e (tD X W ZZ fun δ=>ev o δ ZZ te))
 (ha:∀v,VG (.Subscript (.Name x p) k pos') X.env v=(do
  let ov <-TX [v] (S8 (.Name x p) X.env)
  let iv <-TX [v,ov] (S8 k X.env)
  Vk pos'
  TX [v,ov,iv] (Xd ov iv v)
  release [v,ov,iv] []))
 (hs1:swapsWithSole [.Subscript (.Name x p) k pos'] e pos.line X.env=pure ZZ) (hs2:swappedStores [.Subscript (.Name x p) k pos'] e X.env=pure none) (h1:(T7 [.Subscript (.Name x p) k pos'] X.env).map (·.2)=[VG (.Subscript (.Name x p) k pos') X.env]) :
 PS X (.Assign [.Subscript (.Name x p) k pos'] e pos) (tS X W (evS o (.seti i tk te))):=by
 refine PS.imp (PS.or (FP hu hv hK he zW) (Li he (JC hv hK set_list ha) hs1 hs2 h1)) λEn σ H ⟨me,B,δ,S,h⟩=>?_
 simp only[evS]at h;obtain⟨S1,e1⟩:=S.evF o te;have sub1:=gO (B:=B) (σ:=σ) (δ:=δ) o te;generalize (evF o δ te).1=δ1 at *;generalize (evF o δ te).2=r1 at *;obtain⟨r,e2,h⟩:=SO.of_ok h;obtain⟨y,e3,h⟩:=SO.of_ok h;obtain⟨q,e4,h⟩:=bY h
 cases e5:ownD δ1 i with
 | none=>rw[e5]at e4;cases e4
 | some c=>
 obtain⟨w,d⟩:=c;rw[e5]at e4;simp only[R7]at e4
 cases e6:putItem d y.2 r.2 with
 | none=>rw[e6]at e4;cases e4
 | some d'=>
 rw[e6]at e4;cases e4
 have go:∀{K1:V->V->V->Hp->Prop},(∀(ad:Addr)(v u:V)(H2:Hp),SR X W me B H2 σ δ1->Same H H2->σ[i]?=Z_ (Z_ (V.ref ad))->Rep W (vis H2 (Hid B σ δ1)) r.2 v->RepT W H2 (vis H2 (Hid B σ δ1)) y.2 u->K1 (.ref ad) u v H2) ->
  tD X W ZZ (fun δ=>ev o δ ZZ te) σ H λv H1=>tVar i σ H1 λx H2=>tD X W ZX (fun δ=>ev o δ ZX tk) σ H2 λu H3=>K1 x u v H3:=λ{K1} k1=>by
  refine tD_iff.mpr ⟨me,B,δ1,S1,?_⟩;rw[<-e1,e2];intro v H1 s1 q1;obtain⟨_,_,ad,o3,_⟩:=S1.own e5;refine⟨_,o3,tD_iff.mpr ⟨me,B,δ1,S1.mono s1,?_⟩⟩;rw[e3];intro u H2 s2 q2;exact k1 ad v u H2 ((S1.mono s1).mono s2) (s1.trans s2) o3 ((q1.keep S1.know).mono (au s2)) q2.look
 have last:∀{ad:Addr}{v u:V}{H2:Hp}{ob:HO},SR X W me B H2 σ δ1->Same H H2->σ[i]?=Z_ (Z_ (V.ref ad))->OwnAt W (upd H2 ad ob) (vis H2 (Hid B σ δ1)) ad d'->En.nx σ (upd H2 ad ob):=λ{ad v u H2 ob} S2 s2 o3 new=>by
  obtain⟨o1,o2,ad',o3',o4,o5,o6⟩:=S2.own e5;rw[o3]at o3';cases o3';obtain⟨S3,s3⟩:=S2.write o1 o2 o3 o5 o6 new;exact h _ _ S3 (((aJ sub1).trans (au s2)).trans s3)
 cases d with
 | dct ks vs=>
   simp only[putItem]at e6
   cases e7:keyOf y.2 with
   | none=>rw[e7]at e6;cases e6
   | some kx=>
   rw[e7]at e6;simp only[R7]at e6;split at e6
   .rename_i hsz
    cases e6;refine .inl (go λad v u H2 S2 s2 o3 rv tu=>?_);obtain⟨_,_,ad',o3',o4,_⟩:=S2.own e5;rw[o3]at o3';cases o3';obtain⟨kvs,⟨ep,q1⟩,q2,q3,q4⟩:=o4
    have hl:kvs.length=ks.length:=by simpa using congrArg Sx q2
    refine⟨ad,rfl,⟨upd H2 ad (.dK (putK kvs (keyV kx) v) 0),?_⟩,λH4 g4=>?_⟩
    .rw[je e7 tu]
     exact DPut.k q1 (by rw[hl,Th];omega)
    .rw[je e7 tu]at g4
     obtain⟨ep',rfl⟩:=Bt q1 g4;refine last (v:=v) (u:=u) S2 s2 o3 ?_;obtain⟨p1,p2⟩:=tG rv q2 q3.1 q4;exact⟨_,⟨ep',bA⟩,p1,⟨jb q3.1,λz hz=>(putKs_mem.mp hz).elim (q3.2 z) λhz=>HY e7 tu hz⟩,p2⟩
   .cases e6
 | lst l=>
   cases e7:y.2 with
   | int j=>
     rw[e7]at e6;simp only[putItem]at e6
     cases e8:place l.length j with
     | none=>rw[e8]at e6;cases e6
     | some n=>
     rw[e8]at e6;cases e6;refine .inr (go λad v u H2 S2 s2 o3 rv tu=>?_);rw[e7]at tu;obtain⟨_,_,ad',o3',o4,_⟩:=S2.own e5;rw[o3]at o3';cases o3';obtain⟨xs,q1,q2⟩:=o4;refine⟨ad,xs,j,n,rfl,aV tu,q1,iR (α:=V) (by rw[<-q2.length];exact e8),last (v:=v) (u:=u) S2 s2 o3 ⟨_,bA,q2.set rv n⟩⟩
   | _=>rw[e7]at e6;cases e6
 | _=>cases e6
end
section
variable{X:Cx}{W:Wd}{lk lk':Bool}{σ:L2.St}{H H1 H':Hp}{me:Option Addr}{B:Addr->Prop}{δ:Dst}{Q Q':VK}{a b:Expr}{pos p pos' apos cpos:Pos}{o:Orc}
noncomputable def aC:Expr->Bool
 | .Starred _ _=>true
 | _=>false
def bL(h:aC e=ZZ):R3 (e::es) env=(ZZ,S8 e env)::R3 es env:=by
 cases e<;>first | rfl | (simp[aC]at h)
def few1(h:aC e=ZZ):((SQ cpos (R3 [e] env)).all (λx=>!x.1)&&(Vc cpos (TJ [] env)).all (λx=>x.1.isSome)
 && decide (([e]:List Expr).length+([]:List VN).length+(if([]:List VN).isEmpty then 0 else 1)<30))=ZX:=by
 rw[bL h];rfl
noncomputable def plainBase:Expr->Bool
 | .Call (.Name _ _) [] [] _=>false
 | _=>true
def dJ(h:plainBase e=ZX):Uq e m env w=w:=by
 unfold Uq;split
 .simp[plainBase]at h
 .rfl
def nJ:Uc (.Call f args kws pp) none l env=pure ZZ:=rfl
def xj(hv:PE X (.Name x p) (tVar i))(he:PE X e (tD X W ZZ fun δ=>ev o δ ZZ te))(hst:aC e=ZZ)(hline:(apos.endLine==cpos.line)=ZX) :
 PS X (.Expr (.Call (.Attribute (.Name x p) "append" apos) [e] [] cpos) pos) (tS X W (evS o (.append i te))):=by
 refine PS.imp (qp (Iz PySem.F.plainAttrs_list PySem.F.slot_list_append PySem.F.type_list_append jr hv (bT he dZ (bL hst)) (dJ rfl) (few1 hst) hline (bL hst) rfl) nJ) λEn σ H ⟨me,B,δ,S,h⟩=>?_
 simp only[evS]at h;obtain⟨S1,e1⟩:=S.evF o te;have sub1:=gO (B:=B) (σ:=σ) (δ:=δ) o te;generalize (evF o δ te).1=δ1 at *;generalize (evF o δ te).2=r1 at *;obtain⟨r,e2,h⟩:=SO.of_ok h;obtain⟨q,e4,h⟩:=bY h
 cases e5:ownD δ1 i with
 | none=>rw[e5]at e4;cases e4
 | some c=>
 obtain⟨w,d⟩:=c;rw[e5]at e4;simp only[R7]at e4
 cases d with
 | lst l=>
   simp only at e4;split at e4
   .rename_i hsz
    cases e4;obtain⟨_,_,ad,o3,⟨xs0,q0,_⟩,_⟩:=S1.own e5;refine⟨_,o3,.inl ⟨rfl,xs0,SqL.of q0⟩,tD_iff.mpr ⟨me,B,δ1,S1,?_⟩⟩;rw[<-e1,e2];intro v H1 s1 q1;obtain⟨o1,o2,ad',o3',⟨xs,q2,q3⟩,o5,o6⟩:=(S1.mono s1).own e5;rw[o3]at o3';cases o3';have hz:=dg hsz;have hl:=q3.length;refine⟨ad,xs,v,rfl,rfl,q2,by omega,?_⟩;have rv:=q1.keep S1.know;obtain⟨S3,s3⟩:=(S1.mono s1).write (u:=.lst (xs++[v])) (d':=.lst (l++[r.2])) o1 o2 o3 o5 o6 ⟨_,bA,q3.append (by simp only[Reps];exact⟨rv,trivial⟩)⟩;exact h _ _ S3 (((aJ sub1).trans (au s1)).trans s3)
   .cases e4
 | _=>cases e4
def Bk(lo:Int)(n:Nat):Reps W G ((Ru n).map λ(k:Nat)=>Xk (lo+(k:Int))) ((Ru n).map λ(k:Nat)=>V.int (lo+(k:Int))):=by
 induction Ru n with
 | nil=>simp only[S9,Reps]
 | cons k l ih=>simp only[QL,Reps,Rep];exact⟨trivial,ih⟩
def NB(h:inR i=ZX):-1000000<=i/\i<=1000000:=by
 unfold inR at h;simpa using h
end
noncomputable def veB:List Value:=[.type "ValueError",.type "Exception",.type "BaseException",.type "object"]
structure XObj(h:Rc)(C:Addr)(bm:List Value):Prop where
 ob:∃N nm qn bs hd sn sb ab col dd k0 k1 k2 k3 k5 mN,h.get? C=Z_ (excClassObj nm qn C N bs bm hd sn sb ab col dd k0 k1 k2 k3 k5 "ValueError.__new__")/\h.Ns N mN/\mN "__init__"=ZW
 tl:OwnTail h veB bm
noncomputable def xIn(K:QK)(C:Addr):Option (List Value):=match K.lookup C with
 | some ⟨.type "type",_,.cls cd,sl⟩=>(match cd.mro,sl.toList with
   | .ref C'::bm,[_,_,_,_,some (.builtin n),_]=>if C'=C/\n="ValueError.__new__"/\cd.hasDel=ZZ/\PySem.W.tailIn K veB bm=ZX/\PySem.W.nsOkIn K cd.ns=ZX/\V3 K cd.ns "__init__"=Z_ none then some bm else none
   | _,_=>none)
 | _=>none
def pI{K:QK}{h:Rc}{C:Addr}{bm:List Value}(X:K.In h)(q:xIn K C=Z_ bm):XObj h C bm:=by
 unfold xIn at q;split at q
 case h_2=>cases q
 case h_1 dd cd sl ho=>
 split at q
 case h_2=>cases q
 case h_1 C' bm' k0 k1 k2 k3 n k5 hm hs=>
 split at q
 case isFalse=>cases q
 case isTrue hc=>
 obtain⟨e1,e2,e3,e4,e5,e6⟩:=hc;cases q;subst e1 e2;refine⟨?_,PySem.W.tail_of_in X e4⟩
 have hsl:sl=#[k0,k1,k2,k3,some (.builtin "ValueError.__new__"),k5]:=by
  cases sl with
  | mk l=>simp only at hs;rw[hs]
 obtain⟨nm,bs,mro,N,qn,hd,sn,sb,ab,col,del⟩:=cd;simp only at hm e3 e5 e6;subst hm e3 hsl;exact⟨N,nm,qn,bs,hd,sn,sb,ab,col,dd,k0,k1,k2,k3,k5,_,X C' _ ho,.of_isNs (PySem.W.isNs_of_in X e5),PySem.W.nsMap_none_of_in X e5 e6⟩
section
variable{M:Model}{A:S5}{E:Value->Shared->Prop}{s:Shared}
def wD(hP:XObj s.heap P bP)(hC:XObj s.heap C bC)(he:s.heap.get? e=Z_ oe)(hcls:oe.cls=.ref C)(hsub:(Value.ref C::bC).contains (.ref P)=ZX)(hq:Q ZX s) :
 Rg M A (excMatches (.ref e) (.ref P)) Q E s:=by
 obtain⟨⟨N,nm,qn,bs,hd,sn,sb,ab,col,dd,k0,k1,k2,k3,k5,mN,oP,_,_⟩,tP⟩:=hP;obtain⟨⟨N',nm',qn',bs',hd',sn',sb',ab',col',dd',k0',k1',k2',k3',k5',mN',oC,_,_⟩,tC⟩:=hC
 have hb:(Value.ref P::bP).contains (.type "BaseException")=ZX:=by rw[List.contains_cons,tP.hasType (X:="BaseException") (b:=ZX) (by decide +kernel),Bool.or_true]
 obtain⟨hh,g,d,t,os⟩:=s;have ft:=tc_notTuple;unfold excMatches
 repeat (first
  | (with_reducible refine wpAny_loadPart_at he ?_;rw[hcls])
  | with_reducible refine wpAny_loadPart_at oP ?_
  | (with_reducible refine wpAny_isSubtype_exc oP ?_;rw[hb])
  | (with_reducible refine wpAny_isSubtype_exc oC ?_;rw[hsub])
  | wp_step)
 exact hq
end
section
variable{X:Cx}{W:Wd}{o:Orc}{me:Option Addr}{B:Addr->Prop}{H:Hp}{σ:L2.St}{δ:Dst}
def Be(hc:X.calm=ZX)(hg:Gl X x)(hm:X.mg x=Z_ (.ref (W.CT C)))(hx:xIn X.K (W.CT C)=Z_ bm)(hdb:(x==("__debug__":Str))=ZZ)
 (ha:PE X arg (tD X W ZX fun δ=>ev o δ ZX ta))(hst:aC arg=ZZ):PS X (.Raise (Z_ (.Call (.Name x np) [arg] [] cpos)) none pos) (tS X W (evS o (.raise C ta))):=by
 intro pins s σ H D I ⟨me,B,δ,S,h⟩;simp only[evS]at h;obtain⟨r,e1,h⟩:=SO.of_ok h;have XI:XObj X.base (W.CT C) bm:=pI I.ok.mod.kin hx
 have hB:veB.contains (.type "ValueError")=ZX:=by decide +kernel
 obtain⟨⟨N,nm,qn,bs,hd,sn,sb,ab,col,dd,k0,k1,k2,k3,k5,mN,oC,hN,hni⟩,tl⟩:=XI;have hbase:bm.contains (.type "BaseException")=ZX:=tl.hasType (by decide +kernel);have hse:R3 [arg] X.env=[(ZZ,S8 arg X.env)]:=bL hst
 have bk:∀{s2:Shared}{H2:Hp},Inv X pins σ H2 s2->∀b ob,X.base.get? b=Z_ ob->s2.heap.get? b=Z_ ob:=λI2 b ob e=>(I2.bs b ob e).1
 refine wpAny_Raise_call_subU (Bn:="ValueError") (B:="ValueError") (newId:="ValueError.__new__") (C:=W.CT C) (nm:=nm) (q:=qn) (N:=N) (bs:=bs) (bm:=bm) (hdct:=hd) (sn:=sn) (sub:=sb) (ab:=ab) (col:=col) (dd:=dd)
  (k0:=k0) (k1:=k1) (k2:=k2) (k3:=k3) (k5:=k5) F.excBase_ValueError hB F.excBase_ValueError (mN:=mN) hbase (I.ok.hd hc) (by rw[hse];rfl) hni (fZ I hg hm ⟨rfl,?_⟩ hdb)
 rw[hse]
 have ht:tD X W ZX (fun δ=>ev o δ ZX ta) σ H λ_ H1=>Same H H1:=tD_iff.mpr ⟨me,B,δ,S,by rw[e1];exact λ_ H1 z _=>z⟩
 refine Calls.evalArgs_plain (Vs (thn (ha pins s σ H _ I ht) λv s1 ⟨y,H1,I1,_,q1⟩=>Calls.spliced_nil ?_));refine⟨rfl,by show 1<=sizeLine;decide,bk I1 _ _ oC,hN.keeps (bk I1),tl.keeps (bk I1),λh' a mx=>?_⟩;obtain⟨t,ho,tn,ht'⟩:=mx.there
 have un:Un (frs X.stack) [] H1 H1 s1.heap h':=⟨λb ob e _ _ _=>mx.keeps b ob e,λb ob e _ _ _=>⟨ob.slots,mx.keeps b ob e⟩,λ_ _ _ n _=>n,λb ob e _=>⟨ob,mx.keeps b ob e⟩,λ_ _ e=>e,λ_ _ _ e=>e,λb pq e=>⟨#[],by rw[e];simp⟩⟩
 have hn:H1 a=ZW:=by
  cases q:H1 a with
  | none=>rfl
  | some u=>
    obtain⟨ob,e⟩:=zL (I1.hok a u q);rw[mx.new]at e;cases e
 exact h pins σ H1 s1 I1 (S.mono q1) (au q1) a H1 { s1 with heap:=h' } ZZ (Fly.of I1 rfl I1.bare un (I1.hok.kept mx.keeps) mx.new hn ⟨_,_,ho,⟨rfl,rfl⟩,rfl,Nat.lt_of_sub_pos (by exact Nat.zero_lt_succ 4),.inl ⟨rfl,rfl⟩⟩) (Same.refl _)
noncomputable abbrev cxT(X:Cx)(pn:List (Addr×Obj))(E:Value->Shared->Prop):Cx:={ X with pn:=pn,xe:=E }
noncomputable abbrev cxM(X:Cx)(pn:List (Addr×Obj))(v:Value):Cx:={ X with A:=X.A.mark (Z_ v),calm:=ZZ,pn:=pn,xe:=λ_ _=>False }
def ok_T(ok:X.Ok):(cxT X pn E).Ok:=⟨ok.mod,ok.kind,ok.glob,ok.blt,ok.above,ok.inj,ok.has,ok.cab,ok.hd,ok.frames,ok.stk,ok.exf,ok.bs,ok.bsz,ok.noex,ok.exfs,ok.funs,ok.frf⟩
def PJ(ok:(cxT X pn E).Ok):X.Ok:=⟨ok.mod,ok.kind,ok.glob,ok.blt,ok.above,ok.inj,ok.has,ok.cab,ok.hd,ok.frames,ok.stk,ok.exf,ok.bs,ok.bsz,ok.noex,ok.exfs,ok.funs,ok.frf⟩
def ok_M(ok:X.Ok):(cxM X pn v).Ok:=⟨ok.mod,ok.kind,ok.glob,ok.blt,ok.above,ok.inj,ok.has,ok.cab,λz=>(nomatch z),ok.frames,ok.stk,ok.exf,ok.bs,ok.bsz,ok.noex,ok.exfs,ok.funs,ok.frf⟩
section
variable{pins:List (Addr×Obj)}{s:Shared}{E:Value->Shared->Prop}{v:Value}
def Kf(I:Inv X pins σ H s):Inv (cxT X (X.pn++pins) E) [] σ H s:=⟨ok_T I.ok,I.os,I.bare,I.base,I.loc,I.cell,I.free,I.freeC,λp hp=>I.pin p (by simpa using hp),I.hok,I.len⟩
def iu(I:Inv (cxT X (X.pn++pins) E) ps σ H s):Inv X pins σ H s:=⟨PJ I.ok,I.os,I.bare,I.base,I.loc,I.cell,I.free,I.freeC,λp hp=>I.pin p (Tn _ hp),I.hok,I.len⟩
def Nu(I:Inv X pins σ H s):Inv (cxM X (X.pn++pins) v) [] σ H s:=⟨ok_M I.ok,I.os,I.bare,I.base,I.loc,I.cell,I.free,I.freeC,λp hp=>I.pin p (by simpa using hp),I.hok,I.len⟩
def rJ(ok:X.Ok)(I:Inv (cxM X (X.pn++pins) v) [] σ H s):Inv X pins σ H s:=⟨ok,I.os,I.bare,I.base,I.loc,I.cell,I.free,I.freeC,λp hp=>I.pin p (by simpa using hp),I.hok,I.len⟩
end
def SR.re(S:SR X W me B H σ δ)(hk:Y.K=X.K)(h0:Y.H₀=X.H₀):SR Y W me B H σ δ:=⟨by rw[hk];exact S.kf,S.len,S.sh,by rw[h0];exact S.ow,S.mi,S.apart,by rw[h0];exact S.same,S.soft,S.gone,S.live⟩
def Fly.re(F:Fly X H s cls a H' s' tr)(h1:Y.stack=X.stack)(h2:Y.prog=X.prog)(h3:Y.w=X.w)(h4:Y.base=X.base):Fly Y H s cls a H' s' tr :=
 ⟨F.os,F.bare,by rw[h1];exact F.un,by rw[h2,h3];exact F.hok,F.newE,F.freeE,by rw[h1,h4];exact F.ff,by rw[h1];exact F.fr,F.exc⟩
def Fly.here(I:Inv X pins σ H s)(F:Fly X H s cls a H' s' tr):Inv X pins σ H' s':=I.call' F.os F.un F.hok F.bare (λb z=>absurd z (by simp))
end
section
variable{X:Cx}{W:Wd}{o:Orc}{me:Option Addr}{B:Addr->Prop}{H:Hp}{σ:L2.St}{δ:Dst}
def Ft{body:List Stmt}{cx:Str}{st:Stmt}{b:SL}{su:S}{c:Nat}{np hpos pos:Pos}(hnx:∀δ c δ',evS o su δ≠.ex c δ')
 (hst:X.stack=X.env::X.outer)(hfr:X.env.frame=Z_ X.env.locals)(hg:Gl X cx)(hm:X.mg cx=Z_ (.ref (W.CT c)))(hdb:(cx==("__debug__":Str))=ZZ)
 (hx:∀c',o.sub c' c=ZX->∃bP bC,xIn X.K (W.CT c)=Z_ bP/\xIn X.K (W.CT c')=Z_ bC/\(Value.ref (W.CT c')::bC).contains (.ref (W.CT c))=ZX)
 (hb:∀pn E,Us (Rm X.prog X.w) X.A X.env E->PSs (cxT X pn E) body (tS (cxT X pn E) W (evSs o b)))(hs:∀pn v,PS (cxM X pn v) st (tS (cxM X pn v) W (evS o su))) :
 PS X (.Try body [.ExceptHandler (Z_ (.Name cx np)) none [st] hpos] [] [] pos) (tS X W (evS o (.try_ b c none (.cons su .nil)))):=by
 intro pins s σ H D I ⟨me,B,δ,S,h⟩
 have hX:Top X X.env.locals:=⟨hst,hfr,I.ok.frames⟩
 refine wpAny_Try_except ?_
 have S0:∀{E:Value->Shared->Prop},SR (cxT X (X.pn++pins) E) W me B H σ δ:=λ{E}=>S.re rfl rfl
 have thru:∀(r:SO),evSs o b δ=r->(∀c δ',r≠.ex c δ')->AfterS X W me B (vis H (Hid B σ δ)) r D->Rg (Rm X.prog X.w) X.A (execs body X.env) (λf s₁=>match f with | .next=>Rg (Rm X.prog X.w) X.A (execs [] X.env) (SP X pins D) X.xe s₁ | f=>SP X pins D f s₁) (λe s₁=>Rg (Rm X.prog X.w) X.A (X6 e X.env) (λ_ s₂=>Rg (Rm X.prog X.w) X.A (setFlight e none) (λ_ s₃=>Rg (Rm X.prog X.w) X.A (handleBy e X.env [.ExceptHandler (Z_ (.Name cx np)) none [st] hpos]) (SP X pins D) X.xe s₃) X.xe s₂) X.xe s₁) s:=λr er hne ha=>by
  refine Tp (hb (X.pn++pins) (λ_ _=>False) Us.never [] s σ H D (Kf I) ⟨me,B,δ,S0,?_⟩) (λf s1 q=>?_) λ_ _ z=>z.elim
  .rw[er]
   cases r with
   | nx δ1=>exact fun σ H S z=>ha σ H (S.re rfl rfl) z
   | bk δ1=>exact fun σ H S z=>ha σ H (S.re rfl rfl) z
   | ct δ1=>exact fun σ H S z=>ha σ H (S.re rfl rfl) z
   | rt w d δ1=>exact λv σ H S z=>ha v σ H (S.re rfl rfl) z
   | ex c δ1=>exact absurd rfl (hne c δ1)
   | stuck=>exact ha
  .cases f with
   | next=>obtain⟨σ',H',I',q⟩:=q;exact vo pins s1 σ' H' D (iu I') q
   | brk=>obtain⟨σ',H',I',q⟩:=q;exact⟨σ',H',iu I',q⟩
   | cont=>obtain⟨σ',H',I',q⟩:=q;exact⟨σ',H',iu I',q⟩
   | ret u=>obtain⟨v,σ',H',I',r,q⟩:=q;exact⟨v,σ',H',iu I',r,q⟩
 simp only[evS]at h
 cases er:evSs o b δ with
 | nx δ1=>rw[er]at h;exact thru _ er (λ_ _ z=>nomatch z) h
 | bk δ1=>rw[er]at h;exact thru _ er (λ_ _ z=>nomatch z) h
 | ct δ1=>rw[er]at h;exact thru _ er (λ_ _ z=>nomatch z) h
 | rt w d δ1=>rw[er]at h;exact thru _ er (λ_ _ z=>nomatch z) h
 | stuck=>rw[er]at h;exact h.elim
 | ex c' δ1=>
   rw[er]at h;simp only at h;split at h
   case isFalse=>exact h.elim
   case isTrue hsub=>
   obtain⟨bP,bC,xP,xC,hcon⟩:=hx c' hsub
   let XT:Value->Shared->Prop:=λe s1=>∃σ1 H1 s0 a H' tr,e=.ref a/\Inv X pins σ1 H1 s0/\SR X W me B H1 σ1 δ1/\Same (vis H (Hid B σ δ)) (vis H1 (Hid B σ1 δ1))/\Fly X H1 s0 (.ref (W.CT c')) a H' s1 tr/\Same H1 H'
   have hpass:Us (Rm X.prog X.w) X.A X.env XT:=ni hX λe s1 ⟨σ1,H1,s0,a,H',tr,z,i1,i2,i3,i4,i5⟩=>⟨H1,s0,_,a,H',tr,z,i4,λh' F'=>⟨σ1,H1,s0,a,H',ZX,z,i1,i2,i3,F',i5⟩⟩
   refine Tp (hb (X.pn++pins) XT hpass [] s σ H { D with nx:=λ_ _=>False } (Kf I) ⟨me,B,δ,S0,?_⟩) (λf s1 q=>?_) λe s1 ⟨σ1,H1,s0,a,H',tr,z,I1,S1,sm1,F1,sm2⟩=>?_
   .rw[er]
    exact λps σ1 H1 s0 I1 S1 sm a H' s' tr F sm'=>⟨σ1,H1,s0,a,H',tr,rfl,iu I1,S1.re rfl rfl,sm,F.re rfl rfl rfl rfl,sm'⟩
   .cases f with
    | next=>obtain⟨σ',H',I',q⟩:=q;exact q.elim
    | brk=>obtain⟨σ',H',I',q⟩:=q;exact⟨σ',H',iu I',q⟩
    | cont=>obtain⟨σ',H',I',q⟩:=q;exact⟨σ',H',iu I',q⟩
    | ret u=>obtain⟨v,σ',H',I',r,q⟩:=q;exact⟨v,σ',H',iu I',r,q⟩
   subst z
   refine qg hX F1 λh2 F2=>gH F2 λh3 F3=>?_
   have J3:=F3.here I1;refine wpAny_handleBy_cons (codeAny_handlers_test ?_) (by intro q;cases q);refine fZ (X:=cxM X (X.pn++pins) (.ref a)) (Nu J3) hg hm ?_ hdb;obtain⟨oe,vs,y1,y2,y3,_⟩:=F3.exc;refine wD (pI J3.kIn xP) (pI J3.kIn xC) y1 y2.1 hcon ?_;refine codeAny_handlers_suite ?_
   refine gH (X:=cxM X (X.pn++pins) (.ref a)) (F3.re rfl rfl rfl rfl) λh4 F4=>?_
   have F4':Fly X H1 s0 (.ref (W.CT c')) a H' { s1 with heap:=h4 } ZX:=F4.re rfl rfl rfl rfl;have J4:=F4'.here I1;have run:=yt (hs (X.pn++pins) (.ref a)) (Dc (X:=cxM X (X.pn++pins) (.ref a)) (W:=W) o);have h':=AfterS.mono h (sm1.trans (au sm2))
   refine Tp (run [] _ σ1 H' D (Nu J4) ⟨me,B,δ1,(S1.mono sm2).re rfl rfl,?_⟩) (λf s7 q=>?_) λ_ _ z=>Rr z
   .cases e3:evSs o (.cons su .nil) δ1 with
    | nx δ3=>rw[e3]at h';exact fun σ H S z=>h' σ H (S.re rfl rfl) z
    | bk δ3=>rw[e3]at h';exact fun σ H S z=>h' σ H (S.re rfl rfl) z
    | ct δ3=>rw[e3]at h';exact fun σ H S z=>h' σ H (S.re rfl rfl) z
    | rt w d δ3=>rw[e3]at h';exact λv σ H S z=>h' v σ H (S.re rfl rfl) z
    | stuck=>rw[e3]at h';exact h'.elim
    | ex c2 δ3=>
      simp only[evSs]at e3
      cases e4:evS o su δ1 with
      | ex c3 δ4=>exact absurd e4 (hnx _ _ _)
      | nx _=>rw[e4]at e3;cases e3
      | bk _=>rw[e4]at e3;cases e3
      | ct _=>rw[e4]at e3;cases e3
      | rt _ _ _=>rw[e4]at e3;cases e3
      | stuck=>rw[e4]at e3;cases e3
   .cases f with
    | next=>obtain⟨σ',H',I',q⟩:=q;exact⟨σ',H',rJ I.ok I',q⟩
    | brk=>obtain⟨σ',H',I',q⟩:=q;exact⟨σ',H',rJ I.ok I',q⟩
    | cont=>obtain⟨σ',H',I',q⟩:=q;exact⟨σ',H',rJ I.ok I',q⟩
    | ret u=>obtain⟨v,σ',H',I',r,q⟩:=q;exact⟨v,σ',H',rJ I.ok I',r,q⟩
end
open PySem.W
structure XK1(K:Frag)(D:Addr):Prop where
 ga:findIn K (.ref D) "__getattribute__"=Z_ (Z_ (.builtin "BaseException.__getattribute__"))
 gt:findIn K (.ref D) "__getattr__"=Z_ none
 fo:findObj K D none "__class__"=Z_ (.bind (.builtin "getset_descriptor.__get__") (.builtin "object.__class__"))
 mo:mroIn K D (.type "object")=Z_ ZX
 mb:mroIn K D (.type "BaseException")=Z_ ZX
 cl:(clsIn K D).isSome=ZX
section
variable{prog:Rt}{w:RX}{A:S5}{E:Value->Shared->Prop}{s:Shared}{K:Frag}{x D:Addr}{ox:Obj}
noncomputable def xNot(K:Frag)(D C:Addr):Bool:=decide (D≠C)&&(clsIn K C).isSome&&typeIn K (.ref C)==Z_ (.type "type")&&subIn K (.ref D) (.ref C)==Z_ ZZ
end
end Z
namespace Z
open PySem PySem.Spec PyProof.Rows L2
structure XFacts(K:QK)(mg:Str->Option Value)(W:Wd)(sub:Nat->Nat->Bool)(cl:Str->Option Nat):Prop where
 gc:∀x c,cl x=Z_ c->mg x=Z_ (.ref (W.CT c))/\∃bm,xIn K (W.CT c)=Z_ bm
 gx:∀c,sub c c=ZX->XK1 K (W.CT c)/\PySem.W.subIn K (.ref (W.CT c)) (.type "ValueError")=Z_ ZX
 gp:∀x c c',cl x=Z_ c'->sub c c=ZX->(if sub c c' then V4 K (.ref (W.CT c)) (W.CT c')else xNot K (W.CT c) (W.CT c'))=ZX
 gh:∀x c c',cl x=Z_ c'->sub c c'=ZX->∃bC,xIn K (W.CT c)=Z_ bC/\(Value.ref (W.CT c)::bC).contains (.ref (W.CT c'))=ZX
end Z
namespace L2
open PySem PySem.Spec PyProof.Rows
section
variable{X:Cx}
def tU{ys:List Bool}:∀{us:List Value},Vals (ys.map V.bl) us->us=ys.map Value.bool:=by
 induction ys with
 | nil=>intro us h;cases h;rfl
 | cons y ys ih=>
   intro us h;rw[QL]at h
   cases h with
   | cons r t=>cases r;rw[ih t];rfl
def old_kept{s:Shared}{h':Rc}{ob:Obj}(hk:∀b x,b∉[s.heap.objs.size]->(s.heap.push ob).get? b=Z_ x->h'.get? b=Z_ x):∀b x,s.heap.get? b=Z_ x->h'.get? b=Z_ x :=
 λb x e=>hk b x (λz=>absurd (Rb e) (by rw[Vv.mp z];exact Uh _)) (QV _ e)
def yH(hc:X.calm=ZX):CallR X (.builtin "all") (λxs H Q=>∃(c:Addr)(bs:List Bool),xs=[.ref c]/\SqL X.K H c (bs.map V.bl)/\Q (.bl (bs.all id)) H):=by
 intro pins s σ H xs us Q I r h;obtain⟨c,bs,rfl,hq,q⟩:=h;obtain⟨u,rfl,rx⟩:=vals1 r;cases rx;obtain⟨its,rv,pl,hz⟩:=I.list hq;have eits:=tU rv;subst eits;have hl:s.heap.IsList c (bs.map Value.bool).toArray:=pl.isList
 have hlt:c<s.heap.objs.size:=by obtain⟨_,e,_⟩:=hl;exact Rb e
 refine call_all_walk (wpAny_pyIter_list hl ?_)
 refine⟨s.heap.objs.size,[s.heap.objs.size,c],[s.heap.objs.size],(bs.map Value.bool).toArray.size,_,_,λi=>(bs[i]?).getD ZX,rfl,Walks.list (A:=X.A.in1) (I.ok.hd hc) _ c (RL hlt) _,
  ⟨⟨_,Rv _ rfl,rfl,rfl⟩,hl.push _⟩,λi v s' Q' E' hP hQ=>?_,λh' tk hk=>?_⟩
 .have hP:(bs.map Value.bool)[i]?=Z_ v:=by simpa using hP
  rw[RM]at hP
  cases e:bs[i]? with
  | none=>rw[e]at hP;cases hP
  | some b=>
    rw[e]at hP;cases hP;simp only[e,Option.getD_some]at hQ;exact U3 hQ
 .have e:((Ru (bs.map Value.bool).toArray.size).all λi=>(bs[i]?).getD ZX)=bs.all id:=by
   rw[Ri,R5,V2,RJ,RJ]
   constructor
   .intro h b hb
    obtain⟨i,hi,rfl⟩:=List.getElem_of_mem hb;have:=h i (W4.mpr hi);simpa[Rn hi]using this
   .intro h i hi
    have hi:=W4.mp hi;simpa[Rn hi]using h _ (VJ hi)
  rw[e];exact⟨.bl (bs.all id),H,I.kept (old_kept hk),rfl,q⟩
section
variable{prog:Rt}{w:RX}{A:S5}{E:Value->Shared->Prop}{s:Shared}
def qF{T:String}{r d:Addr}{n:Nat}{P:Nat->Value->Prop}{OK:Rc->Prop}{Q:List Value->Shared->Prop}(K:PySem.W.KdlSrc prog w T r d n P OK)(hh:A.handled=ZW)(hok:OK s.heap)(hn:n<=sizeLine)
 (h:∀h' tk acc,(∀b o,s.heap.get? b=Z_ o->h'.get? b=Z_ o)->ItemsOf P acc n->Q acc.toList { s with heap:=h',toks:=tk }):Rg (Rm prog w) A (collect (.ref r)) Q E s:=by
 have hlt:=K.there _ hok;unfold collect;refine QS (wpAny_runValue (Vx PySem.F.entry_proto_collect ?_));rw[Um PySem.F.plain_proto_collect _];show Rg _ A.in1 (newList [] >>= λacc=>again (.builtin "list.__iadd__" ⟨[acc,.ref r],[]⟩)) _ _ s;refine QS (U4 ?_);refine Rh ⟨VP PySem.F.plain_list_iadd _,Vx PySem.F.entry_list_iadd ?_⟩;rw[Um PySem.F.plain_list_iadd _];show Rg _ A.in1 (Sh.List.listExtendWith (.ref s.heap.objs.size) (.ref r) (.ref s.heap.objs.size)) _ _ _;have hS0:(s.heap.push { cls:=.type "list",data:=.seq ([]:List Value).toArray }).get? s.heap.objs.size=Z_ { cls:=.type "list",data:=.seq #[] 0 }:=Rv _ rfl
 have hok0:OK (s.heap.push { cls:=.type "list",data:=.seq ([]:List Value).toArray }):=K.keep _ _ hok λb _ o e=>QV _ e
 have fin:∀r' s',(∃h' tk acc c',r'=WP (Flow.ret (.ref s.heap.objs.size))/\s'=({ s with heap:=h',toks:=tk }:Shared)/\(∀b o,s.heap.get? b=Z_ o->h'.get? b=Z_ o)/\h'.get? s.heap.objs.size=Z_ { cls:=.type "list",dict:=ZW,data:=.seq acc c',slots:=#[] }/\ItemsOf P acc n) ->
  (match r' with
   | WP (Flow.ret v)=>Rg (Rm prog w) A (match v with
     | Value.ref a=>(do
       let ob <-load a
       match ob.data with
       | WL xs _=>pure xs.toList
       | _=>unsupported "internal:collect")
     | _=>unsupported "internal:collect") Q E s'
   | WP _=>False
   | Except.error e=>E e s'):=by
  rintro r' s' ⟨h',tk,acc,c',rfl,rfl,hk,hS,hacc⟩
  show Rg _ A (load s.heap.objs.size >>= _) _ _ _;refine QS (wpAny_load hS ?_);exact Rh (h h' tk acc hk hacc)
 refine Tp (PySem.W.kdl_extend (A:=A) (s:={ s with heap:=s.heap.push { cls:=.type "list",data:=.seq ([]:List Value).toArray } }) (R:=λr' s'=>∃h' tk acc c',r'=WP (Flow.ret (.ref s.heap.objs.size))/\s'=({ s with heap:=h',toks:=tk }:Shared)/\(∀b o,s.heap.get? b=Z_ o->h'.get? b=Z_ o)/\h'.get? s.heap.objs.size=Z_ { cls:=.type "list",dict:=ZW,data:=.seq acc c',slots:=#[] }/\ItemsOf P acc n)
  K hh hok0 s.heap.objs.size (Wt hlt.1) (Wt hlt.2) (.ref s.heap.objs.size) 0 hS0 (λh' tk acc c' hk hS hacc=>⟨h',tk,acc,c',rfl,rfl,λb o e=>hk b o (RL (Rb e)) (QV _ e),hS,hacc⟩) hn) (λf s' hf=>?_) λe s' he=>?_
 .cases f with
  | done f=>exact fin _ _ hf
  | again c'=>exact⟨hf.1,Uj hf.2 λr' s' q=>fin r' s' q⟩
 .obtain⟨_,_,_,_,z,_⟩:=he
  cases z
def yE(hO:κ.OneLt)
 (hc:∀E',Rg (Rm prog w) A.in1 (collect x) (λvs s1=>KeysOf κ (WT vs)/\(∀v₁ v₂ rest,vs=v₁::v₂::rest->keyKind' (v₁::v₂::rest).toArray=pure oneType')/\vs.length<64 /\
  ∀(h':Rc)(st:SortSt),(∀b o,s1.heap.get? b=Z_ o->h'.get? b=Z_ o)->(Xg st).Perm (WT vs)->SortedToK κ (Xg st) (WT vs).size->(∃e,h'.get? s1.heap.objs.size=Z_ (Ww "list" ((Xg st).map (·.2)) e)) ->
   Q (.ref s1.heap.objs.size) { s1 with heap:=h' }) E' s):Rg (Rm prog w) A (call (.builtin "sorted") [x]) Q E s:=by
 refine Calls.call_function_entry kind_sorted plain_sorted entry_sorted (args_sorted1 _) ?_;unfold Sh.«sorted»;refine QS (m:=checkCount "sorted" 1 1 _) (Rh ?_);refine QS (Tp (hc _) (λvs s1 h1=>?_) λ_ _ e=>e);obtain⟨h0,hkk,h64,hQ⟩:=h1;refine QS (wpAny_newList ?_);have hoL:(s1.heap.push (Ww "list" vs.toArray 0)).get? s1.heap.objs.size=Z_ (Ww "list" vs.toArray 0):=Rv _ rfl;refine QS (Vb (wpAny_call_entry slot_list_sort ⟨_,hoL,rfl⟩ entry_list_sort (list_sort_treeK hO hoL h0 hkk h64 λst' a1 a2=>⟨_,rfl,?_⟩) (args_list_sort _)));refine Rh ⟨_,rfl,hQ _ st' (λb o e=>?_) a1 a2 (sortedHeap_at hoL)⟩;have hlt:=Rb e;rw[sortedHeap_old (RL hlt) (by rw[size_push'];exact Nat.lt_succ_of_lt hlt)];exact QV _ e
end
theorem jy:∀{ss:List Str}{its:List Value},Vals (ss.map V.str) its->StrsAre its ss
 | [],its,h=>by cases h;exact .nil
 | x::ss,its,h=>by
   rw[QL]at h
   cases h with
   | cons r t=>
     obtain⟨tk,rfl⟩:=r;exact .cons x tk (jy t)
theorem mO:∀{ss:List Str}{its:List Value},StrsAre its ss->Vals (ss.map V.str) its
 | _,_,.nil=>.nil
 | _,_,.cons x tk t=>by rw[QL];exact .cons ⟨tk,rfl⟩ (mO t)
def v5{vs:List (Key×Value)}:∀{ss:List Str}{its:List Value},vs.map (·.1)=ss.map Vf->its.length=vs.length->(∀(i:Nat) v,its[i]?=Z_ v->∃k x,vs[i]?=Z_ (k,x)/\oF k v=ZX)->StrsAre its ss:=by
 induction vs with
 | nil=>
   intro ss its e hl h
   cases ss with
   | nil=>
     have:its=[]:=Ub hl;subst this;exact .nil
   | cons _ _=>simp at e
 | cons q vs ih=>
   intro ss its e hl h
   cases ss with
   | nil=>simp at e
   | cons x ss=>
     cases its with
     | nil=>simp at hl
     | cons v its=>
       simp only[QL,Tj]at e;obtain⟨k,y,e1,e2⟩:=h 0 v rfl;simp at e1
       have e3:k=Vf x:=by rw[<-e.1,e1]
       rw[e3]at e2;rcases bc e2 with⟨i,t,z,_⟩ | ⟨x',t,z,rfl⟩
       .cases z
       .cases z
        exact .cons x t (ih e.2 (by simpa using hl) λi u hu=>by simpa using h (i+1) u (by simpa using hu))
def ph(hc:X.calm=ZX):CallR X (.builtin "sorted") (λxs H Q=>∃(c:Addr)(ss:List Str),xs=[.ref c]/\(SqL X.K H c (ss.map V.str)\/∃kvs:List (Key×V),(∃ep,H c=Z_ (.dK kvs ep))/\kvs.map (·.1)=ss.map Vf)/\ss.length<64 /\
 ∀(l:Addr)(ss':List Str),ss'.Perm ss->V9 ss'=ZX->H l=ZW->Q (.ref l) (upd H l (.lst (ss'.map V.str)))):=by
 intro pins s σ H xs us Q I r h;obtain⟨c,ss,rfl,hq,h64,q⟩:=h;obtain⟨u,rfl,rx⟩:=vals1 r;cases rx
 have key:∀(vs:List Value)(s1:Shared),Inv X pins σ H s1->StrsAre vs ss->vs.length=ss.length->KeysOf PyProof.Rows.strKind (WT vs)/\(∀v₁ v₂ rest,vs=v₁::v₂::rest->keyKind' (v₁::v₂::rest).toArray=pure oneType')/\vs.length<64 /\
  ∀(h':Rc)(st:SortSt),(∀b o,s1.heap.get? b=Z_ o->h'.get? b=Z_ o)->(Xg st).Perm (WT vs)->SortedToK PyProof.Rows.strKind (Xg st) (WT vs).size->(∃e,h'.get? s1.heap.objs.size=Z_ (Ww "list" ((Xg st).map (·.2)) e)) ->
   EP X pins σ Q (.ref s1.heap.objs.size) { s1 with heap:=h' }:=λvs s1 I1 hS hlen=>by
  refine⟨hS.keysOf,λv₁ v₂ rest e=>keyKind_strs (by rw[<-e];exact hS),by omega,λh' st hk hp hs ho=>?_⟩;obtain⟨ss',a1,a2,a3⟩:=sorted_out_str hS hp hs;obtain⟨e,ho⟩:=ho;have hl:=a2.length_eq;refine⟨.ref s1.heap.objs.size,_,I1.laid (a:=s1.heap.objs.size) (o:=.lst (ss'.map V.str)) (t':=s1.toks) hk (Ra _) ?_,rfl,q _ ss' a2 a3 I1.fresh⟩;refine⟨by rw[R5,Th];omega,((Xg st).map (·.2)).toList,e,mO a1,?_⟩;rw[ho]
 refine yE PyProof.Rows.strKind_oneLt λE'=>?_
 rcases hq with hq | ⟨kvs,hd,hks⟩
 .obtain⟨its,rv,pl,hz⟩:=I.list hq
  have hS:=jy rv
  have hlen:its.length=ss.length:=by have:=rv.length;rw[R5]at this;omega
  refine collect_list (vs:=its) pl.isList ?_ (by rw[hlen,Th];omega);refine key its _ (I.kept (t':=s.toks) λb o e=>?_) hS hlen;rw[Rc.get?_update_ne _ _ _ _ (RL (Rb e))];exact QV _ e
 .obtain⟨z,lo,vs,rel,dd⟩:=mF I.hok (hd.imp λ_ z=>.inl z)
  have hkeys:vs.map (·.1)=ss.map Vf:=by rw[<-hks];exact rel.keys.symm
  have hlen:vs.length=ss.length:=by simpa using congrArg Sx hkeys
  obtain⟨ep,dd⟩:=dd.dictAt
  refine qF (A:=X.A.in1) (PySem.W.kdl_dict (knd:=bD X.prog X.w) (kvs:=vs) (ep:=ep) lo) (I.ok.hd hc) dd (by rw[hlen,Th];omega) λh' tk acc hk hacc=>?_
  have hal:acc.toList.length=vs.length:=by rw[Vo];exact hacc.1
  exact key acc.toList _ (I.kept hk) (v5 hkeys hal λi v e=>hacc.2 i v (by rw[<-Array.getElem?_toList];exact e)) (by omega)
end
end L2
namespace Z
open PySem PySem.Spec PyProof.Rows L2
section
variable{X:Cx}{W:Wd}{lk lk':Bool}{σ:L2.St}{H H1 H':Hp}{me:Option Addr}{B:Addr->Prop}{δ:Dst}{Q Q':VK}{a b c:Expr}{pos p pos' apos cpos:Pos}{o:Orc}{fa fb fc:Dst->R (Bool×D)}
def GC{T id:String}{name:Str}{r:V->List V->Hp->VK->Prop}{g:D->D->R (Bool×D)}(pa:PlainAttrs T)(slot:PySem.Slot T name id)(hty:typeOf (.builtin id)=pure (.type "method_descriptor"))(hm:MtR X id r)
 (hs:Sem2 W (λx y H Q=>r x [y] H Q) g)(hn:gJ g)(hk:∀dx,(∀dy,g dx dy=.stuck)\/∀(H G:Hp)(x:V),Same G H->RepT W H G dx x->tyV X.K T x H)
 (ha:PE X a (tD X W ZX fa))(hb:PE X b (tD X W ZX fb))(hbase:plainBase a=ZX)(hst:aC b=ZZ)(hline:(apos.endLine==cpos.line)=ZX) :
 PE X (.Call (.Attribute a name apos) [b] [] cpos) (tD X W lk fun δ=>(fa δ).bind λx=>(fb δ).bind λy=>g x.2 y.2):=by
 refine PE.imp (Iz pa slot hty hm ha (bT hb dZ (bL hst)) (dJ hbase) (few1 hst) hline (bL hst) rfl) fun σ H Q h=>?_
 obtain⟨me,B,δ,S,h⟩:=tD_iff.mp h
 refine tD.mono (part S h) λv H1 ⟨r1,e1,S1,s1,t1,_,h1⟩=>?_
 rcases hk r1.2 with hk | hk
 .refine absurd h1 λh1=>?_
  cases e2:fb δ with
  | ok r2=>rw[e2]at h1;simp only[Xr,hk]at h1;exact h1.elim
  | exc c=>rw[e2]at h1;exact h1.elim
  | stuck=>rw[e2]at h1;exact h1.elim
 .refine⟨hk H1 _ v bw t1,?_⟩
  refine tD.mono (part (g:=λy=>g r1.2 y.2) S1 h1) λu H2 ⟨r2,e2,S2,s2,t2,_,h2⟩=>?_
  cases e:g r1.2 r2.2 with
  | ok r=>
    rw[e]at h2;exact hs lk (Hid B σ δ) H2 v u r1.2 r2.2 Q r.1 r.2 S2.softH S2.know (t1.mono s2 (au s2)) t2 e h2
  | exc c=>exact absurd e (hn _ _ _)
  | stuck=>rw[e]at h2;exact h2.elim
theorem j6:∀{l:List D}{x:List (List Nat)}{vs:List V},strsOf l=Z_ x->Reps W G l vs->vs=x.map λy=>V.str (strV y)
 | [],x,vs,h,r=>by
   simp only[strsOf,QX]at h;subst h
   cases vs with
   | nil=>rfl
   | cons _ _=>simp only[Reps]at r
 | d::l,x,[],h,r=>by simp only[Reps]at r
 | d::l,x,v::vs,h,r=>by
   cases d with
   | str y=>
     simp only[strsOf]at h
     cases e:strsOf l with
     | none=>rw[e]at h;cases h
     | some x'=>
       rw[e]at h;cases h;simp only[Reps,Rep]at r;rw[r.1.1,j6 e r.2]
       rfl
   | _=>simp[strsOf]at h
def rJoin(K:QK):V->List V->Hp->VK->Prop:=λx vs H Q=>∃(z:Str)(c:Addr)(ys:List Str),x=.str z/\vs=[.ref c]/\SqL K H c (ys.map V.str)/\(ys.map (·.length)).sum+ys.length*z.length<=16777216/\Q (.str (VL z ys)) H
def G8:MtR X "str.join" (rJoin X.K):=by
 intro pins s σ H x vs v us Q I rx rv h;obtain⟨z,c,ys,rfl,rfl,hq,hz,q⟩:=h;obtain⟨t,rfl⟩:=rx;obtain⟨u,rfl,ru⟩:=rv.one;cases ru;obtain⟨its,r,pl,_⟩:=I.list hq
 refine PyProof.Rows.join_list pl.isList (by simpa using jy r) hz λt' k=>?_
 exact⟨.str (VL z ys),H,I.tok k,⟨t',rfl⟩,q⟩
theorem nZ(sep:List Nat):∀x:List (List Nat),Str.join (strV sep) (x.map strV)=strV (jG sep x)
 | []=>rfl
 | [_]=>rfl
 | y::z::l=>by
   show strV y++strV sep++Str.join (strV sep) ((z::l).map strV)=_;rw[nZ sep (z::l),fW,fW]
   rfl
def tV(sep:List Nat)(x:List (List Nat)):VL (strV sep) (x.map strV)=strV (jG sep x):=by
 have e0:VL (strV sep) (x.map strV)=Str.join (strV sep) (x.map strV):=PySem.StrLaws.glued_eq_join _ _;rw[e0,nZ]
theorem p6(sep:List Nat):∀x:List (List Nat),(jG sep x).length<=(x.map Sx).sum+x.length*sep.length
 | []=>by simp[jG]
 | [y]=>by simp[jG]
 | y::z::l=>by
   have:=p6 sep (z::l);simp only[jG,R4,QL,Wf,R6]at this ⊢;rw[Nat.add_mul,Nat.one_mul];omega
def Ad(hk:W.K=X.K):Sem2 W (λx y H Q=>rJoin X.K x [y] H Q) (m1D .join):=by
 intro lk P H x y dx dy Q w d hS hK hx hy e k
 cases dx<;>cases dy<;>first | exact nope e | exact iH e | simp only[m1D]at e
 rename_i sep l
 cases e1:strsOf l with
 | none=>rw[e1]at e;cases e
 | some xs=>
   rw[e1]at e;simp only[R7]at e;split at e
   .rename_i hz
    cases e;obtain⟨rfl,hl⟩:=bz hx;obtain⟨c,vs,rfl,q1,q2⟩:=hy;have ev:=j6 e1 q2;subst ev
    have hz':(xs.map Sx).sum+xs.length*sep.length<=16777216:=by simpa[size]using hz
    refine⟨strV sep,c,xs.map strV,rfl,rfl,?_,?_,?_⟩
    .rw[RD];exact hk▸q1
    .rw[RD,R5,iY]
     have:((λz:Str=>z.length)∘strV)=Sx:=funext λz=>iY z
     rw[this];exact hz'
    .rw[tV]
     exact k _ H (Same.refl H) (pP (RP (p6 sep xs) hz'))
   .cases e
def uD:gJ (m1D .join):=by
 intro x y c;show(match x,y with | .str sep,.lst l=>Xu ((strsOf l).bind λx=>if size ((x.map Sx).sum+x.length*sep.length)then some (ZZ,Xq (jG sep x))else none) | _,_=>R.stuck)≠.exc c;split
 .exact fB
 .intro z;cases z
def wu(dx:D):(∀dy,m1D .join dx dy=.stuck)\/∀(H G:Hp)(x:V),Same G H->RepT W H G dx x->tyV X.K "str" x H:=by
 cases dx with
 | str s=>exact .inr λH G x _ h=>by rw[(bz h).1];rfl
 | _=>exact .inl λdy=>by simp only[m1D]
def Oh(hb:plainBase ob=ZX)(h1:aC e=ZZ)(h2:aC f=ZZ)(hl:(apos.endLine==cpos.line)=ZX):M2 X ob m apos e f cpos:=by
 have e2:R3 [f] X.env=[(ZZ,S8 f X.env)]:=bL h2
 have e1:R3 [e,f] X.env=[(ZZ,S8 e X.env),(ZZ,S8 f X.env)]:=by rw[bL h1,e2]
 refine⟨dJ hb,?_,hl,?_⟩
 all_goals(rw[e1];rfl)
def vy(hu:X.A.units+1<Vz)(ha:PE X a (tD X W ZX fun δ=>ev o δ ZX ta))(hb:PE X b (tD X W ZX fun δ=>ev o δ ZX tb))(hc:PE X c (tD X W ZZ fun δ=>ev o δ ZZ tc))(m:M2 X a "get" apos b c cpos) :
 PE X (.Call (.Attribute a "get" apos) [b,c] [] cpos) (tD X W lk fun δ=>ev o δ lk (.get2 ta tb tc)):=by
 refine PE.imp (Ac hu ha hb hc m) fun σ H Q h=>?_
 obtain⟨me,B,δ,S,h⟩:=tD_iff.mp h;simp only[ev]at h
 refine tD.mono (part (fa:=fun δ=>ev o δ ZX ta) S h) λv H1 ⟨r1,e1,S1,s1,t1,_,h1⟩=>?_
 cases e2:r1.2 with
 | dct ks vs=>
   rw[e2]at t1;obtain⟨ad,kvs,rfl,q1,q2,q3,q4⟩:=t1;refine⟨ad,rfl,.inl ⟨kvs,q1.imp λ_ z=>.inl z⟩,?_⟩
   refine tD.mono (part (fa:=fun δ=>ev o δ ZX tb) (g:=λy=>(ev o δ ZZ tc).bind λz=>qe r1.2 y.2 z.2) S1 h1) λu H2 ⟨r2,e3,S2,s2,t2,_,h2⟩=>?_
   refine tD.mono (part (fa:=fun δ=>ev o δ ZZ tc) (g:=λz=>qe r1.2 r2.2 z.2) S2 h2) λz H3 ⟨r3,e4,S3,s3,t3,k3,h3⟩=>?_
   rw[e2]at h3;simp only[qe]at h3
   cases e5:keyOf r2.2 with
   | none=>rw[e5]at h3;exact h3.elim
   | some x=>
     rw[e5]at h3;simp only[Ro,Xu]at h3;refine⟨valV kvs (keyV x),?_,?_⟩
     .rw[je e5 t2]
      obtain⟨ep,q1⟩:=q1;exact DGet.k ((s2.trans s3) _ _ q1)
     .cases e6:look ks vs x with
      | some d=>
        obtain⟨v,p1,p2⟩:=j0 q2 (q4.mono (au (s2.trans s3))) e6;rw[p1];rw[e6]at h3;exact h3 v H3 (Same.refl _) (.shared p2)
      | none=>
        rw[gA q2 q4 e6];rw[e6]at h3;exact h3 z H3 (Same.refl _) (.shared (k3.keep S2.know))
 | _=>
   refine absurd h1 λh1=>?_
   rw[e2]at h1
   cases e3:ev o δ ZX tb with
   | ok r2=>
     rw[e3]at h1
     cases e4:ev o δ ZZ tc with
     | ok r3=>simp only[Xr,e4,qe]at h1;exact h1.elim
     | exc c=>simp only[Xr,e4]at h1;exact h1.elim
     | stuck=>simp only[Xr,e4]at h1;exact h1.elim
   | exc c=>rw[e3]at h1;exact h1.elim
   | stuck=>rw[e3]at h1;exact h1.elim
def lU(h:gW d=ZX)(r:RepT W H G d x):jN x=ZX:=by
 cases d with
 | str s=>rw[(bz r).1];rfl
 | non=>simp only[RepT,Rep]at r;subst r;rfl
 | bl b=>simp only[RepT,Rep]at r;subst r;rfl
 | int i=>simp only[RepT,Rep]at r;subst r;rfl
 | _=>simp[gW]at h
def CJ{y x:D}{t:Bool}(h:eqS y x=Z_ t):gW y=ZX/\gW x=ZX:=by
 cases y<;>cases x<;>simp[eqS]at h<;>exact⟨rfl,rfl⟩
def Ht{G G':Hp}{dy dx:D}{y x:V}{t:Bool}(h:eqS dy dx=Z_ t)(ry:RepT W H G dy y)(rx:RepT W H G' dx x):eqV y x=t:=by
 cases dy<;>cases dx<;>first | exact nope h | exact iH h | simp only[eqS]at h
 all_goals simp only[QX]at h
 all_goals (first | (have ry:=(bz ry).1) | (simp only[RepT,Rep]at ry))
 all_goals (first | (have rx:=(bz rx).1) | (simp only[RepT,Rep]at rx))
 all_goals subst ry
 all_goals subst rx
 all_goals (rw[<-h])
 all_goals first
  | rfl
  | simp[eqV]
 all_goals (rw[V2];simp only[beq_iff_eq,decide_eq_true_eq];exact⟨λz=>fG z,λz=>by rw[z]⟩)
theorem zq(rx:RepT W G G' dx x):∀{l:List D}{vs:List V}{t:Bool},inS dx l=Z_ t->Reps W G l vs->vs.all jN=ZX/\inV x vs=t
 | [],[],t,h,_=>by
   simp only[inS,QX]at h;subst h;exact⟨rfl,rfl⟩
 | [],_::_,_,_,r=>by simp only[Reps]at r
 | _::_,[],_,_,r=>by simp only[Reps]at r
 | d::l,v::vs,t,h,r=>by
   simp only[Reps]at r;simp only[inS]at h
   cases e1:eqS d dx with
   | none=>rw[e1]at h;cases h
   | some s1=>
     cases e2:inS dx l with
     | none=>rw[e1,e2]at h;cases h
     | some s2=>
       rw[e1,e2]at h;cases h;obtain⟨k1,k2⟩:=zq rx e2 r.2;have rt:RepT W G G d v:=r.1.top (Same.refl _);refine⟨?_,?_⟩
       .rw[Wg,k1,Wj]
        exact lU (CJ e1).1 rt
       .show(eqV v x||inV x vs)=_
        rw[k2,Ht e1 rt rx]
def qO(h:gW d=ZX)(r:RepT W H G d x):RepT W H' G' d x:=by
 cases d with
 | str s=>simpa only[RepT,Rep]using r
 | non=>simpa only[RepT,Rep]using r
 | bl b=>simpa only[RepT,Rep]using r
 | int i=>simpa only[RepT,Rep]using r
 | _=>simp[gW]at h
noncomputable def mD(neg:Bool)(x y:D):R (Bool×D):=match y with
 | .lst l=>.of ((if gW x then inS x l else none).map λt=>(ZZ,.bl (if neg then !t else t)))
 | .tup l=>.of ((if gW x then inS x l else none).map λt=>(ZZ,.bl (if neg then !t else t)))
 | _=>.stuck
def xV(neg:Bool)(hk:W.K=X.K):Sem2 W (rIn X.K neg) (mD neg):=by
 intro lk P H x y dx dy Q w d hS hK hx hy e k
 cases dy<;>first | exact nope e | exact iH e | simp only[mD]at e
 .rename_i l
  by_cases hf:gW dx=ZX
  .rw[if_pos hf]at e
   cases e1:inS dx l with
   | none=>rw[e1]at e;cases e
   | some t=>
     rw[e1]at e;cases e;simp only[RepT,Rep]at hy;obtain⟨c,vs,rfl,q1,q2⟩:=hy;obtain⟨k1,k2⟩:=zq (qO (G':=H) hf hx) e1 q2;refine⟨c,vs,rfl,.inr (hk▸aU bw q1),lU hf hx,k1,?_⟩;rw[k2];exact k _ H (Same.refl H) dq
  .rw[if_neg hf]at e;cases e
 .rename_i l
  by_cases hf:gW dx=ZX
  .rw[if_pos hf]at e
   cases e1:inS dx l with
   | none=>rw[e1]at e;cases e
   | some t=>
     rw[e1]at e;cases e;obtain⟨c,vs,rfl,q1,q2⟩:=hy;obtain⟨k1,k2⟩:=zq (qO (G':=H) hf hx) e1 q2;refine⟨c,vs,rfl,.inl (hk▸q1),lU hf hx,k1,?_⟩;rw[k2];exact k _ H (Same.refl H) dq
  .rw[if_neg hf]at e;cases e
theorem iT:∀{ks:List DK}{vs:List D}{x:DK},ks.length=vs.length->((look ks vs x).isSome=decide (x∈ks))
 | [],[],_,_=>by simp[look]
 | [],_::_,_,h=>by simp at h
 | _::_,[],_,h=>by simp at h
 | k::ks,v::vs,x,h=>by
   simp only[look]
   by_cases hk:k=x
   .subst hk;simp
   .rw[if_neg hk,iT (by simpa using h)]
    simp[SJ hk]
def pX(neg:Bool):gJ (mD neg):=by
 intro x y c
 cases y<;>simp only[mD]<;>first | exact fB | (intro z;cases z)
noncomputable def opIn(neg:Bool):O2:=if neg then .notin else .in
def Cm(neg:Bool)(x y:D)(h:∀ks vs,y≠.dct ks vs)(h':∀t,y≠.str t):o2 (opIn neg) x y=mD neg x y:=by
 cases neg<;>cases y<;>simp only[opIn,if_true,QW,if_false,o2,isIn,mD]<;>first | rfl | (exact absurd rfl (h _ _)) | (exact absurd rfl (h' _)) | skip
def rInS(neg:Bool):R2:=λx y H Q=>∃i j,x=.str i/\y=.str j/\Q (.bl (if neg then !(!(TV j i 0 j.length 1).isEmpty)else !(TV j i 0 j.length 1).isEmpty)) H
def lX(neg:Bool)(hk:W.K=X.K)(h:tD X W lk (fun δ=>(fa δ).bind λx=>(fb δ).bind λy=>o2 (opIn neg) x.2 y.2) σ H Q) :
 tOp (rIn X.K neg) (tD X W ZX fa) (tD X W ZX fb) σ H Q\/(fun σ H Q=>tD X W ZX fa σ H λy H1=>tD X W ZX fb σ H1 λx H2=>∃a o,x=.ref a/\DGet H2 a y o/\Q (.bl (if neg then !o.isSome else o.isSome)) H2) σ H Q\/tOp (rInS neg) (tD X W ZX fa) (tD X W ZX fb) σ H Q:=by
 obtain⟨me,B,δ,S,h⟩:=tD_iff.mp h
 by_cases hs:∃r t,fb δ=.ok r/\r.2=.str t
 .obtain⟨r,t,e,e2⟩:=hs
  refine .inr (.inr ?_)
  refine tD.mono (part S h) λv H1 ⟨r1,e1,S1,s1,t1,_,h1⟩=>?_
  refine tD.mono (part (g:=λy=>o2 (opIn neg) r1.2 y.2) S1 h1) λu H2 ⟨r2,e3,S2,s2,t2,_,h2⟩=>?_
  have:r2=r:=by rw[e]at e3;cases e3;rfl
  subst this;rw[e2]at t2 h2
  have hc:∃c,r1.2=.str [c]:=by
   cases e4:r1.2 with
   | str z=>
     cases z with
     | nil=>rw[e4]at h2;cases neg<;>exact h2.elim
     | cons c z=>
       cases z with
       | nil=>exact⟨c,rfl⟩
       | cons _ _=>rw[e4]at h2;cases neg<;>exact h2.elim
   | _=>rw[e4]at h2;cases neg<;>exact h2.elim
  obtain⟨c,e4⟩:=hc;rw[e4]at h2;have t1:=t1.mono s2 (au s2);rw[e4]at t1;simp only[RepT,Rep]at t1 t2;refine⟨strV [c],strV t,t1.1,t2.1,?_⟩
  have ef:(!(TV (strV t) (strV [c]) 0 (strV t).length 1).isEmpty)=decide (c∈t):=by
   rw[show strV [c]=⟨#[c]⟩from rfl,PySem.StrLaws.found_one];rfl
  rw[ef]
  have h2:After X W lk σ H2 (Hid B σ δ) (.ok (ZZ,.bl (if neg then !decide (c∈t)else decide (c∈t)))) Q:=by
   cases neg<;>exact h2
  exact h2 _ H2 (Same.refl _) dq
 by_cases hd:∃r ks vs,fb δ=.ok r/\r.2=.dct ks vs
 .obtain⟨r,ks,vs,e,e2⟩:=hd
  refine .inr (.inl ?_)
  refine tD.mono (part S h) λv H1 ⟨r1,e1,S1,s1,t1,_,h1⟩=>?_
  refine tD.mono (part (g:=λy=>o2 (opIn neg) r1.2 y.2) S1 h1) λu H2 ⟨r2,e3,S2,s2,t2,_,h2⟩=>?_
  have:r2=r:=by rw[e]at e3;cases e3;rfl
  subst this;rw[e2]at t2 h2;obtain⟨ad,kvs,rfl,q1,q2,q3,q4⟩:=t2
  cases e4:keyOf r1.2 with
  | none=>
    refine absurd h2 λh2=>?_
    cases neg<;>simp only[opIn,if_true,QW,if_false,o2,isIn,e4]at h2<;>exact h2.elim
  | some kx=>
    have h2:After X W lk σ H2 (Hid B σ δ) (.ok (ZZ,.bl (if neg then !decide (kx∈ks)else decide (kx∈ks)))) Q:=by
     cases neg<;>simpa only[opIn,if_true,QW,if_false,o2,isIn,e4,Ro,Xu]using h2
    have hl:ks.length=vs.length:=by
     have h1:=congrArg Sx q2;simp only[R5]at h1;have h3:=q4.length;simp only[R5]at h3;omega
    have hv:(valV kvs (keyV kx)).isSome=decide (kx∈ks):=by
     rw[<-iT (x:=kx) hl]
     cases e5:look ks vs kx with
     | some d=>obtain⟨w,p1,_⟩:=j0 q2 q4 e5;rw[p1];rfl
     | none=>rw[gA q2 q4 e5];rfl
    refine⟨ad,valV kvs (keyV kx),rfl,?_,?_⟩
    .rw[je e4 (t1.mono s2 (au s2))]
     obtain⟨ep,q1⟩:=q1;exact DGet.k q1
    .rw[hv]
     exact h2 _ H2 (Same.refl _) dq
 .refine .inl (oW (lk:=lk) (xV neg hk) (pX neg) ?_)
  refine tD_iff.mpr ⟨me,B,δ,S,?_⟩
  have e:((fa δ).bind λx=>(fb δ).bind λy=>mD neg x.2 y.2)=((fa δ).bind λx=>(fb δ).bind λy=>o2 (opIn neg) x.2 y.2):=by
   congr 1
   funext x
   cases e3:fb δ with
   | ok r=>
     show mD neg x.2 r.2=o2 (opIn neg) x.2 r.2;rw[Cm neg x.2 r.2 (λks vs z=>hd ⟨r,ks,vs,e3,z⟩) λt z=>hs ⟨r,t,e3,z⟩]
   | exc c=>rfl
   | stuck=>rfl
  show After X W lk σ H (Hid B σ δ) ((fa δ).bind λx=>(fb δ).bind λy=>mD neg x.2 y.2) Q;rw[e];exact h
def PT.or{e:Expr}{t t':TT}(h:PT X e t)(h':PT X e t'):PT X e (fun σ H Q=>t σ H Q\/t' σ H Q):=by
 intro pins s σ H Q I q;rcases q with q | q
 .exact h pins s σ H Q I q
 .exact h' pins s σ H Q I q
def Ma(neg:Bool):∀x y r,o2 (opIn neg) x y=.ok r->∃b,r=(ZZ,.bl b):=by
 intro x y r h
 cases neg with
 | false=>
   simp only[opIn,QW,if_false,o2]at h
   cases e:isIn x y with
   | none=>rw[e]at h;cases h
   | some b=>rw[e]at h;cases h;exact⟨_,rfl⟩
 | true=>
   simp only[opIn,if_true,o2]at h
   cases e:isIn x y with
   | none=>rw[e]at h;cases h
   | some b=>rw[e]at h;cases h;exact⟨_,rfl⟩
def d_in(hk:W.K=X.K)(hu:X.A.units+1<Vz)(ha:PE X a (tD X W ZX fa))(hb:PE X b (tD X W ZX fb))(hm:Tu .In b=ZZ) :
 (∀lk,PE X (.Compare a [.In] [b] pos) (tD X W lk fun δ=>(fa δ).bind λx=>(fb δ).bind λy=>o2 .in x.2 y.2))/\PT X (.Compare a [.In] [b] pos) (tT X W fun δ=>(fa δ).bind λx=>(fb δ).bind λy=>o2 .in x.2 y.2):=by
 refine⟨λlk=>PE.imp (PE.or (jz oU ha hb hm) (PE.or (Dk (DQ hu ha hb) hm) (jz nq ha hb hm))) fun σ H Q h=>lX ZZ hk h,PT.imp (PT.or (jg oU ha hb hm) (PT.or (Ep (DQ hu ha hb) hm) (jg nq ha hb hm))) fun σ H Q h=>?_⟩
 exact lX (lk:=ZX) ZZ hk (Fy (fun δ r e=>by
  obtain⟨y,_,e⟩:=gR e;obtain⟨z,_,e⟩:=gR e
  exact Ma ZZ _ _ _ e) h)
def Jz(hk:W.K=X.K)(hu:X.A.units+1<Vz)(ha:PE X a (tD X W ZX fa))(hb:PE X b (tD X W ZX fb))(hm:Tu .NotIn b=ZZ) :
 (∀lk,PE X (.Compare a [.NotIn] [b] pos) (tD X W lk fun δ=>(fa δ).bind λx=>(fb δ).bind λy=>o2 .notin x.2 y.2))/\PT X (.Compare a [.NotIn] [b] pos) (tT X W fun δ=>(fa δ).bind λx=>(fb δ).bind λy=>o2 .notin x.2 y.2):=by
 refine⟨λlk=>PE.imp (PE.or (jz il ha hb hm) (PE.or (Dk (oJ hu ha hb) hm) (jz iz ha hb hm))) fun σ H Q h=>lX ZX hk h,PT.imp (PT.or (jg il ha hb hm) (PT.or (Ep (oJ hu ha hb) hm) (jg iz ha hb hm))) fun σ H Q h=>?_⟩
 exact lX (lk:=ZX) ZX hk (Fy (fun δ r e=>by
  obtain⟨y,_,e⟩:=gR e;obtain⟨z,_,e⟩:=gR e
  exact Ma ZX _ _ _ e) h)
end
theorem cM(x:List Nat):∀l,(insS x l).Perm (x::l)
 | []=>.refl _
 | y::l=>by
   simp only[insS];split
   .exact .refl _
   .exact((cM x l).cons y).trans (.swap x y l)
theorem bG:∀l,(cG l).Perm l
 | []=>.refl _
 | x::l=>(cM x (cG l)).trans ((bG l).cons x)
theorem jn(x:List Nat):∀{l:List (List Nat)},l.Pairwise (·<=·)->(insS x l).Pairwise (·<=·)
 | [],_=>by simp[insS]
 | y::l,h=>by
   obtain⟨h1,h2⟩:=T5.mp h;simp only[insS,Ec];split
   .rename_i hx
    have hx:x<y:=of_decide_eq_true hx;refine T5.mpr ⟨λz hz=>?_,h⟩;rcases R8.mp hz with e | hz
    .subst e;exact List.le_of_lt hx
    .exact List.le_trans (List.le_of_lt hx) (h1 z hz)
   .rename_i hx
    have hx:¬x<y:=λz=>hx (decide_eq_true z)
    refine T5.mpr ⟨λz hz=>?_,jn x h2⟩;rcases R8.mp ((cM x l).mem_iff.mp hz)with e | hz
    .subst e;exact List.not_lt.mp hx
    .exact h1 z hz
theorem ig:∀l,(cG l).Pairwise (·<=·)
 | []=>.nil
 | x::l=>jn x (ig l)
theorem dX:∀(p:Str)(l:List Str),PyProof.Rows.risingS p l=ZX->(p::l).Pairwise (λa b=>a.cps.toList<=b.cps.toList)
 | p,[],_=>by simp
 | p,x::r,h=>by
   simp only[PyProof.Rows.risingS,QR,Rf,ltCps_eq,decide_eq_false_iff_not]at h;have ih:=dX x r h.2;have hp:p.cps.toList<=x.cps.toList:=List.not_lt.mp h.1;refine T5.mpr ⟨λz hz=>?_,ih⟩;rcases R8.mp hz with e | hz
   .subst e;exact hp
   .exact List.le_trans hp ((T5.mp ih).1 z hz)
def kh(s:Str):strV s.cps.toList=s:=by
 cases s;simp[strV]
def m8(hp:ss.Perm (x.map strV))(hs:V9 ss=ZX):ss=(cG x).map strV:=by
 have hpw:ss.Pairwise (λa b=>a.cps.toList<=b.cps.toList):=by
  cases ss with
  | nil=>exact .nil
  | cons p l=>exact dX p l hs
 have hpw2:((cG x).map strV).Pairwise (λa b:Str=>a.cps.toList<=b.cps.toList):=by
  rw[List.pairwise_map]
  refine(ig x).imp λ{a b} h=>?_
  simpa[strV]using h
 refine Wu.eq_of_pairwise (le:=λa b:Str=>a.cps.toList<=b.cps.toList) (λa b _ _ h1 h2=>?_) hpw hpw2 (hp.trans ((bG x).map strV).symm);have:=List.le_antisymm h1 h2;rw[<-kh a,<-kh b,this]
section
variable{X:Cx}{W:Wd}{lk lk':Bool}{σ:L2.St}{H H1 H':Hp}{me:Option Addr}{B:Addr->Prop}{δ:Dst}{Q Q':VK}{a b c:Expr}{pos p pos' apos cpos:Pos}{o:Orc}{fa fb fc:Dst->R (Bool×D)}
theorem km:∀{l:List D}{x:List Bool}{vs:List V},boolsOf l=Z_ x->Reps W G l vs->vs=x.map V.bl
 | [],x,vs,h,r=>by
   simp only[boolsOf,QX]at h;subst h
   cases vs with
   | nil=>rfl
   | cons _ _=>simp only[Reps]at r
 | d::l,x,[],h,r=>by simp only[Reps]at r
 | d::l,x,v::vs,h,r=>by
   cases d with
   | bl y=>
     simp only[boolsOf]at h
     cases e:boolsOf l with
     | none=>rw[e]at h;cases h
     | some x'=>
       rw[e]at h;cases h;simp only[Reps,Rep]at r;rw[r.1,km e r.2]
       rfl
   | _=>simp[boolsOf]at h
def Jv(hk:W.K=X.K):Sem1 W (λxs H Q=>∃(c:Addr)(bs:List Bool),xs=[.ref c]/\SqL X.K H c (bs.map V.bl)/\Q (.bl (bs.all id)) H) (b1D .all):=by
 intro lk P H x dx Q w d hS hK hx e k
 cases dx<;>first | exact nope e | exact iH e | simp only[b1D]at e
 rename_i l
 cases e1:boolsOf l with
 | none=>rw[e1]at e;cases e
 | some bs=>
   rw[e1]at e;cases e;obtain⟨c,vs,rfl,q1,q2⟩:=hx;have:=km e1 q2;subst this;exact⟨c,bs,rfl,hk▸q1,k _ H (Same.refl H) dq⟩
def vM(hk:W.K=X.K):Sem1 W (λxs H Q=>∃p ys,xs=[.ref p]/\((SqL X.K H p ys/\∀l,H l=ZW->Q (.ref l) (upd H l (.tup ys)))\/(SqT X.K H p ys/\Q (.ref p) H))) (b1D .tuple):=by
 intro lk P H x dx Q w d hS hK hx e k
 cases dx<;>first | exact nope e | exact iH e | simp only[b1D]at e
 .cases e
  have hx':=hx;simp only[RepT,Rep]at hx;obtain⟨c,vs,rfl,q1,q2⟩:=hx;exact⟨c,vs,rfl,.inr ⟨hk▸aU bw q1,k _ H (Same.refl H) (.shared hx')⟩⟩
 .cases e
  obtain⟨c,vs,rfl,q1,q2⟩:=hx;exact⟨c,vs,rfl,.inl ⟨hk▸q1,λl hl=>k _ _ (Same.upd hl) (gq hl q2 hK)⟩⟩
def zN(hn:H q=ZW)(h1:kvs.map (·.1)=ks.map keyV)(h2:KsOk ks)(h:Reps W (vis H P) vs (kvs.map (·.2))):Res W P lk H (upd H q (.dK kvs ep)) ZX (.dct ks vs) (.ref q):=by
 unfold Res;rw[if_pos rfl];refine⟨q,rfl,hn,kvs,⟨ep,bA⟩,h1,h2,h.mono λb o e=>?_⟩;obtain⟨e1,e2⟩:=bK e;have hb:b≠q:=bJ e1 hn
 refine bQ (by rw[aX hb];exact e1) λz=>?_
 rcases z with z | z
 .exact e2 z
 .exact hb z
theorem jV:∀{ks:List DK}{x:List (List Nat)},strsOf (ks.map keyD)=Z_ x->ks=x.map Y4
 | [],x,h=>by simp only[S9,strsOf,QX]at h;subst h;rfl
 | k::ks,x,h=>by
   cases k with
   | i n=>simp[keyD,strsOf]at h
   | s y=>
     simp only[QL,keyD,strsOf]at h
     cases e:strsOf (ks.map keyD)with
     | none=>rw[e]at h;cases h
     | some x'=>rw[e]at h;cases h;rw[jV e];rfl
theorem sS:∀{l:List D}{x:List (List Nat)}{vs:List V}{G:Hp},strsOf l=Z_ x->Reps W G l vs->∀y∈x,y.length<=16777216
 | [],x,vs,G,h,_,y,hy=>by simp only[strsOf,QX]at h;subst h;simp at hy
 | d::l,x,[],G,h,r,y,hy=>by simp only[Reps]at r
 | d::l,x,v::vs,G,h,r,y,hy=>by
   cases d with
   | str z=>
     simp only[strsOf]at h
     cases e:strsOf l with
     | none=>rw[e]at h;cases h
     | some x'=>
       rw[e]at h;cases h;simp only[Reps,Rep]at r;rcases R8.mp hy with q | q
       .subst q;exact r.1.2
       .exact sS e r.2 y q
   | _=>simp[strsOf]at h
theorem nH:∀{x:List (List Nat)},(∀y∈x,y.length<=16777216)->Reps W G (x.map Xq) ((x.map strV).map V.str)
 | [],_=>by simp only[S9,Reps]
 | y::x,h=>by
   simp only[QL,Reps,Rep];exact⟨⟨trivial,h y QM⟩,nH λz hz=>h z (QQ _ hz)⟩
def tX(hk:W.K=X.K):Sem1 W (λxs H Q=>∃(c:Addr)(ss:List Str),xs=[.ref c]/\(SqL X.K H c (ss.map V.str)\/∃kvs:List (Key×V),IsK H c kvs/\kvs.map (·.1)=ss.map Vf)/\ss.length<64 /\
 ∀(l:Addr)(ss':List Str),ss'.Perm ss->V9 ss'=ZX->H l=ZW->Q (.ref l) (upd H l (.lst (ss'.map V.str)))) (b1D .sorted):=by
 intro lk P H x dx Q w d hS hK hx e k;simp only[b1D]at e
 cases e0:rP dx with
 | none=>rw[e0]at e;cases e
 | some l=>
 rw[e0]at e;simp only[R7]at e
 cases e1:strsOf l with
 | none=>rw[e1]at e;cases e
 | some xs=>
 rw[e1]at e;simp only[R7]at e;split at e
 .rename_i h64
  cases e
  have fin:(∀y∈xs,y.length<=16777216)->∀(l':Addr)(ss':List Str),ss'.Perm (xs.map strV)->V9 ss'=ZX->H l'=ZW->Q (.ref l') (upd H l' (.lst (ss'.map V.str))):=λhall l' ss' hp hs hl=>by
   rw[m8 hp hs];refine k _ _ (Same.upd hl) (jC hl (nH λy hy=>hall y ((bG xs).mem_iff.mp hy)) hK)
  cases dx<;>first | exact nope e0 | exact iH e0 | simp only[rP]at e0
  .cases e0
   obtain⟨c,vs,rfl,q1,q2⟩:=hx;have hall:=sS e1 q2;have ev:=j6 e1 q2;subst ev;refine⟨c,xs.map strV,rfl,.inl ?_,by simpa using h64,fin hall⟩;rw[RD];exact hk▸q1
  .cases e0
   obtain⟨c,kvs,rfl,q1,q2,q3,q4⟩:=hx;have hks:=jV e1;subst hks;refine⟨c,xs.map strV,rfl,.inr ⟨kvs,q1,?_⟩,by simpa using h64,fin λy hy=>q3.2 y (Uy hy)⟩;rw[q2,RD,RD]
   rfl
 .cases e
end
section
variable{X:Cx}{W:Wd}{lk lk':Bool}{σ:L2.St}{H H1 H':Hp}{me:Option Addr}{B:Addr->Prop}{δ:Dst}{Q Q':VK}{a b c:Expr}{pos p pos' apos cpos px spos:Pos}{o:Orc}
def Ip:PE X (.Dict [] [] pos) (tD X W lk fun δ=>ev o δ lk (.dnew [] .nil)):=by
 refine PE.imp Aa fun σ H Q h=>?_
 obtain⟨me,B,δ,S,h⟩:=tD_iff.mp h;simp only[ev,evL,Xr]at h;obtain⟨_,h⟩:=eN h;intro q ep hq;exact h _ _ (Same.upd hq) (zN hq rfl ⟨List.nodup_nil,λx hx=>by simp at hx⟩ (by simp only[S9,Reps]))
noncomputable def Itd(a:Addr)(kvs:List (Key×V))(ep:Nat):It:=⟨λi H=>H a=Z_ (.dK kvs ep)/\i<kvs.length,λi H x H'=>H'=H/\∃p,kvs[i]?=Z_ p/\x=kV p.1,λi H=>H a=Z_ (.dK kvs ep)/\kvs.length<=i⟩
def Oa{P:Rt}{w:RX}{k:Key}{u:Value}(h:(bD P w).is k u=ZX):RelV (kV k) u:=by
 rcases bc (show oF k u=ZX from h)with⟨i,t,rfl,rfl⟩ | ⟨x,t,rfl,rfl⟩
 all_goals(exact⟨t,rfl⟩)
def uV{P:Rt}{w:RX}{K:QK}{tg:Expr}(a it:Addr)(kvs:List (Key×V))(ep:Nat):Turn P w K tg (Itd a kvs ep) [it] it (λi h=>h.IsKeyIter it a i kvs.length ep)where
 mem:=by simp
 obj:=λi h st b hb=>by
  have e:b=it:=by simpa using hb
  subst e;obtain⟨o,e,c,d⟩:=st;exact⟨o,e,λv z=>by rw[d]at z;cases z⟩
 keep:=λi h h' st k=>st.at λo e=>k it (by simp) o e
 item:=by
  intro X hP hw hK hc i pins s σ H E I hf st hg;subst hP hw hK;obtain⟨hq,hi⟩:=hg
  obtain⟨_,lo,vs,rel,dd⟩:=(show ObjOk X.prog X.w H s.heap a (.dK kvs ep)from I.hok a _ hq)
  obtain⟨f0,f1,f2,f3,f4,f5⟩:=hf it (by simp);have hl:kvs.length=vs.length:=rel.length
  have hx:vs[i]?=Z_ (vs[i]'(by omega)):=by simp
  have hkeys:=rel.keys;rw[hl]at st ⊢
  refine wpAny_pyNext_dict_item st dd (k:=(vs[i]'(by omega)).1) (v:=(vs[i]'(by omega)).2) hx λkey h' hkey st' sb=>?_
  have I1:Inv X pins σ H { s with heap:=h' }:=I.turned (t':=s.toks) (λb o hb e=>(sb.2 b hb).trans e) f0 f1 f3 f4 f5;obtain⟨o,e,c,d⟩:=id st'
  have ek:(kvs[i]).1=(vs[i]'(by omega)).1:=by
   have:=congrArg (λl=>l[i]?) hkeys;simpa[hi,show i<vs.length by omega]using this
  exact⟨key,rfl,v6 (s:={ s with heap:=h' }) e c d (by decide) ⟨kV (kvs[i]).1,H,I1,by rw[ek];exact Oa hkey,⟨rfl,kvs[i],by simp,rfl⟩,st',λb hb=>(hf b hb).1⟩⟩
 done:=by
  intro X hP hw hK hc i pins s σ H E I hf st hg;subst hP hw hK;obtain⟨hq,hi⟩:=hg
  obtain⟨_,lo,vs,rel,dd⟩:=(show ObjOk X.prog X.w H s.heap a (.dK kvs ep)from I.hok a _ hq)
  obtain⟨f0,f1,f2,f3,f4,f5⟩:=hf it (by simp);have hl:kvs.length=vs.length:=rel.length;rw[hl]at st
  exact wpAny_pyNext_dict_end (I.ok.hd hc) st dd (by simp;omega) λh' eb=>⟨rfl,I.turned (t':=s.toks) (λb o hb e=>eb b o hb e) f0 f1 f3 f4 f5⟩
 self:=λ_ _ _ _ _ st h=>wpAny_pyIter_keyiter st h
def iDct(tl:TE):L2.TI:=fun σ H R=>tl σ H λx H1=>∃a kvs ep,x=.ref a/\H1 a=Z_ (.dK kvs ep)/\R (Itd a kvs ep) H1
def Ib{tg l:Expr}{tl:TE}(hl:PE X l tl):PI X tg l (iDct tl):=by
 intro pins s σ H R I h
 refine thn (hl pins s σ H _ I h) λv s1 ⟨x,H1,I1,r1,q1⟩=>?_
 obtain⟨a,kvs,ep,e,hq,q⟩:=q1;subst e;cases r1
 obtain⟨_,lo,vs,rel,dd⟩:=(show ObjOk X.prog X.w H1 s1.heap a (.dK kvs ep)from I1.hok a _ hq)
 have hlen:kvs.length=vs.length:=rel.length;refine wpAny_pyIter_dict lo dd ?_;refine⟨s1.heap.objs.size,[s1.heap.objs.size],_,_,H1,rfl,I1.kept (t':=s1.toks) λb o e=>QV _ e,uV a _ kvs ep,⟨_,Rv _ rfl,rfl,by rw[hlen];rfl⟩,λb hb=>?_,q⟩
 have e:b=s1.heap.objs.size:=by simpa using hb
 subst e;exact I1.fpOk (Ra _) (I1.hok.fresh (Ra _))
def pN{H2:Hp}{a:Addr}{kvs:List (Key×V)}{ep:Nat}(h:H2 a=Z_ (.dK kvs ep)):Yields (Itd a kvs ep) H2 (kvs.map λp=>kV p.1)where
 go:=λi H' s hi=>⟨s _ _ h,by simpa using hi⟩
 yld:=λi H' x H'' s _ ⟨e,p,e1,e2⟩=>⟨e,by rw[RM,e1,e2];rfl⟩
 stop:=λH' s=>⟨s _ _ h,by simp⟩
theorem jt:∀{ks:List DK}{kvs:List (Key×V)},kvs.map (·.1)=ks.map keyV->(∀x,Y4 x∈ks->x.length<=16777216)->Reps W G (ks.map keyD) (kvs.map λp=>kV p.1)
 | [],[],_,_=>by simp only[S9,Reps]
 | [],_::_,e,_=>by simp at e
 | _::_,[],e,_=>by simp at e
 | k::ks,p::kvs,e,h=>by
   simp only[QL,Tj]at e;simp only[QL,Reps];refine⟨?_,jt e.2 λx hx=>h x (QQ _ hx)⟩;rw[e.1]
   cases k with
   | i n=>simp only[keyD,keyV,kV,Rep]
   | s x=>simp only[keyD,keyV,kV,Rep];exact⟨trivial,h x QM⟩
noncomputable def Itx(x:Str):It:=⟨λi _=>i<x.cps.size,λi H v H'=>H'=H/\∃c,x.cps[i]?=Z_ c/\v=.str ⟨#[c]⟩,λi _=>x.cps.size<=i⟩
def Al{P:Rt}{w:RX}{A:S5}{E:Value->Shared->Prop}{s:Shared}{it:Addr}{x:Str}{t:Tok}{i c:Nat}{Q:Option Value->Shared->Prop}(hit:s.heap.IsStrIter it (UG x) x t i)(hx:x.cps[i]?=Z_ c)
 (hQ:∀h',h'.IsStrIter it (UG x) x t (i+1)->Uv it s.heap h'->Q (Z_ (.str ⟨#[c]⟩ s.toks)) { s with heap:=h',toks:=s.toks+1 }):Rg (Rm P w) A (WM (.ref it)) Q E s:=by
 unfold UG at hit hQ;split at hit
 .exact wpAny_pyNext_ascii_item hit hx (by simpa only[*,if_true]using hQ)
 .exact wpAny_pyNext_wide_item hit hx (by simpa only[*,if_false,QW]using hQ)
def end_str{P:Rt}{w:RX}{A:S5}{E:Value->Shared->Prop}{s:Shared}{it:Addr}{x:Str}{t:Tok}{i:Nat}{Q:Option Value->Shared->Prop}(hh:A.handled=ZW)(hit:s.heap.IsStrIter it (UG x) x t i)(hx:x.cps[i]?=ZW)
 (hQ:∀h',Rc.ExtBut it s.heap h'->Q none { s with heap:=h' }):Rg (Rm P w) A (WM (.ref it)) Q E s:=by
 unfold UG at hit;split at hit
 .exact wpAny_pyNext_ascii_end hh hit hx hQ
 .exact wpAny_pyNext_wide_end hh hit hx hQ
def zR{P:Rt}{w:RX}{K:QK}{tg:Expr}(it:Addr)(x:Str)(t:Tok):Turn P w K tg (Itx x) [it] it (λi h=>h.IsStrIter it (UG x) x t i)where
 mem:=by simp
 obj:=λi h st b hb=>by
  have e:b=it:=by simpa using hb
  subst e;obtain⟨o,e,c,d⟩:=st;exact⟨o,e,λv z=>by rw[d]at z;cases z⟩
 keep:=λi h h' st k=>by
  obtain⟨o,e,r⟩:=st;exact⟨o,k it (by simp) o e,r⟩
 item:=by
  intro X hP hw hK hc i pins s σ H E I hf st hg;subst hP hw hK;have hg:i<x.cps.size:=hg;obtain⟨f0,f1,f2,f3,f4,f5⟩:=hf it (by simp)
  have hx:x.cps[i]?=Z_ x.cps[i]:=by simp[hg]
  refine Al st hx λh' st' sb=>?_
  have I1:Inv X pins σ H { s with heap:=h',toks:=s.toks+1 }:=I.turned (t':=s.toks+1) (λb o hb e=>(sb.2 b hb).trans e) f0 f1 f3 f4 f5;obtain⟨o,e,c,d⟩:=id st'
  have hn:["enumerate","zip","dict_itemiterator","dict_reverseitemiterator","odict_iterator","itertools.zip_longest","itertools.pairwise"].contains (UG x)=ZZ:=by unfold UG;split<;>decide
  exact⟨_,rfl,v6 (s:={ s with heap:=h',toks:=s.toks+1 }) e c d hn ⟨.str ⟨#[x.cps[i]]⟩,H,I1,⟨_,rfl⟩,⟨rfl,_,hx,rfl⟩,st',λb hb=>(hf b hb).1⟩⟩
 done:=by
  intro X hP hw hK hc i pins s σ H E I hf st hg;subst hP hw hK;have hg:x.cps.size<=i:=hg;obtain⟨f0,f1,f2,f3,f4,f5⟩:=hf it (by simp)
  exact end_str (I.ok.hd hc) st (by simp;omega) λh' eb=>⟨rfl,I.turned (t':=s.toks) (λb o hb e=>eb b o hb e) f0 f1 f3 f4 f5⟩
 self:=λ_ _ _ _ _ st h=>by
  unfold UG at st;split at st
  .exact wpAny_pyIter_striter_ascii st h
  .exact wpAny_pyIter_striter_wide st h
def iStr(tl:TE):L2.TI:=fun σ H R=>tl σ H λx H1=>∃y,x=.str y/\R (Itx y) H1
def N6{tg l:Expr}{tl:TE}(hl:PE X l tl):PI X tg l (iStr tl):=by
 intro pins s σ H R I h
 refine thn (hl pins s σ H _ I h) λv s1 ⟨x,H1,I1,r1,q1⟩=>?_
 obtain⟨y,e,q⟩:=q1;subst e;obtain⟨t,rfl⟩:=r1;refine wpAny_pyIter_strU ?_;refine⟨s1.heap.objs.size,[s1.heap.objs.size],_,_,H1,rfl,I1.kept (t':=s1.toks) λb o e=>QV _ e,zR _ y t,⟨_,Rv _ rfl,rfl,rfl⟩,λb hb=>?_,q⟩
 have e:b=s1.heap.objs.size:=by simpa using hb
 subst e;exact I1.fpOk (Ra _) (I1.hok.fresh (Ra _))
def um(x:List Nat):Yields (Itx (strV x)) H2 (x.map λc=>.str (strV [c]))where
 go:=λi H' s hi=>by
  show i<(strV x).cps.size;simpa[strV]using hi
 yld:=λi H' v H'' s _ ⟨e,c,e1,e2⟩=>⟨e,by
  have e3:x[i]?=Z_ c:=by simpa[strV]using e1
  rw[RM,e3,e2];rfl⟩
 stop:=λH' s=>by
  show(strV x).cps.size<=_;simp[strV]
theorem kW:∀(x:List Nat),Reps W G (x.map λc=>Xq [c]) (x.map λc=>.str (strV [c]))
 | []=>by simp only[S9,Reps]
 | c::x=>by
   simp only[QL,Reps];refine⟨?_,kW x⟩;simp only[Rep];exact⟨trivial,by simp⟩
def GJ(X:Cx)(W:Wd)(o:Orc)(it:TI)(wi:L2.TI):Prop:=∀σ H (K:It->Hp->Prop),(∃me B δ l,SR X W me B H σ δ/\evI o δ ZX it=.ok l/\∀J H2,Same H H2->Ylds W J H2 (vis H2 (Hid B σ δ)) l->K J H2)->wi σ H K
section
variable{scope:Scope}{N:List Str}{elt tg iter:Expr}{ifs:List Expr}{m:Nat}{caps:List Nat}{tup:Bool}{g:TG}{it:TI}{tc te:T}
structure CompIn(X:Cx)(W:Wd)(o:Orc)(scope:Scope)(N:List Str)(elt tg iter:Expr)(ifs:List Expr)(m:Nat)(caps:List Nat)(tup:Bool)(g:TG)(it:TI)(tc te:T):Prop where
 hk:W.K=X.K
 hx:X.xe=gF
 hc:X.calm=ZX
 B:Blk scope
 C:Caps X scope N m caps
 hm:tup=ZZ->m=1
 hi:∃wi,PI X tg iter wi/\GJ X W o it wi
 hg:∀fp pins s H,PG (cxC X scope N fp pins s H) tg g
 hr:∀H0,TgR { X with H₀:=H0 } W (Ru m) tup g
 ht:∀fp pins s H,PIf (cxC X scope N fp pins s H) ifs (tT (cxC X scope N fp pins s H) W fun δ=>ev o δ ZX tc)
 he:∀fp pins s H,PE (cxC X scope N fp pins s H) elt (tD (cxC X scope N fp pins s H) W ZZ fun δ=>ev o δ ZZ te)
 hs:∀x,Te iter X.env x=pure x
def PIf.imp{t t':TT}{ifs:List Expr}(h:PIf X ifs t)(i:∀σ H Q,t' σ H Q->t σ H Q):PIf X ifs t':=λpins s σ H Q I hw=>h pins s σ H Q I (i σ H Q hw)
def De(A:CompIn X W o scope N elt tg iter ifs m caps tup g it tc te):PE X (.ListComp elt [⟨tg,iter,ifs,0⟩] scope pos) (tD X W lk fun δ=>ev o δ lk (.comp caps m tup it tc te)):=by
 obtain⟨wi,h1,h2⟩:=A.hi
 refine PE.imp (Hi (tc:=λH0=>tT { X with H₀:=H0 } W fun δ=>ev o δ ZX tc) (te:=λH0=>tD { X with H₀:=H0 } W ZZ fun δ=>ev o δ ZZ te) A.hx A.hc A.B A.C h1 A.hg (λfp pins s H=>PIf.imp (A.ht fp pins s H) fun σ H' Q h=>tT.cx (X:={ X with H₀:=H }) rfl rfl h) (λfp pins s H=>PE.imp (A.he fp pins s H) fun σ H' Q h=>tD.cx (X:={ X with H₀:=H }) rfl rfl h) A.hs) fun σ H Q h=>?_
 exact nY A.hk A.hm h2 A.hr h
def Ld(A:CompIn X W o scope N elt tg iter ifs m caps tup g it tc te)(hN:X.N.Nodup)(hi:X.N[i]?=Z_ x)(hx:Loc X.env.scope x)(hf:X.fn x=ZX\/X.env.scope.names.lookup x=Z_ .local)
 (hb:bsw=ZX->X.env.scope.names.lookup x=Z_ .local)(hsw:Uc (.ListComp elt [⟨tg,iter,ifs,0⟩] scope pos) (Z_ (.Name x px)) spos.line X.env=pure bsw) :
 PS X (.Assign [.Name x px] (.ListComp elt [⟨tg,iter,ifs,0⟩] scope pos) spos) (tS X W (evS o (.set i (.comp caps m tup it tc te)))):=by
 cases bsw with
 | false=>exact zu hN hi hx (De A) hsw hf
 | true=>
   obtain⟨wi,h1,h2⟩:=A.hi
   refine PS.imp (uf (tc:=λH0=>tT { X with H₀:=H0 } W fun δ=>ev o δ ZX tc) (te:=λH0=>tD { X with H₀:=H0 } W ZZ fun δ=>ev o δ ZZ te) A.hx A.hc A.B A.C h1 A.hg (λfp pins s H=>PIf.imp (A.ht fp pins s H) fun σ H' Q h=>tT.cx (X:={ X with H₀:=H }) rfl rfl h) (λfp pins s H=>PE.imp (A.he fp pins s H) fun σ H' Q h=>tD.cx (X:={ X with H₀:=H }) rfl rfl h) A.hs hN hi (hb rfl) hsw) λD σ H ⟨me,B,δ,S,h⟩=>?_
   refine nY (lk:=ZZ) A.hk A.hm h2 A.hr ?_;simp only[evS]at h;obtain⟨S1,e1⟩:=S.evF o (.comp caps m tup it tc te);obtain⟨r,e2,h⟩:=SO.of_ok h;obtain⟨q,e3,h⟩:=bY h
   cases e4:setSlot (evF o δ (.comp caps m tup it tc te)).1 i r.1 r.2 with
   | none=>rw[e4]at e3;cases e3
   | some δ'=>
     rw[e4]at e3;cases e3;obtain⟨h1,rfl⟩:=fC e4;refine tD_iff.mpr ⟨me,B,_,S1,?_⟩;rw[<-e1,e2];intro v H' s q;obtain⟨S2,s2⟩:=S1.store s q h1;exact h _ _ S2 ((aJ (gO o (.comp caps m tup it tc te))).trans s2)
end
end
section
variable{X:Cx}{W:Wd}{lk:Bool}{pos pos' p:Pos}{a:Expr}{o:Orc}
theorem sE:∀{ns:List (List Nat)}{vs:List D}{fs:List (Str×V)},fs.map (·.1)=ns.map strV->Reps W G vs (fs.map (·.2))->look (ns.map .s) vs (.s f)=Z_ d->∃v,fs.lookup (strV f)=Z_ v/\Rep W G d v
 | [],_,_,_,_,h=>by simp[look]at h
 | _::_,[],_,_,_,h=>by simp[look]at h
 | _::_,_::_,[],e,_,_=>by simp at e
 | n::ns,u::vs,(y,v)::fs,e,r,h=>by
   simp only[QL,Tj]at e;simp only[QL,Reps]at r;obtain⟨rfl,e2⟩:=e;simp only[QL,look]at h
   by_cases hn:n=f
   .subst hn
    rw[if_pos rfl]at h;cases h;exact⟨v,by simp[Sq],r.1⟩
   .have h1:¬Y4 n=Y4 f:=λz=>hn (by injection z)
    rw[if_neg h1]at h;obtain⟨w,q1,q2⟩:=sE e2 r.2 h;refine⟨w,?_,q2⟩
    have hb:(strV f==strV n)=ZZ:=by
     simp only[beq_eq_false_iff_ne,ne_eq]
     exact λz=>hn (fG z).symm
    simp only[Sq,hb];exact q1
def Qv(hf:fn=strV f)(hc:∀c,(o.init c).isSome=ZX->Cls X.K (W.CT c)/\NoAttr X.K (W.CT c) fn)(ha:PE X a (tD X W ZX fun δ=>ev o δ ZX ta))(hb:Uq a fn X.env (S8 a X.env)=S8 a X.env) :
 PE X (.Attribute a fn pos) (tD X W lk fun δ=>ev o δ lk (.fld ta f)):=by
 subst hf
 refine PE.imp (M9 ha hb) fun σ H Q h=>?_
 obtain⟨me,B,δ,S,h⟩:=tD_iff.mp h;simp only[ev]at h
 refine tD.mono (part (fa:=fun δ=>ev o δ ZX ta) S h) λv H1 ⟨r1,e1,S1,s1,t1,_,h1⟩=>?_
 cases e2:r1.2 with
 | obj c ns vs=>
   rw[e2]at t1 h1;obtain⟨ad,dx,fs,rfl,q1,q2,q3⟩:=t1;simp only[fldD]at h1
   cases ei:(o.init c).isSome with
   | false=>rw[ei]at h1;exact h1.elim
   | true=>
   rw[ei]at h1;have h1:After X W lk σ H1 (Hid B σ δ) (.of ((look (ns.map .s) vs (.s f)).map λd=>(ZZ,d))) Q:=h1
   cases e3:look (ns.map .s) vs (.s f)with
   | none=>rw[e3]at h1;exact h1.elim
   | some d=>
     rw[e3]at h1;obtain⟨u,q4,q5⟩:=sE q2 q3 e3;exact⟨ad,_,dx,fs,u,rfl,q1,(hc c ei).1,(hc c ei).2,q4,h1 u H1 (Same.refl _) (.shared q5)⟩
 | _=>rw[e2]at h1;exact h1.elim
def PE.exs{ι:Type}{P:ι->Prop}{e:Expr}{t:ι->TE}(h:∀i,P i->PE X e (t i)):PE X e (fun σ H Q=>∃i,P i/\t i σ H Q):=λpins s σ H Q I ⟨i,p,q⟩=>h i p pins s σ H Q I q
theorem lookup_none:∀{ns:List (List Nat)}{fs:List (Str×V)},fs.map (·.1)=ns.map strV->ns.contains f=ZZ->fs.lookup (strV f)=ZW
 | [],[],_,_=>rfl
 | [],_::_,e,_=>by simp at e
 | _::_,[],e,_=>by simp at e
 | n::ns,(y,v)::fs,e,h=>by
   simp only[QL,Tj]at e;obtain⟨rfl,e2⟩:=e;simp only[List.contains_cons,Rp]at h
   have hb:(strV f==strV n)=ZZ:=by
    simp only[beq_eq_false_iff_ne,ne_eq];intro z;have:=fG z;rw[this]at h;simp at h
   simp only[Sq,hb];exact lookup_none e2 h.2
def MtOk(X:Cx)(W:Wd)(o:Orc)(k c f np:Nat)(mn:Str):Prop:=∃fa fd ps,Cls X.K (W.CT c)/\Meth X.K (W.CT c) mn fa/\Binds X.K fd ps []/\(∀ds r,o.fn f ds=.ok r->ds.length=np)/\FnOk X.prog X.w X.K X.mg X.base CX0 k fa fd ps (spFn W (o.fn f) np)
def Ey(hl:∀ds r,o.fn f ds=.ok r->ds.length=np)(h:After X W lk σ H P ((o.fn f ds).bind (lent br)) Q):ds.length=np:=by
 cases e:o.fn f ds with
 | ok r=>exact hl ds r e
 | exc c=>rw[e]at h;exact h.elim
 | stuck=>rw[e]at h;exact h.elim
def Mp{ta:T}{l:TL}{m:List Nat}{mn:Str}{k:Nat}{e:Expr}{es:List Expr}{apos:Pos}{pl:Sem Bool}(hmn:mn=strV m)
 (hM:∀c f,o.meth c m=Z_ f->∃np,MtOk X W o k c f np mn)
 (hr:Room k X.A)(ha:∀lk,PE X a (tD X W lk fun δ=>ev o δ lk ta))(hl:PA X (e::es) (tL X W fun δ=>evL o δ l))
 (hst:R3 (e::es) X.env=(ZZ,S8 e X.env)::R3 es X.env)(hpl:(SQ pos (R3 es X.env)).any (·.1)=ZZ)
 (ht:S8 (.Call (.Attribute a mn apos) (e::es) [] pos) X.env=(do
  let ov <-S8 a X.env
  Vk apos.atName
  let(f,first) <-TX [ov] (Vp ov mn pl)
  Wm pos f first (SQ pos (R3 (e::es) X.env)) (Vc pos (TJ [] X.env)))) :
 PE X (.Call (.Attribute a mn apos) (e::es) [] pos) (tD X W lk fun δ=>ev o δ lk (.meth m ta l)):=by
 subst hmn
 have key:∀i:Bool×Nat×Nat×Nat,MtOk X W o k i.2.1 i.2.2.1 i.2.2.2 (strV m)->PE X (.Call (.Attribute a (strV m) apos) (e::es) [] pos) (ug (W.CT i.2.1) (strV m) (spFn W (o.fn i.2.2.1) i.2.2.2) [] (λ_ _ _=>False) (tD X W i.1 fun δ=>ev o δ i.1 ta) (tL X W fun δ=>evL o δ l)):=λi ⟨fa,fd,ps,h1,h2,h3,h5,h4⟩=>
  vL (ha i.1) h1 h2 h4 hr h3 .nil ou hl hst hpl ht
 refine PE.imp (PE.exs key) fun σ H Q h=>?_
 obtain⟨me,B,δ,S,h⟩:=tD_iff.mp h;simp only[ev]at h;generalize hlk:bR δ ta=lk' at h
 cases e1:ev o δ lk' ta with
 | stuck=>rw[e1]at h;exact h.elim
 | exc c=>rw[e1]at h;exact h.elim
 | ok r=>
 cases e2:r.2 with
 | obj c ns vs=>
   cases e3:o.meth c m with
   | none=>
     exfalso
     rw[e1]at h;simp only[Xr,e2,e3,Xu]at h
     cases e4:evL o δ l with
     | ok y=>
       rw[e4]at h;simp only[Xz]at h;split at h<;>exact h
     | exc c=>rw[e4]at h;exact h
     | stuck=>rw[e4]at h;exact h
   | some f=>
   obtain⟨np,hMt⟩:=hM c f e3;refine⟨(lk',c,f,np),hMt,?_⟩;obtain⟨_,_,_,_,_,_,hlen,_⟩:=hMt
   refine tD.mono (Jo (fa:=fun δ=>ev o δ lk' ta) (C:=λr H=>After X W lk σ H (Hid B σ δ) r Q) S h (λr H1 s q=>q.mono s) (λc q=>q) (λq=>q)) λv H1 ⟨r1,e1',S1,s1,t1,q1,h1⟩=>?_
   have:r1=r:=by rw[e1]at e1';cases e1';rfl
   subst this;have t1':=t1;rw[e2]at t1';obtain⟨ad,dx,fs,rfl,z1,z2,z3⟩:=t1'
   have hcs:ns.contains m=ZZ:=by
    rw[e2]at h1
    cases e4:evL o δ l with
    | ok y=>
      rw[e4]at h1
      cases hc:ns.contains m with
      | false=>rfl
      | true=>
        simp only[Xr,Xz,hc,UL,QW,if_false]at h1;exact h1.elim
    | exc c=>rw[e4]at h1;exact h1.elim
    | stuck=>rw[e4]at h1;exact h1.elim
   refine⟨ad,dx,fs,rfl,z1,lookup_none z2 hcs,?_⟩
   refine tL.mono (lM (fa:=fun δ=>evL o δ l) (C:=λr H=>After X W lk σ H (Hid B σ δ) r Q) S1 h1 (λr H1 s q=>q.mono s) (λc q=>q) (λq=>q)) λus H2 ⟨r2,e4,S2,s2,t2,q2,h2⟩=>?_
   rw[e2]at h2;simp only[hcs,Sy,Xz,if_true,e3,Xu,Xr]at h2;rw[RC]
   have h2':After X W lk σ H2 (Hid B σ δ) ((o.fn f (r1.2::r2.2)).bind (lent (lk'||r2.1))) Q:=by rw[e2];exact h2
   refine Jr (ds:=r1.2::r2.2) (br:=lk'||r2.1) S2 (Ey hlen h2') ?_ (λhf=>?_) h2'
   .simp only[RepTs]
    exact⟨t1.mono s2 (au s2),t2⟩
   .simp only[Rp]at hf
    simp only[Reps];refine⟨?_,q2 hf.2⟩;rw[hf.1]at q1;exact(q1.keep S.know).mono (au s2)
 | _=>
   exfalso
   rw[e1]at h;simp only[Xr,e2]at h
   cases e4:evL o δ l with
   | ok y=>rw[e4]at h;exact h
   | exc c=>rw[e4]at h;exact h
   | stuck=>rw[e4]at h;exact h
def Ij{ta:T}{m:List Nat}{mn:Str}{k:Nat}{apos:Pos}{pl:Sem Bool}(hmn:mn=strV m)
 (hM:∀c f,o.meth c m=Z_ f->∃np,MtOk X W o k c f np mn)
 (hr:Room k X.A)(ha:∀lk,PE X a (tD X W lk fun δ=>ev o δ lk ta))
 (ht:S8 (.Call (.Attribute a mn apos) [] [] pos) X.env=(do
  let ov <-S8 a X.env
  Vk apos.atName
  let(f,first) <-TX [ov] (Vp ov mn pl)
  Wm pos f first (SQ pos (R3 [] X.env)) (Vc pos (TJ [] X.env)))) :
 PE X (.Call (.Attribute a mn apos) [] [] pos) (tD X W lk fun δ=>ev o δ lk (.meth m ta .nil)):=by
 subst hmn
 have key:∀i:Bool×Nat×Nat×Nat,MtOk X W o k i.2.1 i.2.2.1 i.2.2.2 (strV m)->PE X (.Call (.Attribute a (strV m) apos) [] [] pos) (ug (W.CT i.2.1) (strV m) (spFn W (o.fn i.2.2.1) i.2.2.2) [] (λ_ _ _=>False) (tD X W i.1 fun δ=>ev o δ i.1 ta) tNil):=λi ⟨fa,fd,ps,h1,h2,h3,h5,h4⟩=>
  qX (ha i.1) h1 h2 h4 hr h3 .nil ou ht
 refine PE.imp (PE.exs key) fun σ H Q h=>?_
 obtain⟨me,B,δ,S,h⟩:=tD_iff.mp h;simp only[ev]at h;simp only[evL]at h;generalize hlk:bR δ ta=lk' at h
 cases e1:ev o δ lk' ta with
 | stuck=>rw[e1]at h;exact h.elim
 | exc c=>rw[e1]at h;exact h.elim
 | ok r=>
 cases e2:r.2 with
 | obj c ns vs=>
   cases e3:o.meth c m with
   | none=>
     exfalso
     rw[e1]at h;simp only[Xr,e2,e3,Xu,Xz]at h;split at h<;>exact h
   | some f=>
   obtain⟨np,hMt⟩:=hM c f e3;refine⟨(lk',c,f,np),hMt,?_⟩;obtain⟨_,_,_,_,_,_,hlen,_⟩:=hMt
   refine tD.mono (Jo (fa:=fun δ=>ev o δ lk' ta) (C:=λr H=>After X W lk σ H (Hid B σ δ) r Q) S h (λr H1 s q=>q.mono s) (λc q=>q) (λq=>q)) λv H1 ⟨r1,e1',S1,s1,t1,q1,h1⟩=>?_
   have:r1=r:=by rw[e1]at e1';cases e1';rfl
   subst this;have t1':=t1;rw[e2]at t1';obtain⟨ad,dx,fs,rfl,z1,z2,z3⟩:=t1'
   have hcs:ns.contains m=ZZ:=by
    rw[e2]at h1
    cases hc:ns.contains m with
    | false=>rfl
    | true=>
      simp only[Xr,Xz,hc,UL,QW,if_false]at h1;exact h1.elim
   refine⟨ad,dx,fs,rfl,z1,lookup_none z2 hcs,?_⟩;rw[e2]at h1;simp only[hcs,Sy,Xz,if_true,e3,Xu,Xr]at h1
   have h1':After X W lk σ H1 (Hid B σ δ) ((o.fn f [r1.2]).bind (lent (lk'||false))) Q:=by rw[e2];exact h1
   show spFn W (o.fn f) np [.ref ad] H1 Q (λ_ _ _=>False);refine Jr (ds:=[r1.2]) (br:=lk'||false) S1 (Ey hlen h1') ?_ (λhf=>?_) h1'
   .simp only[RepTs]
    exact⟨t1,trivial⟩
   .simp only[Rp]at hf
    simp only[Reps];rw[hf.1]at q1;exact⟨q1.keep S.know,trivial⟩
 | _=>
   exfalso
   rw[e1]at h;simp only[Xr,e2]at h;exact h
noncomputable def unS:DK->List Nat
 | .s x=>x
 | .i _=>[]
theorem mV(r:Rep W G d v):∀{ns:List (List Nat)}{vs:List D}{fs:List (Str×V)},fs.map (·.1)=ns.map strV->Reps W G vs (fs.map (·.2)) ->
 (putF (strV f) v fs).map (·.1)=((cO (ns.map .s) (.s f)).map unS).map strV/\Reps W G (putV (ns.map .s) vs (.s f) d) ((putF (strV f) v fs).map (·.2))
 | [],[],[],_,_=>by
   simp only[S9,cO,putV,putF,QL,unS,Reps];exact⟨trivial,r,trivial⟩
 | [],_::_,[],_,h=>by simp only[S9,Reps]at h
 | [],_,_::_,e,_=>by simp at e
 | _::_,_,[],e,_=>by simp at e
 | _::_,[],_::_,_,h=>by simp only[QL,Reps]at h
 | n::ns,u::vs,(y,x)::fs,e,h=>by
   simp only[QL,Tj]at e;simp only[QL,Reps]at h;obtain⟨rfl,e2⟩:=e
   by_cases hn:n=f
   .subst hn
    simp only[QL,cO,putV,putF,if_true,unS,Reps];refine⟨?_,r,h.2⟩;rw[e2]
    have:(ns.map Y4).map unS=ns:=by
     rw[RD]
     conv=>rhs;rw[<-List.map_id ns]
     rfl
    rw[this]
   .have h1:¬Y4 n=Y4 f:=λz=>hn (by injection z)
    have h2:¬strV n=strV f:=λz=>hn (fG z)
    obtain⟨q1,q2⟩:=mV r e2 h.2;simp only[QL,cO,putV,putF,if_neg h1,if_neg h2,unS,Reps];exact⟨by rw[q1],h.1,q2⟩
def uF{ok:Nat->Bool}{c:Nat}{ns:List (List Nat)}{vs:List D}{f:List Nat}{v d':D}(h:gk ok (.obj c ns vs) f v=Z_ d'):(ok c=ZX/\ns.length<900)/\d'=.obj c ((cO (ns.map .s) (.s f)).map unS) (putV (ns.map .s) vs (.s f) v):=by
 simp only[gk]at h;split at h
 .rename_i hl
  refine⟨hl,?_⟩;cases h
  first
   | rfl
   | (congr 1
      apply List.map_congr_left
      intro k _
      cases k<;>rfl)
 .cases h
def wH:Uc e (Z_ (.Attribute o' f' pp)) l env=pure ZZ:=by
 cases e<;>rfl
def Jp(hf:fn=strV f)(hc:∀c,(o.init c).isSome=ZX->Cls X.K (W.CT c)/\NoAttr X.K (W.CT c) fn)(hv:PE X (.Name x p) (tVar i))(he:PE X e (tD X W ZZ fun δ=>ev o δ ZZ te)) :
 PS X (.Assign [.Attribute (.Name x p) fn pos'] e pos) (tS X W (evS o (.setf i f te))):=by
 subst hf
 refine PS.imp (JW hv he wH) λEn σ H ⟨me,B,δ,S,h⟩=>?_
 simp only[evS]at h;obtain⟨S1,e1⟩:=S.evF o te;have sub1:=gO (B:=B) (σ:=σ) (δ:=δ) o te;generalize (evF o δ te).1=δ1 at *;generalize (evF o δ te).2=r1 at *;obtain⟨r,e2,h⟩:=SO.of_ok h;obtain⟨q,e4,h⟩:=bY h
 cases e5:ownD δ1 i with
 | none=>rw[e5]at e4;cases e4
 | some c=>
 obtain⟨w,d⟩:=c;rw[e5]at e4;simp only[R7]at e4
 cases e6:gk (λc=>(o.init c).isSome) d f r.2 with
 | none=>rw[e6]at e4;cases e4
 | some d'=>
 rw[e6]at e4;cases e4
 cases d with
 | obj c ns vs=>
   obtain⟨⟨ei,hl⟩,rfl⟩:=uF e6;refine tD_iff.mpr ⟨me,B,δ1,S1,?_⟩;rw[<-e1,e2];intro v H1 s1 q1;have S2:=S1.mono s1;obtain⟨o1,o2,ad,o3,o4,o5,o6⟩:=S2.own e5;refine⟨_,o3,?_⟩;obtain⟨dx,fs,z1,z2,z3⟩:=o4
   have hlen:fs.length=ns.length:=by simpa using congrArg Sx z2
   refine⟨ad,_,dx,fs,rfl,z1,(hc c ei).1,(hc c ei).2,by omega,?_⟩;obtain⟨p1,p2⟩:=mV (f:=f) (q1.keep S1.know) z2 z3
   have new:OwnAt W (upd H1 ad (.ins (W.CT c) dx (putF (strV f) v fs))) (vis H1 (Hid B σ δ1)) ad (.obj c ((cO (ns.map .s) (.s f)).map unS) (putV (ns.map .s) vs (.s f) r.2)):=⟨dx,_,bA,p1,p2⟩
   obtain⟨S3,s3⟩:=S2.write o1 o2 o3 o5 o6 new;exact h _ _ S3 (((aJ sub1).trans (au s1)).trans s3)
 | _=>simp[gk]at e6
end
def spI(W:Wd)(g:D->List D->R D)(np:Nat):Sp:=λvs H Q _=>vs.length=np/\∃a args B d ds d',vs=V.ref a::args/\Soft H B/\(∀b,B b->∃o,H b=Z_ o)/\¬B a/\OwnAt W H (vis H λb=>B b\/b=a) a d/\Reps W (vis H λb=>B b\/b=a) ds args/\g d ds=.ok d' /\
 ∀H',(∀b o,H b=Z_ o->b≠a->H' b=Z_ o)->OwnAt W H' (vis H' λb=>B b\/b=a) a d'->Q .non H'
noncomputable def eG(d:D)(ds:List D)(n:Nat):Dst:=Z_ (.me,d)::cY ds n
def cJ(h:(eG d ds n)[i]?=Z_ (Z_ (w,y))):(i=0/\w=.me/\y=d)\/∃j,i=j+1/\w=.sh/\ds[j]?=Z_ y:=by
 cases i with
 | zero=>exact .inl ⟨rfl,by cases h;exact⟨rfl,rfl⟩⟩
 | succ j=>
   have h:(cY ds n)[j]?=Z_ (Z_ (w,y)):=by simpa[eG]using h
   exact .inr ⟨j,rfl,cL h⟩
def DG(h:OwnAt W H G a d):∃o,H a=Z_ o:=let⟨o,q,_⟩:=OwnAt.some h;⟨o,q⟩
section
variable{X:Cx}{W:Wd}{me:Option Addr}{B:Addr->Prop}{H:Hp}{σ:L2.St}{δ:Dst}{o:Orc}{lk:Bool}
def SR.startM(hk:W.K=X.K)(h0:X.H₀=H)(hb:Soft H B)(hg:∀b,B b->∃o,H b=Z_ o)(ha:¬B a)(ho:OwnAt W H (vis H λb=>B b\/b=a) a d)(hr:Reps W (vis H λb=>B b\/b=a) ds args)(hl:args.length+1<=N.length) :
 SR X W (Z_ a) B H (L2.start N (V.ref a::args)) (eG d ds (N.length-(args.length+1))):=by
 have s0:(L2.start N (V.ref a::args))[0]?=Z_ (Z_ (V.ref a)):=jK rfl
 have hid:∀b,Hid B (L2.start N (V.ref a::args)) (eG d ds (N.length-(args.length+1))) b->B b\/b=a:=λb hb=>by
  rcases hb with hb | ⟨i,⟨w,y,h1,h2⟩,h3⟩
  .exact .inl hb
  .rcases cJ h1 with⟨rfl,_,_⟩ | ⟨j,_,z,_⟩
   .rw[s0]at h3;cases h3;exact .inr rfl
   .exact absurd z h2
 refine⟨hk,?_,λi y h=>?_,λi y h=>?_,λi y h=>?_,λi j e h1 h2=>?_,λb o h _=>by rw[<-h0];exact h,hb,hg,λx h=>?_⟩
 .unfold L2.start eG cY
  have:=hr.length;simp only[R4,R5,Tg,R6];omega
 .rcases cJ h with⟨_,z,_⟩ | ⟨j,rfl,_,h⟩
  .cases z
  .obtain⟨v,e1,e2⟩:=hr.get h
   exact⟨v,jK (by simpa using e1),e2.mono (aJ hid)⟩
 .rcases cJ h with⟨_,z,_⟩ | ⟨j,_,z,_⟩<;>cases z
 .rcases cJ h with⟨rfl,_,rfl⟩ | ⟨j,_,z,_⟩
  .exact⟨rfl,a,rfl,s0,ho.mono (λ_ q=>q) (aJ hid),ha⟩
  .cases z
 .obtain⟨⟨w,y,e1,e2⟩,_⟩:=h1
  obtain⟨⟨w',y',e3,e4⟩,_⟩:=h2;rcases cJ e1 with⟨rfl,_,_⟩ | ⟨_,_,z,_⟩
  .rcases cJ e3 with⟨rfl,_,_⟩ | ⟨_,_,z,_⟩
   .rfl
   .exact absurd z e4
  .exact absurd z e2
 .cases h;exact DG ho
def SR.writeX(S:SR X W me B H σ δ)(hi:δ[i]?=Z_ (Z_ (w,d)))(hw:w≠.sh)(hc:σ[i]?=Z_ (Z_ (V.ref c)))(hB:¬B c)(hX:∀u,X.H₀ c=Z_ u->some c=me)
 (hs:∀b o,H b=Z_ o->b≠c->H' b=Z_ o)(new:OwnAt W H' (vis H' (Hid B σ δ)) c d'):SR X W me B H' σ (δ.set i (Z_ (w,d')))/\Same (vis H (Hid B σ δ)) (vis H' (Hid B σ (δ.set i (Z_ (w,d'))))):=by
 have hid:Hid B σ δ c:=.inr ⟨i,⟨w,d,hi,hw⟩,hc⟩
 have up:Same (vis H (Hid B σ δ)) (vis H' (Hid B σ δ)):=λb v e=>by
  obtain⟨e1,e2⟩:=bK e
  have hb:b≠c:=λz=>e2 (z▸hid)
  exact bQ (hs b v e1 hb) e2
 have other:∀{j:Nat}{x:Own}{y:D},j≠i->δ[j]?=Z_ (Z_ (x,y))->x≠.sh->∀{e:Addr},σ[j]?=Z_ (Z_ (V.ref e))->e≠c:=λhj h1 h2 e h3 z=>by
  subst z;exact hj (S.apart _ _ _ ⟨⟨_,_,h1,h2⟩,h3⟩ ⟨⟨_,_,hi,hw⟩,hc⟩)
 refine⟨?_,by rw[dG hi];exact up⟩;refine⟨S.kf,by simp[S.len],λj y h=>?_,λj y h=>?_,λj y h=>?_,λj k e h1 h2=>S.apart j k e ((dz hi).mp h1) ((dz hi).mp h2),λb v e hb=>?_,λb hb v e=>?_,λb hb=>?_,λx hx=>?_⟩
 .rw[dG hi]
  rcases get_set hi h with⟨_,rfl,_⟩ | ⟨_,h⟩
  .exact absurd rfl hw
  .obtain⟨v,h1,h2⟩:=S.sh j y h
   exact⟨v,h1,h2.mono up⟩
 .rw[dG hi]
  rcases get_set hi h with⟨rfl,rfl,rfl⟩ | ⟨hj,h⟩
  .obtain⟨e,h1,h2,h3,h4,h5⟩:=S.ow j d hi
   rw[hc]at h1;cases h1;exact⟨c,hc,new,h3,h4,h5⟩
  .obtain⟨e,h1,h2,h3⟩:=S.ow j y h
   exact⟨e,h1,h2.mono (λv q=>hs e v q (other hj h (by decide) h1)) up,h3⟩
 .rw[dG hi]
  rcases get_set hi h with⟨rfl,rfl,rfl⟩ | ⟨hj,h⟩
  .obtain⟨h0,e,h1,h2,h3,h4⟩:=S.mi j d hi
   rw[hc]at h2;cases h2;exact⟨h0,c,h1,hc,new,h4⟩
  .obtain⟨h0,e,h1,h2,h3,h4⟩:=S.mi j y h
   exact⟨h0,e,h1,h2,h3.mono (λv q=>hs e v q (other hj h (by decide) h2)) up,h4⟩
 .have hbc:b≠c:=λz=>hb (by subst z;exact hX v e)
  exact hs b v (S.same b v e hb) hbc
 .have hbc:b≠c:=λz=>hB (z▸hb)
  obtain⟨v',e'⟩:=S.gone b hb;have:=hs b v' e' hbc;rw[this]at e;cases e;exact S.soft b hb _ e'
 .have hbc:b≠c:=λz=>hB (z▸hb)
  obtain⟨v',e'⟩:=S.gone b hb;exact⟨v',hs b v' e' hbc⟩
 .by_cases hxc:x=c
  .subst hxc;exact DG new
  .obtain⟨v',e'⟩:=S.live x hx
   exact⟨v',hs x v' e' hxc⟩
end
section
variable{P:Rt}{w:RX}{K:QK}{mg:Str->Option Value}{base:Rc}{x qual:Str}{st:Stmt}{f:Addr}{fd:Sw}{N ps:List Str}{k:Nat}{o:Orc}{W:Wd}{np ns:Nat}{body:SL}
def wR(F:Fun K x qual st f fd)(Sc:FnScope N ps (aH st))(hp:ps.length=np)(hn:N.length=ns)
 (hb:∀(cdv:Value)(A:S5)(outer:List Env)(s:Shared)(H:Hp)(E:XK),Room k (A.deeper (VR qual (aH st) s.heap.objs.size f cdv)) ->
  PSs (cxX P w K mg base W N qual st f cdv A outer s H E) (bF st) (tS (cxX P w K mg base W N qual st f cdv A outer s H E) W (evSs o body))) (hk:W.K=K) :
 FnOk P w K mg base (CXZ P w base W) (k+1) f fd ps (spI W (du o ⟨np,ns,body⟩) np):=by
 obtain⟨oc,od,kV,doc,pm,an,cdv,ct,osl,dV,rfl,lk,hcd⟩:=F.ex
 refine Ff lk hcd Sc (λvs H Q E q=>by rw[hp];exact q.1) λA outer s H vs Q E hr hsp=>⟨tS (cxX P w K mg base W N qual st f cdv A outer s H E) W (evSs o body),PSs.unw (hb cdv A outer s H E hr) (λe s' z=>lV z),?_⟩
 obtain⟨hl,a,args,B,d,ds,d',rfl,b1,b2,b3,b4,b5,e,k1⟩:=hsp
 have hle:args.length+1<=N.length:=by
  have:=congrArg Sx Sc.pre;rw[Uu]at this;simp only[R6]at hl;omega
 simp only[R6]at hl
 have run:du o ⟨np,ns,body⟩ d ds=(match evSs o body (eG d ds (N.length-(args.length+1)))with
  | .rt _ .non δ=>selfOf δ
  | .nx δ=>selfOf δ
  | .ex c _=>.exc c
  | _=>.stuck):=by
  have h1:=b5.length;unfold du eG cY;rw[if_pos (by show ds.length+1=np;omega)];simp only[hn,hl]
  try rfl
 rw[run]at e
 have fin:∀{σ':L2.St} {H':Hp} {δ':Dst},SR (cxX P w K mg base W N qual st f cdv A outer s H E) W (Z_ a) B H' σ' δ'->selfOf δ'=.ok d'->Q .non H':=λ{σ' H' δ'} S' es=>by
  have e0:δ'[0]?=Z_ (Z_ (.me,d')):=by
   unfold selfOf at es;split at es
   .rename_i y ey;cases es;exact ey
   .cases es
  obtain⟨_,a',z1,z2,z3,z4⟩:=S'.mi 0 d' e0;cases z1;refine k1 H' (λb ob h hb=>S'.same b ob h (λz=>hb (by cases z;rfl))) (z3.mono (λ_ q=>q) (aJ λb hb=>?_));rcases hb with hb | rfl
  .exact .inl hb
  .exact .inr ⟨0,⟨.me,d',e0,by decide⟩,z2⟩
 refine⟨some a,B,_,SR.startM (N:=N) (by exact hk) rfl b1 b2 b3 b4 b5 hle,?_⟩
 cases e2:evSs o body (eG d ds (N.length-(args.length+1)))with
 | rt wv dv δ'=>
   rw[e2]at e
   cases dv with
   | non=>
     intro v σ' H' S' _ q
     have hv:v=.non:=by
      unfold Res at q;split at q
      .obtain⟨_,_,_,z⟩:=q;exact z.elim
      .split at q
       .simpa only[RepT,Rep]using q
       .simpa only[Rep]using q
     subst hv;exact fin S' e
   | _=>cases e
 | nx δ'=>
   rw[e2]at e
   exact fun σ' H' S' _=>fin S' e
 | bk δ'=>rw[e2]at e;cases e
 | ct δ'=>rw[e2]at e;cases e
 | ex c δ'=>rw[e2]at e;cases e
 | stuck=>rw[e2]at e;cases e
def ok0I(F:FnOk P w K mg base (CXZ P w base W) k f fd ps (spI W g np)):FnOk P w K mg base CX0 k f fd ps (spI W g np):=by
 refine⟨F.len,λA outer s H args us vs Q E hr he hb hv hs=>?_⟩
 refine Uj (F.run A outer s H args us vs Q E0 hr he hb hv hs) λr s' q=>?_
 cases r with
 | ok fl=>cases fl<;>exact q
 | error e=>obtain⟨_,_,_,_,_,_,_,_,_,_,_,_,z⟩:=q;exact z.elim
end
section
variable{X:Cx}{W:Wd}{o:Orc}{lk:Bool}
def d_mk{c f np k:Nat}{x:Str}{fa:Addr}{fd:Sw}{ps:List Str}{e:Expr}{es:List Expr}{l:TL}{p pos:Pos}(hi:o.init c=Z_ f)(hn:∀s a d,o.ini f s a=.ok d->a.length+1=np)(M:Mk X.K (W.CT c) fa)
 (F:FnOk X.prog X.w X.K X.mg X.base CX0 k fa fd ps (spI W (o.ini f) np))(hr:Room (k+1) X.A)(hg:Gl X x)(hm:X.mg x=Z_ (.ref (W.CT c)))(hb:Binds X.K fd ps [])(ha:PA X (e::es) (tL X W fun δ=>evL o δ l))
 (hdb:(x==("__debug__":Str))=ZZ)(he:R3 (e::es) X.env=(ZZ,S8 e X.env)::R3 es X.env)(hpl:(SQ pos (R3 es X.env)).any (·.1)=ZZ) :
 PE X (.Call (.Name x p) (e::es) [] pos) (tD X W lk fun δ=>ev o δ lk (.mk c l)):=by
 refine PE.imp (Hk (E:=λ_ _ _=>False) M F hr hg hm hb .nil ou ha hdb he hpl) fun σ H Q h=>?_
 obtain⟨me,B,δ,S,h⟩:=tD_iff.mp h;simp only[ev,hi]at h
 refine tL.mono (lM (fa:=fun δ=>evL o δ l) (C:=λr H=>After X W lk σ H (Hid B σ δ) r Q) S h (λr H1 s q=>q.mono s) (λc q=>q) (λq=>q)) λvs H1 ⟨r,e1,S1,s1,t1,q1,h1⟩=>?_
 intro a dx f1 f2 f3;rw[RC]
 cases e2:r.1 with
 | true=>simp only[Xu,Xr,e2,UL,Xz,QW,if_false]at h1;exact h1.elim
 | false=>
 simp only[Xu,Xr,e2,Sy,Xz,if_true]at h1
 cases e3:o.ini f (.obj c [] []) r.2 with
 | stuck=>rw[e3]at h1;exact h1.elim
 | exc c'=>rw[e3]at h1;exact h1.elim
 | ok d'=>
 rw[e3]at h1;have h1:∀v H',Same H1 H'->Res W (Hid B σ δ) lk H1 H' ZX d' v->Q v H':=h1
 have sm:Same H1 (upd (upd H1 dx (.own a)) a (.ins (W.CT c) dx [])):=λb ob hb=>by
  have n1:b≠a:=λz=>by subst z;rw[f1]at hb;cases hb
  have n2:b≠dx:=λz=>by subst z;rw[f2]at hb;cases hb
  rw[aX n1,aX n2];exact hb
 have hna:¬Hid B σ δ a:=λz=>by obtain⟨ob,q⟩:=S1.know a z;rw[f1]at q;cases q
 refine⟨by simp only[R6];rw[<-t1.length];exact hn _ _ _ e3,a,vs,Hid B σ δ,.obj c [] [],r.2,d',rfl,(S1.mono sm).softH,(S1.mono sm).know,hna,⟨dx,[],bA,rfl,by simp only[S9,Reps]⟩,(q1 e2).mono λb ob hb=>?_,e3,λH' hs hO=>⟨rfl,h1 _ H' (λb ob hb=>?_) ?_⟩⟩
 .obtain⟨g1,g2⟩:=bK hb
  refine bQ (sm b ob g1) λz=>?_
  rcases z with z | rfl
  .exact g2 z
  .rw[f1]at g1;cases g1
 .exact hs b ob (sm b ob hb) λz=>by subst z;rw[f1]at hb;cases hb
 .unfold Res
  rw[if_pos rfl];exact⟨a,rfl,f1,hO⟩
structure ClsFn(K:QK)(C:Addr)(m:Str)(f:Addr):Prop where
 ga:Vt K (.ref C) "__getattribute__"=Z_ (Z_ (.builtin "type.__getattribute__"))
 rd:∃mc,PySem.W.readsIn K C mc=ZX/\PySem.W.findCls K (.ref C) mc m=Z_ (.val (.ref f))
 hh:VB (.ref f)=ZX
 kp:Rj K (.ref f)=ZX
end
def spM(W:Wd)(g:D->List D->R (D×D))(np:Nat):Sp:=λvs H Q _=>vs.length=np/\∃a args B d ds r,vs=V.ref a::args/\Soft H B/\(∀b,B b->∃o,H b=Z_ o)/\¬B a/\OwnAt W H (vis H λb=>B b\/b=a) a d/\Reps W (vis H λb=>B b\/b=a) ds args/\g d ds=.ok r /\
 ∀v H',(∀b o,H b=Z_ o->b≠a->H' b=Z_ o)->OwnAt W H' (vis H' λb=>B b\/b=a) a r.1->Rep W (vis H' λb=>B b\/b=a) r.2 v->Q v H'
section
variable{P:Rt}{w:RX}{K:QK}{mg:Str->Option Value}{base:Rc}{x qual:Str}{st:Stmt}{f:Addr}{fd:Sw}{N ps:List Str}{k:Nat}{o:Orc}{W:Wd}{np ns:Nat}{body:SL}
def vf(F:Fun K x qual st f fd)(Sc:FnScope N ps (aH st))(hp:ps.length=np)(hn:N.length=ns)
 (hb:∀(cdv:Value)(A:S5)(outer:List Env)(s:Shared)(H:Hp)(E:XK),Room k (A.deeper (VR qual (aH st) s.heap.objs.size f cdv)) ->
  PSs (cxX P w K mg base W N qual st f cdv A outer s H E) (bF st) (tS (cxX P w K mg base W N qual st f cdv A outer s H E) W (evSs o body))) (hk:W.K=K) :
 FnOk P w K mg base (CXZ P w base W) (k+1) f fd ps (spM W (cU o ⟨np,ns,body⟩) np):=by
 obtain⟨oc,od,kV,doc,pm,an,cdv,ct,osl,dV,rfl,lk,hcd⟩:=F.ex
 refine Ff lk hcd Sc (λvs H Q E q=>by rw[hp];exact q.1) λA outer s H vs Q E hr hsp=>⟨tS (cxX P w K mg base W N qual st f cdv A outer s H E) W (evSs o body),PSs.unw (hb cdv A outer s H E hr) (λe s' z=>lV z),?_⟩
 obtain⟨hl,a,args,B,d,ds,r,rfl,b1,b2,b3,b4,b5,e,k1⟩:=hsp
 have hle:args.length+1<=N.length:=by
  have:=congrArg Sx Sc.pre;rw[Uu]at this;simp only[R6]at hl;omega
 simp only[R6]at hl
 have run:cU o ⟨np,ns,body⟩ d ds=(match evSs o body (eG d ds (N.length-(args.length+1)))with
  | .rt _ d δ=>Xz d.imm ((selfOf δ).bind λs=>.ok (s,d))
  | .nx δ=>(selfOf δ).bind λs=>.ok (s,.non)
  | _=>.stuck):=by
  have h1:=b5.length;unfold cU eG cY;rw[if_pos (by show ds.length+1=np;omega)];simp only[hn,hl]
  try rfl
 rw[run]at e
 have fin:∀{σ':L2.St} {H':Hp} {δ':Dst} {v:V} {dr:D},SR (cxX P w K mg base W N qual st f cdv A outer s H E) W (Z_ a) B H' σ' δ'->((selfOf δ').bind λs=>Yd (s,dr))=.ok r->Rep W (vis H' B) dr v->dr.imm=ZX->Q v H':=λ{σ' H' δ' v dr} S' es rv him=>by
  cases e0:selfOf δ' with
  | stuck=>rw[e0]at es;cases es
  | exc c=>rw[e0]at es;cases es
  | ok d'=>
  rw[e0]at es;cases es
  have e0:δ'[0]?=Z_ (Z_ (.me,d')):=by
   unfold selfOf at e0;split at e0
   .rename_i y ey;cases e0;exact ey
   .cases e0
  obtain⟨_,a',z1,z2,z3,z4⟩:=S'.mi 0 d' e0;cases z1
  have back:∀b,(B b\/b=a)->Hid B σ' δ' b:=λb hb=>by
   rcases hb with hb | rfl
   .exact .inl hb
   .exact .inr ⟨0,⟨.me,d',e0,by decide⟩,z2⟩
  refine k1 v H' (λb ob h hb=>S'.same b ob h (λz=>hb (by cases z;rfl))) (z3.mono (λ_ q=>q) (aJ back)) ?_;exact(rv.mono bw).imm (λb hb=>S'.softH b (back b hb)) him
 refine⟨some a,B,_,SR.startM (N:=N) (by exact hk) rfl b1 b2 b3 b4 b5 hle,?_⟩
 cases e2:evSs o body (eG d ds (N.length-(args.length+1)))with
 | rt wv dv δ'=>
   rw[e2]at e;have e:Xz dv.imm ((selfOf δ').bind λs=>.ok (s,dv))=.ok r:=e;intro v σ' H' S' _ q
   cases him:dv.imm with
   | false=>rw[him]at e;cases e
   | true=>
   rw[him]at e;refine fin S' e ?_ him;unfold Res at q;split at q
   .obtain⟨_,_,_,z⟩:=q;rw[z.notImm]at him;cases him
   .exact q
 | nx δ'=>
   rw[e2]at e
   exact fun σ' H' S' _=>fin S' e (by simp only[Rep]) rfl
 | bk δ'=>rw[e2]at e;cases e
 | ct δ'=>rw[e2]at e;cases e
 | ex c δ'=>rw[e2]at e;cases e
 | stuck=>rw[e2]at e;cases e
def ok0M(F:FnOk P w K mg base (CXZ P w base W) k f fd ps (spM W g np)):FnOk P w K mg base CX0 k f fd ps (spM W g np):=by
 refine⟨F.len,λA outer s H args us vs Q E hr he hb hv hs=>?_⟩
 refine Uj (F.run A outer s H args us vs Q E0 hr he hb hv hs) λr s' q=>?_
 cases r with
 | ok fl=>cases fl<;>exact q
 | error e=>obtain⟨_,_,_,_,_,_,_,_,_,_,_,_,z⟩:=q;exact z.elim
end
section
variable{X:Cx}{W:Wd}{me:Option Addr}{B:Addr->Prop}{H H1:Hp}{σ:L2.St}{δ:Dst}{o:Orc}{Q Q':VK}
noncomputable def AfterM(X:Cx)(W:Wd)(me:Option Addr)(B:Addr->Prop)(σ:L2.St)(G:Hp)(r:R (Dst×D))(Q:VK):Prop:=match r with
 | .ok r=>∀v H',SR X W me B H' σ r.1->Same G (vis H' (Hid B σ r.1))->Rep W (vis H' (Hid B σ r.1)) r.2 v->Q v H'
 | _=>False
def tM(X:Cx)(W:Wd)(f:Dst->R (Dst×D)):TE:=fun σ H Q=>∃me B δ,SR X W me B H σ δ/\AfterM X W me B σ (vis H (Hid B σ δ)) (f δ) Q
noncomputable def AfterML(X:Cx)(W:Wd)(me:Option Addr)(B:Addr->Prop)(σ:L2.St)(G:Hp)(r:R (Dst×List D))(Q:List V->Hp->Prop):Prop:=match r with
 | .ok r=>∀vs H',SR X W me B H' σ r.1->Same G (vis H' (Hid B σ r.1))->Reps W (vis H' (Hid B σ r.1)) r.2 vs->Q vs H'
 | _=>False
def tML(X:Cx)(W:Wd)(f:Dst->R (Dst×List D)):TA:=fun σ H Q=>∃me B δ,SR X W me B H σ δ/\AfterML X W me B σ (vis H (Hid B σ δ)) (f δ) Q
def QG{α:Type}{fa:Dst->R (Dst×D)}{g:Dst×D->R α}{C:Hp->R α->Prop}(S:SR X W me B H σ δ)(h:C (vis H (Hid B σ δ)) ((fa δ).bind g))(hs:∀G r,(∀a,r≠Yd a)->¬C G r)(mono:∀G G' r,Same G G'->C G r->C G' r) :
 tM X W fa σ H λv H1=>∃r,fa δ=.ok r/\SR X W me B H1 σ r.1/\Same (vis H (Hid B σ δ)) (vis H1 (Hid B σ r.1))/\Rep W (vis H1 (Hid B σ r.1)) r.2 v/\C (vis H1 (Hid B σ r.1)) (g r):=by
 refine⟨me,B,δ,S,?_⟩
 cases e:fa δ with
 | ok r=>
   rw[e]at h;intro v H1 S1 s q;exact⟨r,rfl,S1,s,q,mono _ _ _ s h⟩
 | exc c=>rw[e]at h;exact hs _ _ (by simp[Xr]) h
 | stuck=>rw[e]at h;exact hs _ _ (by simp[Xr]) h
def tR{α:Type}{fa:Dst->R (Dst×List D)}{g:Dst×List D->R α}{C:Hp->R α->Prop}(S:SR X W me B H σ δ)(h:C (vis H (Hid B σ δ)) ((fa δ).bind g))(hs:∀G r,(∀a,r≠Yd a)->¬C G r)(mono:∀G G' r,Same G G'->C G r->C G' r) :
 tML X W fa σ H λvs H1=>∃r,fa δ=.ok r/\SR X W me B H1 σ r.1/\Same (vis H (Hid B σ δ)) (vis H1 (Hid B σ r.1))/\Reps W (vis H1 (Hid B σ r.1)) r.2 vs/\C (vis H1 (Hid B σ r.1)) (g r):=by
 refine⟨me,B,δ,S,?_⟩
 cases e:fa δ with
 | ok r=>
   rw[e]at h;intro v H1 S1 s q;exact⟨r,rfl,S1,s,q,mono _ _ _ s h⟩
 | exc c=>rw[e]at h;exact hs _ _ (by simp[Xr]) h
 | stuck=>rw[e]at h;exact hs _ _ (by simp[Xr]) h
def tM.mono(h:tM X W f σ H Q)(k:∀v H',Q v H'->Q' v H'):tM X W f σ H Q':=by
 obtain⟨me,B,δ,S,h⟩:=h;refine⟨me,B,δ,S,?_⟩;unfold AfterM at h ⊢;split at h
 .exact λv H' S' s q=>k _ _ (h v H' S' s q)
 .exact h
def tML.mono{f:Dst->R (Dst×List D)}{Q Q':List V->Hp->Prop}(h:tML X W f σ H Q)(k:∀v H',Q v H'->Q' v H'):tML X W f σ H Q':=by
 obtain⟨me,B,δ,S,h⟩:=h;refine⟨me,B,δ,S,?_⟩;unfold AfterML at h ⊢;split at h
 .exact λv H' S' s q=>k _ _ (h v H' S' s q)
 .exact h
def AfterM.no(G:Hp)(r:R (Dst×D))(h:∀a,r≠Yd a):¬AfterM X W me B σ G r Q:=by
 cases r with
 | ok a=>exact absurd rfl (h a)
 | _=>exact λz=>z
def AfterM.up(G G':Hp)(r:R (Dst×D))(e:Same G G')(h:AfterM X W me B σ G r Q):AfterM X W me B σ G' r Q:=by
 cases r with
 | ok a=>exact λv H' S s q=>h v H' S (e.trans s) q
 | _=>exact h
def AfterML.no{Q:List V->Hp->Prop}(G:Hp)(r:R (Dst×List D))(h:∀a,r≠Yd a):¬AfterML X W me B σ G r Q:=by
 cases r with
 | ok a=>exact absurd rfl (h a)
 | _=>exact λz=>z
def AfterML.up{Q:List V->Hp->Prop}(G G':Hp)(r:R (Dst×List D))(e:Same G G')(h:AfterML X W me B σ G r Q):AfterML X W me B σ G' r Q:=by
 cases r with
 | ok a=>exact λv H' S s q=>h v H' S (e.trans s) q
 | _=>exact h
def dM{e:Expr}{t:T}(h:PE X e (tD X W ZZ fun δ=>ev o δ ZZ t)):PE X e (tM X W (evM o (.pure t))):=by
 refine PE.imp h fun σ H Q ⟨me,B,δ,S,h⟩=>tD_iff.mpr ⟨me,B,δ,S,?_⟩
 simp only[evM]at h
 cases e1:ev o δ ZZ t with
 | ok r=>rw[e1]at h;exact λv H' s q=>h v H' (S.mono s) (au s) (q.keep S.know)
 | exc c=>rw[e1]at h;exact h.elim
 | stuck=>rw[e1]at h;exact h.elim
def KD:PA X [] (tML X W (evML o .nil)):=PA.imp dZ fun σ H Q ⟨me,B,δ,S,h⟩=>by
 simp only[evML]at h;exact h [] H S (Same.refl _) (by simp only[Reps])
def GZ{e:Expr}{es:List Expr}{t:TM}{l:TML}(ha:PE X e (tM X W (evM o t)))(hr:PA X es (tML X W (evML o l)))(hs:R3 (e::es) X.env=(ZZ,S8 e X.env)::R3 es X.env) :
 PA X (e::es) (tML X W (evML o (.cons t l))):=by
 refine PA.imp (bT ha hr hs) fun σ H Q ⟨me,B,δ,S,h⟩=>?_
 simp only[evML]at h
 refine tM.mono (QG (fa:=evM o t) (C:=λG r=>AfterML X W me B σ G r Q) S h AfterML.no AfterML.up) λv H1 ⟨r1,e1,S1,s1,q1,h1⟩=>?_
 refine tML.mono (tR (fa:=evML o l) (C:=λG r=>AfterML X W me B σ G r Q) S1 h1 AfterML.no AfterML.up) λvs H2 ⟨r2,e2,S2,s2,q2,h2⟩=>?_
 exact h2 (v::vs) H2 S2 (Same.refl _) (by simp only[Reps];exact⟨q1.mono s2,q2⟩)
def pF{es:List Expr}{l:TML}{x1}{pos:Pos}(h:PA X es (tML X W (evML o l))):PE X (.Tuple es x1 pos) (tM X W (evM o (.tup l))):=by
 refine PE.imp (Dg h) fun σ H Q ⟨me,B,δ,S,h⟩=>?_
 simp only[evM]at h
 refine tML.mono (tR (fa:=evML o l) (C:=λG r=>AfterM X W me B σ G r Q) S h AfterM.no AfterM.up) λvs H1 ⟨r1,e1,S1,s1,q1,h1⟩=>?_
 cases hz:size r1.2.length with
 | false=>rw[hz]at h1;exact h1.elim
 | true=>
 rw[hz]at h1;have hl:=dg hz;have h2:=q1.length;refine⟨by omega,λp hp=>?_⟩;exact h1 (.ref p) _ (S1.mono (Same.upd hp)) (au (Same.upd hp)) (Res.keep (gq hp q1 S1.know) S1.know)
def Cr{es:List Expr}{l:TML}{pos:Pos}(h:PA X es (tML X W (evML o l))):PE X (.List es pos) (tM X W (evM o (.lst l))):=by
 refine PE.imp (Es h) fun σ H Q ⟨me,B,δ,S,h⟩=>?_
 simp only[evM]at h
 refine tML.mono (tR (fa:=evML o l) (C:=λG r=>AfterM X W me B σ G r Q) S h AfterM.no AfterM.up) λvs H1 ⟨r1,e1,S1,s1,q1,h1⟩=>?_
 cases hz:size r1.2.length with
 | false=>rw[hz]at h1;exact h1.elim
 | true=>
 rw[hz]at h1;have hl:=dg hz;have h2:=q1.length;refine⟨by omega,λp hp=>?_⟩;exact h1 (.ref p) _ (S1.mono (Same.upd hp)) (au (Same.upd hp)) (Res.keep (jC hp q1 S1.know) S1.know)
def m_fn{f np k:Nat}{x:Str}{fa:Addr}{fd:Sw}{ps:List Str}{e:Expr}{es:List Expr}{l:TML}{p pos:Pos}(hn:∀δ r,evML o l δ=.ok r->r.2.length=np)
 (F:FnOk X.prog X.w X.K X.mg X.base CX0 k fa fd ps (spFn W (o.fn f) np))(hr:Room k X.A)(hg:Gl X x)(hm:X.mg x=Z_ (.ref fa))(hk:Rj X.K (.ref fa)=ZX)(hb:Binds X.K fd ps [])
 (ha:PA X (e::es) (tML X W (evML o l)))(hdb:(x==("__debug__":Str))=ZZ)(he:R3 (e::es) X.env=(ZZ,S8 e X.env)::R3 es X.env)(hpl:(SQ pos (R3 es X.env)).any (·.1)=ZZ) :
 PE X (.Call (.Name x p) (e::es) [] pos) (tM X W (evM o (.fn f l))):=by
 refine PE.imp (pQ F hr hg hm hk hb .nil ou ha hdb he hpl) fun σ H Q ⟨me,B,δ,S,h⟩=>?_
 simp only[evM]at h
 refine tML.mono (tR (fa:=evML o l) (C:=λG r=>AfterM X W me B σ G r Q) S h AfterM.no AfterM.up) λvs H1 ⟨r1,e1,S1,s1,q1,h1⟩=>?_
 rw[RC]
 cases e2:o.fn f r1.2 with
 | stuck=>rw[e2]at h1;exact h1.elim
 | exc c=>rw[e2]at h1;exact h1.elim
 | ok r=>
 rw[e2]at h1;exact⟨by rw[<-q1.length];exact hn _ _ e1,Hid B σ r1.1,r1.2,S1.softH,S1.know,q1,r,e2,λv H' s z=>h1 v H' (S1.mono s) (au s) (z.keep S1.know)⟩
def u5(hc:PT X c (tT X W fun δ=>ev o δ ZX tc))(ha:PE X a (tM X W (evM o ta)))(hb:PE X b (tM X W (evM o tb))):PE X (.IfExp c a b pos) (tM X W (evM o (.ite tc ta tb))):=by
 refine PE.imp (rO hc ha hb) fun σ H Q ⟨me,B,δ,S,h⟩=>?_
 simp only[evM]at h;refine⟨me,B,δ,S,?_⟩
 cases e:ev o δ ZX tc with
 | ok r=>
   rw[e]at h;dsimp only;rw[e];simp only[Xr]
   cases e2:truth r.2 with
   | none=>simp only[Xr,e2,Xu]at h;exact h.elim
   | some t=>
     simp only[Xr,e2,Xu]at h ⊢;intro H1 s
     cases t with
     | true=>exact⟨me,B,δ,S.mono s,AfterM.up _ _ _ (au s) h⟩
     | false=>exact⟨me,B,δ,S.mono s,AfterM.up _ _ _ (au s) h⟩
 | exc c=>rw[e]at h;exact h.elim
 | stuck=>rw[e]at h;exact h.elim
def Hg{i f np:Nat}{vs:List V}{ad:Addr}{xs:Bool×List D}{E:XK}(S:SR X W me B H σ δ)(hn:∀s a r,o.mu f s a=.ok r->a.length+1=np)(o3:σ[i]?=Z_ (Z_ (V.ref ad)))(t:RepTs W H (vis H (Hid B σ δ)) xs.2 vs)(q:xs.1=ZZ->Reps W (vis H (Hid B σ δ)) xs.2 vs)
 (h:AfterM X W me B σ (vis H (Hid B σ δ)) (muR o δ i f xs) Q):spM W (o.mu f) np (V.ref ad::vs) H Q E:=by
 unfold muR at h
 cases e3:xs.1 with
 | true=>simp only[e3,UL,Xz,QW,if_false]at h;exact h.elim
 | false=>
 simp only[e3,Sy,Xz,if_true]at h
 cases e2:ownD δ i with
 | none=>rw[e2]at h;exact h.elim
 | some qq=>
 obtain⟨w,d⟩:=qq;rw[e2]at h;simp only[Xu,Xr]at h
 cases e4:o.mu f d xs.2 with
 | stuck=>rw[e4]at h;exact h.elim
 | exc c=>rw[e4]at h;exact h.elim
 | ok r=>
 rw[e4]at h;obtain⟨o1,o2,ad',o3',o4,o5,o6⟩:=S.own e2;rw[o3]at o3';cases o3';have hid:Hid B σ δ ad:=.inr ⟨i,⟨w,d,o1,o2⟩,o3⟩
 have back:∀b,((Hid B σ δ b/\b≠ad)\/b=ad)->Hid B σ δ b:=λb hb=>by
  rcases hb with hb | rfl
  .exact hb.1
  .exact hid
 have forth:∀b,Hid B σ δ b->((Hid B σ δ b/\b≠ad)\/b=ad):=λb hb=>by
  by_cases z:b=ad
  .exact .inr z
  .exact .inl ⟨hb,z⟩
 refine⟨by simp only[R6];rw[<-t.length];exact hn _ _ _ e4,ad,vs,λb=>Hid B σ δ b/\b≠ad,d,xs.2,r,rfl,λb hb=>S.softH b hb.1,λb hb=>S.know b hb.1,λz=>z.2 rfl,o4.mono (λ_ q=>q) (aJ back),(q e3).mono (aJ back),e4,λv H' hs hO rv=>?_⟩;obtain⟨S3,s3⟩:=S.writeX o1 o2 o3 o5 o6 hs (hO.mono (λ_ q=>q) (aJ forth));refine h v H' S3 s3 (rv.mono (aJ λb hb=>forth b ?_));rw[dG o1]at hb;exact hb
def bV{i f np k:Nat}{x self:Str}{fa:Addr}{fd:Sw}{ps:List Str}{es:List Expr}{l:TL}{p p' pos:Pos}(hn:∀s a r,o.mu f s a=.ok r->a.length+1=np)
 (F:FnOk X.prog X.w X.K X.mg X.base CX0 k fa fd ps (spM W (o.mu f) np))(hr:Room k X.A)(hg:Gl X x)(hm:X.mg x=Z_ (.ref fa))(hk:Rj X.K (.ref fa)=ZX)(hb:Binds X.K fd ps [])(hv:PE X (.Name self p') (tVar i))(hl:PA X es (tL X W fun δ=>evL o δ l))(hdb:(x==("__debug__":Str))=ZZ)
 (hst:R3 (.Name self p'::es) X.env=(ZZ,S8 (.Name self p') X.env)::R3 es X.env)(hpl:(SQ pos (R3 es X.env)).any (·.1)=ZZ) :
 PE X (.Call (.Name x p) (.Name self p'::es) [] pos) (tM X W (evM o (.call f i l))):=by
 refine PE.imp (pQ F hr hg hm hk hb .nil ou (bT hv hl hst) hdb hst hpl) fun σ H Q ⟨me,B,δ,S,h⟩=>?_
 simp only[evM]at h
 cases e1:evL o δ l with
 | stuck=>rw[e1]at h;exact h.elim
 | exc c=>rw[e1]at h;exact h.elim
 | ok xs=>
 rw[e1]at h;have h:AfterM X W me B σ (vis H (Hid B σ δ)) (muR o δ i f xs) Q:=h
 have hown:∃q,ownD δ i=Z_ q:=by
  cases e2:ownD δ i with
  | some q=>exact⟨q,rfl⟩
  | none=>
    unfold muR at h;rw[e2]at h;cases e3:xs.1<;>(rw[e3]at h;exact h.elim)
 obtain⟨⟨w,d⟩,e2⟩:=hown;obtain⟨_,_,ad,o3,_⟩:=S.own e2;refine⟨_,o3,?_⟩
 refine tL.mono (lM (fa:=fun δ=>evL o δ l) (g:=Yd) (C:=λr _=>r=.ok xs) S (by rw[e1];rfl) (λ_ _ _ q=>q) (λc q=>(nomatch q)) (λq=>(nomatch q))) λvs H1 ⟨r,e5,S1,s1,t1,q1,h1⟩=>?_
 rw[e1]at e5;cases e5;rw[RC];exact Hg S1 hn o3 t1 q1 (AfterM.up _ _ _ (au s1) h)
end
section
variable{X:Cx}{W:Wd}{me:Option Addr}{B:Addr->Prop}{H H1:Hp}{σ:L2.St}{δ:Dst}{o:Orc}{Q Q':VK}
def u6(X:Cx)(W:Wd)(o:Orc)(k c f np:Nat)(mn:Str):Prop:=∃fa fd ps,Cls X.K (W.CT c)/\Meth X.K (W.CT c) mn fa/\Binds X.K fd ps []/\(∀s a r,o.mu f s a=.ok r->a.length+1=np)/\FnOk X.prog X.w X.K X.mg X.base CX0 k fa fd ps (spM W (o.mu f) np)
def R.bindOk{α β:Type}{a:R α}{f:α->R β}{b:β}(h:a.bind f=.ok b):∃x,a=.ok x/\f x=.ok b:=by
 cases a with
 | ok x=>exact⟨x,rfl,h⟩
 | exc c=>cases h
 | stuck=>cases h
theorem AfterM.ok(h:AfterM X W me B σ G r Q):∃a,r=.ok a:=by
 cases r with
 | ok a=>exact⟨a,rfl⟩
 | exc c=>exact h.elim
 | stuck=>exact h.elim
def CP{i f:Nat}{m:List Nat}(h:muM o δ i m=.ok f):∃w c ns vs,ownD δ i=Z_ (w,.obj c ns vs)/\ns.contains m=ZZ/\o.meth c m=Z_ f:=by
 unfold muM at h;obtain⟨⟨w,d⟩,h1,h2⟩:=R.bindOk h
 cases e:ownD δ i with
 | none=>rw[e]at h1;cases h1
 | some q=>
   rw[e]at h1;cases h1
   cases d with
   | obj c ns vs=>
     simp only[Xz]at h2
     cases hc:ns.contains m with
     | true=>rw[hc]at h2;cases h2
     | false=>
       rw[hc]at h2;simp only[Sy,if_true]at h2
       cases e3:o.meth c m with
       | none=>rw[e3]at h2;cases h2
       | some g=>rw[e3]at h2;cases h2;exact⟨w,c,ns,vs,rfl,hc,e3⟩
   | _=>cases h2
def cz{i k:Nat}{l:TL}{m:List Nat}{mn self:Str}{e:Expr}{es:List Expr}{p apos pos:Pos}{pl:Sem Bool}(hmn:mn=strV m)
 (hM:∀c f,o.meth c m=Z_ f->∃np,u6 X W o k c f np mn)
 (hr:Room k X.A)(hv:PE X (.Name self p) (tVar i))(hl:PA X (e::es) (tL X W fun δ=>evL o δ l))
 (hst:R3 (e::es) X.env=(ZZ,S8 e X.env)::R3 es X.env)(hpl:(SQ pos (R3 es X.env)).any (·.1)=ZZ)
 (ht:S8 (.Call (.Attribute (.Name self p) mn apos) (e::es) [] pos) X.env=(do
  let ov <-S8 (.Name self p) X.env
  Vk apos.atName
  let(f,first) <-TX [ov] (Vp ov mn pl)
  Wm pos f first (SQ pos (R3 (e::es) X.env)) (Vc pos (TJ [] X.env)))) :
 PE X (.Call (.Attribute (.Name self p) mn apos) (e::es) [] pos) (tM X W (evM o (.meth m i l))):=by
 subst hmn
 have key:∀j:Nat×Nat×Nat,u6 X W o k j.1 j.2.1 j.2.2 (strV m)->PE X (.Call (.Attribute (.Name self p) (strV m) apos) (e::es) [] pos) (ug (W.CT j.1) (strV m) (spM W (o.mu j.2.1) j.2.2) [] (λ_ _ _=>False) (tVar i) (tL X W fun δ=>evL o δ l)):=λi ⟨fa,fd,ps,h1,h2,h3,h5,h4⟩=>
  vL hv h1 h2 h4 hr h3 .nil ou hl hst hpl ht
 refine PE.imp (PE.exs key) fun σ H Q ⟨me,B,δ,S,h⟩=>?_
 simp only[evM]at h;obtain⟨a,ea⟩:=AfterM.ok h;obtain⟨f,e1,ea⟩:=R.bindOk ea;obtain⟨xs,e2,ea⟩:=R.bindOk ea;rw[e1]at h;simp only[Xr]at h;rw[e2]at h;have h:AfterM X W me B σ (vis H (Hid B σ δ)) (muR o δ i f xs) Q:=h;obtain⟨w,c,ns,vs,e3,e4,e5⟩:=CP e1;obtain⟨np,hMt⟩:=hM c f e5;refine⟨(c,f,np),hMt,?_⟩;obtain⟨_,_,_,_,_,_,hlen,_⟩:=hMt;obtain⟨_,_,ad,o3,⟨dx,fs,z1,z2,z3⟩,_⟩:=S.own e3;refine⟨_,o3,ad,dx,fs,rfl,z1,lookup_none z2 e4,?_⟩
 refine tL.mono (lM (fa:=fun δ=>evL o δ l) (g:=Yd) (C:=λr _=>r=.ok xs) S (by rw[e2];rfl) (λ_ _ _ q=>q) (λc q=>(nomatch q)) (λq=>(nomatch q))) λvs H1 ⟨r,e5,S1,s1,t1,q1,h1⟩=>?_
 rw[e2]at e5;cases e5;rw[RC];exact Hg S1 hlen o3 t1 q1 (AfterM.up _ _ _ (au s1) h)
def HX{i k:Nat}{m:List Nat}{mn self:Str}{p apos pos:Pos}{pl:Sem Bool}(hmn:mn=strV m)
 (hM:∀c f,o.meth c m=Z_ f->∃np,u6 X W o k c f np mn)
 (hr:Room k X.A)(hv:PE X (.Name self p) (tVar i))
 (ht:S8 (.Call (.Attribute (.Name self p) mn apos) [] [] pos) X.env=(do
  let ov <-S8 (.Name self p) X.env
  Vk apos.atName
  let(f,first) <-TX [ov] (Vp ov mn pl)
  Wm pos f first (SQ pos (R3 [] X.env)) (Vc pos (TJ [] X.env)))) :
 PE X (.Call (.Attribute (.Name self p) mn apos) [] [] pos) (tM X W (evM o (.meth m i .nil))):=by
 subst hmn
 have key:∀j:Nat×Nat×Nat,u6 X W o k j.1 j.2.1 j.2.2 (strV m)->PE X (.Call (.Attribute (.Name self p) (strV m) apos) [] [] pos) (ug (W.CT j.1) (strV m) (spM W (o.mu j.2.1) j.2.2) [] (λ_ _ _=>False) (tVar i) tNil):=λi ⟨fa,fd,ps,h1,h2,h3,h5,h4⟩=>
  qX hv h1 h2 h4 hr h3 .nil ou ht
 refine PE.imp (PE.exs key) fun σ H Q ⟨me,B,δ,S,h⟩=>?_
 simp only[evM,evL]at h;obtain⟨a,ea⟩:=AfterM.ok h;obtain⟨f,e1,ea⟩:=R.bindOk ea;rw[e1]at h;have h:AfterM X W me B σ (vis H (Hid B σ δ)) (muR o δ i f (ZZ,[])) Q:=h;obtain⟨w,c,ns,vs,e3,e4,e5⟩:=CP e1;obtain⟨np,hMt⟩:=hM c f e5;refine⟨(c,f,np),hMt,?_⟩;obtain⟨_,_,_,_,_,_,hlen,_⟩:=hMt;obtain⟨_,_,ad,o3,⟨dx,fs,z1,z2,z3⟩,_⟩:=S.own e3;refine⟨_,o3,ad,dx,fs,rfl,z1,lookup_none z2 e4,?_⟩;show spM W (o.mu f) np [V.ref ad] H Q (λ_ _ _=>False);exact Hg (xs:=(ZZ,[])) (vs:=[]) S hlen o3 (by simp only[RepTs]) (λ_=>by simp only[Reps]) h
def FN{i:Nat}{x:Str}{e:Expr}{t:TM}{pos pos':Pos}(hN:X.N.Nodup)(hi:X.N[i]?=Z_ x)(hx:Loc X.env.scope x)(he:PE X e (tM X W (evM o t)))(hs:Uc e (Z_ (.Name x pos')) pos.line X.env=pure ZZ)
 (hf:X.fn x=ZX\/X.env.scope.names.lookup x=Z_ .local):PS X (.Assign [.Name x pos'] e pos) (tS X W (evS o (.mset i t))):=by
 refine PS.imp (Et hN hi hx he hs hf) λD σ H ⟨me,B,δ,S,h⟩=>?_
 simp only[evS]at h;obtain⟨r,e2,h⟩:=SO.of_ok h;obtain⟨q,e3,h⟩:=bY h
 cases e4:setSlot r.1 i ZZ r.2 with
 | none=>rw[e4]at e3;cases e3
 | some δ'=>
   rw[e4]at e3;cases e3;obtain⟨h1,rfl⟩:=fC e4;refine⟨me,B,δ,S,?_⟩;rw[e2];intro v H' S' s q;obtain⟨S2,s2⟩:=S'.store (Same.refl H') (Res.shared q) h1;exact h _ _ S2 (s.trans s2)
def Fx{e:Expr}{t:TM}{pos:Pos}(he:PE X e (tM X W (evM o t))):PS X (.Return (Z_ e) pos) (tS X W (evS o (.mret t))):=by
 refine PS.imp (vB he) λD σ H ⟨me,B,δ,S,h⟩=>?_
 simp only[evS]at h;obtain⟨r,e2,h⟩:=SO.of_ok h;refine⟨me,B,δ,S,?_⟩;rw[e2];intro v H' S' s q;exact h v σ H' S' s (Res.shared (q.mono (aJ λb hb=>.inl hb)))
def Ji{e:Expr}{t:TM}{pos:Pos}(he:PE X e (tM X W (evM o t)))(hs:Uc e none pos.line X.env=pure ZZ):PS X (.Expr e pos) (tS X W (evS o (.mexp t))):=by
 refine PS.imp (qp he hs) λD σ H ⟨me,B,δ,S,h⟩=>?_
 simp only[evS]at h;obtain⟨r,e2,h⟩:=SO.of_ok h;refine⟨me,B,δ,S,?_⟩;rw[e2];intro v H' S' s q;exact h σ H' S' s
def Jq{i:Nat}{x:Str}{e:Expr}{t:TM}{p apos cpos pos:Pos}(hv:PE X (.Name x p) (tVar i))(he:PE X e (tM X W (evM o t)))(hst:aC e=ZZ)(hline:(apos.endLine==cpos.line)=ZX) :
 PS X (.Expr (.Call (.Attribute (.Name x p) "append" apos) [e] [] cpos) pos) (tS X W (evS o (.mapp i t))):=by
 refine PS.imp (qp (Iz PySem.F.plainAttrs_list PySem.F.slot_list_append PySem.F.type_list_append jr hv (bT he dZ (bL hst)) (dJ rfl) (few1 hst) hline (bL hst) rfl) nJ) λEn σ H ⟨me,B,δ,S,h⟩=>?_
 simp only[evS]at h;split at h
 .rename_i hl
  unfold xH at hl;split at hl
  .rename_i w0 l0 e0
   obtain⟨r,e2,h⟩:=SO.of_ok h;obtain⟨q,e4,h⟩:=bY h
   cases e5:ownD r.1 i with
   | none=>rw[e5]at e4;cases e4
   | some c=>
   obtain⟨w,d⟩:=c;rw[e5]at e4;simp only[R7]at e4
   cases d with
   | lst l=>
     simp only at e4;split at e4
     .rename_i hsz
      cases e4;obtain⟨_,_,ad,o3,⟨xs0,q0,_⟩,_⟩:=S.own e0;refine⟨_,o3,.inl ⟨rfl,xs0,SqL.of q0⟩,⟨me,B,δ,S,?_⟩⟩;rw[e2];intro v H1 S1 s1 q1;obtain⟨o1,o2,ad',o3',⟨xs,q2,q3⟩,o5,o6⟩:=S1.own e5;rw[o3]at o3';cases o3';have hz:=dg hsz;have hl:=q3.length;refine⟨ad,xs,v,rfl,rfl,q2,by omega,?_⟩;obtain⟨S3,s3⟩:=S1.write (u:=.lst (xs++[v])) (d':=.lst (l++[r.2])) o1 o2 o3 o5 o6 ⟨_,bA,q3.append (by simp only[Reps];exact⟨q1,trivial⟩)⟩;exact h _ _ S3 (s1.trans s3)
     .cases e4
   | _=>cases e4
  .cases hl
 .exact h.elim
def M3{i c f np k:Nat}{y x z:Str}{fa:Addr}{fd:Sw}{ps:List Str}{e:Expr}{es:List Expr}{l:TL}{p p2 cpos pos pos' pos1:Pos}(hn:∀δ r,evL o δ l=.ok r->r.2.length=np)
 (F:FnOk X.prog X.w X.K X.mg X.base (CXZ X.prog X.w X.base W) k fa fd ps (spB W (o.fn f) np))(hr:Room k X.A)(hg:Gl X x)(hm:X.mg x=Z_ (.ref fa))(hk:Rj X.K (.ref fa)=ZX)(hb:Binds X.K fd ps [])
 (ha:PA X (e::es) (tL X W fun δ=>evL o δ l))(hdb:(x==("__debug__":Str))=ZZ)(he:R3 (e::es) X.env=(ZZ,S8 e X.env)::R3 es X.env)(hpl:(SQ cpos (R3 es X.env)).any (·.1)=ZZ)
 (hkz:(o.init c).isSome=ZX->Rj X.K (.ref (W.CT c))=ZX)(hgz:Gl X z)(hmz:X.mg z=Z_ (.ref (W.CT c)))(hdz:(z==("__debug__":Str))=ZZ)
 (hok:PE X (.Call (.Name z p2) [.Call (.Name x p) (e::es) [] cpos] [] pos') (tD X W ZZ fun δ=>ev o δ ZZ (.mk c (.cons (.call f l) .nil))))(hN:X.N.Nodup)(hi:X.N[i]?=Z_ y)(hx:Loc X.env.scope y)(hf:X.fn y=ZX\/X.env.scope.names.lookup y=Z_ .local) :
 PS X (.Assign [.Name y pos1] (.Call (.Name z p2) [.Call (.Name x p) (e::es) [] cpos] [] pos') pos) (tS X W (evS o (.mkx i c f l))):=by
 intro pins s σ H D I ⟨me,B,δ,S,h⟩;simp only[evS]at h;obtain⟨g,e0,h⟩:=SO.of_ok h;obtain⟨xs,e1,h⟩:=SO.of_ok h
 have hin:o.init c=Z_ g:=by
  cases ei:o.init c with
  | none=>rw[ei]at e0;cases e0
  | some g'=>rw[ei]at e0;cases e0;rfl
 cases e2:o.fn f xs.2 with
 | stuck=>rw[e2]at h;exact h.elim
 | exc c'=>
   rw[e2]at h;have h:AfterS X W me B (vis H (Hid B σ δ)) (.ex c' δ) D:=h
   have hq:PE X (.Call (.Name x p) (e::es) [] cpos) (fun σ' H' _=>∃me B δ xs c En,SR X W me B H' σ' δ/\evL o δ l=.ok xs/\o.fn f xs.2=.exc c/\AfterS X W me B (vis H' (Hid B σ' δ)) (.ex c δ) En):=λpins s σ H Q I ⟨me,B,δ,xs,c,En,S,a1,a2,a3⟩=>call_exc hn F hr hg hm hk hb ha hdb he hpl I S a1 a2 a3
   refine wpAny_Assign_Name (Ui (fZ I hgz hmz ?_ hdz)) rfl;refine UJ (h₀:=X.base) I.ok.mod.kin (hkz (by rw[hin];rfl)) (thn (bT hq dZ rfl pos' pins s σ H (λ_ _=>False) I ⟨me,B,δ,xs,c',D,S,e1,e2,h⟩) λus s1 ⟨vs,H1,I1,r,q⟩=>q.elim) rfl rfl
 | ok r=>
   refine zu hN hi hx hok rfl hf pins s σ H D I ⟨me,B,δ,S,?_⟩;rw[e2]at h;have h:AfterS X W me B (vis H (Hid B σ δ)) (SO.ofX δ (lent xs.1 r) λr=>SO.of δ (o.ini g (.obj c [] []) [r.2]) λd=>aB ((setSlot δ i ZX d).map .nx)) D:=h
   cases e3:lent xs.1 r with
   | exc c=>
     unfold lent at e3;split at e3
     .split at e3<;>cases e3
     .cases e3
   | stuck=>rw[e3]at h;exact h.elim
   | ok r'=>
     rw[e3]at h;obtain⟨d,e4,h⟩:=SO.of_ok (δ:=δ) h
     have er:ev o δ ZZ (.mk c (.cons (.call f l) .nil))=.ok (ZX,d):=by
      simp only[ev,evL,bR,e1,Xr,e2,e3,hin,Xu,Tw,Xz,Sy,if_true,e4]
     have ef:evF o δ (.mk c (.cons (.call f l) .nil))=(δ,.ok (ZX,d)):=by unfold Z.evF;rw[er]
     simp only[evS,ef];exact h
end
section
variable{X:Cx}{W:Wd}{o:Orc}
def QF(X:Cx)(W:Wd)(o:Orc)(k c f np:Nat)(mn:Str):Prop:=∃fa fd ps,Cls X.K (W.CT c)/\Meth X.K (W.CT c) mn fa/\Binds X.K fd ps []/\(∀ds,o.fn f ds≠.stuck->ds.length=np)/\FnOk X.prog X.w X.K X.mg X.base (CXZ X.prog X.w X.base W) k fa fd ps (spB W (o.fn f) np)
end
open AutoSeq1 (wpAny_loadPart')
section
variable{X:Cx}{W:Wd}{lk:Bool}{σ:L2.St}{H H1 H':Hp}{me:Option Addr}{B:Addr->Prop}{δ:Dst}{o:Orc}{p cpos pos tpos:Pos}{tg:Expr}
def top(lk:Bool)(H2:Hp)(P:Addr->Prop):Hp:=if lk=ZX then H2 else vis H2 P
def WalkL(X:Cx)(W:Wd)(o:Orc)(lk:Bool)(it:TI)(wi:L2.TI):Prop:=∀σ H (K:It->Hp->Prop),(∃me B δ l,SR X W me B H σ δ/\evI o δ lk it=.ok l/\∀J H2,Same H H2->Ylds W J (top lk H2 (Hid B σ δ)) (vis H2 (Hid B σ δ)) l->K J H2)->wi σ H K
def WalkL.comp(h:WalkL X W o ZX it wi):GJ X W o it wi:=fun σ H K ⟨me,B,δ,l,S,e,k⟩=>h σ H K ⟨me,B,δ,l,S,e,λJ H2 s y=>k J H2 s (by simpa[top]using y)⟩
def top_le:Same (top lk H2 P) H2:=by
 unfold top;split
 .exact Same.refl _
 .exact bw
def GX(h:Res W P lk H H' w (.lst l) v)(hp:∀a,P a->∃u,H a=Z_ u):∃a xs,v=.ref a/\SqL W.K (top lk H' P) a xs/\Reps W (vis H' P) l xs:=by
 cases lk with
 | true=>
   obtain⟨a,xs,rfl,q1,q2⟩:=h.look;exact⟨a,xs,rfl,by simpa[top]using q1,q2⟩
 | false=>
   have:=h.keep hp;simp only[Rep]at this;obtain⟨a,xs,rfl,q1,q2⟩:=this;exact⟨a,xs,rfl,by simpa[top]using q1,q2⟩
def HS(h:Res W P lk H H' w (.dct ks vs) v)(hp:∀a,P a->∃u,H a=Z_ u):∃a kvs ep,v=.ref a/\top lk H' P a=Z_ (.dK kvs ep)/\Reps W (vis H' P) (ks.map keyD) (kvs.map λp=>kV p.1):=by
 cases lk with
 | true=>
   obtain⟨a,kvs,rfl,⟨ep,q1⟩,q2,q3,q4⟩:=h.look;exact⟨a,kvs,ep,rfl,by simpa[top]using q1,jt q2 q3.2⟩
 | false=>
   have:=h.keep hp;simp only[Rep]at this;obtain⟨a,kvs,rfl,⟨ep,q1⟩,q2,q3,q4⟩:=this;exact⟨a,kvs,ep,rfl,by simpa[top]using q1,jt q2 q3.2⟩
def Gd(h:Res W P lk H H' w (.tup l) v):∃a xs,v=.ref a/\SqT W.K (vis H' P) a xs/\Reps W (vis H' P) l xs:=by
 have:=h.look;simp only[RepT,Rep]at this;exact this
def J5{K:QK}{H2:Hp}{P:Addr->Prop}{a:Addr}{xs:List V}(h:SqT K (vis H2 P) a xs):SqT K (top lk H2 P) a xs:=by
 unfold top;split
 .exact aU bw h
 .exact h
def PN{iter:Expr}{t:T}(hk:W.K=X.K)(he:PE X iter (tD X W lk fun δ=>ev o δ lk t)):∃wi,PI X tg iter wi/\WalkL X W o lk (.val t) wi:=by
 refine⟨_,PI.or (PI.or (PI.or (Hr he) (Lb he)) (Ib he)) (N6 he),fun σ H K ⟨me,B,δ,l,S,e,k⟩=>?_⟩;simp only[evI]at e
 cases e1:ev o δ lk t with
 | exc c=>rw[e1]at e;cases e
 | stuck=>rw[e1]at e;cases e
 | ok r=>
 rw[e1]at e;simp only[Xr]at e
 cases e2:r.2 with
 | lst l'=>
   rw[e2]at e;cases e;refine .inl (.inl (.inl (tD_iff.mpr ⟨me,B,δ,S,?_⟩)));rw[e1];intro v H1 s q;rw[e2]at q;obtain⟨c,xs,rfl,q1,q2⟩:=GX q S.know;exact⟨c,rfl,⟨xs,hk▸top_le.seq q1⟩,k _ _ s (.of (qJ (hk▸q1)) q2)⟩
 | tup l'=>
   rw[e2]at e;cases e;refine .inl (.inl (.inr (tD_iff.mpr ⟨me,B,δ,S,?_⟩)));rw[e1];intro v H1 s q;rw[e2]at q;obtain⟨c,xs,rfl,q1,q2⟩:=Gd q;exact⟨c,rfl,⟨xs,hk▸aU bw q1⟩,k _ _ s (.of (u9 (hk▸J5 q1)) q2)⟩
 | dct ks vs=>
   rw[e2]at e;cases e;refine .inl (.inr (tD_iff.mpr ⟨me,B,δ,S,?_⟩));rw[e1];intro v H1 s q;rw[e2]at q;obtain⟨c,kvs,ep,rfl,q1,q2⟩:=HS q S.know;exact⟨c,kvs,ep,rfl,top_le _ _ q1,k _ _ s (.of (pN q1) q2)⟩
 | str x=>
   rw[e2]at e;cases e;refine .inr (tD_iff.mpr ⟨me,B,δ,S,?_⟩);rw[e1];intro v H1 s q;have q:=q.look;rw[e2]at q;simp only[RepT,Rep]at q;obtain⟨rfl,q1⟩:=q;exact⟨_,rfl,k _ _ s (.of (um x) (kW x))⟩
 | _=>rw[e2]at e;cases e
def JM{e1:Expr}{t:T}(hgl:Gl X "range")(hm:X.mg "range"=ZW)(h1:PE X e1 (tD X W ZX fun δ=>ev o δ ZX t))(hst:aC e1=ZZ):∃wi,PI X tg (.Call (.Name "range" p) [e1] [] cpos) wi/\WalkL X W o lk (.rng1 t) wi:=by
 refine⟨_,z7 hgl hm (bT h1 dZ (bL hst)) (bL hst),fun σ H K ⟨me,B,δ,l,S,e,k⟩=>?_⟩;simp only[evI]at e;refine tD_iff.mpr ⟨me,B,δ,S,?_⟩
 cases e3:ev o δ ZX t with
 | ok r=>
   rw[e3]at e;simp only[Xr]at e
   cases e4:r.2 with
   | int n=>
     rw[e4]at e;obtain⟨hc1,e⟩:=ie e;cases e;intro v H1 s1 q1;have q1:=q1.look;rw[e4]at q1;have hn:=NB hc1;have:=aV q1;subst this;refine⟨n,rfl,by omega,by omega,k _ _ s1 (.of (mW 0 n.toNat) ?_)⟩
     have e5:rngD 0 n=(Ru n.toNat).map λ(k:Nat)=>Xk (0+(k:Int)):=by unfold rngD;rw[Int.sub_zero]
     rw[e5];exact Bk 0 n.toNat
   | _=>rw[e4]at e;cases e
 | exc c=>rw[e3]at e;cases e
 | stuck=>rw[e3]at e;cases e
def BJ(hg:TgOk X W tg is tup g)(S:SR X W me B H σ δ)(Y:Ylds W J (vis H (Hid B σ δ)) (vis H (Hid B σ δ)) l)
 (h:AfterS X W me B (vis H (Hid B σ δ)) (cF (evSs o sb) is tup l δ) En) :
 ∃Wv:Nat->Nat->L2.St->Hp->Prop,(∃m,Wv 0 m σ H)/\∀i m σ H,Wv i m σ H ->
  (J.stop i H/\En.nx σ H)\/(J.go i H/\∃N:L2.St->Hp->Prop,(∀σ' H',N σ' H'->∃m',m'<m/\Wv (i+1) m' σ' H')/\∀x H',J.yld i H x H'->g x σ H' fun σ2 H2=>tS X W (evSs o sb) { En with nx:=N,ct:=N,bk:=En.nx } σ2 H2):=by
 let Pv:Nat->L2.St->Hp->Prop:=λi σ' H'=>∃δ',SR X W me B H' σ' δ'/\Same (vis H (Hid B σ δ)) (vis H' (Hid B σ' δ'))/\AfterS X W me B (vis H' (Hid B σ' δ')) (cF (evSs o sb) is tup (l.drop i) δ') En
 refine⟨λi m σ' H'=>m=l.length-i/\i<=l.length/\Pv i σ' H',⟨l.length,rfl,Va _,δ,S,Same.refl _,h⟩,?_⟩
 rintro i m σ' H' ⟨rfl,hi,δ',S',s',h'⟩
 by_cases hlt:i<l.length
 .refine .inr ⟨Y.go i H' (s'.trans bw) hlt,Pv (i+1),fun σ2 H2 q=>⟨l.length-(i+1),by omega,rfl,hlt,q⟩,λx H'' y=>?_⟩
  obtain⟨d,ed⟩:∃d,l[i]?=Z_ d:=⟨_,Rn hlt⟩
  obtain⟨sy,rd⟩:=(Y.yld i H' x H'' d (s'.trans bw) ed y).rep s' S'.know
  have hd:l.drop i=d::l.drop (i+1):=by
   obtain⟨hi,e⟩:=R9.mp ed;rw[List.drop_eq_getElem_cons hi,e]
  rw[hd]at h';simp only[cF]at h';have S'':=S'.mono sy;have sv:Same (vis H' (Hid B σ' δ')) (vis H'' (Hid B σ' δ')):=au sy
  replace h':=AfterS.mono h' sv
  cases e2:takes is.length tup d with
  | none=>simp only[e2]at h';exact h'.elim
  | some ds=>
    simp only[e2]at h'
    cases e3:aM δ' is ds with
    | none=>simp only[e3]at h';exact h'.elim
    | some δ1=>
      simp only[e3]at h'
      refine hg.2 S'' rd e2 e3 fun σ1 S1 s1=>⟨me,B,δ1,S1,?_⟩
      have h':=AfterS.mono h' s1
      cases e4:evSs o sb δ1 with
      | nx δ2=>rw[e4]at h';exact fun σ2 H2 S2 s2=>⟨δ2,S2,((s'.trans sv).trans s1).trans s2,AfterS.mono h' s2⟩
      | ct δ2=>rw[e4]at h';exact fun σ2 H2 S2 s2=>⟨δ2,S2,((s'.trans sv).trans s1).trans s2,AfterS.mono h' s2⟩
      | bk δ2=>rw[e4]at h';exact h'
      | rt w d δ2=>rw[e4]at h';exact h'
      | ex c δ2=>rw[e4]at h';exact h'
      | stuck=>rw[e4]at h';exact h'.elim
 .have e:i=l.length:=by omega
  subst e;refine .inl ⟨Y.stop H' (s'.trans bw),?_⟩;rw[List.drop_length]at h';simp only[cF,AfterS]at h';exact h' σ' H' S' (Same.refl _)
def Ak(S:SR X W me B H σ δ)(it:TI):SR X W me B H σ (cR δ it)/\Same (vis H (Hid B σ δ)) (vis H (Hid B σ (cR δ it))):=by
 have one:∀i,SR X W me B H σ (Z.share1 δ i)/\Same (vis H (Hid B σ δ)) (vis H (Hid B σ (Z.share1 δ i))):=λi=>⟨S.share1 i,aJ (gU i)⟩
 have two:∀e,SR X W me B H σ (cN δ e)/\Same (vis H (Hid B σ δ)) (vis H (Hid B σ (cN δ e))):=λe=>by
  unfold cN;split
  .exact one _
  .exact⟨S,Same.refl _⟩
 unfold cR;split
 .exact one _
 .exact one _
 .rename_i a b
  obtain⟨S1,s1⟩:=two a
  have one':∀i,SR X W me B H σ (Z.share1 (cN δ a) i)/\Same (vis H (Hid B σ (cN δ a))) (vis H (Hid B σ (Z.share1 (cN δ a) i))):=λi=>⟨S1.share1 i,aJ (gU i)⟩
  have:SR X W me B H σ (cN (cN δ a) b)/\Same (vis H (Hid B σ (cN δ a))) (vis H (Hid B σ (cN (cN δ a) b))):=by
   cases b with
   | var i=>exact one' i
   | _=>exact⟨S1,Same.refl _⟩
  exact⟨this.1,s1.trans this.2⟩
 .exact⟨S,Same.refl _⟩
def Im(hp:Us (Rm X.prog X.w) X.A X.env X.xe)(hc:X.calm=ZX)(hg:TgOk X W tg is tup g)(hi:∃wi,PI X tg iter wi/\WalkL X W o ZZ it wi)
 (hb:PSs X body (tS X W (evSs o sb)))(hs:∀x,Te iter X.env x=pure x):PS X (.For tg iter body [] pos) (tS X W (evS o (.for_ is tup it sb))):=by
 obtain⟨wi,h1,h2⟩:=hi
 refine PS.imp (Lq hp hc h1 hg.1 hb hs) λEn σ H ⟨me,B,δ,S,h⟩=>?_
 simp only[evS]at h;obtain⟨S1,s1⟩:=Ak S it;obtain⟨l,e,h⟩:=SO.of_ok h;refine h2 σ H _ ⟨me,B,_,l,S1,e,λJ H2 s y=>?_⟩
 have y':Ylds W J (vis H2 (Hid B σ (cR δ it))) (vis H2 (Hid B σ (cR δ it))) l:=by simpa[top]using y
 exact BJ hg (S1.mono s) y' (AfterS.mono h (s1.trans (au s)))
end
noncomputable def qK(m z:Int):Int:=if z>m then z else m
section
variable{prog:Rt}{w:RX}{A:S5}{E:Value->Shared->Prop}{s:Shared}{R:Result->Shared->Prop}
def cmp_gt{A:S5}{s:Shared}{a b:Int}{t u:Tok}{Q:Value->Shared->Prop}(h:Q (.bool (decide (a>b))) s):Rg (Rm prog w) A (richCompare .Gt (.int a t) (.int b u)) Q E s :=
 richCompare_gives (op:=.Gt) (typeIs_int s _ t) (typeIs_int s _ u) PySem.F.slot_int_gt PySem.F.entry_int_gt (PySem.F.args_int_gt_2 _ _) (gives_int_gt _ _ t u) (λx=>nomatch x) h
def wk{I l S:Addr}{vs:List Value}{ns:List Int}{kw:List (Str×Value)}(hh:A.handled=ZW)(hi:Ws vs ns)(hlI:l≠I)(hSI:S≠I)(hSl:S≠l):∀(k j:Nat)(s:Shared)(m:Int)(t:Tok)(c:Nat),ns.length-j=k->j<=ns.length->s.heap.IsListIter I l j->s.heap.IsList l vs.toArray ->
 s.heap.get? S=Z_ { cls:=.type "list",dict:=ZW,data:=.seq #[.int m t,.int m t] c,slots:=#[] } ->
 (∀t' h' tk,(∀b o,b≠I->b≠S->s.heap.get? b=Z_ o->h'.get? b=Z_ o)->R (.ok (.ret (.int ((ns.drop j).foldl qK m) t'))) { s with heap:=h',toks:=tk }) ->
 W6 (Rm prog w) A (.builtin "max.loop" ⟨[.ref I,.none,.ref S],kw⟩) R s:=by
 have hname:(VF "max"++VF ".loop":String)="max.loop":=by decide
 have hlen:=hi.length;intro k
 induction k with
 | zero=>
   intro j s m t c hk hj hit hl hS hR
   have e:j=ns.length:=by omega
   refine Vx PySem.F.entry_max_loop ?_;rw[Um T9 _];show Rg _ A.in1 (seqItems? (.ref S) >>= _) _ _ s;refine QS (wpAny_seqItems hS rfl ?_);show Rg _ A.in1 (Xf (WM (.ref I)) _ >>= _) _ _ s;refine QS (Wl (wpAny_pyNext_list_end hh hit hl (Array.getElem?_eq_none (by simp;omega)) λh' hx=>?_));have hS':=hx S _ hSI hS;show Rg _ A.in1 (updateSeq S (λ_=>#[]) >>= _) _ _ _;refine QS (wpAny_updateSeq hS' rfl (QS (WQ (Rh ?_))))
   have:=hR t (h'.update S (W0 λ_=>#[])) s.toks λb o b1 b2 q=>(Rz _ _ (SJ b2)).trans (hx b o b1 q)
   rw[e,List.drop_length]at this;exact this
 | succ k ih=>
   intro j s m t c hk hj hit hl hS hR
   have hlt:j<ns.length:=by omega
   obtain⟨u,hu⟩:=hi.get j (ns[j]'hlt) (Rn hlt);have hd:ns.drop j=ns[j]'hlt::ns.drop (j+1):=List.drop_eq_getElem_cons hlt;rw[hd]at hR;generalize ns[j]'hlt=z at hu hR;refine Vx PySem.F.entry_max_loop ?_;rw[Um T9 _];show Rg _ A.in1 (seqItems? (.ref S) >>= _) _ _ s;refine QS (wpAny_seqItems hS rfl ?_);show Rg _ A.in1 (Xf (WM (.ref I)) _ >>= _) _ _ s;refine QS (Wl (wpAny_pyNext_list_item hit hl (x:=.int z u) (by simpa using hu) λh' hit' hs'=>?_));have hS':=(hs'.2 S hSI).trans hS;have hl':=hl.extBut hs'.extBut hlI;show Rg _ A.in1 (Xf (TX [.int z u,.int z u] (richCompare .Gt (.int z u) (.int m t) >>= _)) _ >>= _) _ _ _;refine QS (Wl (Vb (QS (cmp_gt ?_))));refine QS (Vb (U3 ?_));refine QS (WQ (Rh ?_))
   by_cases hb:z>m
   .simp only[decide_eq_true hb,if_true];refine QS (wpAny_updateSeq hS' rfl (QS (WQ ?_)));rw[hname]
    refine Rh ⟨VP T9 _,ih (j+1) _ z u _ (by omega) hlt (hit'.at λo e=>(Rz _ _ hSI).trans e) (hl'.at λo e=>(Rz _ _ hSl).trans e) (TF _ hS' rfl) λt' h'' tk hk''=>?_⟩
    have:=hR t' h'' tk λb o b1 b2 q=>hk'' b o b1 b2 ((Rz _ _ (SJ b2)).trans ((hs'.2 b b1).trans q))
    rw[UW,show qK m z=z from if_pos hb]at this;exact this
   .simp only[decide_eq_false hb,QW,if_false];refine QS (WQ ?_);rw[hname]
    refine Rh ⟨VP T9 _,ih (j+1) _ m t c (by omega) hlt hit' hl' hS' λt' h'' tk hk''=>?_⟩
    have:=hR t' h'' tk λb o b1 b2 q=>hk'' b o b1 b2 ((hs'.2 b b1).trans q)
    rw[UW,show qK m z=m from if_neg hb]at this;exact this
end
section
variable{X:Cx}{W:Wd}{lk:Bool}{σ:L2.St}{H H1 H':Hp}{me:Option Addr}{B:Addr->Prop}{δ:Dst}{o:Orc}{p cpos pos kp:Pos}{a b:Expr}
theorem mU:∀{l:List D}{ns:List Int}{xs:List V},intsOf l=Z_ ns->Reps W G l xs->xs=ns.map V.int
 | [],ns,xs,h,r=>by
   simp only[intsOf,QX]at h;subst h
   cases xs with
   | nil=>rfl
   | cons _ _=>simp only[Reps]at r
 | d::l,ns,xs,h,r=>by
   cases d<;>first | exact nope h | simp only[intsOf]at h
   rename_i z
   cases e:intsOf l with
   | none=>rw[e]at h;cases h
   | some ms=>
     rw[e]at h;cases h
     cases xs with
     | nil=>simp only[Reps]at r
     | cons x xs=>
       simp only[Reps,Rep]at r;rw[QL,r.1,mU e r.2]
end
section
variable{X:Cx}{W:Wd}{lk:Bool}{σ:L2.St}{H H1 H':Hp}{me:Option Addr}{B:Addr->Prop}{δ:Dst}{o:Orc}{p cpos pos kp:Pos}{a b:Expr}
def uC(i:Int):strV (cZ i)=Str.ofString (VF i):=by
 rw[Str.ofString_eq_toList];unfold strV cZ figs
 cases i with
 | ofNat n=>simp[VF,Nat.repr,Int.repr]
 | negSucc n=>
   have h:Int.negSucc n<0:=Int.negSucc_lt_zero n;rw[if_pos h];simp[VF,Nat.repr,Int.repr]
def Bv:Sem1 W (λxs H Q=>∃i,xs=[.int i]/\i.natAbs.log2<1920/\Q (.str (VF i)) H) (b1D .str):=by
 intro lk P H x dx Q w d hS hK hx e k
 cases dx<;>simp only[b1D]at e<;>first | (cases e;done) | skip
 rename_i i;unfold Xz at e;split at e
 .rename_i hc
  simp only[QR,decide_eq_true_eq,size]at hc;cases e;refine⟨i,by rw[aV hx],hc.1,k _ H (Same.refl H) (.shared ?_)⟩;simp only[Rep];exact⟨by rw[uC],hc.2⟩
 .cases e
def JN(xs:List V)(H:Hp)(Q:VK):Prop:=∃x n,xs=[.str x]/\PySem.intText? x=Z_ n/\x.length<=640/\Q (.int n) H
def uM:CallR X (.type "int") JN:=by
 intro pins s σ H xs us Q I r h;obtain⟨x,n,rfl,h1,h2,q⟩:=h;obtain⟨u,rfl,r1⟩:=vals1 r;obtain⟨t,rfl⟩:=r1;exact PySem.W.KIN.call_text h1 h2 ⟨.int n,H,I.tok _,⟨_,rfl⟩,q⟩
def Bo:Sem1 W (λxs H Q=>((∃i,xs=[.int i]/\Q (.int i) H)\/∃k,xs=[.bl k]/\Q (.int (if k then 1 else 0)) H)\/JN xs H Q) (b1D .int):=by
 intro lk P H x dx Q w d hS hK hx e k
 cases dx<;>simp only[b1D]at e<;>first | (cases e;done) | skip
 .rename_i b
  cases e;simp only[RepT,Rep]at hx;exact .inl (.inr ⟨b,by rw[hx],k _ H (Same.refl H) (.shared (by simp only[Rep]))⟩)
 .rename_i i
  cases e;exact .inl (.inl ⟨i,by rw[aV hx],k _ H (Same.refl H) (.shared (by simp only[Rep]))⟩)
 .rename_i y
  unfold Xz at e;split at e
  .rename_i hc
   cases e;simp only[QR,decide_eq_true_eq,RJ,isDig,Rf]at hc;obtain⟨⟨h0,h1⟩,h2⟩:=hc;simp only[RepT,Rep]at hx
   have ec:(strV y).cps.toList=y:=by first | rfl | simp[strV]
   have el:(strV y).length=y.length:=by first | rfl | simp[strV,PySem.Str.length]
   refine .inr ⟨strV y,_,by rw[hx.1],PySem.intText_digits (λc hcx=>?_) ?_ (by rw[el];omega),by rw[el];exact h1,?_⟩
   .rw[ec]at hcx;exact h2 c hcx
   .rw[ec];intro z;rw[z]at h0;cases h0
   .rw[ec];exact k _ H (Same.refl H) (.shared (by simp only[Rep];rfl))
  .cases e
end
section
variable{X:Cx}{W:Wd}{lk:Bool}{σ:L2.St}{H H1 H':Hp}{me:Option Addr}{B:Addr->Prop}{δ:Dst}{o:Orc}{p px cpos pos:Pos}{a b:Expr}
def KDct(P:Rt)(w:RX)(W:Wd)(ad:Addr)(ks:List DK)(vs:List D):Prop:=∃kvs:List (Key×Value),(∀h:Rc,W.K.In h->h.DictOf (bD P w) ad kvs)/\(∀x d,look ks vs x=Z_ d->∃(u:Value)(v:V),W5 kvs (keyV x)=Z_ u/\RelV v u/\∀G,Rep W G d v)/\(ad==U6)=ZZ/\∀x,(W5 kvs (keyV x)).isSome=decide (x∈ks)
end
section
variable{prog:Rt}{w:RX}{A:S5}{E:Value->Shared->Prop}{s:Shared}
def args_max1(a:Value):argsOk "max" ⟨[a],[]⟩:=by unfold argsOk;kernel_rfl
def uX(hh:A.handled=ZW)(hl:s.heap.IsList l vs.toArray)(hi:Ws vs (z::ns))
 (hQ:∀t h' tk,(∀b o,s.heap.get? b=Z_ o->h'.get? b=Z_ o)->Q (.int (ns.foldl qK z) t) { s with heap:=h',toks:=tk }):Rg (Rm prog w) A (call (.builtin "max") [.ref l] []) Q E s:=by
 have hname:(VF "max"++VF ".loop":String)="max.loop":=by decide
 have hlen:=hi.length
 have ll:l<s.heap.objs.size:=by obtain⟨o,e,_⟩:=hl;exact Rb e
 refine kmk_tree PySem.F.kind_max PySem.F.plain_max PySem.F.entry_max (args_max1 _) ?_;show Rg _ A.in1 (Sh.Builtins.bindParams "max" ["key","default"] 0 ⟨[],[]⟩ >>= _) _ _ s;refine QS (wpAny_of_eq (show Sh.Builtins.bindParams "max" ["key","default"] 0 ⟨[],[]⟩=pure [none,none]from rfl) ?_);refine QS (Rh ?_);refine QS (wpAny_pyIter_list hl ?_);refine QS (wpAny_newList ?_ (Va _));rw[hname];generalize hh1:s.heap.push { cls:=.type "list_iterator",data:=.fields #[.ref l,.int 0 0] }=h1
 have n1:h1.objs.size=s.heap.objs.size+1:=by rw[<-hh1];exact Rc.size_push ..
 have old:∀b o,s.heap.get? b=Z_ o->(h1.push (Ww "list" #[] 0)).get? b=Z_ o:=λb o e=>QV _ (by rw[<-hh1];exact QV _ e)
 have gI:(h1.push (Ww "list" #[] 0)).IsListIter s.heap.objs.size l 0:=⟨_,QV _ (by rw[<-hh1];exact Rv _ rfl),rfl,rfl⟩
 have gS:(h1.push (Ww "list" #[] 0)).get? h1.objs.size=Z_ (Ww "list" #[] 0):=Rv _ rfl
 have gl:(h1.push (Ww "list" #[] 0)).IsList l vs.toArray:=hl.at λo e=>old _ o e
 have lI:l≠s.heap.objs.size:=RL ll
 have SI:h1.objs.size≠s.heap.objs.size:=by rw[n1];exact Nat.succ_ne_self _
 have Sl:h1.objs.size≠l:=by rw[n1];exact Wt (Nat.lt_succ_of_lt ll)
 refine Rh ⟨VP T9 _,?_⟩;refine Vx PySem.F.entry_max_loop ?_;rw[Um T9 _];show Rg _ A.in1 (seqItems? (.ref h1.objs.size) >>= _) _ _ _;refine QS (wpAny_seqItems gS rfl ?_);show Rg _ A.in1 (Xf (WM (.ref s.heap.objs.size)) _ >>= _) _ _ _;obtain⟨u,hu⟩:=hi.get 0 z rfl;refine QS (Wl (wpAny_pyNext_list_item gI gl (x:=.int z u) (by simpa using hu) λh' hit' hs'=>?_));have hS':=(hs'.2 _ SI).trans gS;have hl':=gl.extBut hs'.extBut lI;show Rg _ A.in1 (updateSeq h1.objs.size (λ_=>#[.int z u,.int z u]) >>= _) _ _ _;refine QS (wpAny_updateSeq hS' rfl ?_);rw[hname];refine Rh ⟨VP T9 _,wk hh hi lI SI Sl _ 1 _ z u _ rfl (by simp) (hit'.at λo e=>(Rz _ _ SI).trans e) (hl'.at λo e=>(Rz _ _ Sl).trans e) (TF _ hS' rfl) λt' h'' tk hk''=>?_⟩
 exact hQ t' h'' tk λb o e=>hk'' b o (RL (Rb e)) (λq=>by have:=Rb e;rw[q,n1]at this;exact Nat.not_lt_of_le (Nat.le_succ _) this) ((Rz _ _ (λq=>by have:=Rb e;rw[<-q,n1]at this;exact Nat.not_lt_of_le (Nat.le_succ _) this)).trans ((hs'.2 b (RL (Rb e))).trans (old b o e)))
end
section
variable{X:Cx}{W:Wd}{lk:Bool}{o:Orc}{p cpos pos apos:Pos}{a b:Expr}
def vz(hc:X.calm=ZX):CallR X (.builtin "max") (λxs H Q=>∃(c:Addr)(z:Int)(ns:List Int),xs=[.ref c]/\SqL X.K H c ((z::ns).map V.int)/\Q (.int (ns.foldl qK z)) H):=by
 intro pins s σ H xs us Q I r h;obtain⟨c,z,ns,rfl,hq,q⟩:=h;obtain⟨u,rfl,rx⟩:=vals1 r;cases rx;obtain⟨its,rv,pl,hz⟩:=I.list hq
 exact uX (I.ok.hd hc) pl.isList (L2.intsAre_of rv) λt' h' tk hk=>⟨.int (ns.foldl qK z),H,I.kept hk,⟨_,rfl⟩,q⟩
def Cp(hk:W.K=X.K):Sem1 W (λxs H Q=>∃(c:Addr)(z:Int)(ns:List Int),xs=[.ref c]/\SqL X.K H c ((z::ns).map V.int)/\Q (.int (ns.foldl qK z)) H) (b1D .max):=by
 intro lk P H x dx Q w d hS hK hx e k
 cases dx<;>first | exact nope e | exact iH e | simp only[b1D]at e
 rename_i l
 cases e1:intsOf l with
 | none=>rw[e1]at e;cases e
 | some ns=>
   rw[e1]at e
   cases ns with
   | nil=>cases e
   | cons z ns=>
     cases e;obtain⟨c,vs,rfl,q1,q2⟩:=hx;have:=mU e1 q2;subst this;exact⟨c,z,ns,rfl,hk▸q1,k _ H (Same.refl H) dF⟩
def Ml(hc:X.calm=ZX)(hg:Gl X "min")(hm:X.mg "min"=ZW)(ha:PE X a (tD X W ZX fun δ=>ev o δ ZX ta))(hb:PE X b (tD X W ZX fun δ=>ev o δ ZX tb))(hst1:aC a=ZZ)(hst2:aC b=ZZ) :
 PE X (.Call (.Name "min" p) [a,b] [] cpos) (tD X W lk fun δ=>ev o δ lk (.b2 .min ta tb)):=by
 have hs2:R3 [b] X.env=[(ZZ,S8 b X.env)]:=bL hst2
 refine PE.imp (mC (v4 hc) hg hm boot_min (bT ha (bT hb dZ hs2) (bL hst1)) (by decide) (by decide) (by rw[bL hst1,hs2]) (by rw[hs2];rfl)) fun σ H Q h=>?_
 obtain⟨me,B,δ,S,h⟩:=tD_iff.mp h;simp only[ev]at h
 refine tD.mono (part S h) λv H1 ⟨r1,e1,S1,s1,t1,_,h1⟩=>?_
 refine tD.mono (part S1 h1) λv2 H2 ⟨r2,e2,S2,s2,t2,_,h2⟩=>?_
 cases e3:r1.2 with
 | int i=>
   cases e4:r2.2 with
   | int j=>
     rw[e3,e4]at h2;simp only[b2D]at h2;have t1:=t1.mono s2 (au s2);rw[e3]at t1;rw[e4]at t2;exact⟨i,j,by rw[aV t1,aV t2],h2 _ _ (Same.refl _) dF⟩
   | _=>rw[e3,e4]at h2;exact h2.elim
 | lst l=>
   rw[e3]at h2
   revert h2
   cases r2.2<;>intro h2<;>exact h2.elim
 | _=>rw[e3]at h2;revert h2;cases r2.2<;>intro h2<;>exact h2.elim
end
end Z
namespace PySem.W
open PySem
def qz(p:Rt)(w:RX)(n₀:Nat)(ann:Option Value)(n:Nat):SharedT->Thread->Option SharedT :=
 @Nat.rec (λ_=>SharedT->Thread->Option SharedT) (λ_ _=>none) (λ_ ih s t=>match through t with
  | true=>some s
  | false=>match Fast.tw6613529449190102663 n₀ ann t with
    | false=>none
    | true=>match Fast.tw10156331382660048174 (Fast.tw11892475500146522536 Fast.tw14364793385576792824) p w s t with
      | some (s',t')=>ih s' t'
      | none=>none) n
theorem kJ:∀{n:Nat}{s s':SharedT}{t:Thread},qz p w n₀ ann n s t=Z_ s'->topRun X5 p w n₀ ann n s.abs t=Z_ s'.abs
 | 0,_,_,_,h=>nomatch h
 | n+1,s,s',t,h=>by
   have h:(match through t with
    | true=>some s
    | false=>match Fast.tw6613529449190102663 n₀ ann t with
      | false=>none
      | true=>match Fast.tw10156331382660048174 (Fast.tw11892475500146522536 Fast.tw14364793385576792824) p w s t with
        | some (s',t')=>qz p w n₀ ann n s' t'
        | none=>none)=Z_ s':=h
   rw[<-Fast.te6613529449190102663,<-Fast.te10156331382660048174,<-Fast.te11892475500146522536,<-Fast.te14364793385576792824]at h;unfold topRun
   cases he:through t with
   | true=>rw[he]at h;cases h;rfl
   | false=>
     rw[he]at h
     cases hk:stepOk n₀ ann t with
     | false=>rw[hk]at h;cases h
     | true=>
       rw[hk]at h
       cases hs:stepT (denote X5) p w s t with
       | none=>rw[hs]at h;cases h
       | some r=>obtain⟨s₂,t₂⟩:=r;rw[hs]at h;dsimp only;rw[stepT_spec hs];exact kJ h
noncomputable def btOf(l:List Obj):BT:=(l.foldl (λx o=>(x.1.ins x.2 o,x.2+1)) (BT.nil,0)).1
def bt0(P:WX):BT:=btOf (boot_heap P).objs.toList
def Fp(P:WX):absHeap (bt0 P) (boot_heap P).objs.size (boot_heap P).life=boot_heap P:=by kernel_rfl
def lK(p:Rt)(w:RX)(N:Nat)(os:OsState):Option Shared :=
 match(boot_heap w.params).isNs RW with
 | true=>(qz p w (boot_heap w.params).objs.size ((boot_heap w.params).nsMap RW "__annotations__") N ⟨bt0 w.params,(boot_heap w.params).objs.size,(boot_heap w.params).life,WY [],boot_drawn,boot_toks,os⟩ (topStub p)).bind λs=>match staticsOk (importedModules p.main.body) (boot_heap w.params) s.abs.heap&&namesBound p s.abs.heap&&gensDone s.abs&&laidKept (boot_heap w.params) s.abs.heap with
  | true=>some s.abs
  | false=>none
 | false=>none
def qy{p:Rt}{w:RX}{N:Nat}{os:OsState}{s:Shared}(h:lK p w N os=Z_ s):topFrom X5 p w N ⟨boot_heap w.params,WY [],boot_drawn,boot_toks,os⟩=Z_ s:=by
 unfold lK at h;unfold topFrom
 cases e:(boot_heap w.params).isNs RW with
 | false=>rw[e]at h;cases h
 | true=>
   rw[e]at h;dsimp only;obtain⟨s₁,h1,h2⟩:=Option.bind_eq_some_iff.mp h;have:=kJ h1;unfold SharedT.abs at this;dsimp only at this;rw[Fp]at this;rw[show(ZX&&(WY []:Array GenState).size==0)=ZX from rfl];dsimp only;rw[this];exact h2
def HN{p q:Rt}{loose:List Str}{Xt:Shared->Bool}{α:Type}{Yf:Shared->α}{Ya:RX->α}{N:Nat}(e:opening p=plainProg p.main.scope.names)(hN:Nat.ble 600 N=ZX)(f:∀s,fenceModules? p s=Z_ s)
 (h:∀(w:RX)(os:OsState),(lK p w N os).map (λs=>(Fast.tw4187177175401517315 q loose (importedModules p.main.body) Xt ZX s,Yf s))=Z_ (openGood q loose,Ya w)):LeftO p q loose Xt Yf Ya N:=λw=>by
 obtain⟨s,hs,hv⟩:=SM.mp (boot_open e hN f w);unfold openEnds;rw[hs];obtain⟨hh,gs,d,k,os⟩:=s;simp only[Vi]at hv;obtain⟨rfl,rfl,rfl,rfl⟩:=hv;obtain⟨s1,h1,h2⟩:=SM.mp (h w os);rw[<-Fast.te4187177175401517315]at h2;rw[show(Z_ (⟨boot_heap w.params,WY [],boot_drawn,boot_toks,os⟩:Shared)).bind (topFrom X5 p w N)=Z_ s1 from qy h1];exact congrArg some h2
end PySem.W
namespace Z
open PySem PySem.Spec PyProof.Rows L2
def z9:Bool:=ZX
def uO:Bool:=ZZ
def wX:Bool:=ZX
def xU:Bool:=ZX
def xW:Bool:=ZZ
def Eg:Bool:=ZZ
def Dn:Bool:=ZZ
def vZ:Bool:=ZZ
def yp:Bool:=ZZ
def p8:Bool:=ZX
def Ew:Bool:=ZX
def Eb:Bool:=ZX
def Ef:Bool:=ZX
def uQ:Bool:=ZX
section
variable{X:Cx}{W:Wd}{lk:Bool}{o:Orc}{p px cpos pos kp apos tpos:Pos}{a b c tg:Expr}
def Kh(hft:z9=ZX)(hc:X.calm=ZX)(hg:Gl X "min")(hm:X.mg "min"=ZW)(ha:PE X a (tD X W ZX fun δ=>ev o δ ZX ta))(hb:PE X b (tD X W ZX fun δ=>ev o δ ZX tb))(hst1:aC a=ZZ)(hst2:aC b=ZZ) :
 PE X (.Call (.Name "min" p) [a,b] [] cpos) (tD X W lk fun δ=>ev o δ lk (.b2 .min ta tb)):=Ml hc hg hm ha hb hst1 hst2
def LC(hft:uO=ZX)(hgl:Gl X "range")(hm:X.mg "range"=ZW)(h1:PE X e1 (tD X W ZX fun δ=>ev o δ ZX t1))(h2:PE X e2 (tD X W ZX fun δ=>ev o δ ZX t2))(hst1:aC e1=ZZ)(hst2:aC e2=ZZ) :
 ∃wi,PI X tg (.Call (.Name "range" p) [e1,e2] [] cpos) wi/\WalkL X W o lk (.rng2 t1 t2) wi:=absurd hft (by decide)
def KJ(hft:wX=ZX)(hu:X.A.units+1<Vz)(ha:PE X a (tD X W ZX fun δ=>ev o δ ZX ta))(hb:PE X b (tD X W ZX fun δ=>ev o δ ZX tb))(hc:PE X c (tD X W ZZ fun δ=>ev o δ ZZ tc))(m:M2 X a "get" apos b c cpos) :
 PE X (.Call (.Attribute a "get" apos) [b,c] [] cpos) (tD X W lk fun δ=>ev o δ lk (.get2 ta tb tc)):=vy hu ha hb hc m
def f_list(hft:vZ=ZX)(hk:W.K=X.K)(hc:X.calm=ZX):∃r,CallR X (.type "list") r/\Sem1 W r (b1D .list):=absurd hft (by decide)
def Nj(hft:yp=ZX)(hk:W.K=X.K)(hc:X.calm=ZX):∃r,CallR X (.type "dict") r/\Sem1 W r (b1D .dict):=absurd hft (by decide)
def Px(hft:Ew=ZX)(hk:W.K=X.K)(hc:X.calm=ZX):∃r,CallR X (.builtin "all") r/\Sem1 W r (b1D .all):=⟨_,yH hc,Jv hk⟩
def P0(hft:Eg=ZX)(hk:W.K=X.K)(hc:X.calm=ZX):∃r,CallR X (.builtin "any") r/\Sem1 W r (b1D .any):=absurd hft (by decide)
def Pk(hft:Dn=ZX)(hk:W.K=X.K)(hc:X.calm=ZX):∃r,CallR X (.builtin "sum") r/\Sem1 W r (b1D .sum):=absurd hft (by decide)
def Qk(hft:Eb=ZX)(hk:W.K=X.K)(hc:X.calm=ZX):∃r,CallR X (.type "str") r/\Sem1 W r (b1D .str):=⟨_,oN,Bv⟩
def f_int(hft:Ef=ZX)(hk:W.K=X.K)(hc:X.calm=ZX):∃r,CallR X (.type "int") r/\Sem1 W r (b1D .int):=⟨_,CallR.or xK uM,Bo⟩
def JP(hft:uQ=ZX)(hk:W.K=X.K)(hc:X.calm=ZX):∃r,CallR X (.builtin "max") r/\Sem1 W r (b1D .max):=⟨_,vz hc,Cp hk⟩
def zZ(hft:p8=ZX)(hk:W.K=X.K)(hc:X.calm=ZX):∃r,CallR X (.builtin "sorted") r/\Sem1 W r (b1D .sorted):=⟨_,ph hc,tX hk⟩
def JF(hft:xU=ZX)(hk:W.K=X.K)(ha:PE X a (tD X W ZX fun δ=>ev o δ ZX ta))(hb:PE X b (tD X W ZX fun δ=>ev o δ ZX tb))(h2:plainBase a=ZX)(hst:aC b=ZZ)(h1:(apos.endLine==cpos.line)=ZX):PE X (.Call (.Attribute a "join" apos) [b] [] cpos) (tD X W lk fun δ=>ev o δ lk (.m1 .join ta tb)):=by
 have q:=GC (lk:=lk) PySem.F.plainAttrs_str PySem.F.slot_str_join PySem.F.type_str_join G8 (Ad hk) uD wu ha hb h2 hst h1
 have e:(fun δ=>ev o δ lk (.m1 .join ta tb))=fun δ=>(ev o δ ZX ta).bind λx=>(ev o δ ZX tb).bind λy=>m1D .join x.2 y.2:=funext fun δ=>by simp only[ev]
 rw[e];exact q
end
inductive Gk where
 | fn (i np:Nat)
 | cls (c:Nat)
 | ocl (c:Nat)
 | val (d:D)
 | dct (ks:List DK) (vs:List D)
 | mark (l:List Nat)
 | dfl (x:Str) (v:Int)          -- "!d": the last parameter of x is v where it is left out
 | names (l:List (List Nat))      -- "!f": attributes,"!m": methods
structure Tc where
 N:List Str
 sc:Scope
 gl:List (Str×Gk)
noncomputable def aW:List Str->Str->Option Nat
 | [],_=>none
 | y::l,x=>if y=x then some 0 else(aW l x).map (·+1)
theorem aO:∀{N:List Str}{x:Str}{i:Nat},aW N x=Z_ i->N[i]?=Z_ x
 | [],_,_,h=>by simp[aW]at h
 | y::l,x,i,h=>by
   simp only[aW]at h;split at h
   .rename_i e
    cases h;simp[e]
   .cases e:aW l x with
    | none=>rw[e]at h;cases h
    | some j=>
      rw[e]at h;cases h;simpa using aO e
noncomputable def ixs(N:List Str):List Str->Option (List Nat)
 | []=>some []
 | x::l=>(aW N x).bind λi=>(ixs N l).map λr=>i::r
theorem vA:∀{l:List Str}{r:List Nat}{j k:Nat},ixs N l=Z_ r->r[j]?=Z_ k->∃x,l[j]?=Z_ x/\N[k]?=Z_ x
 | [],r,j,k,h,e=>by
   simp only[ixs,QX]at h;subst h;simp at e
 | x::l,r,j,k,h,e=>by
   simp only[ixs]at h
   cases e1:aW N x with
   | none=>rw[e1]at h;cases h
   | some i=>
     cases e2:ixs N l with
     | none=>simp[e1,e2]at h
     | some r'=>
       simp[e1,e2]at h;subst h
       cases j with
       | zero=>simp at e;subst e;exact⟨x,rfl,aO e1⟩
       | succ j=>
         obtain⟨y,h1,h2⟩:=vA e2 (by simpa using e);exact⟨y,by simpa using h1,h2⟩
theorem yh:∀{l:List Str}{r:List Nat},ixs N l=Z_ r->r.length=l.length
 | [],r,h=>by simp only[ixs,QX]at h;subst h;rfl
 | x::l,r,h=>by
   simp only[ixs]at h
   cases e1:aW N x with
   | none=>rw[e1]at h;cases h
   | some i=>
     cases e2:ixs N l with
     | none=>simp[e1,e2]at h
     | some r'=>simp[e1,e2]at h;subst h;simp[yh e2]
noncomputable def visB(sc:Scope)(x:Str):Bool:=(match sc.names.lookup x with | some .local=>true | some .cell=>true | some .free=>true | _=>false)&&!(x==("__debug__":Str))&&!(x==("__classdict__":Str))
noncomputable def locB(sc:Scope)(x:Str):Bool:=match sc.names.lookup x with | some .local=>true | some .cell=>true | _=>false
noncomputable def glB(sc:Scope)(x:Str):Bool:=decide (sc.names.lookup x=Z_ .globalImplicit)
noncomputable def trOp:Operator->Option O2
 | .Add=>some .add
 | .Sub=>some .sub
 | .Mult=>some .mul
 | .FloorDiv=>some .fdiv
 | .Mod=>some .mod
 | .Pow=>some .pow
 | _=>none
noncomputable def Bm:CmpOp->Option O2
 | .Eq=>some .eq
 | .NotEq=>some .ne
 | .Lt=>some .lt
 | .LtE=>none
 | .Gt=>some .gt
 | .GtE=>none
 | .Is=>none
 | .IsNot=>none
 | .In=>some .in
 | .NotIn=>some .notin
noncomputable def gQ:Const->Option D
 | .none=>some .non
 | .bool b=>some (.bl b)
 | .int i=>some (.int i)
 | .str s=>if s.length<=1000000 then some (.str s.cps.toList)else none
 | _=>none
noncomputable def trTy(x:Str):Option Ty :=
 if x="int" then some .int else if x="bool" then some .bool else if x="str" then some .str else if x="tuple" then some .tup else if x="list" then some .lst else if x="dict" then some .dct else none
noncomputable def trL(f:Expr->Option T):List Expr->Option TL
 | []=>some .nil
 | e::es=>(f e).bind λt=>(trL f es).map λl=>.cons t l
noncomputable def trB(f:Expr->Option T)(k:T->T->T):List Expr->Option T
 | []=>none
 | [e]=>f e
 | e::es=>(f e).bind λt=>(trB f k es).map λu=>k t u
noncomputable def pY(f:Expr->Option T):Option Expr->Option T
 | none=>some (.cst .non)
 | some e=>(f e).bind λt=>match t with
   | .cst .non=>none
   | t=>some t
noncomputable def isSlice:Expr->Bool
 | .Slice _ _ _ _=>true
 | _=>false
noncomputable def isSet:Expr->Bool
 | .Set ..=>true
 | _=>false
noncomputable def fn1(x:Str):Option B1 :=
 if x="abs" then some .abs else if x="len" then some .len else if x="tuple" then some .tuple else if x="list"/\vZ=ZX then some .list else if x="dict"/\yp=ZX then some .dict else
 if x="all"/\Ew=ZX then some .all else if x="any"/\Eg=ZX then some .any else if x="sum"/\Dn=ZX then some .sum else if x="sorted"/\p8=ZX then some .sorted else if x="str"/\Eb=ZX then some .str else if x="int"/\Ef=ZX then some .int  else none
noncomputable def fn1x(x:Str):Option B1:=match fn1 x with
 | some b=>some b
 | none=>if x="max"/\uQ=ZX then some .max else none
noncomputable def wg(tc:Tc)(f:Expr->Option T)(x:Str)(args:List Expr):Option T :=
 if glB tc.sc x&&!(x==("__debug__":Str))&&!(args.any aC)then(match tc.gl.lookup x with
  | some (.fn i np)=>if args.length=np/\args≠[]then(trL f args).map λl=>.call i l else none
  | some _=>none
  | none=>match args with
    | [a]=>(fn1x x).bind λb=>(f a).map λt=>.b1 b t
    | [a,b]=>if x="min"/\z9=ZX then(f a).bind λt=>(f b).map λu=>.b2 .min t u else(match b with
      | .Name y _=>if x="isinstance"/\glB tc.sc y=ZX/\(tc.gl.lookup y).isNone=ZX then(if y="ValueError" then none else(f a).bind λt=>(trTy y).map λty=>.isin t ty)else none
      | _=>none)
    | _=>none)else none
noncomputable def vh(tc:Tc)(f:Expr->Option T)(x:Str)(a b:Expr):Option T:=ZW
noncomputable def GK(tc:Tc)(e:Expr):Option (List DK×List D):=ZW
noncomputable def CN(tc:Tc)(f:Expr->Option T)(op:CmpOp)(a b:Expr):Option T:=ZW
noncomputable def trCs:List Expr->Option (List D)
 | []=>some []
 | .Constant c _ _::l=>(gQ c).bind λd=>(trCs l).map λr=>d::r
 | _=>none
noncomputable def trKs:List (Option Expr)->Option (List DK)
 | []=>some []
 | some (.Constant c _ _)::l=>(gQ c).bind λd=>(keyOf d).bind λk=>(trKs l).map λr=>k::r
 | _=>none
noncomputable def cstL:List D->TL
 | []=>.nil
 | d::l=>.cons (.cst d) (cstL l)
noncomputable def NP(ks:List (Option Expr))(vs:List Expr):Option T:=(trKs ks).bind λk=>(trCs vs).bind λd=>if k.length=d.length/\k.length<=15/\k≠[]/\k.Nodup then some (.dnew k (cstL d))else none
noncomputable def mY:Expr->Bool
 | .Tuple ..=>true
 | _=>false
noncomputable def xu(f:Expr->Option T)(a:Expr)(name:Str)(args:List Expr)(ok:Bool):Option T :=
 if ok&&plainBase a&&!(args.any aC)then(match args with
  | [b]=>if name="join"/\xU=ZX then(f a).bind λta=>(f b).map λtb=>.m1 .join ta tb else none
  | [b,c]=>if name="get"/\wX=ZX then(f a).bind λta=>(f b).bind λtb=>(f c).map λtc=>.get2 ta tb tc else none
  | _=>none)else none
noncomputable def namesOf(tc:Tc)(k:Str):List (List Nat):=match tc.gl.lookup k with
 | some (.names l)=>l
 | _=>[]
noncomputable def Jk(f:Expr->Option T)(a:Expr)(name:Str)(args:List Expr)(ok:Bool):Option T :=
 if ok&&plainBase a&&!(args.any aC)&&decide (args.length<20)then(f a).bind λt=>(trL f args).map λl=>.meth name.cps.toList t l else none
noncomputable def trI(tc:Tc)(f:Expr->Option T)(tp:Bool)(e:Expr):Option TI:=match e with
 | .Call (.Name x _) [a] [] _=>if x="range" then(if glB tc.sc "range"&&(tc.gl.lookup ("range":Str)).isNone&&!aC a then(f a).map .rng1 else none)else
   if x="enumerate" then none else(f e).map .val
 | .Call (.Name x _) [a,b] [] _=>if x="range" then(if uO&&glB tc.sc "range"&&(tc.gl.lookup ("range":Str)).isNone&&!aC a&&!aC b then(f a).bind λta=>(f b).map λtb=>.rng2 ta tb else none)else
   if x="zip" then none else(f e).map .val
 | .Call (.Name x _) [a,b,c] [] _=>if x="range" then none else(f e).map .val
 | e=>if isSet e then none else(f e).map .val
noncomputable def jH:List Expr->Option (List Str)
 | []=>some []
 | .Name x _::es=>(jH es).map λl=>x::l
 | _=>none
noncomputable def ql:Expr->Option (List Str×Bool)
 | .Name x _=>some ([x],ZZ)
 | .Tuple es _ _=>(jH es).map λl=>(l,ZX)
 | _=>none
noncomputable def frees(scope:Scope):List Str:=(scope.names.filter λy=>y.2==.free).map (·.1)
noncomputable def gj(scope sc:Scope):Scope:={ scope with names:=scope.names.map λ(n,k)=>if(k==.free&&sc.kind==.function&&sc.names.lookup n==Z_ .cell)then(n,.cell)else(n,k) }
noncomputable def blkB(scope:Scope):Bool:=decide (scope.kind=.function)&&scope.names.all λy=>!(y.2==.cell)&&(!(y.2==.local)||decide (scope.names.lookup y.1=Z_ .local))&&(!(y.2==.free)||decide (scope.names.lookup y.1=Z_ .free))
noncomputable def JR(tc:Tc)(scope:Scope)(tn cn:List Str):Bool:=blkB scope&&decide (tn++cn).Nodup&&(tn.all λx=>decide (scope.names.lookup x=Z_ .local)) &&
 cn.all λx=>decide (tc.sc.names.lookup x=Z_ .cell)||decide (tc.sc.names.lookup x=Z_ .free)
noncomputable def uW(f:Expr->Option T):List Expr->Option T
 | []=>some (.cst (.bl ZX))
 | [c]=>f c
 | _=>none
noncomputable def t7(tc:Tc)(f:Tc->Expr->Option T)(elt tg iter:Expr)(ifs:List Expr)(scope:Scope):Option T :=
 (ql tg).bind λq=>if JR tc scope q.1 (frees scope)then
  (ixs tc.N (frees scope)).bind λcaps=>(trI tc (f tc) (mY tg) iter).bind λit=>(uW (f ⟨q.1++frees scope,gj scope tc.sc,tc.gl⟩) ifs).bind λc=>
   (f ⟨q.1++frees scope,gj scope tc.sc,tc.gl⟩ elt).map λe=>.comp caps q.1.length q.2 it c e else none
noncomputable def trJ(f:Expr->Option T)(vs:List Expr):Option T:=ZW
noncomputable def trEb(f:Tc->Expr->Option T)(tc:Tc)(e:Expr):Option T:=match e with
 | .Name x _=>if visB tc.sc x then(aW tc.N x).map .var else if glB tc.sc x&&!(x==("__debug__":Str))then(match tc.gl.lookup x with | some (.val d)=>some (.cst d) | _=>none)else none
 | .IfExp c a b _=>(f tc c).bind λtc'=>(f tc a).bind λta=>(f tc b).map λtb=>.ite tc' ta tb
 | .Constant c _ _=>(gQ c).map .cst
 | .BinOp a op b _=>(trOp op).bind λp=>(f tc a).bind λta=>(f tc b).map λtb=>.op2 p ta tb
 | .UnaryOp .Not a _=>(f tc a).map .not
 | .UnaryOp .USub a _=>(f tc a).map .neg
 | .Compare a [op] [b] _=>if Tu op b then none else(match CN tc (f tc) op a b with
   | some t=>some t
   | none=>(Bm op).bind λp=>(f tc a).bind λta=>(f tc b).map λtb=>.op2 p ta tb)
 | .BoolOp .And vs _=>trB (f tc) .and vs
 | .BoolOp .Or vs _=>trB (f tc) .or vs
 | .Tuple es _ _=>if es.any aC then none else(trL (f tc) es).map .tup
 | .List es _=>if es.any aC then none else(trL (f tc) es).map .lst
 | .Dict [] [] _=>some (.dnew [] .nil)
 | .Dict (k0::ks) vs _=>if xW then NP (k0::ks) vs else none
 | .Subscript a (.Slice lo hi none _) _=>(f tc a).bind λt=>(pY (f tc) lo).bind λl=>(pY (f tc) hi).map λh=>.slc t l h
 | .Subscript a b _=>if isSlice b then none else(match GK tc a with
   | some q=>(f tc b).map λi=>.kidx q.1 q.2 i
   | none=>(f tc a).bind λt=>(f tc b).map λi=>.idx t i)
 | .Call (.Name x _) args [] _=>wg tc (f tc) x args
 | .Call (.Name x _) [a] [⟨some kw,b,_⟩] _=>if kw="default" then vh tc (f tc) x a b else none
 | .Call (.Attribute a name apos) args [] cpos=>if(namesOf tc "!m").contains name.cps.toList then Jk (f tc) a name args (apos.endLine==cpos.line)else xu (f tc) a name args (apos.endLine==cpos.line)
 | .Attribute a name _=>if(namesOf tc "!f").contains name.cps.toList&&plainBase a then(f tc a).map λt=>.fld t name.cps.toList else none
 | .JoinedStr vs _=>trJ (f tc) vs
 | .ListComp elt [g] scope _=>if g.is_async=0 then t7 tc f elt g.target g.iter g.ifs scope else none
 | _=>none
noncomputable def trE:Nat->Tc->Expr->Option T
 | 0,_,_=>none
 | k+1,tc,e=>trEb (λtc' e'=>trE k tc' e') tc e
def aZ{k:Nat}{tc:Tc}{e:Expr}:trE (k+1) tc e=trEb (trE k) tc e:=rfl
def CG{k:Nat}{tc:Tc}{elt:Expr}{g:Comprehension}{scope:Scope}{pos:Pos}:trE (k+1) tc (.ListComp elt [g] scope pos)=if g.is_async=0 then t7 tc (λtc' e=>trE k tc' e) elt g.target g.iter g.ifs scope else none:=rfl
def Cz{k:Nat}{tc:Tc}{x:Str}{pos:Pos}:trE (k+1) tc (.Name x pos)=if visB tc.sc x then(aW tc.N x).map .var else if glB tc.sc x&&!(x==("__debug__":Str))then(match tc.gl.lookup x with | some (.val d)=>some (.cst d) | _=>none)else none:=rfl
noncomputable def bltNames:List Str:=["abs","len","isinstance","int","bool","str","tuple","list","dict","all","any","sorted","range","max","zip","enumerate","sum","min","ValueError","set"]
noncomputable def clOf(gl:List (Str×Gk))(x:Str):Option Nat:=match gl.lookup x with
 | some (.cls c)=>some c
 | _=>none
noncomputable def iD(gl:List (Str×Gk))(x:Str):Option Nat:=match gl.lookup x with
 | some (.ocl c)=>some c
 | _=>none
structure ObjFacts(P:Rt)(w:RX)(K:QK)(mg:Str->Option Value)(base:Rc)(W:Wd)(gl:List (Str×Gk))(o:Orc)(k:Nat):Prop where
 nm:∀x c,iD gl x=Z_ c->mg x=Z_ (.ref (W.CT c))
 is:∀x c',iD gl x=Z_ c'->∀c,o.sub c c'=ZX->V4 K (.ref (W.CT c)) (W.CT c')=ZX
 fld:∀fl f,gl.lookup ("!f":Str)=Z_ (.names fl)->f∈fl->∀c,(o.init c).isSome=ZX->Cls K (W.CT c)/\NoAttr K (W.CT c) (strV f)
 ini:∀c f,o.init c=Z_ f->∃fa fd ps np,Mk K (W.CT c) fa/\ClsFn K (W.CT c) "__init__" fa/\Binds K fd ps []/\(∀s a d,o.ini f s a=.ok d->a.length+1=np)/\((∀s a,o.ini f s a=.stuck)\/∃j,j+1<=k/\FnOk P w K mg base CX0 j fa fd ps (spI W (o.ini f) np))
 mt:∀c m f,o.meth c m=Z_ f->∃np fa fd ps,Cls K (W.CT c)/\Meth K (W.CT c) (strV m) fa/\Binds K fd ps []/\(∀ds r,o.fn f ds=.ok r->ds.length=np)/\FnOk P w K mg base CX0 k fa fd ps (spFn W (o.fn f) np)
structure Fits(X:Cx)(W:Wd)(tc:Tc)(o:Orc)(k:Nat):Prop where
 N:X.N=tc.N
 nd:tc.N.Nodup
 sc:X.env.scope=tc.sc
 K:W.K=X.K
 room:Room k X.A
 calm:X.calm=ZX
 gf:∀x i np,tc.gl.lookup x=Z_ (.fn i np)->∃f fd ps,X.mg x=Z_ (.ref f)/\Rj X.K (.ref f)=ZX/\Binds X.K fd ps []/\FnOk X.prog X.w X.K X.mg X.base CX0 k f fd ps (spFn W (o.fn i) np)
 gb:∀x,x∈bltNames->tc.gl.lookup x=ZW->X.mg x=ZW
 gv:∀x d,tc.gl.lookup x=Z_ (.val d)->∃u v,X.mg x=Z_ u/\RelV v u/\∀G,Rep W G d v
 gd:True
 xf:XFacts X.K X.mg W o.sub (clOf tc.gl)
 gdf:True
 ob:ObjFacts X.prog X.w X.K X.mg X.base W tc.gl o k
def Fits.comp{X:Cx}{W:Wd}{tc:Tc}{o:Orc}{k:Nat}(F:Fits X W tc o k){scope:Scope}{N:List Str}(hN:N.Nodup)(fp:List Addr)(pins:List (Addr×Obj))(s:Shared)(H:Hp):Fits (cxC X scope N fp pins s H) W ⟨N,gj scope tc.sc,tc.gl⟩ o k where
 N:=rfl
 nd:=hN
 sc:=by
  show Wy scope X.env=_;rw[<-F.sc]
  rfl
 K:=F.K
 room:=F.room
 calm:=F.calm
 gf:=F.gf
 gb:=F.gb
 gv:=F.gv
 gd:=F.gd
 xf:=F.xf
 gdf:=F.gdf
 ob:=F.ob
theorem j8:∀{es:List Expr}{l:TL},trL f es=Z_ l->∀δ r,evL o δ l=.ok r->r.2.length=es.length
 | [],l,h,δ,r,e=>by
   simp only[trL,QX]at h;subst h;simp only[evL]at e;cases e;rfl
 | x::es,l,h,δ,r,e=>by
   simp only[trL]at h
   cases e1:f x with
   | none=>rw[e1]at h;cases h
   | some t=>
     rw[e1]at h
     cases e2:trL f es with
     | none=>simp[e2]at h
     | some l'=>
       simp[e2]at h;subst h;simp only[evL]at e
       cases e3:ev o δ (bR δ t) t with
       | ok y=>
         rw[e3]at e
         cases e4:evL o δ l' with
         | ok z=>
           simp only[e4,Xr]at e;cases e;simp[j8 e2 δ z e4]
         | exc c=>simp only[e4,Xr]at e;cases e
         | stuck=>simp only[e4,Xr]at e;cases e
       | exc c=>rw[e3]at e;cases e
       | stuck=>rw[e3]at e;cases e
def bM(h:es.any aC=ZZ):(SQ pos (R3 es env)).any (·.1)=ZZ:=by
 induction es with
 | nil=>rfl
 | cons e es ih=>
   simp only[RN,Rp]at h;rw[bL h.1];show(ZZ||(SQ pos (R3 es env)).any (·.1))=ZZ;rw[ih h.2];rfl
section
variable{X:Cx}{W:Wd}{tc:Tc}{o:Orc}{k:Nat}
def iC{e:Expr}{t:T}{lk:Bool}{f:Dst->R (Bool×D)}(h:PE X e (tD X W lk f))(hf:∀δ,f δ=ev o δ lk t):PE X e (tD X W lk fun δ=>ev o δ lk t):=by
 have:f=fun δ=>ev o δ lk t:=funext hf
 rw[<-this];exact h
def Cu{e:Expr}{t:T}{f:Dst->R (Bool×D)}(h:PT X e (tT X W f))(hf:∀δ,f δ=ev o δ ZX t):PT X e (tT X W fun δ=>ev o δ ZX t):=by
 have:f=fun δ=>ev o δ ZX t:=funext hf
 rw[<-this];exact h
def eE(F:Fits X W tc o k)(h:visB tc.sc x=ZX):Vis X.env.scope x/\(x==("__debug__":Str))=ZZ/\(x==("__classdict__":Str))=ZZ:=by
 unfold visB at h;simp only[QR,Rf]at h;refine⟨?_,h.1.2,h.2⟩;rw[F.sc];unfold Vis;have h1:=h.1.1;split at h1
 .rename_i e;exact .inl e
 .rename_i e;exact .inr (.inl e)
 .rename_i e;exact .inr (.inr e)
 .cases h1
theorem dh(hf:∀e t,f e=Z_ t->∀lk,PE X e (tD X W lk fun δ=>ev o δ lk t)):∀{es:List Expr}{l:TL},trL f es=Z_ l->es.any aC=ZZ->PA X es (tL X W fun δ=>evL o δ l)
 | [],l,h,_=>by
   simp only[trL,QX]at h;subst h;exact DW o
 | x::es,l,h,hs=>by
   simp only[trL]at h;simp only[RN,Rp]at hs
   cases e1:f x with
   | none=>rw[e1]at h;cases h
   | some t=>
     rw[e1]at h
     cases e2:trL f es with
     | none=>simp[e2]at h
     | some l'=>
       simp[e2]at h;subst h;exact wI (hf x t e1) (dh hf e2 hs.2) (bL hs.1)
def Bl(x:R (Bool×D)):Prop:=∀r,x=.ok r->∃b,r=(ZZ,.bl b)
def J2:Bl (.ok (ZZ,.bl b)):=λ_ h=>by cases h;exact⟨_,rfl⟩
def wQ:Bl .stuck:=λ_ h=>nomatch h
def Mu{x:Option Bool}{f:Bool->Bool}:Bl (.of (x.map λt=>(ZZ,.bl (f t)))):=by cases x<;>first | exact wQ | exact J2
def Bp{p:O2}(hp:p=.eq\/p=.ne\/p=.lt\/p=.le\/p=.gt\/p=.ge\/p=.is\/p=.isnot):∀x y r,o2 p x y=.ok r->∃b,r=(ZZ,.bl b):=by
 intro x y;show Bl (o2 p x y);rcases hp with rfl | rfl | rfl | rfl | rfl | rfl | rfl | rfl
 .exact Mu (f:=id)
 .exact Mu (f:=not)
 iterate 4
  .cases x<;>first | exact wQ | (cases y<;>first | exact wQ | exact J2)
 iterate 2
  .cases y<;>first | exact wQ | (cases x<;>first | exact J2 | exact wQ)
def Ka(F:Fits X W tc o k)(h:trOp op=Z_ p)(ha:PE X a (tD X W ZX fun δ=>ev o δ ZX ta))(hb:PE X b (tD X W ZX fun δ=>ev o δ ZX tb))(lk:Bool) :
 PE X (.BinOp a op b pos) (tD X W lk fun δ=>ev o δ lk (.op2 p ta tb)):=by
 have fin:∀{r:R2},OpR X (Ud op) r->Sem2 W r (o2 p)->PE X (.BinOp a op b pos) (tD X W lk fun δ=>ev o δ lk (.op2 p ta tb)):=λh1 h2=>iC (Oq h1 h2 (m5 p) ha hb) fun δ=>by simp only[ev]
 cases op<;>simp[trOp]at h<;>subst h
 .exact fin zp (HJ F.K)
 .exact fin JQ Hc
 .exact fin Jy Gx
 .exact fin Fz Fj
 .exact fin N5 Jg
 .exact fin Ce Az
def K3(F:Fits X W tc o k)(h:Bm op=Z_ p)(hm:Tu op b=ZZ)(ha:PE X a (tD X W ZX fun δ=>ev o δ ZX ta))(hb:PE X b (tD X W ZX fun δ=>ev o δ ZX tb)) :
 (∀lk,PE X (.Compare a [op] [b] pos) (tD X W lk fun δ=>ev o δ lk (.op2 p ta tb)))/\PT X (.Compare a [op] [b] pos) (tT X W fun δ=>ev o δ ZX (.op2 p ta tb)):=by
 have fin:∀{r:R2},OpR X (Tq op) r->Sem2 W r (o2 p)->(∀x y r,o2 p x y=.ok r->∃b,r=(ZZ,.bl b)) ->
  (∀lk,PE X (.Compare a [op] [b] pos) (tD X W lk fun δ=>ev o δ lk (.op2 p ta tb)))/\PT X (.Compare a [op] [b] pos) (tT X W fun δ=>ev o δ ZX (.op2 p ta tb)):=λh1 h2 h4=>
  ⟨λlk=>iC (Pa h1 h2 (m5 p) ha hb hm) fun δ=>by simp only[ev],Cu (K5 h1 h2 (m5 p) h4 ha hb hm) fun δ=>by simp only[ev]⟩
 cases op<;>simp[Bm]at h<;>subst h
 .exact fin Pu MP (Bp (by simp))
 .exact fin Qx Ng (Bp (by simp))
 .exact fin zY Nv (Bp (by simp))
 .exact fin Py KH (Bp (by simp))
 .obtain⟨h1,h2⟩:=d_in (pos:=pos) F.K (wM F.room) ha hb hm
  exact⟨λlk=>iC (h1 lk) fun δ=>by simp only[ev],Cu h2 fun δ=>by simp only[ev]⟩
 .obtain⟨h1,h2⟩:=Jz (pos:=pos) F.K (wM F.room) ha hb hm
  exact⟨λlk=>iC (h1 lk) fun δ=>by simp only[ev],Cu h2 fun δ=>by simp only[ev]⟩
end
def Qm(hft:xW=ZX){X:Cx}{W:Wd}{o:Orc}{ks:List (Option Expr)}{vs:List Expr}{t:T}{pos:Pos}(h:NP ks vs=Z_ t)(lk:Bool):PE X (.Dict ks vs pos) (tD X W lk fun δ=>ev o δ lk t):=absurd hft (by decide)
section
variable{X:Cx}{W:Wd}{tc:Tc}{o:Orc}{k:Nat}
def Right(X:Cx)(W:Wd)(o:Orc)(e:Expr)(t:T):Prop:=(∀lk,PE X e (tD X W lk fun δ=>ev o δ lk t))/\PT X e (tT X W fun δ=>ev o δ ZX t)
def Dv(δ:Dst)(lk:Bool)(a b:T):((ev o δ ZX a).bind λx=>andD x.2 (ev o δ ZX b))=ev o δ lk (.and a b):=by
 simp only[ev]
 rfl
def pK(δ:Dst)(lk:Bool)(a b:T):((ev o δ ZX a).bind λx=>orD x.2 (ev o δ ZX b))=ev o δ lk (.or a b):=by
 simp only[ev]
 rfl
theorem t8(hf:∀e t,f e=Z_ t->Right X W o e t):∀{vs:List Expr}{t:T},trB f .and vs=Z_ t ->
 (∀lk,PE X (.BoolOp .And vs pos) (tD X W lk fun δ=>ev o δ lk t))/\PW X (.BoolOp .And vs pos) (tT X W fun δ=>ev o δ ZX t)
 | [],t,h=>by simp[trB]at h
 | [e],t,h=>by
   simp only[trB]at h;exact⟨λlk=>KY ((hf e t h).1 lk),gG (hf e t h).2⟩
 | e::e'::es,t,h=>by
   simp only[trB]at h
   cases e1:f e with
   | none=>rw[e1]at h;cases h
   | some u=>
     rw[e1]at h
     cases e2:trB f .and (e'::es)with
     | none=>simp[e2]at h
     | some v=>
       simp[e2]at h;subst h;obtain⟨h1,h2⟩:=t8 hf e2
       exact⟨λlk=>iC (Oo ((hf e u e1).1 ZX) (h1 ZX)) fun δ=>Dv δ lk u v,by
        have:=Ln (hf e u e1).2 h2;rw[show(fun δ=>(ev o δ ZX u).bind λx=>andD x.2 (ev o δ ZX v))=fun δ=>ev o δ ZX (.and u v)from funext fun δ=>Dv δ ZX u v]at this
        exact this⟩
theorem vC(hf:∀e t,f e=Z_ t->Right X W o e t):∀{vs:List Expr}{t:T},trB f .or vs=Z_ t ->
 (∀lk,PE X (.BoolOp .Or vs pos) (tD X W lk fun δ=>ev o δ lk t))/\PW X (.BoolOp .Or vs pos) (tT X W fun δ=>ev o δ ZX t)
 | [],t,h=>by simp[trB]at h
 | [e],t,h=>by
   simp only[trB]at h;exact⟨λlk=>KY ((hf e t h).1 lk),gG (hf e t h).2⟩
 | e::e'::es,t,h=>by
   simp only[trB]at h
   cases e1:f e with
   | none=>rw[e1]at h;cases h
   | some u=>
     rw[e1]at h
     cases e2:trB f .or (e'::es)with
     | none=>simp[e2]at h
     | some v=>
       simp[e2]at h;subst h;obtain⟨h1,h2⟩:=vC hf e2
       exact⟨λlk=>iC (d_or ((hf e u e1).1 ZX) (h1 ZX)) fun δ=>pK δ lk u v,by
        have:=Qa (hf e u e1).2 h2;rw[show(fun δ=>(ev o δ ZX u).bind λx=>orD x.2 (ev o δ ZX v))=fun δ=>ev o δ ZX (.or u v)from funext fun δ=>pK δ ZX u v]at this
        exact this⟩
def aQ{e:Expr}{t:T}(h:∀lk,PE X e (tD X W lk fun δ=>ev o δ lk t))(he:∀whole,isTrue e X.env whole=(do let v <-whole;Vk e.pos;TX [v] (truthy v))):Right X W o e t:=⟨h,O4 (h ZX) he⟩
def Dh{f:Expr->Option T}(hf:∀e t,f e=Z_ t->Right X W o e t){e:Option Expr}{t:T}(h:pY f e=Z_ t):IsO t e X W o:=by
 cases e with
 | none=>
   simp only[pY,QX]at h;exact .inl ⟨rfl,h.symm⟩
 | some e=>
   simp only[pY]at h
   cases e1:f e with
   | none=>rw[e1]at h;cases h
   | some u=>
     rw[e1]at h;simp only[R7]at h;split at h
     .cases h
     .rename_i hne
      cases h;exact .inr ⟨e,rfl,λz=>hne z,(hf e t e1).1⟩
def cu(F:Fits X W tc o k)(h:glB tc.sc x=ZX):Gl X x:=by
 unfold glB at h;have:=of_decide_eq_true h;show X.env.scope.names.lookup x=_;rw[F.sc];exact this
def Ie(h:trTy y=Z_ ty):∃T,cX ty=Z_ T/\Tr y=Z_ (.type T)/\y≠"__name__"/\(y==("__debug__":Str))=ZZ/\y∈bltNames:=by
 unfold trTy at h;split at h
 .rename_i e;cases h;subst e;exact⟨"int",rfl,by kernel_rfl,by decide +kernel,by decide +kernel,by decide +kernel⟩
 .split at h
  .rename_i e;cases h;subst e;exact⟨"bool",rfl,by kernel_rfl,by decide +kernel,by decide +kernel,by decide +kernel⟩
  .split at h
   .rename_i e;cases h;subst e;exact⟨"str",rfl,by kernel_rfl,by decide +kernel,by decide +kernel,by decide +kernel⟩
   .split at h
    .rename_i e;cases h;subst e;exact⟨"tuple",rfl,by kernel_rfl,by decide +kernel,by decide +kernel,by decide +kernel⟩
    .split at h
     .rename_i e;cases h;subst e;exact⟨"list",rfl,by kernel_rfl,by decide +kernel,by decide +kernel,by decide +kernel⟩
     .split at h
      .rename_i e;cases h;subst e;exact⟨"dict",rfl,by kernel_rfl,by decide +kernel,by decide +kernel,by decide +kernel⟩
      .cases h
set_option maxHeartbeats 1000000 in
def Kg(F:Fits X W tc o k)(h:fn1 x=Z_ b)(hg:Gl X x)(e:tc.gl.lookup x=ZW)(ha:PE X a (tD X W ZX fun δ=>ev o δ ZX u))(hst:aC a=ZZ) :
 PE X (.Call (.Name x p) [a] [] pos) (tD X W lk fun δ=>ev o δ lk (.b1 b u)):=by
 have fb:∀{id:String}{r:List V->Hp->VK->Prop},CallR X (.builtin id) r->Sem1 W r (b1D b)->Tr x=Z_ (.builtin id)->x≠"__name__"->(x==("__debug__":Str))=ZZ->x∈bltNames->PE X (.Call (.Name x p) [a] [] pos) (tD X W lk fun δ=>ev o δ lk (.b1 b u)) :=
  λh1 h2 h3 h4 h5 h6=>iC (d_b1 h1 h2 (lA b) hg (F.gb _ h6 e) h3 ha h4 h5 (bL hst)) fun δ=>by simp only[ev]
 have ft:∀{id:String}{r:List V->Hp->VK->Prop},CallR X (.type id) r->Sem1 W r (b1D b)->Tr x=Z_ (.type id)->x≠"__name__"->(x==("__debug__":Str))=ZZ->x∈bltNames->PE X (.Call (.Name x p) [a] [] pos) (tD X W lk fun δ=>ev o δ lk (.b1 b u)) :=
  λh1 h2 h3 h4 h5 h6=>iC (Od h1 h2 (lA b) hg (F.gb _ h6 e) h3 ha h4 h5 (bL hst)) fun δ=>by simp only[ev]
 unfold fn1 at h;split at h
 .rename_i ex;subst ex;cases h
  exact fb Ab Gy PyProof.Rows.boot_abs (by decide +kernel) (by decide +kernel) (by decide +kernel)
 split at h
 .rename_i ex;subst ex;cases h
  exact fb (CallR.or (CallR.or nO nR) vQ) (Jm F.K) PySem.boot_len (by decide +kernel) (by decide +kernel) (by decide +kernel)
 split at h
 .rename_i ex;subst ex;cases h
  exact ft mj (vM F.K) (by kernel_rfl) (by decide +kernel) (by decide +kernel) (by decide +kernel)
 split at h
 .rename_i ex;obtain⟨rfl,hq⟩:=ex;cases h
  obtain⟨r,c1,c2⟩:=f_list (X:=X) (W:=W) hq F.K F.calm;exact ft c1 c2 (by kernel_rfl) (by decide +kernel) (by decide +kernel) (by decide +kernel)
 split at h
 .rename_i ex;obtain⟨rfl,hq⟩:=ex;cases h
  obtain⟨r,c1,c2⟩:=Nj (X:=X) (W:=W) hq F.K F.calm;exact ft c1 c2 (by kernel_rfl) (by decide +kernel) (by decide +kernel) (by decide +kernel)
 split at h
 .rename_i ex;obtain⟨rfl,hq⟩:=ex;cases h
  obtain⟨r,c1,c2⟩:=Px (X:=X) (W:=W) hq F.K F.calm;exact fb c1 c2 (by kernel_rfl) (by decide +kernel) (by decide +kernel) (by decide +kernel)
 split at h
 .rename_i ex;obtain⟨rfl,hq⟩:=ex;cases h
  obtain⟨r,c1,c2⟩:=P0 (X:=X) (W:=W) hq F.K F.calm;exact fb c1 c2 (by kernel_rfl) (by decide +kernel) (by decide +kernel) (by decide +kernel)
 split at h
 .rename_i ex;obtain⟨rfl,hq⟩:=ex;cases h
  obtain⟨r,c1,c2⟩:=Pk (X:=X) (W:=W) hq F.K F.calm;exact fb c1 c2 (by kernel_rfl) (by decide +kernel) (by decide +kernel) (by decide +kernel)
 split at h
 .rename_i ex;obtain⟨rfl,hq⟩:=ex;cases h
  obtain⟨r,c1,c2⟩:=zZ (X:=X) (W:=W) hq F.K F.calm;exact fb c1 c2 PyProof.Rows.boot_sorted (by decide +kernel) (by decide +kernel) (by decide +kernel)
 split at h
 .rename_i ex;obtain⟨rfl,hq⟩:=ex;cases h
  obtain⟨r,c1,c2⟩:=Qk (X:=X) (W:=W) hq F.K F.calm;exact ft c1 c2 (by kernel_rfl) (by decide +kernel) (by decide +kernel) (by decide +kernel)
 split at h
 .rename_i ex;obtain⟨rfl,hq⟩:=ex;cases h
  obtain⟨r,c1,c2⟩:=f_int (X:=X) (W:=W) hq F.K F.calm;exact ft c1 c2 (by kernel_rfl) (by decide +kernel) (by decide +kernel) (by decide +kernel)
 .cases h
def FJ(F:Fits X W tc o k)(h:fn1x x=Z_ b)(hg:Gl X x)(e:tc.gl.lookup x=ZW)(ha:PE X a (tD X W ZX fun δ=>ev o δ ZX u))(hst:aC a=ZZ) :
 PE X (.Call (.Name x p) [a] [] pos) (tD X W lk fun δ=>ev o δ lk (.b1 b u)):=by
 unfold fn1x at h;split at h
 .rename_i b' e0
  cases h;exact Kg F e0 hg e ha hst
 .split at h
  .rename_i ex
   obtain⟨rfl,hq⟩:=ex;cases h;obtain⟨r,c1,c2⟩:=JP (X:=X) (W:=W) hq F.K F.calm
   exact iC (d_b1 c1 c2 (lA _) hg (F.gb _ (by decide +kernel) e) (by kernel_rfl) ha (by decide +kernel) (by decide +kernel) (bL hst)) fun δ=>by simp only[ev]
  .cases h
def qP(h:∀δ,(∃c,f δ=.exc c)\/f δ=.stuck):PE X e (tD X W lk f):=λpins s σ H Q I hw=>by
 obtain⟨me,B,δ,S,q⟩:=tD_iff.mp hw;rcases h δ with⟨c,e⟩ | e<;>(rw[e]at q;exact q.elim)
def Qe(F:Fits X W tc o k)(e:tc.gl.lookup x=Z_ (.ocl c))(hg:Gl X x)(hdb:(x==("__debug__":Str))=ZZ)(ha:PA X (a::as) (tL X W fun δ=>evL o δ l))
 (he:R3 (a::as) X.env=(ZZ,S8 a X.env)::R3 as X.env)(hpl:(SQ pos (R3 as X.env)).any (·.1)=ZZ)(lk:Bool):PE X (.Call (.Name x p) (a::as) [] pos) (tD X W lk fun δ=>ev o δ lk (.mk c l)):=by
 have hcl:iD tc.gl x=Z_ c:=by unfold iD;rw[e]
 have hm:=F.ob.nm x c hcl
 have bad:(∀δ,(evL o δ l).bind (λx=>(Xu (o.init c)).bind λf=>Xz (!x.1) ((o.ini f (.obj c [] []) x.2).bind λd=>.ok (ZX,d)))=ev o δ lk (.mk c l)):=fun δ=>by simp only[ev]
 cases ei:o.init c with
 | none=>
   refine qP fun δ=>?_
   rw[<-bad δ,ei]
   cases evL o δ l with
   | ok y=>exact .inr rfl
   | exc c=>exact .inl ⟨c,rfl⟩
   | stuck=>exact .inr rfl
 | some f=>
   obtain⟨fa,fd,ps,np,h1,h2,h3,h4,h5⟩:=F.ob.ini c f ei;rcases h5 with h5 | ⟨j,hj,h5⟩
   .refine qP fun δ=>?_
    rw[<-bad δ,ei]
    cases evL o δ l with
    | ok y=>
      simp only[Xr,Xu,h5,Xz]
      right
      split<;>rfl
    | exc c=>exact .inl ⟨c,rfl⟩
    | stuck=>exact .inr rfl
   .exact d_mk ei h4 h1 h5 (F.room.mono hj) hg hm h3 ha hdb he hpl
def cH(x:Str):strV x.cps.toList=x:=by cases x;simp[strV]
def Mx(hb:plainBase a=ZX)(hst:args.any aC=ZZ)(hn:args.length<20)(hline:(apos.endLine==pos.line)=ZX) :
 S8 (.Call (.Attribute a name apos) args [] pos) env=(do
  let ov <-S8 a env
  Vk apos.atName
  let(f,first) <-TX [ov] (Vp ov name (do return (<-importBound a env).getD ZX))
  Wm pos f first (SQ pos (R3 args env)) (Vc pos (TJ [] env))):=by
 have hs:=bM (es:=args) (env:=env) (pos:=pos) hst
 have hform:methodCallForm (args.length+([]:List VN).length) (SQ pos (R3 args env)) (Vc pos (TJ [] env))=ZX:=by
  unfold methodCallForm
  have h1:(SQ pos (R3 args env)).all (λx=>!x.1)=ZX:=by
   rw[RJ];intro x hx;rw[List.any_eq_false]at hs;have:=hs x hx;simpa using this
  rw[h1];show(ZX&&true&&decide (args.length+0+0<30))=ZX;simp;omega
 have hpos:methodCallPos ZX a env apos pos=pure pos:=by unfold methodCallPos;simp[hline]
 rw[arm_eval_Call,dJ hb];unfold methodCall;rw[hform,hpos];unfold calleeOf;simp only[if_true,pure_bind]
def Mv(F:Fits X W tc o k){f:Expr->Option T}(hf:∀e t,f e=Z_ t->Right X W o e t){a:Expr}{name:Str}{args:List Expr}{ok:Bool}{t:T}{apos cpos:Pos}(h:Jk f a name args ok=Z_ t)(hok:ok=(apos.endLine==cpos.line))(lk:Bool) :
 PE X (.Call (.Attribute a name apos) args [] cpos) (tD X W lk fun δ=>ev o δ lk t):=by
 unfold Jk at h;split at h
 .rename_i hc
  simp only[QR,Rf,decide_eq_true_eq]at hc;obtain⟨⟨⟨h1,h2⟩,hst⟩,hn⟩:=hc;rw[hok]at h1
  cases e1:f a with
  | none=>rw[e1]at h;cases h
  | some ta=>
  cases e2:trL f args with
  | none=>simp[e1,e2]at h
  | some l=>
  simp[e1,e2]at h;subst h
  have hM:∀c g,o.meth c name.cps.toList=Z_ g->∃np,MtOk X W o k c g np name:=λc g e=>by
   obtain⟨np,fa,fd,ps,z⟩:=F.ob.mt c _ g e;rw[cH]at z;exact⟨np,fa,fd,ps,z⟩
  have ht:=Mx (name:=name) (env:=X.env) h2 hst hn h1
  cases args with
  | nil=>
    simp only[trL,QX]at e2;subst e2;exact Ij (cH name).symm hM F.room (λlk=>(hf a ta e1).1 lk) ht
  | cons b bs=>
    have hst':=hst;simp only[RN,Rp]at hst';exact Mp (cH name).symm hM F.room (λlk=>(hf a ta e1).1 lk) (dh (λe t h=>(hf e t h).1) e2 hst) (bL hst'.1) (bM hst'.2) ht
 .cases h
def nW(F:Fits X W tc o k)(h:(namesOf tc "!f").contains name.cps.toList=ZX):∀c,(o.init c).isSome=ZX->Cls X.K (W.CT c)/\NoAttr X.K (W.CT c) name:=λc hc=>by
 unfold namesOf at h;split at h
 .rename_i l e
  have:=F.ob.fld l name.cps.toList e (by simpa using h) c hc;rw[cH]at this;exact this
 .simp at h
def Mt(F:Fits X W tc o k){f:Expr->Option T}(hf:∀e t,f e=Z_ t->Right X W o e t){op:CmpOp}{a b:Expr}{t:T}{pos:Pos}(h:CN tc f op a b=Z_ t)(hm:Tu op b=ZZ):Right X W o (.Compare a [op] [b] pos) t:=by unfold CN at h;cases h
def GR(F:Fits X W tc o k){f:Expr->Option T}(hf:∀e t,f e=Z_ t->Right X W o e t){x:Str}{args:List Expr}{t:T}{p pos:Pos}(h:wg tc f x args=Z_ t)(lk:Bool) :
 PE X (.Call (.Name x p) args [] pos) (tD X W lk fun δ=>ev o δ lk t):=by
 unfold wg at h;split at h
 .rename_i hc
  simp only[QR,Rf]at hc;obtain⟨⟨hg,hdb⟩,hst⟩:=hc;have hg:=cu F hg;split at h
  .rename_i i np e
   split at h
   .rename_i hn
    cases e1:trL f args with
    | none=>rw[e1]at h;cases h
    | some l=>
      rw[e1]at h;cases h;obtain⟨fa,fd,ps,h1,h2,h3,h4⟩:=F.gf x i np e
      cases args with
      | nil=>exact absurd rfl hn.2
      | cons a as=>
        have hst':=hst;simp only[RN,Rp]at hst';exact rW (fun δ r e=>by rw[j8 e1 δ r e];exact hn.1) h4 F.room hg h1 h2 h3 (dh (λe t h=>(hf e t h).1) e1 hst) hdb (bL hst'.1) (bM hst'.2)
   .cases h
  .cases h
  .rename_i e
   split at h
   .rename_i a
    simp only[RN,VM,Tw]at hst
    cases e0:fn1x x with
    | none=>rw[e0]at h;cases h
    | some b=>
      rw[e0]at h
      cases e1:f a with
      | none=>simp[e1]at h
      | some u=>
        simp[e1]at h;subst h;exact FJ F e0 hg e ((hf a u e1).1 ZX) hst
   .rename_i a b
    simp only[RN,VM,Tw,Rp]at hst;split at h
    .rename_i ex
     obtain⟨rfl,hq⟩:=ex
     cases e1:f a with
     | none=>rw[e1]at h;cases h
     | some u=>
       cases e2:f b with
       | none=>simp[e1,e2]at h
       | some u2=>
         simp[e1,e2]at h;subst h;exact Kh hq F.calm hg (F.gb _ (by decide +kernel) e) ((hf a u e1).1 ZX) ((hf b u2 e2).1 ZX) hst.1 hst.2
    .split at h
     .rename_i y py
      split at h
      .rename_i hc2
       obtain⟨ex,hgy,hly⟩:=hc2;subst ex;split at h
       .cases h
       cases e1:f a with
       | none=>rw[e1]at h;cases h
       | some u=>
         rw[e1]at h
         cases e2:trTy y with
         | none=>simp[e2]at h
         | some ty=>
           simp[e2]at h;subst h;obtain⟨T,hT,hb,hn,hd,hm⟩:=Ie e2
           have hly:tc.gl.lookup y=ZW:=by simpa using hly
           exact iC (Kz (o:=o) F.K hT hg (F.gb _ (by decide +kernel) e) (cu F hgy) (F.gb _ hm hly) hb hn hd ((hf a u e1).1 ZX) (bL hst.1)) fun δ=>by simp only[ev]
      .cases h
     .cases h
   .cases h
 .cases h
def Io(F:Fits X W tc o k){f:Expr->Option T}(hf:∀e t,f e=Z_ t->Right X W o e t){x:Str}{a b:Expr}{t:T}{p pos kp:Pos}(h:vh tc f x a b=Z_ t)(lk:Bool):PE X (.Call (.Name x p) [a] [⟨some "default",b,kp⟩] pos) (tD X W lk fun δ=>ev o δ lk t):=by unfold vh at h;cases h
def Gz(F:Fits X W tc o k){f:Expr->Option T}(hf:∀e t,f e=Z_ t->Right X W o e t){a:Expr}{name:Str}{args:List Expr}{ok:Bool}{t:T}{apos cpos:Pos}(h:xu f a name args ok=Z_ t)(hok:ok=(apos.endLine==cpos.line))(lk:Bool) :
 PE X (.Call (.Attribute a name apos) args [] cpos) (tD X W lk fun δ=>ev o δ lk t):=by
 unfold xu at h;split at h
 .rename_i hc
  simp only[QR,Rf]at hc;obtain⟨⟨h1,h2⟩,hst⟩:=hc;rw[hok]at h1;split at h
  .rename_i b
   simp only[RN,VM,Tw]at hst;split at h
   .rename_i ex
    obtain⟨rfl,hq⟩:=ex
    cases e1:f a with
    | none=>rw[e1]at h;cases h
    | some ta=>
      cases e2:f b with
      | none=>simp[e1,e2]at h
      | some tb=>
        simp[e1,e2]at h;subst h;exact JF hq F.K ((hf a ta e1).1 ZX) ((hf b tb e2).1 ZX) h2 hst h1
   .cases h
  .rename_i b c
   simp only[RN,VM,Tw,Rp]at hst;split at h
   .rename_i ex
    obtain⟨rfl,hq⟩:=ex
    cases e1:f a with
    | none=>rw[e1]at h;cases h
    | some ta=>
      cases e2:f b with
      | none=>simp[e1,e2]at h
      | some tb=>
        cases e3:f c with
        | none=>simp[e1,e2,e3]at h
        | some tcc=>
          simp[e1,e2,e3]at h;subst h;exact KJ hq (wM F.room) ((hf a ta e1).1 ZX) ((hf b tb e2).1 ZX) ((hf c tcc e3).1 ZZ) (Oh h2 hst.1 hst.2 h1)
   .cases h
  .cases h
 .cases h
def yP(h:isSet e=ZZ)(x:Value):Te e env x=pure x:=by
 cases e<;>first | rfl | (simp[isSet]at h)
def n6:("range":Str)∈bltNames:=by decide +kernel
def xm(F:Fits X W tc o k)(hf:∀e t,f e=Z_ t->Right X W o e t)(tg:Expr)(h:trI tc f (mY tg) e=Z_ it)(lk:Bool):(∃wi,PI X tg e wi/\WalkL X W o lk it wi)/\∀x,Te e X.env x=pure x:=by
 have val:isSet e=ZZ->(f e).map XJ=Z_ it->(∃wi,PI X tg e wi/\WalkL X W o lk it wi)/\∀x,Te e X.env x=pure x:=λhs h=>by
  cases e1:f e with
  | none=>rw[e1]at h;cases h
  | some t=>
    rw[e1]at h;cases h;exact⟨PN F.K ((hf e t e1).1 lk),yP hs⟩
 unfold trI at h;split at h
 .rename_i x px a pc
  split at h
  .rename_i ex
   subst ex;split at h
   .rename_i hc
    simp only[QR,Rf,Option.isNone_iff_eq_none]at hc
    cases e1:f a with
    | none=>rw[e1]at h;cases h
    | some t=>
      rw[e1]at h;cases h;exact⟨JM (cu F hc.1.1) (F.gb _ n6 hc.1.2) ((hf a t e1).1 ZX) hc.2,λ_=>rfl⟩
   .cases h
  .split at h
   .cases h
   .exact val rfl h
 .rename_i x px a b pc
  split at h
  .rename_i ex
   subst ex;split at h
   .rename_i hc
    simp only[QR,Rf,Option.isNone_iff_eq_none]at hc
    cases e1:f a with
    | none=>rw[e1]at h;cases h
    | some t=>
      cases e2:f b with
      | none=>simp[e1,e2]at h
      | some t2=>
        simp[e1,e2]at h;subst h;exact⟨LC hc.1.1.1.1 (cu F hc.1.1.1.2) (F.gb _ n6 hc.1.1.2) ((hf a t e1).1 ZX) ((hf b t2 e2).1 ZX) hc.1.2 hc.2,λ_=>rfl⟩
   .cases h
  .split at h
   .cases h
   .exact val rfl h
 .rename_i x px a b c pc
  split at h
  .cases h
  .exact val rfl h
 .split at h
  .cases h
  .rename_i hs
   exact val (by simpa using hs) h
def Dm(h:blkB scope=ZX):Blk scope:=by
 unfold blkB at h;simp only[QR,decide_eq_true_eq,RJ,V1,Rf]at h;refine⟨h.1,λy hy z=>?_,λy hy z=>?_,λy hy z=>?_⟩
 .have:=(h.2 y hy).1.1
  rw[z]at this;cases this
 .rcases(h.2 y hy).1.2 with q | q
  .rw[z]at q;cases q
  .exact q
 .rcases(h.2 y hy).2 with q | q
  .rw[z]at q;cases q
  .exact q
def frees_mem:x∈frees scope↔(x,Tf)∈scope.names:=by
 unfold frees
 constructor
 .intro h
  obtain⟨y,hy,rfl⟩:=Rx.mp h;obtain⟨h1,h2⟩:=UT.mp hy
  have:y.2=.free:=by simpa using h2
  rw[<-this];exact h1
 .exact λh=>Rx.mpr ⟨_,UT.mpr ⟨h,by simp⟩,rfl⟩
theorem Eh{X':Cx}{tl:List Str}(hN:X'.N.Nodup)(hloc:∀x∈tl,X'.env.scope.names.lookup x=Z_ .local):∀{es:List Expr}{l:List Str}{i:Nat},jH es=Z_ l->(∀(j:Nat) x,l[j]?=Z_ x->X'.N[i+j]?=Z_ x/\x∈tl) ->
 PGs X' es (fL (V7 i l.length))/\(T7 es X'.env).length=l.length/\(T7 es X'.env).findIdx? (·.1)=ZW
 | [],l,i,h,_=>by
   simp only[jH,QX]at h;subst h;exact⟨yj,rfl,rfl⟩
 | e::es,l,i,h,hl=>by
   cases e<;>first | exact nope h | simp only[jH]at h
   rename_i x p
   cases e1:jH es with
   | none=>rw[e1]at h;cases h
   | some l'=>
     rw[e1]at h;cases h
     obtain⟨h1,h2,h3⟩:=Eh hN hloc (i:=i+1) e1 λj y hj=>by
      have:=hl (j+1) y (by simpa using hj);rw[show i+(j+1)=i+1+j by omega]at this;exact this
     obtain⟨k1,k2⟩:=hl 0 x rfl;rw[Nat.add_zero]at k1;have kl:=hloc x k2;refine⟨?_,?_,?_⟩
     .rw[R6,Vj]
      exact tK (mH hN k1 (.inl kl) (.inr kl)) h1
     .show(T7 es X'.env).length+1=_
      rw[h2];rfl
     .show List.findIdx? (·.1) ((ZZ,VG (.Name x p) X'.env)::T7 es X'.env)=ZW
      rw[List.findIdx?_cons,h3];rfl
def ux{K:QK}{n:Nat}:gTup K n (fL (Ru n))=gTup K (Ru n).length (fL (Ru n)):=by rw[List.length_range]
def vH(hx:X.xe=λ_ _=>False)(F:Fits X W tc o k){f:Tc->Expr->Option T}(hf:∀(X':Cx)(tc':Tc),(X'.xe=λ_ _=>False)->Fits X' W tc' o k->∀e t,f tc' e=Z_ t->Right X' W o e t){elt tg iter:Expr}{ifs:List Expr}{scope:Scope}{t:T}(h:t7 tc f elt tg iter ifs scope=Z_ t) :
 ∃N m caps tup g it c e,t=.comp caps m tup it c e/\CompIn X W o scope N elt tg iter ifs m caps tup g it c e:=by
 unfold t7 at h
 cases e1:ql tg with
 | none=>rw[e1]at h;cases h
 | some q=>
 obtain⟨tn,tup⟩:=q;rw[e1]at h;simp only[R7]at h;split at h
 .rename_i hb
  cases e2:ixs tc.N (frees scope)with
  | none=>rw[e2]at h;cases h
  | some caps=>
  cases e3:trI tc (f tc) (mY tg) iter with
  | none=>simp[e2,e3]at h
  | some it=>
  cases e4:uW (f ⟨tn++frees scope,gj scope tc.sc,tc.gl⟩) ifs with
  | none=>simp[e2,e3,e4]at h
  | some c=>
  cases e5:f ⟨tn++frees scope,gj scope tc.sc,tc.gl⟩ elt with
  | none=>simp[e2,e3,e4,e5]at h
  | some e=>
  simp[e2,e3,e4,e5]at h;subst h;unfold JR at hb;simp only[QR,decide_eq_true_eq,RJ,V1]at hb;obtain⟨⟨⟨b1,b2⟩,b3⟩,b4⟩:=hb
  have FC:=λfp pins s H=>F.comp (scope:=scope) b2 fp pins s H
  obtain⟨⟨wi,hi1,hi2⟩,hs⟩:=xm F (λe t h=>hf X tc hx F e t h) tg e3 ZX
  have hi:∃wi,PI X tg iter wi/\GJ X W o it wi:=⟨wi,hi1,hi2.comp⟩
  have hloc:∀(X0:Cx),X0.env=X.env->∀x∈tn,(Wy scope X.env).names.lookup x=Z_ .local:=λ_ _ x hx=>lookup_relabel_local (b3 x hx)
  have hg:∃g,(∀fp pins s H,PG (cxC X scope (tn++frees scope) fp pins s H) tg g)/\(∀H0,TgR { X with H₀:=H0 } W (Ru tn.length) tup g)/\(tup=ZZ->tn.length=1):=by
   cases tg<;>first | exact nope e1 | simp only[ql]at e1
   .rename_i x p
    cases e1;exact⟨tY 0,λfp pins s H=>mH (X:=cxC X scope ([x]++frees scope) fp pins s H) b2 rfl (.inl (hloc X rfl x QM)) (.inr (hloc X rfl x QM)),λH0=>zM,λ_=>rfl⟩
   .rename_i es kk p
    cases e6:jH es with
    | none=>rw[e6]at e1;cases e1
    | some l=>
      rw[e6]at e1;cases e1;refine⟨gTup X.K tn.length (fL (Ru tn.length)),λfp pins s H=>?_,λH0=>?_,λz=>by cases z⟩
      .obtain⟨k1,k2,k3⟩:=Eh (X':=cxC X scope (tn++frees scope) fp pins s H) (tl:=tn) b2 (hloc X rfl) (i:=0) e6 λj x hj=>⟨by
        rw[Ux];show(tn++frees scope)[j]?=Z_ x
        rw[S6 (R9.mp hj).1];exact hj,RK hj⟩
       rw[<-Ut]at k1;exact Ej (X:=cxC X scope (tn++frees scope) fp pins s H) F.calm k1 k2 k3
      .rw[ux]
       exact Ho (X:={ X with H₀:=H0 }) F.K
  obtain⟨g,g1,g2,g3⟩:=hg;refine⟨tn++frees scope,tn.length,caps,tup,g,it,c,e,rfl,F.K,hx,F.calm,Dm b1,⟨?_,λj kk x hj hx=>?_,λy hy hk=>?_⟩,g3,hi,g1,g2,λfp pins s H=>?_,λfp pins s H=>(hf (cxC X scope (tn++frees scope) fp pins s H) _ hx (FC fp pins s H) elt e e5).1 ZZ,hs⟩
  .rw[R4,yh e2]
  .obtain⟨y,y1,y2⟩:=vA e2 hj
   rw[RT (by omega),U8,y1]at hx;cases hx;have hm:=RK y1;rw[F.N,F.sc];exact⟨y2,(Dm b1).fre _ (frees_mem.mp hm) rfl,b4 x hm⟩
  .rw[F.sc]
   exact b4 y.1 (frees_mem.mpr (by rw[<-hk];exact hy))
  .cases ifs with
   | nil=>
     simp only[uW,QX]at e4;subst e4
     refine PIf.imp GF fun σ H' Q ⟨me,B,δ,S,q⟩=>?_
     simp only[ev,Xr,truth,Xu]at q;exact q H' (Same.refl _)
   | cons c1 rest=>
     cases rest with
     | nil=>
       simp only[uW]at e4;exact Jt (hf (cxC X scope (tn++frees scope) fp pins s H) _ hx (FC fp pins s H) c1 c e4).2
     | cons _ _=>simp[uW]at e4
 .cases h
def Bg(h:gQ c=Z_ d)(lk:Bool):PE X (.Constant c j pos) (tD X W lk fun δ=>ev o δ lk (.cst d)):=by
 cases c<;>first | exact nope h | simp only[gQ]at h
 .cases h;exact uz Mh (λG=>by simp only[Rep]) o
 .cases h;exact uz M6 (λG=>by simp only[Rep]) o
 .cases h;exact uz Nr (λG=>by simp only[Rep]) o
 .split at h
  .rename_i s hl
   cases h;refine uz Lk (λG=>?_) o;simp only[Rep,strV];refine⟨trivial,?_⟩
   have:s.cps.toList.length=s.length:=by simp[Str.length]
   omega
  .cases h
def Gj(h:isSlice b=ZZ):xG b:=λo i=>by cases b<;>first | rfl | (simp[isSlice]at h)
def Ql(F:Fits X W tc o k)(ha:PE X a (tD X W ZX fun δ=>ev o δ ZX ta))(hb:PE X b (tD X W ZX fun δ=>ev o δ ZX tb))(hs:isSlice b=ZZ)(lk:Bool) :
 PE X (.Subscript a b pos) (tD X W lk fun δ=>ev o δ lk (.idx ta tb)):=by
 have nosl:NoSl b:=by intro x y;cases b<;>first | rfl | (simp[isSlice]at hs)
 refine PE.imp (PE.or (Pz M5 ha hb (Gj hs)) (Fe (wM F.room) ha hb nosl)) fun σ H Q h=>?_
 obtain⟨me,B,δ,S,h⟩:=tD_iff.mp h;simp only[ev]at h
 by_cases hd:∃r ks vs,ev o δ ZX ta=.ok r/\r.2=.dct ks vs
 .obtain⟨r,ks,vs,e,e2⟩:=hd
  refine .inr ?_
  refine tD.mono (part (fa:=fun δ=>ev o δ ZX ta) S h) λv H1 ⟨r1,e1,S1,s1,t1,_,h1⟩=>?_
  have:r1=r:=by rw[e]at e1;cases e1;rfl
  subst this
  refine tD.mono (part (fa:=fun δ=>ev o δ ZX tb) (g:=λy=>idxD r1.2 y.2) S1 h1) λu H2 ⟨r2,e3,S2,s2,t2,_,h2⟩=>?_
  rw[e2]at t1 h2;obtain⟨a,kvs,rfl,q1,q2,q3,q4⟩:=t1;simp only[idxD]at h2
  cases e4:keyOf r2.2 with
  | none=>rw[e4]at h2;exact h2.elim
  | some x=>
    rw[e4]at h2;simp only[R7]at h2
    cases e5:look ks vs x with
    | none=>rw[e5]at h2;exact h2.elim
    | some d=>
      rw[e5]at h2;obtain⟨v,h3,h4⟩:=j0 q2 (q4.mono (au s2)) e5;refine⟨a,v,rfl,?_,h2 v H2 (Same.refl _) (.shared h4)⟩;rw[je e4 t2,<-h3];obtain⟨ep,q1⟩:=q1;exact DGet.k (s2 _ _ q1)
 .refine .inl (oW (lk:=lk) (Gi F.K) (by intro x y c;cases x<;>simp only[jT]<;>first | (intro z;cases z;done) | exact ul _ _ _) ?_)
  refine tD_iff.mpr ⟨me,B,δ,S,?_⟩
  have e:((ev o δ ZX ta).bind λx=>(ev o δ ZX tb).bind λy=>jT x.2 y.2)=((ev o δ ZX ta).bind λx=>(ev o δ ZX tb).bind λy=>idxD x.2 y.2):=by
   cases e:ev o δ ZX ta with
   | ok r=>
     show((ev o δ ZX tb).bind λy=>jT r.2 y.2)=((ev o δ ZX tb).bind λy=>idxD r.2 y.2)
     congr 1
     funext y
     cases e2:r.2 with
     | dct ks vs=>exact absurd ⟨r,ks,vs,e,e2⟩ hd
     | _=>rfl
   | exc c=>rfl
   | stuck=>rfl
  show After X W lk σ H (Hid B σ δ) ((ev o δ ZX ta).bind λx=>(ev o δ ZX tb).bind λy=>jT x.2 y.2) Q;rw[e];exact h
def yc{f:Expr->Option T}(hf:∀e t,f e=Z_ t->Right X W o e t){vs:List Expr}{t:T}{pos:Pos}(h:trJ f vs=Z_ t)(lk:Bool):PE X (.JoinedStr vs pos) (tD X W lk fun δ=>ev o δ lk t):=by unfold trJ at h;cases h
def sndE:∀(n:Nat){X:Cx}{tc:Tc},(X.xe=λ_ _=>False)->Fits X W tc o k->∀(e:Expr)(t:T),trE n tc e=Z_ t->Right X W o e t:=by
 intro n
 induction n with
 | zero=>intro X tc hx F e t h;exact nope h
 | succ n ih'=>
   intro X tc hx F e t h
   have ih:=λe t h=>ih' hx F e t h
   cases e with
   | Name x pos=>
     rw[aZ]at h;delta trEb at h;dsimp only at h;split at h
     .rename_i hv
      obtain⟨h1,h2,h3⟩:=eE F hv
      cases e1:aW tc.N x with
      | none=>rw[e1]at h;cases h
      | some i=>
        rw[e1]at h;cases h;exact aQ (λlk=>Ob (by rw[F.N];exact aO e1) h1 h2 h3 o) (λ_=>rfl)
     .split at h
      .rename_i hc
       simp only[QR,Rf]at hc;split at h
       .rename_i d e1
        cases h;obtain⟨u,v,m1,m2,m3⟩:=F.gv x d e1;exact aQ (λlk=>uz (HR (cu F hc.1) m1 m2 hc.2) m3 o) (λ_=>rfl)
       .cases h
      .cases h
   | IfExp c a b pos=>
     rw[aZ]at h;delta trEb at h;dsimp only at h
     cases e1:trE n tc c with
     | none=>rw[e1]at h;cases h
     | some u1=>
       cases e2:trE n tc a with
       | none=>simp[e1,e2]at h
       | some u2=>
         cases e3:trE n tc b with
         | none=>simp[e1,e2,e3]at h
         | some u3=>
           simp[e1,e2,e3]at h;subst h;exact⟨λlk=>Oe (ih c u1 e1).2 ((ih a u2 e2).1 lk) ((ih b u3 e3).1 lk),O5 (ih c u1 e1).2 (ih a u2 e2).2 (ih b u3 e3).2⟩
   | Constant c j pos=>
     rw[aZ]at h;delta trEb at h;dsimp only at h
     cases e1:gQ c with
     | none=>rw[e1]at h;cases h
     | some d=>
       rw[e1]at h;cases h;exact aQ (λlk=>Bg e1 lk) (λ_=>rfl)
   | BinOp a op b pos=>
     rw[aZ]at h;delta trEb at h;dsimp only at h
     cases e1:trOp op with
     | none=>rw[e1]at h;cases h
     | some p=>
       cases e2:trE n tc a with
       | none=>simp[e1,e2]at h
       | some ta=>
         cases e3:trE n tc b with
         | none=>simp[e1,e2,e3]at h
         | some tb=>
           simp[e1,e2,e3]at h;subst h;exact aQ (λlk=>Ka F e1 ((ih a ta e2).1 ZX) ((ih b tb e3).1 ZX) lk) (λ_=>rfl)
   | UnaryOp op a pos=>
     cases op<;>first | exact nope h | (rw[aZ]at h;delta trEb at h;dsimp only at h)
     all_goals
      cases e1:trE n tc a with
      | none=>rw[e1]at h;cases h
      | some ta=>
        rw[e1]at h;cases h
        first
         | exact⟨λlk=>iC (Qu ((ih a ta e1).1 ZX)) fun δ=>by simp only[ev],Cu (K7 (ih a ta e1).2) fun δ=>by simp only[ev]⟩
         | exact aQ (λlk=>Qq ((ih a ta e1).1 ZX)) (λ_=>rfl)
   | Compare a ops cs pos=>
     match ops,cs,h with
     | [op],[b],h=>
       rw[aZ]at h;delta trEb at h;dsimp only at h;split at h
       .cases h
       .rename_i hm
        cases ek:CN tc (trE n tc) op a b with
        | some t'=>
          rw[ek]at h;cases h;exact Mt F ih ek (by simpa using hm)
        | none=>
        rw[ek]at h;dsimp only at h
        cases e1:Bm op with
        | none=>rw[e1]at h;cases h
        | some p=>
          cases e2:trE n tc a with
          | none=>simp[e1,e2]at h
          | some ta=>
            cases e3:trE n tc b with
            | none=>simp[e1,e2,e3]at h
            | some tb=>
              simp[e1,e2,e3]at h;subst h;exact K3 F e1 (by simpa using hm) ((ih a ta e2).1 ZX) ((ih b tb e3).1 ZX)
     | [],_,h=>exact nope h
     | _::_::_,_,h=>exact nope h
     | [_],[],h=>exact nope h
     | [_],_::_::_,h=>exact nope h
   | BoolOp op vs pos=>
     cases op with
     | And=>
       rw[aZ]at h;delta trEb at h;dsimp only at h;obtain⟨h1,h2⟩:=t8 (pos:=pos) ih h;exact⟨h1,h2.pt⟩
     | Or=>
       rw[aZ]at h;delta trEb at h;dsimp only at h;obtain⟨h1,h2⟩:=vC (pos:=pos) ih h;exact⟨h1,h2.pt⟩
   | Tuple es kk pos=>
     rw[aZ]at h;delta trEb at h;dsimp only at h;split at h
     .cases h
     .rename_i hst
      cases e1:trL (trE n tc) es with
      | none=>rw[e1]at h;cases h
      | some l=>
        rw[e1]at h;cases h;exact aQ (λlk=>O9 (dh (λe t h=>(ih e t h).1) e1 (by simpa using hst))) (λ_=>rfl)
   | List es pos=>
     rw[aZ]at h;delta trEb at h;dsimp only at h;split at h
     .cases h
     .rename_i hst
      cases e1:trL (trE n tc) es with
      | none=>rw[e1]at h;cases h
      | some l=>
        rw[e1]at h;cases h;exact aQ (λlk=>Q9 (dh (λe t h=>(ih e t h).1) e1 (by simpa using hst))) (λ_=>rfl)
   | Dict ks vs pos=>
     match ks,vs,h with
     | [],[],h=>
       rw[aZ]at h;delta trEb at h;simp only[QX]at h;subst h;exact aQ (λlk=>Ip) (λ_=>rfl)
     | [],_::_,h=>exact nope h
     | k0::ks,vs,h=>
       rw[aZ]at h;delta trEb at h;dsimp only at h;split at h
       .rename_i hq
        exact aQ (λlk=>Qm hq h lk) (λ_=>rfl)
       .cases h
   | ListComp elt gens scope pos=>
     match gens,h with
     | [g],h=>
       rw[aZ]at h;delta trEb at h;dsimp only at h;split at h
       .rename_i h0
        obtain⟨tg,iter,ifs,as⟩:=g;simp only at h0 h;subst h0;obtain⟨N,m,caps,tup,g,it,c,e,rfl,A⟩:=vH hx F (λX' tc' hx' F' e t h=>ih' hx' F' e t h) h;exact aQ (λlk=>De A) (λ_=>rfl)
       .cases h
     | [],h=>exact nope h
     | _::_::_,h=>exact nope h
   | Subscript a b pos=>
     by_cases hs:∃lo hi p2,b=.Slice lo hi none p2
     .obtain⟨lo,hi,p2,rfl⟩:=hs
      rw[aZ]at h;delta trEb at h;dsimp only at h
      cases e1:trE n tc a with
      | none=>rw[e1]at h;cases h
      | some ta=>
        cases e2:pY (trE n tc) lo with
        | none=>simp[e1,e2]at h
        | some tl=>
          cases e3:pY (trE n tc) hi with
          | none=>simp[e1,e2,e3]at h
          | some th=>
            simp[e1,e2,e3]at h;subst h;exact aQ (λlk=>iC (Qc La (Ge F.K) ((ih a ta e1).1 ZX) (Dh ih e2) (Dh ih e3)) fun δ=>by simp only[ev]) (λ_=>rfl)
     .have h':(if isSlice b then none else(match GK tc a with
       | some q=>(trE n tc b).map λi=>T.kidx q.1 q.2 i
       | none=>(trE n tc a).bind λt=>(trE n tc b).map λi=>Xv t i))=Z_ t:=by
       cases b<;>first | exact h | skip
       rename_i lo hi st p2
       cases st with
       | none=>exact absurd ⟨lo,hi,p2,rfl⟩ hs
       | some st=>exact nope h
      cases hsl:isSlice b with
      | true=>simp[hsl]at h'
      | false=>
        simp only[hsl,QW,if_false]at h'
        cases e0:GK tc a with
        | some q=>exact nope e0
        | none=>
        rw[e0]at h';simp only at h'
        cases e1:trE n tc a with
        | none=>rw[e1]at h';cases h'
        | some ta=>
          cases e2:trE n tc b with
          | none=>simp[e1,e2]at h'
          | some tb=>
            simp[e1,e2]at h';subst h';exact aQ (λlk=>Ql F ((ih a ta e1).1 ZX) ((ih b tb e2).1 ZX) hsl lk) (λ_=>rfl)
   | Call f args kws pos=>
     match f,kws,h with
     | .Name x p,[],h=>
       rw[aZ]at h;delta trEb at h;dsimp only at h;exact aQ (λlk=>GR F ih h lk) (λ_=>rfl)
     | .Attribute a name apos,[],h=>
       rw[aZ]at h;delta trEb at h;dsimp only at h;split at h
       .exact aQ (λlk=>Mv F ih h rfl lk) (λ_=>rfl)
       .exact aQ (λlk=>Gz F ih h rfl lk) (λ_=>rfl)
     | .Name x p,[kw],h=>
       match args,kw,h with
       | [a],⟨some nm,b,kp⟩,h=>
         rw[aZ]at h;delta trEb at h;dsimp only at h;split at h
         .rename_i ex
          subst ex;exact aQ (λlk=>Io F ih h lk) (λ_=>rfl)
         .cases h
       | [_],⟨none,_,_⟩,h=>exact nope h
       | [],⟨some _,_,_⟩,h | [],⟨none,_,_⟩,h=>exact nope h
       | _::_::_,⟨some _,_,_⟩,h | _::_::_,⟨none,_,_⟩,h=>exact nope h
     | .Name x p,⟨some _,_,_⟩::_::_,h | .Name x p,⟨none,_,_⟩::_::_,h=>rcases args with _ | ⟨_,_ | _⟩<;>exact nope h
     | .Attribute ..,_::_,h=>exact nope h
     | .BoolOp ..,_,h=>exact nope h
     | .NamedExpr ..,_,h=>exact nope h
     | .BinOp ..,_,h=>exact nope h
     | .UnaryOp ..,_,h=>exact nope h
     | .Lambda ..,_,h=>exact nope h
     | .IfExp ..,_,h=>exact nope h
     | .Dict ..,_,h=>exact nope h
     | .Set ..,_,h=>exact nope h
     | .ListComp ..,_,h=>exact nope h
     | .SetComp ..,_,h=>exact nope h
     | .DictComp ..,_,h=>exact nope h
     | .GeneratorExp ..,_,h=>exact nope h
     | .Await ..,_,h=>exact nope h
     | .Yield ..,_,h=>exact nope h
     | .YieldFrom ..,_,h=>exact nope h
     | .Compare ..,_,h=>exact nope h
     | .Call ..,_,h=>exact nope h
     | .FormattedValue ..,_,h=>exact nope h
     | .JoinedStr ..,_,h=>exact nope h
     | .Constant ..,_,h=>exact nope h
     | .Subscript ..,_,h=>exact nope h
     | .Starred ..,_,h=>exact nope h
     | .List ..,_,h=>exact nope h
     | .Tuple ..,_,h=>exact nope h
     | .Slice ..,_,h=>exact nope h
   | JoinedStr vs pos=>
     rw[aZ]at h;delta trEb at h;dsimp only at h;exact aQ (λlk=>yc ih h lk) (λ_=>rfl)
   | Attribute a name pos=>
     rw[aZ]at h;delta trEb at h;dsimp only at h;split at h
     .rename_i hc
      simp only[QR]at hc
      cases e1:trE n tc a with
      | none=>rw[e1]at h;cases h
      | some u=>
        rw[e1]at h;cases h;exact aQ (λlk=>Qv (cH name).symm (nW F hc.1) ((ih a u e1).1 ZX) (dJ hc.2)) (λ_=>rfl)
     .cases h
   | _=>exact nope h
end
noncomputable def gr:Expr->Bool
 | .ListComp ..=>true
 | .SetComp ..=>true
 | .DictComp ..=>true
 | _=>false
noncomputable def aL(tc:Tc):List Expr->Option (List Nat)
 | []=>some []
 | .Name x _::es=>if locB tc.sc x then(aW tc.N x).bind λi=>(aL tc es).map λl=>i::l else none
 | _=>none
noncomputable def trTg(tc:Tc):Expr->Option (List Nat×Bool)
 | .Name x _=>if locB tc.sc x then(aW tc.N x).map λi=>([i],ZZ)else none
 | .Tuple es _ _=>(aL tc es).map λl=>(l,ZX)
 | _=>none
noncomputable def trSs(f:Stmt->Option S):List Stmt->Option SL
 | []=>some .nil
 | s::ss=>(f s).bind λt=>(trSs f ss).map λl=>.cons t l
noncomputable def isName:Expr->Bool
 | .Name ..=>true
 | _=>false
noncomputable def JX:T->Bool
 | .var _=>true
 | _=>false
def aK:Nat:=40
noncomputable def qw:Expr->Bool
 | .ListComp _ [g] _ _=>decide (g.is_async=0)
 | _=>false
noncomputable def trA(tc:Tc)(tgs:List Expr)(e:Expr):Option S:=match tgs with
 | [.Name x _]=>if locB tc.sc x&&(!gr e||qw e)then(aW tc.N x).bind λi=>(trE aK tc e).map λt=>.set i t else none
 | [.Subscript (.Name x _) k _]=>if visB tc.sc x&&!isSlice k&&!gr e then(aW tc.N x).bind λi=>(trE aK tc k).bind λtk=>(trE aK tc e).map λt=>.seti i tk t else none
 | [.Attribute (.Name x _) fn _]=>if visB tc.sc x&&(namesOf tc "!f").contains fn.cps.toList then(aW tc.N x).bind λi=>(trE aK tc e).map λt=>.setf i fn.cps.toList t else none
 | _=>none
noncomputable def HW(tc:Tc)(tgs:List Expr)(e:Expr):Option S:=ZW
noncomputable def wK(tc:Tc)(i:Nat):Bool:=match tc.gl.lookup ("!":Str)with
 | some (.mark l)=>l.contains i
 | _=>false
noncomputable def trSx(tc:Tc)(tgs:List Expr)(e:Expr):Option S:=match tgs,e with
 | [.Name y _],.Call (.Name x _) args [] _=>(match tc.gl.lookup x with
   | some (.fn i np)=>if wK tc i&&locB tc.sc y&&glB tc.sc x&&!(x==("__debug__":Str))&&!(args.any aC)&&decide (args.length=np)&&!args.isEmpty then(aW tc.N y).bind λj=>(trL (trE aK tc) args).map λl=>.setx j i l else none
   | _=>none)
 | _,_=>none
noncomputable def trA2(tc:Tc)(tgs:List Expr)(e:Expr):Option S:=match trSx tc tgs e with
 | some t=>some t
 | none=>match HW tc tgs e with
   | some t=>some t
   | none=>trA tc tgs e
noncomputable def trX(tc:Tc)(e:Expr):Option S:=match e with
 | .Call (.Attribute (.Name x px) m apos) [e] [] cpos=>if m="append" then(if visB tc.sc x&&!aC e&&(apos.endLine==cpos.line)then(aW tc.N x).bind λi=>(trE aK tc e).map λt=>.append i t else none)else none
 | .Call (.Name x _) args [] _=>(match tc.gl.lookup x with
   | some (.fn i np)=>if glB tc.sc x&&!(x==("__debug__":Str))&&!(args.any aC)&&decide (args.length=np)&&!args.isEmpty then(trL (trE aK tc) args).map λl=>.expr (.call i l)else none
   | _=>none)
 | _=>none
noncomputable def pW(tc:Tc)(e:Option Expr)(cs:Option Expr):Option S:=match e,cs with
 | some (.Call (.Name x _) [a] [] _),none=>if glB tc.sc x&&!(x==("__debug__":Str))&&!aC a then(clOf tc.gl x).bind λc=>(trE aK tc a).map λt=>.raise c t else none
 | _,_=>none
noncomputable def Hu(f:Stmt->Option S)(tc:Tc)(body:List Stmt)(hs:List ExceptHandler):Option S:=match hs with
 | [.ExceptHandler (Z_ (.Name cx _)) none [.Return (Z_ (.Constant (.bool cv) _ _)) _] _]=>if glB tc.sc cx&&!(cx==("__debug__":Str))then
  (clOf tc.gl cx).bind λc=>(trSs f body).map λb=>.try_ b c none (.cons (.ret (.cst (.bl cv))) .nil)else none
 | _=>none
noncomputable def trSb(f:Stmt->Option S)(tc:Tc)(st:Stmt):Option S:=match st with
 | .Assign tgs e _=>trA2 tc tgs e
 | .If c a b _=>(trE aK tc c).bind λt=>(trSs f a).bind λu=>(trSs f b).map λv=>.ifs t u v
 | .For tg iter body [] _=>(trTg tc tg).bind λg=>(trI tc (trE aK tc) (mY tg) iter).bind λit=>(trSs f body).map λb=>.for_ g.1 g.2 it b
 | .While c body [] _=>(trE aK tc c).bind λt=>(trSs f body).map λb=>.while_ t b
 | .Return (Z_ e) _=>(trE aK tc e).bind λt=>if JX t&&!isName e then none else some (.ret t)
 | .Expr e _=>trX tc e
 | .Raise e c _=>pW tc e c
 | .Try body hs [] [] _=>Hu f tc body hs
 | _=>none
noncomputable def wrB(tc:Tc)(x:Str):Bool:=(namesOf tc "!w").contains x.cps.toList
noncomputable def trMc(tc:Tc)(x:Str)(args:List Expr):Option TM:=match args with
 | .Name s _::es=>(match tc.gl.lookup x with
   | some (.fn f np)=>if glB tc.sc x&&!(x==("__debug__":Str))&&visB tc.sc s&&!(es.any aC)&&decide (es.length+1=np)then(aW tc.N s).bind λi=>(trL (trE aK tc) es).map λl=>.call f i l else none
   | _=>none)
 | _=>none
noncomputable def trMm(tc:Tc)(a:Expr)(m:Str)(args:List Expr)(ok:Bool):Option TM:=match a with
 | .Name s _=>if ok&&visB tc.sc s&&!(args.any aC)&&decide (args.length<20)then(aW tc.N s).bind λi=>(trL (trE aK tc) args).map λl=>.meth m.cps.toList i l else none
 | _=>none
noncomputable def trML(f:Expr->Option (Bool×TM)):List Expr->Option (Bool×TML)
 | []=>some (ZZ,.nil)
 | e::es=>(f e).bind λt=>(trML f es).map λl=>(t.1||l.1,.cons t.2 l.2)
noncomputable def trMb(f:Expr->Option (Bool×TM))(tc:Tc)(e:Expr):Option (Bool×TM):=match e with
 | .Call (.Name x _) args [] _=>if wrB tc x then(trMc tc x args).map λt=>(ZX,t)else(match tc.gl.lookup x with
   | some (.fn g np)=>if glB tc.sc x&&!(x==("__debug__":Str))&&!(args.any aC)&&decide (args.length=np)&&!args.isEmpty then(trML f args).bind λl=>if l.1 then some (ZX,.fn g l.2)else none else none
   | _=>none)
 | .Call (.Attribute a m apos) args [] cpos=>if wrB tc m then(trMm tc a m args (apos.endLine==cpos.line)).map λt=>(ZX,t)else none
 | .Tuple es _ _=>if es.any aC then none else(trML f es).bind λl=>if l.1 then some (ZX,.tup l.2)else none
 | .List es _=>if es.any aC then none else(trML f es).bind λl=>if l.1 then some (ZX,.lst l.2)else none
 | .IfExp c a b _=>(trE aK tc c).bind λt=>(f a).bind λx=>(f b).bind λy=>if x.1||y.1 then some (ZX,.ite t x.2 y.2)else none
 | _=>none
noncomputable def trM:Nat->Tc->Expr->Option (Bool×TM)
 | 0,_,_=>none
 | n+1,tc,e=>match trMb (trM n tc) tc e with
   | some t=>some t
   | none=>(trE aK tc e).map λt=>(ZZ,.pure t)
noncomputable def trMt(tc:Tc)(e:Expr):Option TM:=match trM 6 tc e with
 | some (ZX,t)=>some t
 | _=>none
noncomputable def trMa(tc:Tc)(e:Expr):Option S:=match e with
 | .Call (.Attribute (.Name x _) m apos) [e] [] cpos=>if m="append" then(if visB tc.sc x&&!aC e&&(apos.endLine==cpos.line)then(aW tc.N x).bind λi=>(trMt tc e).map λt=>.mapp i t else none)else none
 | _=>none
noncomputable def trMk(tc:Tc)(x:Str)(e:Expr):Option S:=match e with
 | .Call (.Name z _) [.Call (.Name y _) args [] _] [] _=>(match tc.gl.lookup y with
   | some (.fn i np)=>if wK tc i&&locB tc.sc x&&glB tc.sc z&&glB tc.sc y&&!(z==("__debug__":Str))&&!(y==("__debug__":Str))&&!(args.any aC)&&decide (args.length=np)&&!args.isEmpty then(iD tc.gl z).bind λc=>(aW tc.N x).bind λj=>(trL (trE aK tc) args).map λl=>.mkx j c i l else none
   | _=>none)
 | _=>none
noncomputable def trSm(tc:Tc)(st:Stmt):Option S:=if(namesOf tc "!w").isEmpty then none else match st with
 | .Assign [.Name x _] e _=>(match trMt tc e with
   | some t=>if locB tc.sc x&&!gr e then(aW tc.N x).map λi=>.mset i t else none
   | none=>trMk tc x e)
 | .Return (Z_ e) _=>(trMt tc e).map .mret
 | .Expr e _=>(match trMt tc e with
   | some t=>if gr e then none else some (.mexp t)
   | none=>trMa tc e)
 | _=>none
noncomputable def trS:Nat->Tc->Stmt->Option S
 | 0,_,_=>none
 | n+1,tc,st=>match trSm tc st with
   | some t=>some t
   | none=>some ((trSb (trS n tc) tc st).getD fJ)
def Ck{n:Nat}{tc:Tc}{st:Stmt}{t:S}(h:trS (n+1) tc st=Z_ t):trSm tc st=Z_ t\/trSb (trS n tc) tc st=Z_ t\/t=fJ:=by
 have h:(match trSm tc st with | some t=>some t | none=>some ((trSb (trS n tc) tc st).getD fJ))=Z_ t:=h
 cases e0:trSm tc st with
 | some u=>rw[e0]at h;exact .inl h
 | none=>
 rw[e0]at h
 cases e:trSb (trS n tc) tc st with
 | none=>rw[e]at h;cases h;exact .inr (.inr rfl)
 | some u=>rw[e]at h;cases h;exact .inr (.inl rfl)
structure FitsS(X:Cx)(W:Wd)(tc:Tc)(o:Orc)(k:Nat):Prop extends Fits X W tc o k where
 fn:∀x,X.fn x=ZX
 pass:Us (Rm X.prog X.w) X.A X.env X.xe
 stk:X.stack=X.env::X.outer
 frm:X.env.frame=Z_ X.env.locals
 gB:∀x i np,tc.gl.lookup x=Z_ (.fn i np)->∃f fd ps,X.mg x=Z_ (.ref f)/\Rj X.K (.ref f)=ZX/\Binds X.K fd ps []/\FnOk X.prog X.w X.K X.mg X.base (CXZ X.prog X.w X.base W) k f fd ps (spB W (o.fn i) np)
 mB:∀c m f,o.meth c m=Z_ f->∃np,QF X W o k c f np (strV m)
 gM:∀x i np,tc.gl.lookup x=Z_ (.fn i np)->∃f fd ps,X.mg x=Z_ (.ref f)/\Rj X.K (.ref f)=ZX/\Binds X.K fd ps []/\(∀s a r,o.mu i s a=.ok r->a.length+1=np)/\FnOk X.prog X.w X.K X.mg X.base CX0 k f fd ps (spM W (o.mu i) np)
 mM:∀c m f,o.meth c m=Z_ f->∃np,u6 X W o k c f np (strV m)
theorem Fits.nox{X:Cx}{W:Wd}{tc:Tc}{o:Orc}{k:Nat}(F:Fits X W tc o k):Fits X.nox W tc o k:=⟨F.N,F.nd,F.sc,F.K,F.room,F.calm,F.gf,F.gb,F.gv,F.gd,F.xf,F.gdf,F.ob⟩
theorem Right.lift{X:Cx}{W:Wd}{o:Orc}{e:Expr}{t:T}(h:Right X.nox W o e t):Right X W o e t:=⟨λlk=>PE.lift (h.1 lk),PT.lift h.2⟩
def sndX(n:Nat){X:Cx}{W:Wd}{tc:Tc}{o:Orc}{k:Nat}(F:Fits X W tc o k)(e:Expr)(t:T)(h:trE n tc e=Z_ t):Right X W o e t:=Right.lift (sndE n rfl F.nox e t h)
section
variable{X:Cx}{W:Wd}{tc:Tc}{o:Orc}{k:Nat}
def fQ(F:Fits X W tc o k){x:Str}(h:locB tc.sc x=ZX):Loc X.env.scope x:=by
 unfold locB at h;rw[F.sc];unfold L2.Loc;split at h
 .rename_i e;exact .inl e
 .rename_i e;exact .inr e
 .cases h
def passes(F:FitsS X W tc o k):Us (Rm X.prog X.w) X.A X.env X.xe:=F.pass
def Bj{i:Nat}{e:T}:∀δ c δ',evS o (.set i e) δ≠.ex c δ':=fun δ c δ' h=>by
 simp only[evS]at h
 cases e1:(evF o δ e).2 with
 | ok r=>
   rw[e1]at h;have h:aB ((setSlot (evF o δ e).1 i r.1 r.2).map .nx)=.ex c δ':=h
   cases e2:setSlot (evF o δ e).1 i r.1 r.2 with
   | none=>rw[e2]at h;cases h
   | some δ1=>rw[e2]at h;cases h
 | exc c=>rw[e1]at h;cases h
 | stuck=>rw[e1]at h;cases h
def lD{e:Expr}{t:Option Expr}{l:Nat}{env:Env}(h:gr e=ZZ):Uc e t l env=pure ZZ:=by
 cases e<;>first | rfl | (simp[gr]at h)
theorem tH(F:FitsS X W tc o k):∀{es:List Expr}{is:List Nat},aL tc es=Z_ is->PGs X es (fL is)/\(T7 es X.env).length=is.length/\(T7 es X.env).findIdx? (·.1)=ZW
 | [],is,h=>by
   simp only[aL,QX]at h;subst h;exact⟨yj,rfl,rfl⟩
 | .Name x p::es,is,h=>by
   simp only[aL]at h;split at h
   .rename_i hl
    cases e1:aW tc.N x with
    | none=>rw[e1]at h;cases h
    | some i=>
      cases e2:aL tc es with
      | none=>simp[e1,e2]at h
      | some l=>
        simp[e1,e2]at h;subst h;obtain⟨h1,h2,h3⟩:=tH F e2;refine⟨tK (mH (by rw[F.N];exact F.nd) (by rw[F.N];exact aO e1) (fQ F.toFits hl) (.inl (F.fn x))) h1,?_,?_⟩
        .show(T7 es X.env).length+1=_
         rw[h2];rfl
        .show List.findIdx? (·.1) ((ZZ,VG (.Name x p) X.env)::T7 es X.env)=ZW
         rw[List.findIdx?_cons,h3];rfl
   .cases h
 | .BoolOp ..::_,_,h=>by simp[aL]at h
 | .NamedExpr ..::_,_,h=>by simp[aL]at h
 | .BinOp ..::_,_,h=>by simp[aL]at h
 | .UnaryOp ..::_,_,h=>by simp[aL]at h
 | .Lambda ..::_,_,h=>by simp[aL]at h
 | .IfExp ..::_,_,h=>by simp[aL]at h
 | .Dict ..::_,_,h=>by simp[aL]at h
 | .Set ..::_,_,h=>by simp[aL]at h
 | .ListComp ..::_,_,h=>by simp[aL]at h
 | .SetComp ..::_,_,h=>by simp[aL]at h
 | .DictComp ..::_,_,h=>by simp[aL]at h
 | .GeneratorExp ..::_,_,h=>by simp[aL]at h
 | .Await ..::_,_,h=>by simp[aL]at h
 | .Yield ..::_,_,h=>by simp[aL]at h
 | .YieldFrom ..::_,_,h=>by simp[aL]at h
 | .Compare ..::_,_,h=>by simp[aL]at h
 | .Call ..::_,_,h=>by simp[aL]at h
 | .FormattedValue ..::_,_,h=>by simp[aL]at h
 | .JoinedStr ..::_,_,h=>by simp[aL]at h
 | .Constant ..::_,_,h=>by simp[aL]at h
 | .Attribute ..::_,_,h=>by simp[aL]at h
 | .Subscript ..::_,_,h=>by simp[aL]at h
 | .Starred ..::_,_,h=>by simp[aL]at h
 | .List ..::_,_,h=>by simp[aL]at h
 | .Tuple ..::_,_,h=>by simp[aL]at h
 | .Slice ..::_,_,h=>by simp[aL]at h
def QB(F:FitsS X W tc o k){tg:Expr}{g:List Nat×Bool}(h:trTg tc tg=Z_ g):∃gg,TgOk X W tg g.1 g.2 gg:=by
 cases tg<;>first | exact nope h | simp only[trTg]at h
 .split at h
  .rename_i hl
   rename_i x p
   cases e1:aW tc.N x with
   | none=>rw[e1]at h;cases h
   | some i=>
     rw[e1]at h;cases h;exact⟨_,G4 (by rw[F.N];exact F.nd) (by rw[F.N];exact aO e1) (fQ F.toFits hl) (.inl (F.fn x))⟩
  .cases h
 .rename_i es kk p
  cases e1:aL tc es with
  | none=>rw[e1]at h;cases h
  | some l=>
    rw[e1]at h;cases h;obtain⟨h1,h2,h3⟩:=tH F e1;exact⟨_,Kw F.K F.calm h1 h2 h3⟩
theorem qm{f:Stmt->Option S}(hf:∀s t,f s=Z_ t->PS X s (tS X W (evS o t))):∀{ss:List Stmt}{l:SL},trSs f ss=Z_ l->PSs X ss (tS X W (evSs o l))
 | [],l,h=>by
   simp only[trSs,QX]at h;subst h;exact Dc o
 | s::ss,l,h=>by
   simp only[trSs]at h
   cases e1:f s with
   | none=>rw[e1]at h;cases h
   | some t=>
     rw[e1]at h
     cases e2:trSs f ss with
     | none=>simp[e2]at h
     | some l'=>
       simp[e2]at h;subst h;exact yt (hf s t e1) (qm hf e2)
def uw{o' k:Expr}{pp:Pos}{env:Env}(h:isSlice k=ZZ)(v:Value):VG (.Subscript o' k pp) env v=(do
 let ov <-TX [v] (S8 o' env)
 let iv <-TX [v,ov] (S8 k env)
 Vk pp
 TX [v,ov,iv] (Xd ov iv v)
 release [v,ov,iv] []):=by
 cases k<;>first | rfl | (simp[isSlice]at h)
def Jd{o' k e:Expr}{pp:Pos}{l:Nat}{env:Env}(h:gr e=ZZ):swapsWithSole [.Subscript o' k pp] e l env=pure ZZ:=by
 cases e<;>first | rfl | (simp[gr]at h)
def xq{o' k e:Expr}{pp:Pos}{env:Env}:swappedStores [.Subscript o' k pp] e env=pure none:=by
 cases e<;>rfl
def O3(F:FitsS X W tc o k){tgs:List Expr}{e:Expr}{t:S}{pos:Pos}(h:trA tc tgs e=Z_ t):PS X (.Assign tgs e pos) (tS X W (evS o t)):=by
 have E:=λe t h=>sndX aK F.toFits e t h
 unfold trA at h;split at h
 .rename_i x px
  split at h
  .rename_i hc
   simp only[QR,V1,Rf]at hc
   cases e1:aW tc.N x with
   | none=>rw[e1]at h;cases h
   | some i=>
     cases e2:trE aK tc e with
     | none=>simp[e1,e2]at h
     | some u=>
       simp[e1,e2]at h;subst h
       have hnd:X.N.Nodup:=by rw[F.N];exact F.nd
       have hni:X.N[i]?=Z_ x:=by rw[F.N];exact aO e1
       by_cases hcomp:gr e=ZX
       .have hc1:qw e=ZX:=by
         rcases hc.2 with z | z
         .rw[hcomp]at z;cases z
         .exact z
        unfold qw at hc1;split at hc1
        .rename_i elt g scope epos
         have hg0:g.is_async=0:=of_decide_eq_true hc1;obtain⟨tg,iter,ifs,as⟩:=g;simp only at hg0;subst hg0;rw[show aK=39+1 from rfl,CG,if_pos rfl]at e2;obtain⟨N,m,caps,tup,g,it,c,e,rfl,A⟩:=vH (X:=X.nox) rfl F.toFits.nox (λX' tc' hx' F' e t h=>sndE 39 hx' F' e t h) e2;refine PS.lift (Ld (bsw:=X.env.blockKind==.function&&X.env.kindOf x==Z_ .local&&px.line==epos.line&&!(scope.names.any λ(n,k)=>n==x&&(k==.local||k==.cell))) A hnd hni (fQ F.toFits hc.1) (.inl (F.fn x)) (λhb=>?_) rfl) Bj;simp only[QR,beq_iff_eq]at hb;exact hb.1.1.2
        .cases hc1
       .exact zu hnd hni (fQ F.toFits hc.1) ((E e u e2).1 ZZ) (lD (by simpa using hcomp)) (.inl (F.fn x))
  .cases h
 .rename_i x p kx pos'
  split at h
  .rename_i hc
   simp only[QR,Rf]at hc;obtain⟨⟨hv,hsl⟩,hcp⟩:=hc
   cases e1:aW tc.N x with
   | none=>rw[e1]at h;cases h
   | some i=>
     cases e2:trE aK tc kx with
     | none=>simp[e1,e2]at h
     | some tk=>
       cases e3:trE aK tc e with
       | none=>simp[e1,e2,e3]at h
       | some u=>
         simp[e1,e2,e3]at h;subst h;obtain⟨h1,h2,h3⟩:=eE F.toFits hv;exact Hz F.K (wM F.room) (iw (by rw[F.N];exact aO e1) h1 h2 h3) ((E kx tk e2).1 ZX) ((E e u e3).1 ZZ) (uw hsl) (Jd hcp) xq rfl
  .cases h
 .rename_i x p fn pos'
  split at h
  .rename_i hc
   simp only[QR]at hc
   cases e1:aW tc.N x with
   | none=>rw[e1]at h;cases h
   | some i=>
     cases e3:trE aK tc e with
     | none=>simp[e1,e3]at h
     | some u=>
       simp[e1,e3]at h;subst h;obtain⟨h1,h2,h3⟩:=eE F.toFits hc.1;exact Jp (cH fn).symm (nW F.toFits hc.2) (iw (by rw[F.N];exact aO e1) h1 h2 h3) ((E e u e3).1 ZZ)
  .cases h
 .cases h
def Bx(F:FitsS X W tc o k){tgs:List Expr}{e:Expr}{t:S}{pos:Pos}(h:HW tc tgs e=Z_ t):PS X (.Assign tgs e pos) (tS X W (evS o t)):=by unfold HW at h;cases h
def Iw(F:FitsS X W tc o k){tgs:List Expr}{e:Expr}{t:S}{pos:Pos}(h:trSx tc tgs e=Z_ t):PS X (.Assign tgs e pos) (tS X W (evS o t)):=by
 have E:=λe t h=>sndX aK F.toFits e t h
 unfold trSx at h;split at h
 .rename_i y py x p args cp
  split at h
  .rename_i i np ei
   split at h
   .rename_i hc
    simp only[QR,Rf,decide_eq_true_eq]at hc;obtain⟨⟨⟨⟨⟨⟨hra,hl⟩,hg⟩,hdb⟩,hst⟩,hlen⟩,hne⟩:=hc
    cases e0:aW tc.N y with
    | none=>rw[e0]at h;cases h
    | some j=>
    cases e2:trL (trE aK tc) args with
    | none=>simp[e0,e2]at h
    | some l=>
      simp[e0,e2]at h;subst h
      cases args with
      | nil=>cases hne
      | cons a as=>
        have hst':=hst;simp only[RN,Rp]at hst';obtain⟨fa,fd,ps,h1,h2,h3,h4⟩:=F.gB x i np ei;obtain⟨fa',fd',ps',g1,g2,g3,g4⟩:=F.gf x i np ei;have hpa:=dh (X:=X) (W:=W) (o:=o) (λe t h=>(E e t h).1) e2 hst
        have hn:∀δ r,evL o δ l=.ok r->r.2.length=np:=fun δ r e=>by rw[j8 e2 δ r e];exact hlen
        exact Jl hn h4 F.room (cu F.toFits hg) h1 h2 h3 hpa hdb (bL hst'.1) (bM hst'.2) (rW hn g4 F.room (cu F.toFits hg) g1 g2 g3 hpa hdb (bL hst'.1) (bM hst'.2)) (by rw[F.N];exact F.nd) (by rw[F.N];exact aO e0) (fQ F.toFits hl) (.inl (F.fn y))
   .cases h
  .cases h
 .cases h
def Hs(F:FitsS X W tc o k){tgs:List Expr}{e:Expr}{t:S}{pos:Pos}(h:trA2 tc tgs e=Z_ t):PS X (.Assign tgs e pos) (tS X W (evS o t)):=by
 unfold trA2 at h;split at h
 .rename_i t' e1
  cases h;exact Iw F e1
 .split at h
  .rename_i t' e1
   cases h;exact Bx F e1
  .exact O3 F h
def Ks(F:FitsS X W tc o k){e:Expr}{t:S}{pos:Pos}(h:trX tc e=Z_ t):PS X (.Expr e pos) (tS X W (evS o t)):=by
 have E:=λe t h=>sndX aK F.toFits e t h
 unfold trX at h;split at h
 .rename_i x p m apos e cpos
  split at h
  .rename_i ex
   subst ex;split at h
   .rename_i hc
    simp only[QR,Rf]at hc;obtain⟨h1,h2,h3⟩:=eE F.toFits hc.1.1
    cases e1:aW tc.N x with
    | none=>rw[e1]at h;cases h
    | some i=>
      cases e2:trE aK tc e with
      | none=>simp[e1,e2]at h
      | some u=>
        simp[e1,e2]at h;subst h;exact xj (iw (by rw[F.N];exact aO e1) h1 h2 h3) ((E e u e2).1 ZZ) hc.1.2 hc.2
   .cases h
  .cases h
 .rename_i x p args cp
  split at h
  .rename_i i np ei
   split at h
   .rename_i hc
    simp only[QR,Rf,decide_eq_true_eq]at hc;obtain⟨⟨⟨⟨hg,hdb⟩,hst⟩,hlen⟩,hne⟩:=hc
    cases e2:trL (trE aK tc) args with
    | none=>rw[e2]at h;cases h
    | some l=>
      rw[e2]at h;cases h
      cases args with
      | nil=>cases hne
      | cons a as=>
        have hst':=hst;simp only[RN,Rp]at hst';obtain⟨fa,fd,ps,h1,h2,h3,h4⟩:=F.gB x i np ei;obtain⟨fa',fd',ps',g1,g2,g3,g4⟩:=F.gf x i np ei;have hpa:=dh (X:=X) (W:=W) (o:=o) (λe t h=>(E e t h).1) e2 hst
        have hn:∀δ r,evL o δ l=.ok r->r.2.length=np:=fun δ r e=>by rw[j8 e2 δ r e];exact hlen
        exact zy hn h4 F.room (cu F.toFits hg) h1 h2 h3 hpa hdb (bL hst'.1) (bM hst'.2) (rW hn g4 F.room (cu F.toFits hg) g1 g2 g3 hpa hdb (bL hst'.1) (bM hst'.2))
   .cases h
  .cases h
 .cases h
def Qz(F:FitsS X W tc o k){x:Str}{args:List Expr}{t:TM}{p pos:Pos}(h:trMc tc x args=Z_ t):PE X (.Call (.Name x p) args [] pos) (tM X W (evM o t)):=by
 have E:=λe t h=>sndX aK F.toFits e t h
 unfold trMc at h;split at h
 .rename_i s p' es
  split at h
  .rename_i f np ei
   split at h
   .rename_i hc
    simp only[QR,Rf,decide_eq_true_eq]at hc;obtain⟨⟨⟨⟨hg,hdb⟩,hv⟩,hst⟩,hlen⟩:=hc;obtain⟨h1,h2,h3⟩:=eE F.toFits hv
    cases e1:aW tc.N s with
    | none=>rw[e1]at h;cases h
    | some i=>
    cases e2:trL (trE aK tc) es with
    | none=>simp[e1,e2]at h
    | some l=>
    simp[e1,e2]at h;subst h;obtain⟨fa,fd,ps,g1,g2,g3,g4,g5⟩:=F.gM x f np ei;exact bV g4 g5 F.room (cu F.toFits hg) g1 g2 g3 (iw (by rw[F.N];exact aO e1) h1 h2 h3) (dh (λe t h=>(E e t h).1) e2 hst) hdb rfl (bM hst)
   .cases h
  .cases h
 .cases h
def Qt(F:FitsS X W tc o k){a:Expr}{m:Str}{args:List Expr}{ok:Bool}{t:TM}{apos pos:Pos}(h:trMm tc a m args ok=Z_ t)(hok:ok=(apos.endLine==pos.line)):PE X (.Call (.Attribute a m apos) args [] pos) (tM X W (evM o t)):=by
 have E:=λe t h=>sndX aK F.toFits e t h
 unfold trMm at h;split at h
 .rename_i s p'
  split at h
  .rename_i hc
   simp only[QR,Rf,decide_eq_true_eq]at hc;obtain⟨⟨⟨hl,hv⟩,hst⟩,hlen⟩:=hc;rw[hok]at hl;obtain⟨h1,h2,h3⟩:=eE F.toFits hv
   cases e1:aW tc.N s with
   | none=>rw[e1]at h;cases h
   | some i=>
   cases e2:trL (trE aK tc) args with
   | none=>simp[e1,e2]at h
   | some l=>
   simp[e1,e2]at h;subst h
   have hM:∀c g,o.meth c m.cps.toList=Z_ g->∃np,u6 X W o k c g np m:=λc g e=>by
    obtain⟨np,z⟩:=F.mM c _ g e;rw[cH]at z;exact⟨np,z⟩
   have ht:=Mx (name:=m) (env:=X.env) (a:=.Name s p') rfl hst hlen hl;have hvv:=iw (X:=X) (pos:=p') (by rw[F.N];exact aO e1) h1 h2 h3
   cases args with
   | nil=>
     simp only[trL,QX]at e2;subst e2;exact HX (cH m).symm hM F.room hvv ht
   | cons b bs=>
     have hst':=hst;simp only[RN,Rp]at hst';exact cz (cH m).symm hM F.room hvv (dh (λe t h=>(E e t h).1) e2 hst) (bL hst'.1) (bM hst'.2) ht
  .cases h
 .cases h
theorem BW{f:Expr->Option (Bool×TM)}(hf:∀e t,f e=Z_ t->PE X e (tM X W (evM o t.2))):∀{es:List Expr}{l:Bool×TML},trML f es=Z_ l->es.any aC=ZZ->PA X es (tML X W (evML o l.2))
 | [],l,h,_=>by
   simp only[trML,QX]at h;subst h;exact KD
 | e::es,l,h,hs=>by
   simp only[RN,Rp]at hs;simp only[trML]at h
   cases e1:f e with
   | none=>rw[e1]at h;cases h
   | some t=>
   cases e2:trML f es with
   | none=>simp[e1,e2]at h
   | some l'=>
   simp[e1,e2]at h;subst h;exact GZ (hf e t e1) (BW hf e2 hs.2) (bL hs.1)
theorem DY{f:Expr->Option (Bool×TM)}{o:Orc}:∀{es:List Expr} {l:Bool×TML} {δ:Dst} {r:Dst×List D},trML f es=Z_ l->evML o l.2 δ=.ok r->r.2.length=es.length
 | [],l,δ,r,h,e=>by
   simp only[trML,QX]at h;subst h;simp only[evML]at e;cases e;rfl
 | x::es,l,δ,r,h,e=>by
   simp only[trML]at h
   cases e1:f x with
   | none=>rw[e1]at h;cases h
   | some t=>
   cases e2:trML f es with
   | none=>simp[e1,e2]at h
   | some l'=>
   simp[e1,e2]at h;subst h;simp only[evML]at e;obtain⟨a,_,e⟩:=R.bindOk e;obtain⟨b,e4,e⟩:=R.bindOk e;cases e;simp only[R6];rw[DY e2 e4]
theorem sndM(F:FitsS X W tc o k):∀(n:Nat)(e:Expr)(t:Bool×TM),trM n tc e=Z_ t->PE X e (tM X W (evM o t.2))
 | 0,_,_,h=>by cases h
 | n+1,e,t,h=>by
   have E:=λe t h=>sndX aK F.toFits e t h
   have ih:=sndM F n;have h:(match trMb (trM n tc) tc e with | some t=>some t | none=>(trE aK tc e).map λt=>(ZZ,TM.pure t))=Z_ t:=h
   cases e0:trMb (trM n tc) tc e with
   | none=>
     rw[e0]at h;obtain⟨u,e1,rfl⟩:=SM.mp h;exact dM ((E e u e1).1 ZZ)
   | some t'=>
   rw[e0]at h;cases h;unfold trMb at e0;split at e0
   .rename_i x p args pos
    split at e0
    .obtain⟨u,e1,rfl⟩:=SM.mp e0
     exact Qz F e1
    .split at e0
     .rename_i g np ei
      split at e0
      .rename_i hc
       simp only[QR,Rf,decide_eq_true_eq]at hc;obtain⟨⟨⟨⟨hg,hdb⟩,hst⟩,hlen⟩,hne⟩:=hc
       cases e1:trML (trM n tc) args with
       | none=>rw[e1]at e0;cases e0
       | some l=>
       rw[e1]at e0;simp only[R7]at e0;split at e0
       .cases e0
        cases args with
        | nil=>cases hne
        | cons a as=>
          have hst':=hst;simp only[RN,Rp]at hst';obtain⟨fa,fd,ps,g1,g2,g3,g4⟩:=F.gf x g np ei;exact m_fn (fun δ r e=>by rw[DY e1 e];exact hlen) g4 F.room (cu F.toFits hg) g1 g2 g3 (BW ih e1 hst) hdb (bL hst'.1) (bM hst'.2)
       .cases e0
      .cases e0
     .cases e0
   .rename_i a m apos args cpos
    split at e0
    .obtain⟨u,e1,rfl⟩:=SM.mp e0
     exact Qt F e1 rfl
    .cases e0
   .rename_i es x1 pos
    split at e0
    .cases e0
    .rename_i hst
     cases e1:trML (trM n tc) es with
     | none=>rw[e1]at e0;cases e0
     | some l=>
     rw[e1]at e0;simp only[R7]at e0;split at e0
     .cases e0
      exact pF (BW ih e1 (by simpa using hst))
     .cases e0
   .rename_i es pos
    split at e0
    .cases e0
    .rename_i hst
     cases e1:trML (trM n tc) es with
     | none=>rw[e1]at e0;cases e0
     | some l=>
     rw[e1]at e0;simp only[R7]at e0;split at e0
     .cases e0
      exact Cr (BW ih e1 (by simpa using hst))
     .cases e0
   .rename_i c a b pos
    cases e1:trE aK tc c with
    | none=>rw[e1]at e0;cases e0
    | some tc'=>
    cases e2:trM n tc a with
    | none=>simp[e1,e2]at e0
    | some ta=>
    cases e3:trM n tc b with
    | none=>simp[e1,e2,e3]at e0
    | some tb=>
    simp only[e1,e2,e3,R7]at e0;split at e0
    .cases e0
     exact u5 (E c tc' e1).2 (ih a ta e2) (ih b tb e3)
    .cases e0
   .cases e0
def Aj(F:FitsS X W tc o k){e:Expr}{t:TM}(h:trMt tc e=Z_ t):PE X e (tM X W (evM o t)):=by
 unfold trMt at h;split at h
 .rename_i t' e1
  cases h;exact sndM F 6 e _ e1
 .cases h
def Ju{gl:List (Str×Gk)}{x:Str}{c:Nat}(h:iD gl x=Z_ c):gl.lookup x=Z_ (.ocl c):=by
 unfold iD at h;split at h
 .rename_i c' e;cases h;exact e
 .cases h
def w6(F:FitsS X W tc o k){x:Str}{e:Expr}{t:S}{pos pos1:Pos}(h:trMk tc x e=Z_ t):PS X (.Assign [.Name x pos1] e pos) (tS X W (evS o t)):=by
 have E:=λe t h=>sndX aK F.toFits e t h
 unfold trMk at h;split at h
 .rename_i z p2 y p args cpos pos'
  split at h
  .rename_i i np ei
   split at h
   .rename_i hc
    simp only[QR,Rf,decide_eq_true_eq]at hc;obtain⟨⟨⟨⟨⟨⟨⟨⟨hr,hl⟩,hgz⟩,hgy⟩,hdz⟩,hdy⟩,hst⟩,hlen⟩,hne⟩:=hc
    cases e0:iD tc.gl z with
    | none=>rw[e0]at h;cases h
    | some c=>
    cases e1:aW tc.N x with
    | none=>simp[e0,e1]at h
    | some j=>
    cases e2:trL (trE aK tc) args with
    | none=>simp[e0,e1,e2]at h
    | some l=>
    simp[e0,e1,e2]at h;subst h
    cases args with
    | nil=>cases hne
    | cons a as=>
      have hst':=hst;simp only[RN,Rp]at hst';obtain⟨fa,fd,ps,h1,h2,h3,h4⟩:=F.gB y i np ei;obtain⟨fa',fd',ps',g1,g2,g3,g4⟩:=F.gf y i np ei;have hpa:=dh (X:=X) (W:=W) (o:=o) (λe t h=>(E e t h).1) e2 hst
      have hn:∀δ r,evL o δ l=.ok r->r.2.length=np:=fun δ r e=>by rw[j8 e2 δ r e];exact hlen
      have hcall:∀lk,PE X (.Call (.Name y p) (a::as) [] cpos) (tD X W lk fun δ=>ev o δ lk (.call i l)):=λlk=>rW hn g4 F.room (cu F.toFits hgy) g1 g2 g3 hpa hdy (bL hst'.1) (bM hst'.2)
      have hmz:=F.ob.nm z c e0;refine M3 hn h4 F.room (cu F.toFits hgy) h1 h2 h3 hpa hdy (bL hst'.1) (bM hst'.2) (λhi=>?_) (cu F.toFits hgz) hmz hdz ?_ (by rw[F.N];exact F.nd) (by rw[F.N];exact aO e1) (fQ F.toFits hl) (.inl (F.fn x))
      .cases ei2:o.init c with
       | none=>rw[ei2]at hi;cases hi
       | some f=>obtain⟨_,_,_,_,z,_⟩:=F.ob.ini c f ei2;exact z.kp
      .exact Qe F.toFits (Ju e0) (cu F.toFits hgz) hdz (wI hcall (DW o) rfl) rfl rfl ZZ
   .cases h
  .cases h
 .cases h
def Js(F:FitsS X W tc o k){st:Stmt}{t:S}(h:trSm tc st=Z_ t):PS X st (tS X W (evS o t)):=by
 unfold trSm at h;split at h
 .cases h
 .split at h
  .rename_i x pos' e pos
   split at h
   .rename_i u e1
    split at h
    .rename_i hc
     simp only[QR,Rf]at hc;obtain⟨i,e2,rfl⟩:=SM.mp h;exact FN (by rw[F.N];exact F.nd) (by rw[F.N];exact aO e2) (fQ F.toFits hc.1) (Aj F e1) (lD hc.2) (.inl (F.fn x))
    .cases h
   .exact w6 F h
  .obtain⟨u,e1,rfl⟩:=SM.mp h
   exact Fx (Aj F e1)
  .rename_i e pos
   split at h
   .rename_i u e1
    split at h
    .cases h
    .rename_i hc
     cases h;exact Ji (Aj F e1) (lD (by simpa using hc))
   .rename_i e1
    clear e1;unfold trMa at h;split at h
    .rename_i x p m apos e cpos
     split at h
     .rename_i em
      subst em;split at h
      .rename_i hc
       simp only[QR,Rf]at hc;obtain⟨h1,h2,h3⟩:=eE F.toFits hc.1.1
       cases e1:aW tc.N x with
       | none=>rw[e1]at h;cases h
       | some i=>
         cases e2:trMt tc e with
         | none=>simp[e1,e2]at h
         | some u=>
           simp[e1,e2]at h;subst h;exact Jq (iw (by rw[F.N];exact aO e1) h1 h2 h3) (Aj F e2) hc.1.2 hc.2
      .cases h
     .cases h
    .cases h
  .cases h
def tW(F:FitsS X W tc o k){e cs:Option Expr}{t:S}{pos:Pos}(h:pW tc e cs=Z_ t):PS X (.Raise e cs pos) (tS X W (evS o t)):=by
 unfold pW at h;split at h
 .rename_i x np a cpos
  split at h
  .rename_i hc
   simp only[QR,Rf]at hc;obtain⟨⟨hg,hdb⟩,hst⟩:=hc
   cases e1:clOf tc.gl x with
   | none=>rw[e1]at h;cases h
   | some c=>
     cases e2:trE aK tc a with
     | none=>simp[e1,e2]at h
     | some u=>
       simp[e1,e2]at h;subst h;obtain⟨hm,bm,hx⟩:=F.xf.gc x c e1;exact Be F.calm (cu F.toFits hg) hm hx hdb ((sndX aK F.toFits a u e2).1 ZX) hst
  .cases h
 .cases h
def FitsS.inT(F:FitsS X W tc o k)(pn:List (Addr×Obj))(E:Value->Shared->Prop)(hp:Us (Rm X.prog X.w) X.A X.env E):FitsS (cxT X pn E) W tc o k :=
 ⟨⟨F.N,F.nd,F.sc,F.K,F.room,F.calm,F.gf,F.gb,F.gv,F.gd,F.xf,F.gdf,F.ob⟩,F.fn,hp,F.stk,F.frm,F.gB,F.mB,F.gM,F.mM⟩
def Cy(F:FitsS X W tc o k){f:Stmt->Option S}(hf:∀{Y:Cx},FitsS Y W tc o k->∀s t,f s=Z_ t->PS Y s (tS Y W (evS o t))){body:List Stmt}{hs:List ExceptHandler}{t:S}{pos:Pos}(h:Hu f tc body hs=Z_ t):PS X (.Try body hs [] [] pos) (tS X W (evS o t)):=by
 unfold Hu at h;split at h
 .rename_i cx np cv kk kp rp hpos
  split at h
  .rename_i hc
   simp only[QR,Rf]at hc;obtain⟨hg,hdb⟩:=hc
   cases e1:clOf tc.gl cx with
   | none=>rw[e1]at h;cases h
   | some c=>
   cases e4:trSs f body with
   | none=>simp[e1,e4]at h
   | some b=>
   simp[e1,e4]at h;subst h;obtain⟨hm,bP,hxP⟩:=F.xf.gc cx c e1;refine Ft (fun δ c δ' z=>by simp[evS,evF,ev,SO.of]at z) F.stk F.frm (cu F.toFits hg) hm hdb (λc' hsub=>?_) (λpn E hp=>qm (X:=cxT X pn E) (hf (F.inT pn E hp)) e4) (λpn v=>?_)
   .obtain⟨bC,x1,x2⟩:=F.xf.gh cx c' c e1 hsub
    exact⟨bP,bC,hxP,x1,x2⟩
   .exact Ek (X:=cxM X pn v) (λi z=>nomatch z) (uz (v:=.bl cv) M6 (λG=>by simp only[Rep]) o)
  .cases h
 .cases h
def Hw{st:Stmt}:PS X st (tS X W (evS o fJ)):=λpins s σ H D I hw=>by
 obtain⟨_,_,_,_,h⟩:=hw;simp only[fJ,evS,ev,SO.of,AfterS]at h
def sndS:∀(n:Nat){X:Cx}{tc:Tc},FitsS X W tc o k->∀(st:Stmt)(t:S),trS n tc st=Z_ t->PS X st (tS X W (evS o t)):=by
 intro n
 induction n with
 | zero=>intro X tc F st t h;exact nope h
 | succ n ih'=>
   intro X tc F st t h0
   have ih:=λst t h=>ih' F st t h
   have E:=λe t h=>sndX aK F.toFits e t h
   rcases Ck h0 with h | h | rfl
   .exact Js F h
   rotate_left
   .exact Hw
   cases st with
   | Assign tgs e pos=>
     delta trSb at h;dsimp only at h;exact Hs F h
   | Raise e c pos=>
     delta trSb at h;dsimp only at h;exact tW F h
   | Try body hs orelse fin pos=>
     cases orelse with
     | cons _ _=>exact nope h
     | nil=>
       cases fin with
       | cons _ _=>exact nope h
       | nil=>
         delta trSb at h;dsimp only at h;exact Cy F (λ{Y} FY s t h=>ih' FY s t h) h
   | Expr e pos=>
     delta trSb at h;dsimp only at h;exact Ks F h
   | If c a b pos=>
     delta trSb at h;dsimp only at h
     cases e1:trE aK tc c with
     | none=>rw[e1]at h;cases h
     | some u=>
       cases e2:trSs (trS n tc) a with
       | none=>simp[e1,e2]at h
       | some sa=>
         cases e3:trSs (trS n tc) b with
         | none=>simp[e1,e2,e3]at h
         | some sb=>
           simp only[e1,e2,e3,R7,Ro,QX]at h;subst h;exact Q4 (E c u e1).2 (qm ih e2) (qm ih e3)
   | For tg iter body orelse pos=>
     cases orelse with
     | cons _ _=>exact nope h
     | nil=>
       delta trSb at h;dsimp only at h
       cases e1:trTg tc tg with
       | none=>rw[e1]at h;cases h
       | some g=>
         cases e2:trI tc (trE aK tc) (mY tg) iter with
         | none=>simp[e1,e2]at h
         | some it=>
           cases e3:trSs (trS n tc) body with
           | none=>simp[e1,e2,e3]at h
           | some sb=>
             simp[e1,e2,e3]at h;subst h;obtain⟨gg,hg⟩:=QB F e1;obtain⟨hi,hs⟩:=xm F.toFits E tg e2 ZZ;exact Im (passes F) F.calm hg hi (qm ih e3) hs
   | While c body orelse pos=>
     cases orelse with
     | cons _ _=>exact nope h
     | nil=>
       delta trSb at h;dsimp only at h
       cases e1:trE aK tc c with
       | none=>rw[e1]at h;cases h
       | some u=>
         cases e3:trSs (trS n tc) body with
         | none=>simp[e1,e3]at h
         | some sb=>
           simp[e1,e3]at h;subst h;exact An (passes F) (E c u e1).2 (qm ih e3)
   | Return v pos=>
     cases v with
     | none=>
       exact nope h
     | some e=>
       delta trSb at h;dsimp only at h
       cases e1:trE aK tc e with
       | none=>rw[e1]at h;cases h
       | some u=>
         rw[e1]at h;simp only[R7]at h;split at h
         .cases h
         rename_i hc;cases h
         by_cases hv:∃i,u=.var i
         .obtain⟨i,rfl⟩:=hv
          cases e with
          | Name x px=>
            rw[show aK=39+1 from rfl,Cz]at e1;split at e1
            .rename_i hv
             obtain⟨h1,h2,h3⟩:=eE F.toFits hv
             cases e2:aW tc.N x with
             | none=>rw[e2]at e1;cases e1
             | some j=>
               rw[e2]at e1;cases e1;exact Ik (by rw[F.N];exact aO e2) h1 h2 h3
            .split at e1
             .split at e1<;>cases e1
             .cases e1
          | _=>simp[JX,isName]at hc
         .exact Ek (λi z=>hv ⟨i,z⟩) ((E e u e1).1 ZZ)
   | _=>exact nope h
end
structure Df where
 name:Str
 qual:Str
 st:Stmt
 N:List Str
 ps:List Str
 fd:Fd
noncomputable def glOf:Nat->List Df->List (Str×Gk)
 | _,[]=>[]
 | i,d::l=>(d.name,.fn i d.ps.length)::glOf (i+1) l
theorem rZ:∀{l:List Df}{i:Nat},(glOf i l).lookup x=Z_ (.fn j np)->∃d k,j=i+k/\l[k]?=Z_ d/\d.name=x/\d.ps.length=np
 | [],_,h=>by simp[glOf]at h
 | d::l,i,h=>by
   simp only[glOf,Sq]at h
   cases e:(x==d.name)with
   | true=>
     rw[e]at h;simp only[QX,Gk.fn.injEq]at h;exact⟨d,0,by omega,rfl,(X7 e).symm,h.2⟩
   | false=>
     rw[e]at h;obtain⟨d',k,h1,h2,h3⟩:=rZ h;exact⟨d',k+1,by omega,by simpa using h2,h3⟩
def NoFn(cs:List (Str×Gk)):Prop:=∀p∈cs,∀i np,p.2≠.fn i np
theorem lookup_append:∀{l m:List (Str×α)},(l++m).lookup x=(l.lookup x).or (m.lookup x)
 | [],m=>by simp
 | (y,g)::l,m=>by
   simp only[SN,Sq];cases (x==y)
   .exact lookup_append
   .rfl
theorem lookup_mem:∀{l:List (Str×α)},l.lookup x=Z_ v->(x,v)∈l
 | [],h=>by simp at h
 | (y,g)::l,h=>by
   simp only[Sq]at h
   cases e:(x==y)with
   | true=>
     rw[e]at h;cases h;have:=X7 e;subst this;exact QM
   | false=>rw[e]at h;exact QQ _ (lookup_mem h)
def gw(hc:NoFn cs)(h:(glOf 0 l++cs).lookup x=Z_ (.fn j np)):∃d k,j=0+k/\l[k]?=Z_ d/\d.name=x/\d.ps.length=np:=by
 rw[lookup_append]at h
 cases e:(glOf 0 l).lookup x with
 | some q=>
   rw[e]at h;cases h;exact rZ e
 | none=>
   rw[e]at h;exact absurd rfl (hc _ (lookup_mem h) j np)
structure DfOk(gl:List (Str×Gk))(d:Df):Prop where
 sc:FnScope d.N d.ps (aH d.st)
 np:d.ps.length=d.fd.np
 ns:d.N.length=d.fd.ns
 tr:trSs (trS 40 ⟨d.N,aH d.st,gl⟩) (bF d.st)=Z_ d.fd.body\/d.fd.body=oX
section
variable{P:Rt}{w:RX}{K:QK}{mg:Str->Option Value}{base:Rc}{W:Wd}{p:Prg}{w0:Nat}{gl:List (Str×Gk)}
def DfAt(K:QK)(mg:Str->Option Value)(d:Df):Prop:=∃f fd,Fun K d.name d.qual d.st f fd/\Binds K fd d.ps []/\mg d.name=Z_ (.ref f)
def uH(P:Rt)(w:RX)(K:QK)(mg:Str->Option Value)(base:Rc)(W:Wd)(p:Prg)(w0:Nat)(gl:List (Str×Gk))(n:Nat):Prop :=
 (∀x i np,gl.lookup x=Z_ (.fn i np)->∃f fd ps,mg x=Z_ (.ref f)/\Rj K (.ref f)=ZX/\Binds K fd ps []/\FnOk P w K mg base (CXZ P w base W) n f fd ps (spB W ((orc p w0 n).fn i) np)) /\
 True
def yQ(p:Prg)(w0:Nat):∀n,(orc p w0 n).sub=p.sub
 | 0=>rfl
 | _+1=>rfl
def Bw(o:Orc)(np ns:Nat)(args:List D):bf o ⟨np,ns,oX⟩ args=.stuck:=by
 unfold bf;split
 .simp[oX,fJ,evSs,evS,ev,SO.of]
 .rfl
def rD(p:Prg)(w0:Nat):∀n,(orc p w0 n).init=p.init
 | 0=>rfl
 | _+1=>rfl
def lL(p:Prg)(w0:Nat):∀n,(orc p w0 n).meth=p.meth
 | 0=>rfl
 | _+1=>rfl
def MsOk(P:Rt)(w:RX)(K:QK)(mg:Str->Option Value)(base:Rc)(W:Wd)(p:Prg)(w0:Nat)(ms:List Df)(ad:Nat->Addr)(b n:Nat):Prop :=
 ∀i d,ms[i]?=Z_ d->∃fd,Binds K fd d.ps []/\FnOk P w K mg base (CXZ P w base W) n (ad i) fd d.ps (spB W ((orc p w0 n).fn (b+i)) d.ps.length)/\FnOk P w K mg base (CXZ P w base W) (n-1) (ad i) fd d.ps (spI W ((orc p w0 n).ini (b+i)) d.ps.length)
structure ClFacts(K:QK)(mg:Str->Option Value)(W:Wd)(p:Prg)(gl:List (Str×Gk))(ms:List Df)(ad:Nat->Addr)(b:Nat):Prop where
 nm:∀x c,iD gl x=Z_ c->mg x=Z_ (.ref (W.CT c))
 is:∀x c',iD gl x=Z_ c'->∀c,p.sub c c'=ZX->V4 K (.ref (W.CT c)) (W.CT c')=ZX
 fld:∀fl f,gl.lookup ("!f":Str)=Z_ (.names fl)->f∈fl->∀c,(p.init c).isSome=ZX->Cls K (W.CT c)/\NoAttr K (W.CT c) (strV f)
 ini:∀c f,p.init c=Z_ f->∃i d,f=b+i/\ms[i]?=Z_ d/\Mk K (W.CT c) (ad i)/\ClsFn K (W.CT c) "__init__" (ad i)
 mt:∀c m f,p.meth c m=Z_ f->∃i d,f=b+i/\ms[i]?=Z_ d/\Cls K (W.CT c)/\Meth K (W.CT c) (strV m) (ad i)
def Hl(h:bf o d ds=.ok r):ds.length=d.np:=by
 unfold bf at h;split at h
 .assumption
 .cases h
def zU(h:du o d s ds=.ok y):ds.length+1=d.np:=by
 unfold du at h;split at h
 .assumption
 .cases h
section
variable{ms:List Df}{ad:Nat->Addr}{b:Nat}
def vm(C:ClFacts K mg W p gl ms ad b)(M:MsOk P w K mg base W p w0 ms ad b n)(hok:∀(i:Nat)(d:Df),ms[i]?=Z_ d->DfOk gl d)(hf:∀(i:Nat)(d:Df),ms[i]?=Z_ d->p.fns[b+i]?=Z_ d.fd):ObjFacts P w K mg base W gl (orc p w0 n) n:=by
 refine⟨C.nm,λx c' h c e=>C.is x c' h c (by rw[yQ]at e;exact e),λfl f h1 h2 c h3=>C.fld fl f h1 h2 c (by rw[rD]at h3;exact h3),λc f h=>?_,λc m f h=>?_⟩
 .rw[rD]at h
  obtain⟨i,d,rfl,h1,h2,h3⟩:=C.ini c f h;obtain⟨fd,g1,g2,g3⟩:=M i d h1;refine⟨ad i,fd,d.ps,d.ps.length,h2,h3,g1,λs a y e=>?_,?_⟩
  .match n,e with
   | 0,e=>cases e
   | 1,e=>cases e
   | m+2,e=>
     rw[xJ (hf i d h1)]at e;rw[zU e,(hok i d h1).np]
  .cases n with
   | zero=>exact .inl λ_ _=>rfl
   | succ m=>exact .inr ⟨m,by omega,ok0I g3⟩
 .rw[lL]at h
  obtain⟨i,d,rfl,h1,h2,h3⟩:=C.mt c m f h;obtain⟨fd,g1,g2,g3⟩:=M i d h1;refine⟨d.ps.length,ad i,fd,d.ps,h2,h3,g1,λa y e=>?_,ok0 g2⟩
  cases n with
  | zero=>cases e
  | succ m=>
    rw[aP (hf i d h1)]at e;rw[Hl e,(hok i d h1).np]
def yJ(P:Rt)(w:RX)(K:QK)(mg:Str->Option Value)(base:Rc)(W:Wd)(o:Orc)(n:Nat):Prop:=∀c m f,o.meth c m=Z_ f->∃np fa fd ps,Cls K (W.CT c)/\Meth K (W.CT c) (strV m) fa/\Binds K fd ps []/\(∀ds,o.fn f ds≠.stuck->ds.length=np)/\FnOk P w K mg base (CXZ P w base W) n fa fd ps (spB W (o.fn f) np)
def Jw(C:ClFacts K mg W p gl ms ad b)(M:MsOk P w K mg base W p w0 ms ad b n)(hok:∀(i:Nat)(d:Df),ms[i]?=Z_ d->DfOk gl d)(hf:∀(i:Nat)(d:Df),ms[i]?=Z_ d->p.fns[b+i]?=Z_ d.fd):yJ P w K mg base W (orc p w0 n) n:=by
 intro c m f h;rw[lL]at h;obtain⟨i,d,rfl,h1,h2,h3⟩:=C.mt c m f h;obtain⟨fd,g1,g2,g3⟩:=M i d h1;refine⟨d.ps.length,ad i,fd,d.ps,h2,h3,g1,λa e=>?_,g2⟩
 cases n with
 | zero=>exact absurd rfl e
 | succ m=>
   rw[aP (hf i d h1)]at e;unfold bf at e;split at e
   .rename_i q;rw[q,(hok i d h1).np]
   .exact absurd rfl e
def AllM(P:Rt)(w:RX)(K:QK)(mg:Str->Option Value)(base:Rc)(W:Wd)(p:Prg)(w0:Nat)(gl:List (Str×Gk))(ms:List Df)(ad:Nat->Addr)(b n:Nat):Prop :=
 (∀x i np,gl.lookup x=Z_ (.fn i np)->∃f fd ps,mg x=Z_ (.ref f)/\Rj K (.ref f)=ZX/\Binds K fd ps []/\(∀s a r,(orc p w0 n).mu i s a=.ok r->a.length+1=np)/\FnOk P w K mg base (CXZ P w base W) n f fd ps (spM W ((orc p w0 n).mu i) np)) /\
 ∀i d,ms[i]?=Z_ d->∃fd,Binds K fd d.ps []/\(∀s a r,(orc p w0 n).mu (b+i) s a=.ok r->a.length+1=d.ps.length)/\FnOk P w K mg base (CXZ P w base W) n (ad i) fd d.ps (spM W ((orc p w0 n).mu (b+i)) d.ps.length)
def vg(P:Rt)(w:RX)(K:QK)(mg:Str->Option Value)(base:Rc)(W:Wd)(gl:List (Str×Gk))(o:Orc)(n:Nat):Prop :=
 (∀x i np,gl.lookup x=Z_ (.fn i np)->∃f fd ps,mg x=Z_ (.ref f)/\Rj K (.ref f)=ZX/\Binds K fd ps []/\(∀s a r,o.mu i s a=.ok r->a.length+1=np)/\FnOk P w K mg base CX0 n f fd ps (spM W (o.mu i) np)) /\
 ∀c m f,o.meth c m=Z_ f->∃np fa fd ps,Cls K (W.CT c)/\Meth K (W.CT c) (strV m) fa/\Binds K fd ps []/\(∀s a r,o.mu f s a=.ok r->a.length+1=np)/\FnOk P w K mg base CX0 n fa fd ps (spM W (o.mu f) np)
def vO(C:ClFacts K mg W p gl ms ad b)(M:AllM P w K mg base W p w0 gl ms ad b n):vg P w K mg base W gl (orc p w0 n) n:=by
 refine⟨λx i np h=>(let⟨f,fd,ps,h1,h2,h3,h4,h5⟩:=M.1 x i np h;⟨f,fd,ps,h1,h2,h3,h4,ok0M h5⟩),λc m f h=>?_⟩;rw[lL]at h;obtain⟨i,d,rfl,h1,h2,h3⟩:=C.mt c m f h;obtain⟨fd,g1,g2,g3⟩:=M.2 i d h1;exact⟨d.ps.length,ad i,fd,d.ps,h2,h3,g1,g2,ok0M g3⟩
structure Ground(P:Rt)(w:RX)(K:QK)(mg:Str->Option Value)(W:Wd)(p:Prg)(gl:List (Str×Gk)):Prop where
 hk:W.K=K
 hgb:∀x∈bltNames,gl.lookup x=ZW->mg x=ZW
 hgv:∀x d,gl.lookup x=Z_ (.val d)->∃u v,mg x=Z_ u/\RelV v u/\∀G,Rep W G d v
 hgd:True
 xf:XFacts K mg W p.sub (clOf gl)
 hdf:True
def qI(G:Ground P w K mg W p gl)(ok:DfOk gl d)(tr:trSs (trS 40 ⟨d.N,aH d.st,gl⟩) (bF d.st)=Z_ d.fd.body)(ih:uH P w K mg base W p w0 gl n)(ob:ObjFacts P w K mg base W gl (orc p w0 n) n)(mb:yJ P w K mg base W (orc p w0 n) n)(mu:vg P w K mg base W gl (orc p w0 n) n)
 (cdv:Value)(A:S5)(outer:List Env)(s:Shared)(H:Hp)(E:XK)(hr:Room n (A.deeper (VR d.qual (aH d.st) s.heap.objs.size f cdv))) :
 PSs (cxX P w K mg base W d.N d.qual d.st f cdv A outer s H E) (bF d.st) (tS (cxX P w K mg base W d.N d.qual d.st f cdv A outer s H E) W (evSs (orc p w0 n) d.fd.body)):=by
 have FT:FitsS (cxX P w K mg base W d.N d.qual d.st f cdv A outer s H E) W ⟨d.N,aH d.st,gl⟩ (orc p w0 n) n :=
  ⟨⟨rfl,ok.sc.nd,rfl,G.hk,hr,rfl,λx i np h=>(let⟨f,fd,ps,h1,h2,h3,h4⟩:=ih.1 x i np h;⟨f,fd,ps,h1,h2,h3,ok0 h4⟩),G.hgb,G.hgv,G.hgd,by rw[yQ];exact G.xf,trivial,ob⟩,λ_=>rfl,wj,rfl,rfl,ih.1,mb,mu.1,mu.2⟩
 exact qm (sndS 40 FT) tr
def qi(G:Ground P w K mg W p gl)(F:Fun K d.name d.qual d.st f fd)(ok:DfOk gl d)(hi:p.fns[i]?=Z_ d.fd)(ih:uH P w K mg base W p w0 gl n)(ob:ObjFacts P w K mg base W gl (orc p w0 n) n)(mb:yJ P w K mg base W (orc p w0 n) n)(mu:vg P w K mg base W gl (orc p w0 n) n) :
 FnOk P w K mg base (CXZ P w base W) (n+1) f fd d.ps (spB W ((orc p w0 (n+1)).fn i) d.ps.length):=by
 have e:(orc p w0 (n+1)).fn i=bf (orc p w0 n) ⟨d.ps.length,d.N.length,d.fd.body⟩:=by
  funext a
  have e2:d.fd=⟨d.ps.length,d.N.length,d.fd.body⟩:=by
   rw[ok.np,ok.ns]
  show(match p.fns[i]? with | some d=>bf (orc p w0 n) d a | none=>.stuck)=_;rw[hi,<-e2]
 rw[e];rcases ok.tr with tr | hole
 case inr=>
  refine⟨λvs H Q E q=>q.elim (·.1) (·.1),λA outer s H args us vs Q E _ _ _ _ q=>?_⟩;rcases q with⟨_,_,_,_,_,_,r,e,_⟩ | ⟨_,_,_,_,_,_,r,e,_⟩<;>(rw[hole,Bw]at e;cases e)
 exact vK F ok.sc rfl rfl (λcdv A outer s H E hr=>qI G ok tr ih ob mb mu cdv A outer s H E hr) G.hk
def By(o:Orc)(np ns:Nat)(s:D)(args:List D):cU o ⟨np,ns,oX⟩ s args=.stuck:=by
 unfold cU;split
 .simp[oX,fJ,evSs,evS,ev,SO.of]
 .rfl
def uY{f:Addr}{fd:Sw}{ps:List Str}{g:D->List D->R (D×D)}{k np:Nat}(h:∀s a,g s a=.stuck):FnOk P w K mg base (CXZ P w base W) k f fd ps (spM W g np):=by
 refine⟨λvs H Q E q=>?_,λA outer s H args us vs Q E _ _ _ _ q=>?_⟩<;>(obtain⟨_,_,_,_,_,_,_,_,_,_,_,_,_,e,_⟩:=q;rw[h]at e;cases e)
def Ca(h:cU o d s ds=.ok y):ds.length+1=d.np:=by
 unfold cU at h;split at h
 .assumption
 .cases h
def xM(G:Ground P w K mg W p gl)(F:Fun K d.name d.qual d.st f fd)(ok:DfOk gl d)(hi:p.fns[i]?=Z_ d.fd)(ih:uH P w K mg base W p w0 gl n)(ob:ObjFacts P w K mg base W gl (orc p w0 n) n)(mb:yJ P w K mg base W (orc p w0 n) n)(mu:vg P w K mg base W gl (orc p w0 n) n) :
 (∀s a r,(orc p w0 (n+1)).mu i s a=.ok r->a.length+1=d.ps.length)/\FnOk P w K mg base (CXZ P w base W) (n+1) f fd d.ps (spM W ((orc p w0 (n+1)).mu i) d.ps.length):=by
 refine⟨λs a r h=>by rw[cP hi]at h;rw[Ca h,ok.np],?_⟩
 have e:(orc p w0 (n+1)).mu i=cU (orc p w0 n) ⟨d.ps.length,d.N.length,d.fd.body⟩:=by
  funext s a
  have e2:d.fd=⟨d.ps.length,d.N.length,d.fd.body⟩:=by
   rw[ok.np,ok.ns]
  rw[cP hi,<-e2]
 rw[e];rcases ok.tr with tr | hole
 case inr=>rw[hole];exact uY λs a=>By _ _ _ _ _
 exact vf F ok.sc rfl rfl (λcdv A outer s H E hr=>qI G ok tr ih ob mb mu cdv A outer s H E hr) G.hk
def BL(o:Orc)(np ns:Nat)(s:D)(args:List D):du o ⟨np,ns,oX⟩ s args=.stuck:=by
 unfold du;split
 .simp[oX,fJ,evSs,evS,ev,SO.of]
 .rfl
def zx(G:Ground P w K mg W p gl)(F:Fun K d.name d.qual d.st f fd)(ok:DfOk gl d)(hi:p.fns[i]?=Z_ d.fd)(ih:uH P w K mg base W p w0 gl n)(ob:ObjFacts P w K mg base W gl (orc p w0 n) n)(mb:yJ P w K mg base W (orc p w0 n) n)(mu:vg P w K mg base W gl (orc p w0 n) n) :
 FnOk P w K mg base (CXZ P w base W) (n+1) f fd d.ps (spI W ((orc p w0 (n+2)).ini i) d.ps.length):=by
 have e:(orc p w0 (n+2)).ini i=du (orc p w0 n) ⟨d.ps.length,d.N.length,d.fd.body⟩:=by
  funext s a
  have e2:d.fd=⟨d.ps.length,d.N.length,d.fd.body⟩:=by
   rw[ok.np,ok.ns]
  show(match p.fns[i]? with | some d=>du (orc p w0 n) d s a | none=>.stuck)=_;rw[hi,<-e2]
 rw[e];rcases ok.tr with tr | hole
 case inr=>
  refine⟨λvs H Q E q=>q.1,λA outer s H args us vs Q E _ _ _ _ q=>?_⟩;obtain⟨_,_,_,_,_,_,_,_,_,_,_,_,_,e,_⟩:=q;rw[hole,BL]at e;cases e
 exact wR F ok.sc rfl rfl (λcdv A outer s H E hr=>qI G ok tr ih ob mb mu cdv A outer s H E hr) G.hk
def CZ{f:Addr}{fd:Sw}{ps:List Str}{g:List D->R (Bool×D)}{k np:Nat}(hp:np=ps.length)(h:∀a,g a=.stuck):FnOk P w K mg base (CXZ P w base W) k f fd ps (spB W g np):=by
 refine⟨λvs H Q E q=>by rw[<-hp];exact q.elim (·.1) (·.1),λA outer s H args us vs Q E _ _ _ _ q=>?_⟩;rcases q with⟨_,_,_,_,_,_,r,e,_⟩ | ⟨_,_,_,_,_,_,r,e,_⟩<;>(rw[h]at e;cases e)
def Dr{f:Addr}{fd:Sw}{ps:List Str}{g:D->List D->R D}{k np:Nat}(hp:np=ps.length)(h:∀s a,g s a=.stuck):FnOk P w K mg base (CXZ P w base W) k f fd ps (spI W g np):=by
 refine⟨λvs H Q E q=>by rw[<-hp];exact q.1,λA outer s H args us vs Q E _ _ _ _ q=>?_⟩;obtain⟨_,_,_,_,_,_,_,_,_,_,_,_,_,e,_⟩:=q;rw[h]at e;cases e
def BK(hcs:NoFn cs)(G:Ground P w K mg W p (glOf 0 ds++cs))(hp:p.fns=(ds++ms).map (·.fd))(hok:∀d∈ds,DfOk (glOf 0 ds++cs) d)(hat:∀d∈ds,DfAt K mg d)
 (C:ClFacts K mg W p (glOf 0 ds++cs) ms ad ds.length)(hmo:∀d∈ms,DfOk (glOf 0 ds++cs) d)(hma:∀i d,ms[i]?=Z_ d->∃fd,Fun K d.name d.qual d.st (ad i) fd/\Binds K fd d.ps []) :
 ∀n m,m<=n->uH P w K mg base W p w0 (glOf 0 ds++cs) m/\MsOk P w K mg base W p w0 ms ad ds.length m/\AllM P w K mg base W p w0 (glOf 0 ds++cs) ms ad ds.length m:=by
 have hf:∀i d,ms[i]?=Z_ d->p.fns[ds.length+i]?=Z_ d.fd:=λi d h=>by
  rw[hp,RM,RT (by omega),U8,h];rfl
 have hmo':∀i d,ms[i]?=Z_ d->DfOk (glOf 0 ds++cs) d:=λi d h=>hmo d (RK h)
 have zero:uH P w K mg base W p w0 (glOf 0 ds++cs) 0/\MsOk P w K mg base W p w0 ms ad ds.length 0/\AllM P w K mg base W p w0 (glOf 0 ds++cs) ms ad ds.length 0:=by
  refine⟨⟨λx i np h=>?_,trivial⟩,λi d h=>?_,λx i np h=>?_,λi d h=>?_⟩
  .obtain⟨d,k,h1,h2,h3,h4⟩:=gw hcs h
   obtain⟨f,fd,F,b,m⟩:=hat d (RK h2);exact⟨f,fd,d.ps,by rw[<-h3];exact m,F.kp,b,CZ h4.symm λ_=>rfl⟩
  .obtain⟨fd,F,b⟩:=hma i d h
   exact⟨fd,b,CZ rfl λ_=>rfl,Dr rfl λ_ _=>rfl⟩
  .obtain⟨d,k,h1,h2,h3,h4⟩:=gw hcs h
   obtain⟨f,fd,F,b,m⟩:=hat d (RK h2);exact⟨f,fd,d.ps,by rw[<-h3];exact m,F.kp,b,λ_ _ _ z=>(nomatch z),uY λ_ _=>rfl⟩
  .obtain⟨fd,F,b⟩:=hma i d h
   exact⟨fd,b,λ_ _ _ z=>(nomatch z),uY λ_ _=>rfl⟩
 intro n
 induction n with
 | zero=>
   intro m hm
   obtain rfl:m=0:=by omega
   exact zero
 | succ n ih=>
   intro m hm
   by_cases hle:m<=n
   .exact ih m hle
   obtain rfl:m=n+1:=by omega
   obtain⟨a1,m1,u1⟩:=ih n (Ra _);have ob:=vm C m1 hmo' hf;have mb:=Jw C m1 hmo' hf;have mu:=vO C u1;refine⟨⟨λx i np h=>?_,trivial⟩,λi d h=>?_,λx i np h=>?_,λi d h=>?_⟩
   .obtain⟨d,k,h1,h2,h3,h4⟩:=gw hcs h
    obtain⟨f,fd,F,b,m⟩:=hat d (RK h2);refine⟨f,fd,d.ps,by rw[<-h3];exact m,F.kp,b,?_⟩;have hlt:k<ds.length:=(R9.mp h2).1;have:=qi (i:=i) G F (hok d (RK h2)) (by rw[hp,RM,h1,Ux,S6 hlt,h2];rfl) a1 ob mb mu;rw[h4]at this;exact this
   .obtain⟨fd,F,b⟩:=hma i d h
    refine⟨fd,b,qi G F (hmo' i d h) (hf i d h) a1 ob mb mu,?_⟩
    cases n with
    | zero=>exact Dr rfl λ_ _=>rfl
    | succ k=>
      obtain⟨a2,m2,u2⟩:=ih k (by omega);exact zx G F (hmo' i d h) (hf i d h) a2 (vm C m2 hmo' hf) (Jw C m2 hmo' hf) (vO C u2)
   .obtain⟨d,k,h1,h2,h3,h4⟩:=gw hcs h
    obtain⟨f,fd,F,b,m⟩:=hat d (RK h2);refine⟨f,fd,d.ps,by rw[<-h3];exact m,F.kp,b,?_⟩;have hlt:k<ds.length:=(R9.mp h2).1;have:=xM (i:=i) G F (hok d (RK h2)) (by rw[hp,RM,h1,Ux,S6 hlt,h2];rfl) a1 ob mb mu;rw[h4]at this;exact this
   .obtain⟨fd,F,b⟩:=hma i d h
    exact⟨fd,b,xM G F (hmo' i d h) (hf i d h) a1 ob mb mu⟩
def Np(hcs:NoFn cs)(G:Ground P w K mg W p (glOf 0 ds++cs))(hp:p.fns=(ds++ms).map (·.fd))(hok:∀d∈ds,DfOk (glOf 0 ds++cs) d)(hat:∀d∈ds,DfAt K mg d)
 (C:ClFacts K mg W p (glOf 0 ds++cs) ms ad ds.length)(hmo:∀d∈ms,DfOk (glOf 0 ds++cs) d)(hma:∀i d,ms[i]?=Z_ d->∃fd,Fun K d.name d.qual d.st (ad i) fd/\Binds K fd d.ps [])
 (F:Fun K d.name d.qual d.st f fd)(ok:DfOk (glOf 0 ds++cs) d)(hi:p.fns[i]?=Z_ d.fd):FnOk P w K mg base CX0 (n+1) f fd d.ps (spFn W ((orc p w0 (n+1)).fn i) d.ps.length):=by
 obtain⟨a1,m1,u1⟩:=BK (base:=base) (w0:=w0) hcs G hp hok hat C hmo hma n n (Ra _)
 have hmo':∀(i:Nat)(d:Df),ms[i]?=Z_ d->DfOk (glOf 0 ds++cs) d:=λi d h=>hmo d (RK h)
 have hf:∀(i:Nat)(d:Df),ms[i]?=Z_ d->p.fns[ds.length+i]?=Z_ d.fd:=λi d h=>by rw[hp,RM,RT (by omega),U8,h];rfl
 exact ok0 (qi G F ok hi a1 (vm C m1 hmo' hf) (Jw C m1 hmo' hf) (vO C u1))
end
end
structure CsOk(P:Rt)(w:RX)(W:Wd)(mg:Str->Option Value)(q:Str×Gk):Prop where
 val:∀d,q.2=.val d->∃u v,mg q.1=Z_ u/\RelV v u/\∀G,Rep W G d v
 dct:∀ks vs,q.2=.dct ks vs->∃ad,mg q.1=Z_ (.ref ad)/\KDct P w W ad ks vs
theorem fj:∀{l:List Df}{i:Nat},(glOf i l).lookup x=Z_ g->∃j np,g=.fn j np
 | [],_,h=>by simp[glOf]at h
 | d::l,i,h=>by
   simp only[glOf,Sq]at h
   cases e:(x==d.name)with
   | true=>rw[e]at h;cases h;exact⟨_,_,rfl⟩
   | false=>rw[e]at h;exact fj h
def Ke(h:∀q∈cs,CsOk P w W mg q):(∀x d,(glOf 0 ds++cs).lookup x=Z_ (.val d)->∃u v,mg x=Z_ u/\RelV v u/\∀G,Rep W G d v) /\
 ∀x ks vs,(glOf 0 ds++cs).lookup x=Z_ (.dct ks vs)->∃ad,mg x=Z_ (.ref ad)/\KDct P w W ad ks vs:=by
 have key:∀x g,(glOf 0 ds++cs).lookup x=Z_ g->(∀j np,g≠.fn j np)->(x,g)∈cs:=λx g e hn=>by
  rw[lookup_append]at e
  cases e1:(glOf 0 ds).lookup x with
  | some q=>
    rw[e1]at e;cases e;obtain⟨j,np,rfl⟩:=fj e1;exact absurd rfl (hn j np)
  | none=>rw[e1]at e;exact lookup_mem e
 exact⟨λx d e=>(h _ (key x _ e (by simp))).val d rfl,λx ks vs e=>(h _ (key x _ e (by simp))).dct ks vs rfl⟩
def N8(h:q.any p=ZX):∃b,q=Z_ b/\p b=ZX:=by
 cases q with
 | none=>cases h
 | some b=>exact⟨b,rfl,h⟩
noncomputable def ctOf(l:List Addr)(c:Nat):Addr:=l.getD c 0
def yS{P:Str->Nat->Prop}{ds:List Df}{cs:List (Str×Gk)}(h:∀q∈cs,∀c,q.2=.cls c->P q.1 c):∀x c,clOf (glOf 0 ds++cs) x=Z_ c->P x c:=λx c e=>by
 unfold clOf at e
 cases e0:(glOf 0 ds++cs).lookup x with
 | none=>rw[e0]at e;cases e
 | some g=>
   rw[e0]at e
   cases g with
   | cls c'=>
     cases e;rw[lookup_append]at e0
     cases e1:(glOf 0 ds).lookup x with
     | some q=>
       rw[e1]at e0;cases e0;obtain⟨j,np,z⟩:=fj e1;cases z
     | none=>rw[e1]at e0;exact h _ (lookup_mem e0) c rfl
   | _=>cases e
def Qf(h:W.K.lookup a=Z_ ⟨.type "tuple",od,.seq its n,sl⟩)(hz:its.size<=100)(hv:Vals xs its.toList)(hr:∀G,Reps W G l xs):∀G,Rep W G (.tup l) (.ref a):=λG=>by
 simp only[Rep];exact⟨a,xs,rfl,.inr ⟨_,its,n,h,rfl,rfl,by rw[Th];omega,hv⟩,hr G⟩
def NQ(h:x.length<=1000):∀G,Rep W G (.str x) (.str (strV x)):=λG=>by
 simp only[Rep];exact⟨trivial,by omega⟩
noncomputable def bodyOf:Stmt->List Stmt
 | .ClassDef _ _ _ b _ _ _ _ _ _ _=>b
 | _=>[]
def ww{P:Str->Nat->Prop}{ds:List Df}{cs:List (Str×Gk)}(h:∀q∈cs,∀c,q.2=.ocl c->P q.1 c):∀x c,iD (glOf 0 ds++cs) x=Z_ c->P x c:=λx c e=>by
 unfold iD at e
 cases e0:(glOf 0 ds++cs).lookup x with
 | none=>rw[e0]at e;cases e
 | some g=>
   rw[e0]at e
   cases g with
   | ocl c'=>
     cases e;rw[lookup_append]at e0
     cases e1:(glOf 0 ds).lookup x with
     | some q=>
       rw[e1]at e0;cases e0;obtain⟨j,np,z⟩:=fj e1;cases z
     | none=>rw[e1]at e0;exact h _ (lookup_mem e0) c rfl
   | _=>cases e
def Nk{K:QK}{C:Addr}(h:(Up K C Str.empty&&V6 K C&&Vu K C&&decide (RB K (.ref C) "__setattr__"=Z_ (Z_ (.builtin "object.__setattr__"))))=ZX):Cls K C:=by
 simp only[QR,decide_eq_true_eq]at h;exact⟨h.1.1.1,h.1.1.2,h.1.2,h.2⟩
def NT{K:QK}{C f:Addr}{m:Str}(h:(decide (RB K (.ref C) m=Z_ (Z_ (.ref f)))&&V5 K (.ref f)&&Rj K (.ref f))=ZX):Meth K C m f:=by
 simp only[QR,decide_eq_true_eq]at h;exact⟨h.1.1,h.1.2,h.2⟩
def mk_k{K:QK}{C f:Addr}(h:(VH K C&&decide (RB K (.ref C) "__init__"=Z_ (Z_ (.ref f)))&&V5 K (.ref f)&&Rj K (.ref C))=ZX):Mk K C f:=by
 simp only[QR,decide_eq_true_eq]at h;exact⟨h.1.1.1,h.1.1.2,h.1.2,h.2⟩
def Le{K:QK}{C:Addr}{fl:List Str}(h:(fl.all λf=>decide (RB K (.ref C) f=Z_ none))=ZX):∀f∈fl,NoAttr K C f:=λf hf=>by
 rw[RJ]at h;exact of_decide_eq_true (p:=RB K (.ref C) f=Z_ none) (h f hf)
theorem oY:∀ns:List Int,Reps W G (ns.map .int) (ns.map V.int)
 | []=>by simp only[S9,Reps]
 | n::ns=>by simp only[QL,Reps,Rep];exact⟨trivial,oY ns⟩
def spZ(K:QK)(p:Prg)(n i:Nat):Sp:=λvs H Q E=>∃w0,∀CT,spFn ⟨K,CT⟩ ((orc p w0 n).fn i) 1 vs H Q E
def Gh{K:QK}{p:Prg}{n i:Nat}{H:Hp}{a:Addr}{ns:List Int}(hp:∃w0,(orc p w0 n).fn i [.lst (ns.map .int)]=.ok (ZZ,.bl ZX))(hS:SqL K H a (ns.map V.int)):spZ K p n i [.ref a] H (λv _=>v=.bl ZX) λ_ _ _=>False:=by
 obtain⟨w0,e⟩:=hp;refine⟨w0,λCT=>⟨rfl,λ_=>False,[.lst (ns.map .int)],λ_ z=>z.elim,λ_ z=>z.elim,?_,_,e,λv H' s q=>?_⟩⟩
 .simp only[Reps,Rep]
  refine⟨⟨a,_,rfl,?_,oY ns⟩,trivial⟩
  have:Same H (vis H λ_=>False):=λb o h=>bQ h λz=>z
  exact this.seq hS
 .have:=q.look
  simp only[RepT,Rep]at this;exact this
def walkZ{l:PySem.W.OpenLaw}{q:Rt}{loose:List Str}{XP:(Str->Option Value)->Rc->Prop}{YP:RX->Rc->Prop}{d:DefRec}{K:WX->QK}{p:Prg}{n i:Nat}{x:Str}
 (hn:l.most=Z_ 63)(hdf:d.params.defaults=[])(hr:Room n Wr)(hY:∀(w:RX)(h:Rc),YP w h->(K w.params).In h)
 (F:∀(w:RX)(mg:Str->Option Value)(fa:Addr)(h:Rc),(K w.params).In h->h.Ns RW mg->mg d.name=Z_ (.ref fa) ->
  ∃(fd:Sw)(CT:Nat->Addr),(∀(s:Shared)(u:Value),WK s fd ⟨[u],[]⟩ [(x,u)])/\∀(base:Rc)(w0:Nat),FnOk l.prog w (K w.params) mg base CX0 n fa fd [x] (spFn ⟨K w.params,CT⟩ ((orc p w0 n).fn i) 1))
 (hp:∀ns:List Int,ns.length<=63->∃w0,(orc p w0 n).fn i [.lst (ns.map .int)]=.ok (ZZ,.bl ZX)) :
 PySem.W.WalkO q loose XP YP l.row.toRowW d [] (λf vs=>PySem.call f vs):=by
 refine L2.walk_of (n:=63) (k:=n) (x:=x) (CX:=λ_=>CX0) (sp:=λw=>spZ (K w.params) p n i) hn (by decide) hdf hr hY (λw mg fa h KX G hm=>?_) (λw H a ns hl _ hS=>Gh (hp ns hl) hS) λ_ _ _ _ _ z=>z
 obtain⟨fd,CT,hb,hF⟩:=F w mg fa h KX G hm;refine⟨fd,hb,λbase _ _=>⟨λvs H Q E ⟨w0,q⟩=>(hF base w0).len vs H Q E (q CT),λA outer s H args us vs Q E hr he hb hv ⟨w0,hs⟩=>(hF base w0).run A outer s H args us vs Q E hr he hb hv (hs CT)⟩⟩
def pU(d:Df):Prop:=∀(kV doc pm:Value)(an:Option Addr)(cdv ct:Value)(us:List Value),us.length=d.ps.length->bindArgs (Tv d.name d.qual (cC d.st) (bF d.st) (aH d.st) .none kV doc pm an cdv ct) ⟨us,[]⟩=pure (d.ps.zip us)
def QC{K:QK}{d:Df}{f:Addr}{od an:Option Addr}{sl:Array (Option Value)}{oc kV dc pm cd ct:Value}(l:K.lookup f=Z_ ⟨oc,od,.func (Tv d.name d.qual (cC d.st) (bF d.st) (aH d.st) .none kV dc pm an cd ct),sl⟩)(c:Uk K cd d.qual=ZX)(k:Rj K (.ref f)=ZX)
 (hb:pU d):∃fd,Fun K d.name d.qual d.st f fd/\Binds K fd d.ps []:=⟨_,yu l c k,Binds.all (hb kV dc pm an cd ct)⟩
def Ov{K:QK}{h:Rc}{mg:Str->Option Value}{d:Df}{f:Addr}{od an:Option Addr}{sl:Array (Option Value)}{oc kV dc pm cd ct:Value}(X:K.In h)(G:h.Ns RW mg)
 (a:V3 K RW d.name=Z_ (Z_ (.ref f)))(l:K.lookup f=Z_ ⟨oc,od,.func (Tv d.name d.qual (cC d.st) (bF d.st) (aH d.st) .none kV dc pm an cd ct),sl⟩)(c:Uk K cd d.qual=ZX)(k:Rj K (.ref f)=ZX)
 (hb:pU d):DfAt K mg d :=
 ⟨f,_,yu l c k,Binds.all (hb kV dc pm an cd ct),Uw X G a⟩
noncomputable def nU:SL->Bool
 | .cons (.expr (.m0 .get (.cst .non))) .nil=>true
 | _=>false
noncomputable def scB(d:Df):Bool:=decide ((aH d.st).kind=.function)&&!(aH d.st).isCoroutine&&!(aH d.st).isGenerator&&decide d.N.Nodup&&decide (d.N.take d.ps.length=d.ps)&&(d.ps.all λx=>decide ((aH d.st).names.lookup x=Z_ .local)||decide ((aH d.st).names.lookup x=Z_ .cell))&&((aH d.st).names.all λy=>!decide (y.2=.free))&&decide (d.ps.length=d.fd.np)&&decide (d.N.length=d.fd.ns)
noncomputable def trq(gl:List (Str×Gk))(d:Df):Option SL:=if nU d.fd.body then none else trSs (trS 40 ⟨d.N,aH d.st,gl⟩) (bF d.st)
noncomputable def trr(d:Df):Option SL:=if nU d.fd.body then none else some d.fd.body
def yR(h:nU l=ZX):l=oX:=by
 unfold nU at h;split at h
 .rfl
 .cases h
theorem iB:∀{l:List α},l.map f=l.map g->∀d∈l,f d=g d
 | [],_,d,hd=>by cases hd
 | x::l,h,d,hd=>by
   simp only[QL,Tj]at h;rcases R8.mp hd with rfl | hd
   .exact h.1
   .exact iB h.2 d hd
def Eu{gl:List (Str×Gk)}{l:List Df}(h1:l.all scB=ZX)(h2:l.map (trq gl)=l.map trr):∀d∈l,DfOk gl d:=λd hd=>by
 have e:=iB h2 d hd;have s:=RJ.mp h1 d hd;simp only[scB,QR,Rf,decide_eq_true_eq,RJ,V1,decide_eq_false_iff_not]at s;obtain⟨⟨⟨⟨⟨⟨⟨⟨s1,s2⟩,s3⟩,s4⟩,s5⟩,s6⟩,s7⟩,s8⟩,s9⟩:=s;refine⟨⟨s1,s2,s3,s4,s5,s6,s7⟩,s8,s9,?_⟩
 cases hh:nU d.fd.body with
 | true=>exact .inr (yR hh)
 | false=>
   simp only[trq,trr,hh,QW,if_false]at e;exact .inl e
noncomputable def bnA(d:Df)(kV doc pm:Value)(an:Option Addr)(cdv ct:Value)(us:List Value):Sem (List (Str×Value)):=bindArgs (Tv d.name d.qual (cC d.st) (bF d.st) (aH d.st) .none kV doc pm an cdv ct) ⟨us,[]⟩
def Dy{l:List Df}(h:∀(kV doc pm:Value)(an:Option Addr)(cdv ct:Value)(g:Nat->Value),(l.map λd=>bnA d kV doc pm an cdv ct ((Ru d.ps.length).map g))=l.map λd=>pure (d.ps.zip ((Ru d.ps.length).map g))):∀d∈l,pU d:=λd hd kV doc pm an cdv ct us hl=>by
 have e:=iB (h kV doc pm an cdv ct λi=>us.getD i .none) d hd
 have eu:(Ru d.ps.length).map (λi=>us.getD i Value.none)=us:=by
  rw[<-hl]
  apply List.ext_getElem
  .simp
  .intro i h1 h2
   simp[Rn h2]
 rw[eu]at e;exact e
abbrev Pl4:=Addr×Addr×Str×Tok
noncomputable def fnO(d:Df)(q:Pl4):Obj:=⟨.type "function",none,.func (Tv d.name d.qual (cC d.st) (bF d.st) (aH d.st) .none .none .none (.str q.2.2.1 q.2.2.2) none (.ref q.2.1) .none),#[]⟩
theorem Ei:∀{l:List α}{t:List β}{d:α},l.length<=t.length->d∈l->∃q,(d,q)∈l.zip t
 | _::l,q::t,d,hl,hd=>by
   rcases R8.mp hd with rfl | hd
   .exact⟨q,by simp⟩
   .obtain⟨q',h⟩:=Ei (l:=l) (t:=t) (by simpa using hl) hd
    exact⟨q',by simp[h]⟩
def at_of{K:QK}{h:Rc}{mg:Str->Option Value}{l:List Df}{t:List Pl4}(X:K.In h)(G:h.Ns RW mg)(hb:∀d∈l,pU d)(hl:l.length<=t.length)
 (e:((l.zip t).map λp=>(V3 K RW p.1.name,K.lookup p.2.1,Uk K (.ref p.2.2.1) p.1.qual,Rj K (.ref p.2.1)))=(l.zip t).map λp=>(Z_ (Z_ (.ref p.2.1)),some (fnO p.1 p.2),ZX,ZX)):∀d∈l,DfAt K mg d:=λd hd=>by
 obtain⟨q,hq⟩:=Ei hl hd;have e:=iB e (d,q) hq;simp only[Vi]at e;exact Ov X G e.1 e.2.1 e.2.2.1 e.2.2.2 (hb d hd)
def Oj{K:QK}{l:List Df}{t:List Pl4}(hb:∀d∈l,pU d)
 (e:((l.zip t).map λp=>(K.lookup p.2.1,Uk K (.ref p.2.2.1) p.1.qual,Rj K (.ref p.2.1)))=(l.zip t).map λp=>(Z_ (fnO p.1 p.2),ZX,ZX))(hl:l.length=t.length)(i:Nat)(d:Df)(hd:l[i]?=Z_ d):∃fd,Fun K d.name d.qual d.st ((t.map (·.1)).getD i 0) fd/\Binds K fd d.ps []:=by
 have hi:=(R9.mp hd).1;have hq:t[i]?=Z_ (t[i]'(by omega)):=Rn _
 have hz:(l.zip t)[i]?=Z_ (d,t[i]'(by omega)):=by rw[List.getElem?_zip_eq_some];exact⟨hd,hq⟩
 have e:=iB e _ (RK hz);simp only[Vi]at e
 have ea:(t.map (·.1)).getD i 0=(t[i]'(by omega)).1:=by simp[hi,<-hl]
 rw[ea];exact QC e.1 e.2.1 e.2.2 (hb d (RK hd))
section
variable{K:QK}{h:Rc}{mg:Str->Option Value}{ds ms:List Df}{cs:List (Str×Gk)}{CT:Nat->Addr}{p:Prg}
noncomputable def tvB:List D->List Value->Bool
 | [],[]=>true
 | .str x::l,.str s _::r=>decide (x.length<=1000)&&decide (s=strV x)&&tvB l r
 | _,_=>false
noncomputable def cvB(K:QK)(q:Str×Gk):Bool:=match q.2,V3 K RW q.1 with
 | .val (.int i),some (Z_ (.int j _))=>decide (i=j)
 | .val (.str x),some (Z_ (.str s _))=>decide (x.length<=1000)&&decide (s=strV x)
 | .val (.tup l),some (Z_ (.ref a))=>(match K.lookup a with
   | some ⟨.type "tuple",_,.seq its _,_⟩=>decide (its.size<=100)&&tvB l its.toList
   | _=>false)
 | .val _,_=>false
 | .dct _ _,_=>false
 | .fn _ _,_=>false
 | _,_=>true
theorem Ea:∀{l:List D}{r:List Value},tvB l r=ZX->∃xs,Vals xs r/\∀G,Reps W G l xs
 | [],[],_=>⟨[],.nil,λG=>by simp only[Reps]⟩
 | .str x::l,.str s t::r,h=>by
   simp only[tvB,QR,decide_eq_true_eq]at h;obtain⟨⟨h1,rfl⟩,h3⟩:=h;obtain⟨xs,q1,q2⟩:=Ea (W:=W) h3;exact⟨.str (strV x)::xs,.cons ⟨t,rfl⟩ q1,λG=>by simp only[Reps];exact⟨NQ h1 G,q2 G⟩⟩
def Mr(X:K.In h)(G:h.Ns RW mg)(e:cs.all (cvB K)=ZX):(∀q∈cs,CsOk P w ⟨K,CT⟩ mg q)/\NoFn cs:=by
 refine⟨λq hq=>⟨λd ed=>?_,λks vs ed=>?_⟩,λq hq i np ed=>?_⟩<;>(have e:=RJ.mp e q hq;unfold cvB at e;rw[ed]at e)
 .split at e
  .rename_i h1 h2
   cases h1;rw[<-of_decide_eq_true e]at h2;exact⟨_,.int _,Uw X G h2,⟨_,rfl⟩,λG=>by simp only[Rep]⟩
  .rename_i h1 h2
   cases h1;simp only[QR,decide_eq_true_eq]at e;obtain⟨e1,rfl⟩:=e;exact⟨_,.str _,Uw X G h2,⟨_,rfl⟩,NQ e1⟩
  .rename_i h1 h2
   cases h1;split at e
   .rename_i h3
    simp only[QR,decide_eq_true_eq]at e;obtain⟨xs,q1,q2⟩:=Ea (W:=⟨K,CT⟩) e.2;exact⟨_,.ref _,Uw X G h2,rfl,Qf (W:=⟨K,CT⟩) h3 e.1 q1 q2⟩
   .cases e
  .cases e
  .cases e
  .cases e
  .rename_i a _ _ _ _ _
   exact(a d rfl).elim
 .split at e<;>first | (cases e;done) | (rename_i h1 h2;cases h1;done) | (rename_i _ a _ _ _ _;exact(a _ _ rfl).elim)
 .split at e<;>first | (cases e;done) | (rename_i h1 h2;cases h1;done) | (rename_i _ _ a _ _ _;exact(a _ _ rfl).elim)
def Oc(X:K.In h)(G:h.Ns RW mg)(e:(bltNames.map λx=>V3 K RW x)=bltNames.map λ_=>some none){gl:List (Str×Gk)}:∀x∈bltNames,gl.lookup x=ZW->mg x=ZW:=λx hx _=>PySem.W.mg_none_of X G (iB e x hx)
noncomputable def nmB(K:QK)(CT:Nat->Addr)(q:Str×Gk):Bool:=match q.2 with
 | .cls c=>decide (V3 K RW q.1=Z_ (Z_ (.ref (CT c))))&&(xIn K (CT c)).isSome
 | .ocl c=>decide (V3 K RW q.1=Z_ (Z_ (.ref (CT c))))
 | _=>true
noncomputable def exF(K:QK)(C:Addr):=(RB K (.ref C) "__getattribute__",RB K (.ref C) "__getattr__",PySem.W.findObj K C none "__class__",PySem.W.mroIn K C (.type "object"),PySem.W.mroIn K C (.type "BaseException"),(PySem.W.clsIn K C).isSome,PySem.W.subIn K (.ref C) (.type "ValueError"))
noncomputable def prB(K:QK)(CT:Nat->Addr)(sub:Nat->Nat->Bool)(r:Nat×Nat)(q:Str×Gk):Bool:=match q.2 with
 | .cls c'=>(!decide (r.1=r.2)||(if sub r.1 c' then V4 K (.ref (CT r.1)) (CT c')else xNot K (CT r.1) (CT c')))&&(!decide (r.2=c')||(xIn K (CT r.1)).any λb=>(Value.ref (CT r.1)::b).contains (.ref (CT c')))
 | .ocl c'=>!decide (r.2=c')||V4 K (.ref (CT r.1)) (CT c')
 | _=>true
def yC{prs:List (Nat×Nat)}(hs:∀c c',p.sub c c'=ZX->(c,c')∈prs)(h2:(prs.all λr=>cs.all (prB K CT p.sub r))=ZX){c c':Nat}(e:p.sub c c'=ZX){q:Str×Gk}(hq:q∈cs):prB K CT p.sub (c,c') q=ZX:=RJ.mp (RJ.mp h2 _ (hs c c' e)) q hq
def Qn(X:K.In h)(G:h.Ns RW mg){prs:List (Nat×Nat)}(hs:∀c c',p.sub c c'=ZX->(c,c')∈prs)(h1:cs.all (nmB K CT)=ZX)(h2:(prs.all λr=>cs.all (prB K CT p.sub r))=ZX)
 (h3:(prs.map λr=>if r.1=r.2 then some (exF K (CT r.1))else none)=prs.map λr=>if r.1=r.2 then some (Z_ (Z_ (.builtin "BaseException.__getattribute__")),some none,some (.bind (.builtin "getset_descriptor.__get__") (.builtin "object.__class__")),some ZX,some ZX,ZX,some ZX)else none):XFacts K mg ⟨K,CT⟩ p.sub (clOf (glOf 0 ds++cs)):=by
 refine⟨yS (P:=λx c=>mg x=Z_ (.ref (CT c))/\∃bm,xIn K (CT c)=Z_ bm) λq hq c e=>?_,λc e=>?_,λx c c' e es=>?_,λx c c' e es=>?_⟩
 .have:=RJ.mp h1 q hq
  simp only[nmB,e,QR,decide_eq_true_eq]at this;exact⟨Uw X G this.1,TY.mp this.2⟩
 .have:=iB h3 _ (hs c c e)
  simp only[if_true,QX,exF,Vi]at this;obtain⟨a1,a2,a3,a4,a5,a6,a7⟩:=this;exact⟨⟨a1,a2,a3,a4,a5,a6⟩,a7⟩
 .exact yS (P:=λ_ c'=>(if p.sub c c' then V4 K (.ref (CT c)) (CT c')else xNot K (CT c) (CT c'))=ZX) (λq hq c' e'=>by
   have:=yC (K:=K) (CT:=CT) hs h2 es hq;simp only[prB,e',QR,decide_true,UL,Ug]at this
   exact this.1) x c' e
 .exact N8 (yS (P:=λ_ c2=>p.sub c c2=ZX->((xIn K (CT c)).any λb=>(Value.ref (CT c)::b).contains (.ref (CT c2)))=ZX) (λq hq c2 e' es=>by
   have:=yC (K:=K) (CT:=CT) hs h2 es hq;simp only[prB,e',QR,decide_true,UL,Ug]at this
   exact this.2) x c' e es)
noncomputable def clB(K:QK)(C:Addr):Bool:=Up K C Str.empty&&V6 K C&&Vu K C&&decide (RB K (.ref C) "__setattr__"=Z_ (Z_ (.builtin "object.__setattr__")))
noncomputable def inF(K:QK)(C f:Addr):=(Vt K (.ref C) "__getattribute__",PySem.W.readsIn K C (.type "type"),PySem.W.findCls K (.ref C) (.type "type") "__init__",Rj K (.ref f),VB (.ref f),(VH K C&&decide (RB K (.ref C) "__init__"=Z_ (Z_ (.ref f)))&&V5 K (.ref f)&&Rj K (.ref C)))
def QD(X:K.In h)(G:h.Ns RW mg){fl:List (List Nat)}{itab:List (Nat×Nat)}{mtab:List (Nat×List Nat×Nat)}{ad:Nat->Addr}{b:Nat}{prs:List (Nat×Nat)}(hs:∀c c',p.sub c c'=ZX->(c,c')∈prs)(h1:cs.all (nmB K CT)=ZX)(h2:(prs.all λr=>cs.all (prB K CT p.sub r))=ZX)
 (hf:(glOf 0 ds++cs).lookup ("!f":Str)=Z_ (.names fl))(hi:p.init=oR itab)(hm:p.meth=tabOf mtab)
 (e1:(itab.all λr=>clB K (CT r.1)&&((fl.map strV).all λf=>decide (RB K (.ref (CT r.1)) f=Z_ none))&&decide (b<=r.2)&&(ms[r.2-b]?).isSome)=ZX)
 (e2:(itab.map λr=>inF K (CT r.1) (ad (r.2-b)))=itab.map λr=>(Z_ (Z_ (.builtin "type.__getattribute__")),ZX,some (.val (.ref (ad (r.2-b)))),ZX,ZX,ZX))
 (e3:(mtab.all λr=>clB K (CT r.1)&&(decide (RB K (.ref (CT r.1)) (strV r.2.1)=Z_ (Z_ (.ref (ad (r.2.2-b)))))&&V5 K (.ref (ad (r.2.2-b)))&&Rj K (.ref (ad (r.2.2-b))))&&decide (b<=r.2.2)&&(ms[r.2.2-b]?).isSome)=ZX):ClFacts K mg ⟨K,CT⟩ p (glOf 0 ds++cs) ms ad b:=by
 refine⟨ww (P:=λx c=>mg x=Z_ (.ref (CT c))) λq hq c e=>?_,λx c' e c es=>?_,λfl' f g1 g2 c g3=>?_,λc f g=>?_,λc m f g=>?_⟩
 .have:=RJ.mp h1 q hq
  simp only[nmB,e,decide_eq_true_eq]at this;exact Uw X G this
 .exact ww (P:=λ_ c2=>p.sub c c2=ZX->V4 K (.ref (CT c)) (CT c2)=ZX) (λq hq c2 e' es=>by
   have:=yC (K:=K) (CT:=CT) hs h2 es hq
   simpa only[prB,e',decide_true,UL,Ug]using this) x c' e es
 .rw[hf]at g1
  cases g1;rw[hi]at g3;obtain⟨j,g3⟩:=TY.mp g3;have:=RJ.mp e1 _ (fu g3);simp only[QR]at this;exact⟨Nk this.1.1.1,Le this.1.1.2 _ (Uy g2)⟩
 .rw[hi]at g
  have t:=RJ.mp e1 _ (fu g);have u:=iB e2 _ (fu g);simp only[QR,decide_eq_true_eq]at t;simp only[inF,Vi]at u;obtain⟨d,hd⟩:=TY.mp t.2;exact⟨f-b,d,(Nat.add_sub_cancel' t.1.2).symm,hd,mk_k u.2.2.2.2.2,u.1,⟨_,u.2.1,u.2.2.1⟩,u.2.2.2.2.1,u.2.2.2.1⟩
 .rw[hm]at g
  have t:=RJ.mp e3 _ (nj g);simp only[QR]at t;obtain⟨d,hd⟩:=TY.mp t.2;exact⟨f-b,d,(Nat.add_sub_cancel' (of_decide_eq_true t.1.2)).symm,hd,Nk t.1.1.1,NT (by simp only[QR];exact t.1.1.2)⟩
end
end Z
namespace KG
open Z
def aD{o:Orc}{s:S}{l:SL}{δ δ':Dst}(h:evS o s δ=.nx δ'):evSs o (.cons s l) δ=evSs o l δ':=by simp only[evSs,h]
def aG(a b:Int)(hb:0<b):0<=a.fmod b/\a.fmod b<b:=⟨Int.fmod_nonneg_of_pos a hb,Int.fmod_lt_of_pos a hb⟩
noncomputable def L26:List Nat:=[97,98,99,100,101,102,103,104,105,106,107,108,109,110,111,112,113,114,115,116,117,118,119,120,121,122]
noncomputable def S36:List Nat:=L26++[48,49,50,51,52,53,54,55,56,57]
def vY:L26.length=26:=rfl
def yV:S36.length=36:=rfl
noncomputable def lt(j:Int):Nat:=L26.getD (j.fmod 26).toNat 0
noncomputable def sg(j:Int):Nat:=S36.getD (j.fmod 36).toNat 0
def yG(x:List Nat)(j:Int)(h0:0<=j)(h1:j<x.length):idxD (.str x) (.int j)=.ok (ZZ,.str [x.getD j.toNat 0]):=by
 have hn:j.toNat<x.length:=by omega
 simp only[idxD,place,if_pos h0,if_pos h1,R7,Xu];rw[Rn hn];simp[RV,Rn hn]
def CW(j:Int):idxD (.str L26) (.int (j.fmod 26))=.ok (ZZ,.str [lt j]):=by
 obtain⟨h1,h2⟩:=aG j 26 (by omega);exact yG L26 _ h1 (by rw[vY];omega)
def Ez(j:Int):idxD (.str S36) (.int (j.fmod 36))=.ok (ZZ,.str [sg j]):=by
 obtain⟨h1,h2⟩:=aG j 36 (by omega);exact yG S36 _ h1 (by rw[yV];omega)
theorem lJ{f c:List D->R (Bool×D)}{g:D->D}:∀{l:List D},(∀d∈l,c [d]=.ok (ZZ,.bl ZX))->(∀d∈l,∃w,f [d]=.ok (w,g d))->bB f c 1 ZZ l=.ok (l.map g)
 | [],_,_=>rfl
 | d::l,hc,hf=>by
   obtain⟨w,e⟩:=hf d QM;have ih:=lJ (λd h=>hc d (QQ _ h)) (λd h=>hf d (QQ _ h));simp only[bB,takes,QW,if_false,Xu,Xr,hc d QM,truth,if_true,e,ih,QL]
theorem jm{f c:List D->R (Bool×D)}{g:D->D}{q:D->Bool}:∀{l:List D},(∀d∈l,c [d]=.ok (ZZ,.bl (q d)))->(∀d∈l,q d=ZX->∃w,f [d]=.ok (w,g d))->bB f c 1 ZZ l=.ok ((l.filter q).map g)
 | [],_,_=>rfl
 | d::l,hc,hf=>by
   have ih:=jm (λd h=>hc d (QQ _ h)) (λd h=>hf d (QQ _ h))
   cases hq:q d with
   | true=>
     obtain⟨w,e⟩:=hf d QM hq;simp only[bB,takes,QW,if_false,Xu,Xr,hc d QM,truth,hq,if_true,e,ih,List.filter_cons_of_pos hq,QL]
   | false=>
     simp only[bB,takes,QW,if_false,Xu,Xr,hc d QM,truth,hq,ih,List.filter_cons_of_neg (show ¬q d=ZX by simp[hq])]
theorem mG{f c:List D->R (Bool×D)}{m:Nat}{g:List D->D}:∀{l:List (List D)},(∀x∈l,x.length=m)->(∀x∈l,c x=.ok (ZZ,.bl ZX))->(∀x∈l,∃w,f x=.ok (w,g x))->bB f c m ZX (l.map Y7)=.ok (l.map g)
 | [],_,_,_=>rfl
 | x::l,hm,hc,hf=>by
   obtain⟨w,e⟩:=hf x QM;have ih:=mG (λd h=>hm d (QQ _ h)) (λd h=>hc d (QQ _ h)) (λd h=>hf d (QQ _ h));simp only[QL,bB,takes,if_true,hm x QM,Xu,Xr,hc x QM,truth,e,ih]
noncomputable def dN(cell base:Int):Int:=if(base.fdiv 8).fmod 2=1 then 1+(base+cell).fmod 8 else 1+base.fmod 8
noncomputable def lZ(cell base:Int):List Nat:=((Ru (dN cell base).toNat).map λ(k:Nat)=>sg (base.fdiv 3+5*(k:Int))).set 0 (lt (base.fdiv 3))
noncomputable def dD(cell base:Int):Int:=(base.fdiv 16).fmod (dN cell base)
noncomputable def jU(cell base:Int):List Nat:=if dD cell base=0 then(lZ cell base).set 0 (lt (base.fdiv 5+cell))else(lZ cell base).set (dD cell base).toNat (sg (base.fdiv 5+cell))
noncomputable def jq:List (List Nat):=[[97,110,100],[111,114],[110,111,116],[115,111,109,101],[97,108,108],[97,108,105,107,101],[98,121]]
noncomputable def nm(cell base:Int):List Nat:=if jU cell base∈jq then jU cell base++[57]else jU cell base
def tE(cell base:Int):1<=dN cell base/\dN cell base<=8:=by
 unfold dN;have h1:=aG (base+cell) 8 (by omega);have h2:=aG base 8 (by omega);split<;>omega
noncomputable def nmS0:S:=(Xw 2 (Xj (Xq L26)))
noncomputable def nmS1:S:=(Xw 3 (Xm .add (Xi 2) (Xj (Xq [48,49,50,51,52,53,54,55,56,57]))))
noncomputable def nmS2:S:=(Xw 4 (Xm .add (Xj (Xk 1)) (Xm .mod (Xi 1) (Xj (Xk 8)))))
noncomputable def nmS3:S:=(Xx (Xm .eq (Xm .mod (Xm .fdiv (Xi 1) (Xj (Xk 8))) (Xj (Xk 2))) (Xj (Xk 1))) (Xn (Xw 4 (Xm .add (Xj (Xk 1)) (Xm .mod (Xm .add (Xi 1) (Xi 0)) (Xj (Xk 8))))) Xp) Xp)
noncomputable def nmS4:S:=(Xw 5 (XQ [1,3] 1 ZZ (Y6 (Xi 4)) (Xj (XN ZX)) (Xv (Xi 2) (Xm .mod (Xm .add (Xm .fdiv (Xi 1) (Xj (Xk 3))) (Xm .mul (Xj (Xk 5)) (Xi 0))) (Xj (Xk 36))))))
noncomputable def nmS5:S:=(Y5 5 (Xj (Xk 0)) (Xv (Xi 2) (Xm .mod (Xm .fdiv (Xi 1) (Xj (Xk 3))) (Xj (Xk 26)))))
noncomputable def nmS6:S:=(Xw 6 (Xm .mod (Xm .fdiv (Xi 1) (Xj (Xk 16))) (Xi 4)))
noncomputable def nmS7:S:=(Xx (Xm .eq (Xi 6) (Xj (Xk 0))) (Xn (Y5 5 (Xj (Xk 0)) (Xv (Xi 2) (Xm .mod (Xm .add (Xm .fdiv (Xi 1) (Xj (Xk 5))) (Xi 0)) (Xj (Xk 26))))) Xp) (Xn (Y5 5 (Xi 6) (Xv (Xi 3) (Xm .mod (Xm .add (Xm .fdiv (Xi 1) (Xj (Xk 5))) (Xi 0)) (Xj (Xk 36))))) Xp))
noncomputable def nmS8:S:=(Xw 7 (T.m1 .join (Xj (Xq [])) (Xi 5)))
noncomputable def nmS9:S:=(Xx (Xm .in (Xi 7) (XF (Xl (Xj (Xq [97,110,100])) (Xl (Xj (Xq [111,114])) (Xl (Xj (Xq [110,111,116])) (Xl (Xj (Xq [115,111,109,101])) (Xl (Xj (Xq [97,108,108])) (Xl (Xj (Xq [97,108,105,107,101])) (Xl (Xj (Xq [98,121])) Xo))))))))) (Xn (XC (Xm .add (Xi 7) (Xj (Xq [57])))) Xp) Xp)
noncomputable def Gg:S:=(XC (Xi 7))
noncomputable def nmFd:Fd:=⟨2,8,(Xn nmS0 (Xn nmS1 (Xn nmS2 (Xn nmS3 (Xn nmS4 (Xn nmS5 (Xn nmS6 (Xn nmS7 (Xn nmS8 (Xn nmS9 (Xn Gg Xp)))))))))))⟩
def log8:W9 8<9000:=by decide
def log3:W9 3<9000:=by decide
def Qp:W9 16<9000:=by decide
def log5:W9 5<9000:=by decide
def mul5(k:Int):dR 5 k=ZX:=by
 have:bits 5<=64:=by decide
 simp[dR,this]
section
variable(o:Orc)(cell base:Int)
def nm0(a b c d e f:Option Slot):evS o nmS0 [some (.sh,.int cell),some (.sh,.int base),a,b,c,d,e,f]=.nx [some (.sh,.int cell),some (.sh,.int base),some (.sh,.str L26),b,c,d,e,f]:=by
 simp[nmS0,evS,evF,ev,SO.of,setSlot,aB]
def nm1(b c d e f:Option Slot):evS o nmS1 [some (.sh,.int cell),some (.sh,.int base),some (.sh,.str L26),b,c,d,e,f]=.nx [some (.sh,.int cell),some (.sh,.int base),some (.sh,.str L26),some (.sh,.str S36),c,d,e,f]:=by
 simp[nmS1,evS,evF,ev,SO.of,setSlot,aB,o2,Xr,Xz,size,S36,L26]
def nm2(c d e f:Option Slot):evS o nmS2 [some (.sh,.int cell),some (.sh,.int base),some (.sh,.str L26),some (.sh,.str S36),c,d,e,f]=.nx [some (.sh,.int cell),some (.sh,.int base),some (.sh,.str L26),some (.sh,.str S36),some (.sh,.int (1+base.fmod 8)),d,e,f]:=by
 simp[nmS2,evS,evF,ev,SO.of,setSlot,aB,o2,Xr,Xz,arith]
def nm3(d e f:Option Slot):evS o nmS3 [some (.sh,.int cell),some (.sh,.int base),some (.sh,.str L26),some (.sh,.str S36),some (.sh,.int (1+base.fmod 8)),d,e,f]=.nx [some (.sh,.int cell),some (.sh,.int base),some (.sh,.str L26),some (.sh,.str S36),some (.sh,.int (dN cell base)),d,e,f]:=by
 unfold dN;generalize 1+base.fmod 8=z
 by_cases h:(base.fdiv 8).fmod 2=1
 .rw[if_pos h]
  simp[nmS3,evSs,evS,evF,ev,SO.of,setSlot,aB,o2,Xr,Xz,arith,eqA,eqS,Xu,truth,h,log8]
 .rw[if_neg h]
  simp[nmS3,evSs,evS,evF,ev,SO.of,setSlot,aB,o2,Xr,Xz,arith,eqA,eqS,Xu,truth,h,log8]
noncomputable def strD(l:List Nat):List D:=l.map λc=>.str [c]
def nm4(e f:Option Slot)(z:Int)(hz:1<=z/\z<=8):evS o nmS4 [some (.sh,.int cell),some (.sh,.int base),some (.sh,.str L26),some (.sh,.str S36),some (.sh,.int z),none,e,f]=.nx [some (.sh,.int cell),some (.sh,.int base),some (.sh,.str L26),some (.sh,.str S36),some (.sh,.int z),some (.ow,.lst (strD ((Ru z.toNat).map λ(k:Nat)=>sg (base.fdiv 3+5*(k:Int))))),e,f]:=by
 have hr:inR z=ZX:=by simp[inR];omega
 have hcg:bB (λx=>ev o ((x++[Xk base,Xq S36]).map λd=>some (Own.sh,d)) ZZ (Xv (Xi 2) (Xm .mod (Xm .add (Xm .fdiv (Xi 1) (Xj (Xk 3))) (Xm .mul (Xj (Xk 5)) (Xi 0))) (Xj (Xk 36))))) (λx=>ev o ((x++[Xk base,Xq S36]).map λd=>some (Own.sh,d)) ZX (Xj (XN ZX))) 1 ZZ (rngD 0 z)=.ok (strD ((Ru z.toNat).map λ(k:Nat)=>sg (base.fdiv 3+5*(k:Int)))):=by
  rw[lJ (g:=λd=>match d with | .int k=>.str [sg (base.fdiv 3+5*k)] | _=>.non)]
  .simp[rngD,strD]
  .intro d _
   simp[ev]
  .intro d hd
   obtain⟨k,_,rfl⟩:=Rx.mp hd;refine⟨false,?_⟩;simp[ev,o2,Xr,arith,Xz,log3,mul5,Ez]
 have hsz:(strD ((Ru z.toNat).map λ(k:Nat)=>sg (base.fdiv 3+5*(k:Int)))).length<=16777216:=by
  simp[strD];omega
 generalize strD ((Ru z.toNat).map λ(k:Nat)=>sg (base.fdiv 3+5*(k:Int)))=row at hcg hsz
 have he:ev o [some (.sh,.int cell),some (.sh,.int base),some (.sh,.str L26),some (.sh,.str S36),some (.sh,.int z),none,e,f] ZZ (XQ [1,3] 1 ZZ (Y6 (Xi 4)) (Xj (XN ZX)) (Xv (Xi 2) (Xm .mod (Xm .add (Xm .fdiv (Xi 1) (Xj (Xk 3))) (Xm .mul (Xj (Xk 5)) (Xi 0))) (Xj (Xk 36)))))=.ok (ZX,.lst row):=by
  rw[ev]
  have h1:evI o [some (.sh,.int cell),some (.sh,.int base),some (.sh,.str L26),some (.sh,.str S36),some (.sh,.int z),none,e,f] ZX (Y6 (Xi 4))=.ok (rngD 0 z):=by simp[evI,ev,Xr,Xz,hr]
  have h2:cW [some (.sh,.int cell),some (.sh,.int base),some (.sh,.str L26),some (.sh,.str S36),some (.sh,.int z),none,e,f] [1,3]=Z_ [.int base,.str S36]:=by simp[cW,ut]
  rw[h1,h2];simp only[Xr,Xu];rw[hcg];simp[Xz,size,hsz,isOwn]
 simp only[nmS4,evS,evF,he];simp[SO.of,setSlot,aB]
def lB(l:List Nat)(n c:Nat):(strD l).set n (.str [c])=strD (l.set n c):=by
 simp[strD,List.map_set]
def rQ(l:List Nat):(strD l).length=l.length:=by simp[strD]
def nm5(e f:Option Slot)(z:Option Slot)(r:List Nat)(hr:0<r.length):evS o nmS5 [some (.sh,.int cell),some (.sh,.int base),some (.sh,.str L26),some (.sh,.str S36),z,some (.ow,.lst (strD r)),e,f]=.nx [some (.sh,.int cell),some (.sh,.int base),some (.sh,.str L26),some (.sh,.str S36),z,some (.ow,.lst (strD (r.set 0 (lt (base.fdiv 3))))),e,f]:=by
 have hr':0<(strD r).length:=by rw[rQ];omega
 simp[nmS5,evS,evF,ev,SO.of,aB,o2,Xr,Xz,arith,log3,CW,ownD,putItem,place,hr',lB]
def nm6(f:Option Slot)(r:Option Slot)(z:Int)(hz:1<=z):evS o nmS6 [some (.sh,.int cell),some (.sh,.int base),some (.sh,.str L26),some (.sh,.str S36),some (.sh,.int z),r,none,f]=.nx [some (.sh,.int cell),some (.sh,.int base),some (.sh,.str L26),some (.sh,.str S36),some (.sh,.int z),r,some (.sh,.int ((base.fdiv 16).fmod z)),f]:=by
 have:z≠0:=by omega
 simp[nmS6,evS,evF,ev,SO.of,setSlot,aB,o2,Xr,Xz,arith,Qp,this]
def nm7(f z:Option Slot)(r:List Nat)(q:Int)(hq:0<=q/\q<r.length):evS o nmS7 [some (.sh,.int cell),some (.sh,.int base),some (.sh,.str L26),some (.sh,.str S36),z,some (.ow,.lst (strD r)),some (.sh,.int q),f] =
 .nx [some (.sh,.int cell),some (.sh,.int base),some (.sh,.str L26),some (.sh,.str S36),z,some (.ow,.lst (strD (if q=0 then r.set 0 (lt (base.fdiv 5+cell))else r.set q.toNat (sg (base.fdiv 5+cell))))),some (.sh,.int q),f]:=by
 have hr':q<((strD r).length:Int):=by rw[rQ];exact hq.2
 by_cases h:q=0
 .subst h
  have hr':0<(strD r).length:=by omega
  simp[nmS7,evSs,evS,evF,ev,SO.of,aB,o2,Xr,Xz,arith,eqA,eqS,Xu,truth,log5,CW,ownD,putItem,place,hr',lB]
 .simp[nmS7,evSs,evS,evF,ev,SO.of,aB,o2,Xr,Xz,arith,eqA,eqS,Xu,truth,log5,Ez,ownD,putItem,place,hr',hq.1,h,lB]
theorem jo:∀l:List Nat,strsOf (strD l)=Z_ (l.map λc=>[c])
 | []=>rfl
 | c::l=>by
   have:=jo l;simp only[strD,QL,strsOf]at this ⊢;rw[this];rfl
theorem jX:∀l:List Nat,jG [] (l.map λc=>[c])=l
 | []=>rfl
 | [c]=>rfl
 | c::d::l=>by
   have:=jX (d::l);simp only[QL,jG]at this ⊢;rw[this];rfl
theorem tQ:∀l:List Nat,((l.map λc=>[c]).map Sx).sum=l.length
 | []=>rfl
 | c::l=>by
   have:=tQ l;simp only[QL,Wf,R6,T4]at this ⊢;omega
def uU(l:List Nat):(List.map (Sx∘λc=>[c]) l).sum=l.length:=by
 have:=tQ l
 rwa [RD]at this
def nm8(z q a b c d:Option Slot)(r:List Nat)(hr:r.length<=8):evS o nmS8 [a,b,c,d,z,some (.ow,.lst (strD r)),q,none]=.nx [a,b,c,d,z,some (.ow,.lst (strD r)),q,some (.sh,.str r)]:=by
 have hs:size r.length=ZX:=by simp[size];omega
 simp[nmS8,evS,evF,ev,SO.of,setSlot,aB,Xr,m1D,jo,uU,jX,Xu,hs]
theorem iZ(x:List Nat):∀l:List (List Nat),inS (.str x) (l.map Xq)=Z_ (decide (x∈l))
 | []=>rfl
 | y::l=>by
   simp only[QL,inS,iZ x l,eqS]
   by_cases h:y=x
   .simp[h]
   .have:¬x=y:=λz=>h z.symm
    simp[h,this]
def nm9(z q a b c d:Option Slot)(r:List Nat)(w:Option Slot)(hr:r.length<=8)(k:SL):evSs o (Xn nmS9 (Xn Gg Xp)) [a,b,c,d,z,w,q,some (.sh,.str r)]=.rt ZZ (.str (if r∈jq then r++[57]else r)) [a,b,c,d,z,w,q,some (.sh,.str r)]:=by
 have hs:size (r.length+1)=ZX:=by simp[size];omega
 have hin:=iZ r jq;simp only[jq,QL,S9]at hin
 have h7:size 7=ZX:=by decide
 have ht:ev o [a,b,c,d,z,w,q,some (.sh,.str r)] ZX (Xm .in (Xi 7) (XF (Xl (Xj (Xq [97,110,100])) (Xl (Xj (Xq [111,114])) (Xl (Xj (Xq [110,111,116])) (Xl (Xj (Xq [115,111,109,101])) (Xl (Xj (Xq [97,108,108])) (Xl (Xj (Xq [97,108,105,107,101])) (Xl (Xj (Xq [98,121])) Xo)))))))))=.ok (ZZ,.bl (decide (r∈jq))):=by
  simp only[ev,evL,Xr,bR,Bool.or_self,Xz,R6,T4,Ux,Nat.reduceAdd,h7,Sy,Vm,if_true,o2,isIn,gW,hin,Ro,Xu,List.getElem?_cons_succ,List.getElem?_cons_zero]
  rfl
 by_cases h:r∈jq
 .have h9:evS o nmS9 [a,b,c,d,z,w,q,some (.sh,.str r)]=.rt ZZ (.str (r++[57])) [a,b,c,d,z,w,q,some (.sh,.str r)]:=by
   simp only[nmS9,evS];rw[ht];simp[Xr,truth,Xu,SO.of,h,evSs,evS,evF,ev,o2,Xz,hs]
  simp only[evSs,h9,if_pos h]
 .have h9:evS o nmS9 [a,b,c,d,z,w,q,some (.sh,.str r)]=.nx [a,b,c,d,z,w,q,some (.sh,.str r)]:=by
   simp only[nmS9,evS];rw[ht];simp[Xr,truth,Xu,SO.of,h,evSs]
  simp only[evSs,h9,if_neg h,Gg,evS];simp
def zT{o:Orc}{f:Fd}{args:List D}{w:Bool}{d:D}{δ:Dst}(ha:args.length=f.np)(h:evSs o f.body (args.map (λd=>some (Own.sh,d))++Ry (f.ns-f.np) none)=.rt w d δ):bf o f args=.ok (w,d):=by
 simp only[bf,ha,if_true,h]
def JL:bf o nmFd [.int cell,.int base]=.ok (ZZ,.str (nm cell base)):=by
 have hz:=tE cell base
 have hrow:(lZ cell base).length=(dN cell base).toNat:=by simp[lZ]
 have hp:=aG (base.fdiv 16) (dN cell base) (by omega)
 have h0:0<((Ru (dN cell base).toNat).map λ(k:Nat)=>sg (base.fdiv 3+5*(k:Int))).length:=by simp;omega
 have hl2:(if dD cell base=0 then(lZ cell base).set 0 (lt (base.fdiv 5+cell))else(lZ cell base).set (dD cell base).toNat (sg (base.fdiv 5+cell))).length<=8:=by
  split<;>(rw[List.length_set,hrow];omega)
 refine zT rfl (δ:=?_) ?_
 rotate_left
 refine(aD (nm0 o cell base _ _ _ _ _ _)).trans ?_;refine(aD (nm1 o cell base _ _ _ _ _)).trans ?_;refine(aD (nm2 o cell base _ _ _ _)).trans ?_;refine(aD (nm3 o cell base _ _ _)).trans ?_;refine(aD (nm4 o cell base _ _ _ hz)).trans ?_;refine(aD (nm5 o cell base _ _ _ _ h0)).trans ?_;refine(aD (nm6 o cell base _ _ _ hz.1)).trans ?_;refine(aD (nm7 o cell base _ _ (lZ cell base) (dD cell base) (by rw[hrow];unfold dD;omega))).trans ?_;refine(aD (nm8 o _ _ _ _ _ _ _ hl2)).trans ?_;exact nm9 o _ _ _ _ _ _ _ _ hl2 .nil
end
def aF(ha:args.length=f.np)(h0:args.map (λd=>some (Own.sh,d))++Ry (f.ns-f.np) none=δ0)(h:∃δ,evSs o f.body δ0=.rt w d δ):bf o f args=.ok (w,d):=by
 obtain⟨δ,h⟩:=h;simp only[bf,ha,if_true,h0,h]
def stp(δ':Dst)(h:evS o s δ=.nx δ')(k:∃δ1,evSs o l δ'=.rt w d δ1):∃δ1,evSs o (.cons s l) δ=.rt w d δ1:=by
 obtain⟨δ1,k⟩:=k;exact⟨δ1,(aD h).trans k⟩
def stpR(h:evS o s δ=.rt w d δ'):∃δ1,evSs o (.cons s l) δ=.rt w d δ1:=⟨δ',by simp only[evSs,h]⟩
noncomputable def isV:T->Bool
 | .var _=>true
 | _=>false
def retE(hv:isV e=ZZ):evS o (.ret e) δ=SO.of (evF o δ e).1 (evF o δ e).2 λr=>.rt r.1 r.2 (evF o δ e).1:=by cases e<;>first | rfl | exact nomatch hv
def forE(h:cR δ it=δ1):evS o (.for_ tg tp it b) δ=SO.of δ1 (evI o δ1 ZZ it) λl=>cF (evSs o b) tg tp l δ1:=by subst h;simp only[evS]
noncomputable def sG:Fd:=⟨2,2,(Xn (Xx (Xm .lt (Xi 1) (XD .len (Xi 0))) (Xn (XC (Xv (Xi 0) (Xi 1))) Xp) Xp) (Xn (XC (Xj (Xk 0))) Xp))⟩
def BZ(o:Orc)(ns:List Int)(k:Nat):bf o sG [.lst (ns.map .int),.int (k:Int)]=.ok (ZZ,.int (ns.getD k 0)):=by
 by_cases h:k<ns.length
 .have h':(k:Int)<(ns.length:Int):=by omega
  have h0:(0:Int)<=k:=by omega
  simp[bf,sG,evSs,evS,evF,ev,Xr,o2,b1D,arith,truth,Xu,SO.of,h,h',idxD,place,h0,RV,Rn h]
 .have h':¬(k:Int)<(ns.length:Int):=by omega
  have h2:ns[k]?=ZW:=List.getElem?_eq_none (by omega);simp[bf,sG,evSs,evS,evF,ev,Xr,o2,b1D,arith,truth,Xu,SO.of,h,h',RV,h2]
noncomputable def PR:List Int:=[271828183,314159269,161803399,141421357,173205081,223606797,244948975,264575131,331662479,360555127]
noncomputable def Gp:S:=(Xw 3 (XH (Xl (Xj (Xk 271828183)) (Xl (Xj (Xk 314159269)) (Xl (Xj (Xk 161803399)) (Xl (Xj (Xk 141421357)) (Xl (Xj (Xk 173205081)) Xo)))))))
noncomputable def J7:S:=(Xw 3 (Xm .add (Xi 3) (XH (Xl (Xj (Xk 223606797)) (Xl (Xj (Xk 244948975)) (Xl (Xj (Xk 264575131)) (Xl (Xj (Xk 331662479)) (Xl (Xj (Xk 360555127)) Xo))))))))
noncomputable def Il:S:=(XC (Xm .mod (Xm .mod (Xm .mul (Xm .add (Xi 0) (Xj (Xk 1))) (Xv (Xi 3) (Xi 1))) (Xj (Xk 1000000007))) (Xi 2)))
noncomputable def JK:Fd:=⟨3,4,(Xn Gp (Xn J7 (Xn Il Xp)))⟩
noncomputable def mixV(c:Int)(k:Nat)(m:Int):Int:=(((c+1)*PR.getD k 0).fmod 1000000007).fmod m
def Hj:∀p∈PR,bits p<=64:=by decide
def Bs(k:Nat)(hk:k<10):bits (PR.getD k 0)<=64:=by
 apply Hj
 rw[RV,Rn (show k<PR.length from hk)];exact VJ _
def idx_int(x:List Int)(k:Nat)(h:k<x.length):idxD (.lst (x.map .int)) (.int (k:Int))=.ok (ZZ,.int (x.getD k 0)):=by
 have h0:(0:Int)<=k:=by omega
 simp[idxD,place,h0,h,Xu,RV,Rn h]
def mix2(o:Orc)(c m:Int)(k:Nat)(hk:k<10)(hm:m≠0):evS o Il [some (.sh,.int c),some (.sh,.int k),some (.sh,.int m),some (.ow,.lst (PR.map .int))]=.rt ZZ (.int (mixV c k m)) [some (.sh,.int c),some (.sh,.int k),some (.sh,.int m),some (.ow,.lst (PR.map .int))]:=by
 have hi:=idx_int PR k hk;have hb:=Bs k hk;unfold mixV;generalize PR.getD k 0=p at hi hb;generalize PR.map Xk=L at hi
 have hm':dR (c+1) p=ZX:=by simp[dR,hb]
 simp[Il,evS,evF,ev,Xr,o2,arith,hi,Xz,hm,hm',SO.of]
def Ii(o:Orc)(c m:Int)(k:Nat)(hk:k<10)(hm:m≠0):bf o JK [.int c,.int (k:Int),.int m]=.ok (ZZ,.int (mixV c k m)):=by
 refine aF rfl (δ0:=[some (.sh,.int c),some (.sh,.int k),some (.sh,.int m),none]) rfl ?_;refine stp (s:=Gp) [some (.sh,.int c),some (.sh,.int k),some (.sh,.int m),some (.ow,.lst [.int 271828183,.int 314159269,.int 161803399,.int 141421357,.int 173205081])] ?_ ?_
 .simp[Gp,evS,evF,ev,evL,bR,Xr,Xz,size,SO.of,setSlot,aB]
 refine stp (s:=J7) [some (.sh,.int c),some (.sh,.int k),some (.sh,.int m),some (.ow,.lst (PR.map .int))] ?_ ?_
 .simp[J7,evS,evF,ev,evL,bR,Xr,Xz,size,SO.of,setSlot,aB,o2,PR]
 exact stpR (mix2 o c m k hk hm)
def fD(c:Int)(k:Nat)(m:Int)(hm:0<m):0<=mixV c k m/\mixV c k m<m:=aG _ m hm
noncomputable def Hm:Fd:=⟨1,2,(Xn (Xx (Xm .eq (Xm .mod (Xi 0) (Xj (Xk 2))) (Xj (Xk 0))) (Xn (XC (Xm .sub (Xm .mod (Xm .fdiv (Xi 0) (Xj (Xk 2))) (Xj (Xk 15))) (Xj (Xk 7)))) Xp) Xp) (Xn (Xw 1 (Xm .add (Xm .mod (Xm .fdiv (Xi 0) (Xj (Xk 4))) (Xm .pow (Xj (Xk 10)) (Xj (Xk 20)))) (Xm .mul (Xm .mod (Xm .fdiv (Xi 0) (Xj (Xk 4))) (Xj (Xk 3))) (Xm .pow (Xj (Xk 10)) (Xj (Xk 19)))))) (Xn (XC (Xm .sub (Xi 1) (Xm .mul (Xm .mul (Xj (Xk 2)) (Xi 1)) (Xm .mod (Xm .fdiv (Xi 0) (Xj (Xk 2))) (Xj (Xk 2)))))) Xp)))⟩
noncomputable def o9(c:Int):Int:=(c.fdiv 4).fmod 100000000000000000000+(c.fdiv 4).fmod 3*10000000000000000000
noncomputable def numV(c:Int):Int:=if c.fmod 2=0 then(c.fdiv 2).fmod 15-7 else o9 c-2*o9 c*(c.fdiv 2).fmod 2
def Lz(o:Orc)(c:Int):ev o [some (.sh,.int c),none] ZZ (Xm .add (Xm .mod (Xm .fdiv (Xi 0) (Xj (Xk 4))) (Xm .pow (Xj (Xk 10)) (Xj (Xk 20)))) (Xm .mul (Xm .mod (Xm .fdiv (Xi 0) (Xj (Xk 4))) (Xj (Xk 3))) (Xm .pow (Xj (Xk 10)) (Xj (Xk 19)))))=.ok (ZZ,.int (o9 c)):=by
 have l4:W9 4<9000:=by decide
 have p20:arith .pow 10 20=.ok (ZZ,.int 100000000000000000000):=by rfl
 have p19:arith .pow 10 19=.ok (ZZ,.int 10000000000000000000):=by rfl
 have hb:bits 10000000000000000000<=64:=by decide
 have hm:∀x,dR x 10000000000000000000=ZX:=λx=>by simp[dR,hb]
 have md:arith .mod (c.fdiv 4) 100000000000000000000=.ok (ZZ,.int ((c.fdiv 4).fmod 100000000000000000000)):=by simp[arith,Xz]
 have mu:∀x,arith .mul x 10000000000000000000=.ok (ZZ,.int (x*10000000000000000000)):=λx=>by simp[arith,Xz,hm]
 have ad:∀x y,arith .add x y=.ok (ZZ,.int (x+y)):=λx y=>rfl
 have m3:∀x,arith .mod x 3=.ok (ZZ,.int (x.fmod 3)):=λx=>by simp[arith,Xz]
 have d4:arith .fdiv c 4=.ok (ZZ,.int (c.fdiv 4)):=by simp[arith,Xz,l4]
 unfold o9;generalize (100000000000000000000:Int)=A at p20 md ⊢;generalize (10000000000000000000:Int)=B at p19 mu ⊢;simp[ev,Xr,o2,d4,p20,p19,md,mu,ad,m3]
def zG(o:Orc)(c v:Int):ev o [some (.sh,.int c),some (.sh,.int v)] ZZ (Xm .sub (Xi 1) (Xm .mul (Xm .mul (Xj (Xk 2)) (Xi 1)) (Xm .mod (Xm .fdiv (Xi 0) (Xj (Xk 2))) (Xj (Xk 2)))))=.ok (ZZ,.int (v-2*v*(c.fdiv 2).fmod 2)):=by
 have l2:W9 2<9000:=by decide
 have b2:bits 2<=64:=by decide
 have m2:dR 2 v=ZX:=by simp[dR,b2]
 have hq:=aG (c.fdiv 2) 2 (by omega)
 have m3:dR (2*v) ((c.fdiv 2).fmod 2)=ZX:=by
  have:(c.fdiv 2).fmod 2=0\/(c.fdiv 2).fmod 2=1:=by omega
  have b0:bits 0<=64:=by decide
  have b1:bits 1<=64:=by decide
  rcases this with e | e<;>simp[dR,e,b0,b1]
 simp[ev,Xr,o2,arith,Xz,l2,m2,m3]
def J9(o:Orc)(c:Int):bf o Hm [.int c]=.ok (ZZ,.int (numV c)):=by
 unfold numV
 by_cases h:c.fmod 2=0
 .rw[if_pos h]
  have l2:W9 2<9000:=by decide
  simp[bf,Hm,evSs,evS,evF,ev,Xr,o2,arith,Xz,eqA,eqS,Xu,truth,SO.of,h,l2]
 .rw[if_neg h]
  have hv:=Lz o c;generalize o9 c=v at hv ⊢;have hr:=zG o c v;generalize v-2*v*(c.fdiv 2).fmod 2=r at hr ⊢;refine aF rfl (δ0:=[some (.sh,.int c),none]) rfl ?_;refine stp [some (.sh,.int c),none] ?_ ?_
  .simp[evSs,evS,ev,Xr,o2,arith,Xz,eqA,eqS,Xu,truth,SO.of,h]
  refine stp [some (.sh,.int c),some (.sh,.int v)] ?_ ?_
  .simp only[evS,evF,hv]
   simp[SO.of,setSlot,aB]
  refine stpR (δ':=[some (.sh,.int c),some (.sh,.int v)]) ?_;simp only[evS,evF,hr,SO.of]
noncomputable def kE(ix:Nat):Fd:=⟨2,2,(Xn (Xx (Yb (Xi 1) .tup) (Xn (Xx (Y0 (Yj (Yb (Xi 0) .tup)) (Xm .ne (XD .len (Xi 0)) (XD .len (Xi 1)))) (Xn (XC (Xj (XN ZZ))) Xp) Xp) (Xn (XC (XD .all (XQ [1,0] 1 ZZ (Y6 (XD .len (Xi 1))) (Xj (XN ZX)) (Xy ix (Xl (Xv (Xi 2) (Xi 0)) (Xl (Xv (Xi 1) (Xi 0)) Xo)))))) Xp)) Xp) (Xn (Xx (Yb (Xi 1) .str) (Xn (XC (Y8 (Yb (Xi 0) .str) (Xm .eq (Xi 0) (Xi 1)))) Xp) Xp) (Xn (XC (Y8 (Yb (Xi 0) .int) (Y8 (Yj (Yb (Xi 0) .bool)) (Xm .eq (Xi 0) (Xi 1))))) Xp)))⟩
noncomputable def okT:Nat->D->Prop
 | _,.int _=>True
 | _,.str _=>True
 | n+1,.tup l=>l.length<=1000000/\∀d∈l,okT n d
 | _,_=>False
def same_int(o:Orc)(ix:Nat)(i:Int):bf o (kE ix) [.int i,.int i]=.ok (ZZ,.bl ZX):=by
 simp[bf,kE,evSs,evS,evF,ev,Xr,isD,Xu,truth,SO.of,o2,eqA,eqS,cj]
def same_str(o:Orc)(ix:Nat)(i:List Nat):bf o (kE ix) [.str i,.str i]=.ok (ZZ,.bl ZX):=by
 simp[bf,kE,evSs,evS,evF,ev,Xr,isD,Xu,truth,SO.of,o2,eqA,eqS,cj]
theorem ir:∀n:Nat,boolsOf (Ry n (.bl ZX))=Z_ (Ry n ZX)
 | 0=>rfl
 | n+1=>by simp[List.replicate_succ,boolsOf,ir n]
def Gr(x:List D)(k:Nat)(h:k<x.length):idxD (.tup x) (.int (k:Int))=.ok (ZZ,x[k]):=by
 have h0:(0:Int)<=k:=by omega
 simp[idxD,place,h0,h,Xu,Rn h]
theorem pD:∀n:Nat,immL (Ry n (.bl ZX))=ZX
 | 0=>rfl
 | n+1=>by simp[List.replicate_succ,immL,D.imm,pD n]
def aU(o:Orc)(ix:Nat)(l:List D)(hl:l.length<=1000000)(h:∀d∈l,o.fn ix [d,d]=.ok (ZZ,.bl ZX)):bf o (kE ix) [.tup l,.tup l]=.ok (ZZ,.bl ZX):=by
 have hr:inR (l.length:Int)=ZX:=by simp[inR];omega
 have hcg:bB (λx=>ev o ((x++[Y7 l,Y7 l]).map λd=>some (Own.sh,d)) ZZ (Xy ix (Xl (Xv (Xi 2) (Xi 0)) (Xl (Xv (Xi 1) (Xi 0)) Xo)))) (λx=>ev o ((x++[Y7 l,Y7 l]).map λd=>some (Own.sh,d)) ZX (Xj (XN ZX))) 1 ZZ (rngD 0 l.length)=.ok (Ry l.length (.bl ZX)):=by
  rw[lJ (g:=λd=>.bl ZX)]
  .rw[List.map_const'];simp[rngD]
  .intro d _
   simp[ev]
  .intro d hd
   obtain⟨k,hk,rfl⟩:=Rx.mp hd
   have hk':k<l.length:=by have:=W4.mp hk;omega
   refine⟨false,?_⟩;simp[ev,evL,Xr,Gr l k hk',bR,h _ (VJ hk'),lent]
 have hs:size l.length=ZX:=by simp[size];omega
 have he:ev o [some (.sh,.tup l),some (.sh,.tup l)] ZX (XQ [1,0] 1 ZZ (Y6 (XD .len (Xi 1))) (Xj (XN ZX)) (Xy ix (Xl (Xv (Xi 2) (Xi 0)) (Xl (Xv (Xi 1) (Xi 0)) Xo))))=.ok (ZX,.lst (Ry l.length (.bl ZX))):=by
  rw[ev]
  have h1:evI o [some (.sh,.tup l),some (.sh,.tup l)] ZX (Y6 (XD .len (Xi 1)))=.ok (rngD 0 l.length):=by simp[evI,ev,Xr,Xz,b1D,hr]
  have h2:cW [some (.sh,.tup l),some (.sh,.tup l)] [1,0]=Z_ [.tup l,.tup l]:=by simp[cW,ut]
  rw[h1,h2];simp only[Xr,Xu];rw[hcg];simp[Xz,hs,pD]
 refine aF rfl (δ0:=[some (.sh,.tup l),some (.sh,.tup l)]) rfl ?_;refine stpR (δ':=[some (.sh,.tup l),some (.sh,.tup l)]) ?_;rw[evS]
 have hc:((ev o [some (.sh,.tup l),some (.sh,.tup l)] ZX (Yb (Xi 1) .tup)).bind λx=>Xu (truth x.2))=.ok ZX:=by simp[ev,Xr,isD,Xu,truth]
 rw[hc];simp only[SO.of,if_true];rw[aD (δ':=[some (.sh,.tup l),some (.sh,.tup l)])]
 .have he2:ev o [some (.sh,.tup l),some (.sh,.tup l)] ZZ (XD .all (XQ [1,0] 1 ZZ (Y6 (XD .len (Xi 1))) (Xj (XN ZX)) (Xy ix (Xl (Xv (Xi 2) (Xi 0)) (Xl (Xv (Xi 1) (Xi 0)) Xo)))))=.ok (ZZ,.bl ZX):=by
   rw[ev,he];simp[Xr,b1D,ir,Xu]
  simp only[evSs,evS,evF,he2,SO.of]
 .simp[evSs,evS,ev,Xr,isD,Xu,truth,SO.of,o2,eqA,eqS,cj,b1D]
def same_refl(P:Prg)(w ix:Nat)(hP:P.fns[ix]?=Z_ (kE ix)):∀(n:Nat)(d:D)(m:Nat),okT n d->n<m->(orc P w m).fn ix [d,d]=.ok (ZZ,.bl ZX):=by
 intro n
 induction n with
 | zero=>
   intro d m h hm
   obtain⟨m,rfl⟩:∃k,m=k+1:=⟨m-1,by omega⟩
   cases d<;>simp only[okT]at h
   .rw[aP hP];exact same_int _ _ _
   .rw[aP hP];exact same_str _ _ _
 | succ n ih=>
   intro d m h hm
   obtain⟨m,rfl⟩:∃k,m=k+1:=⟨m-1,by omega⟩
   cases d<;>simp only[okT]at h
   .rw[aP hP];exact same_int _ _ _
   .rw[aP hP];exact same_str _ _ _
   .rw[aP hP]
    exact aU _ _ _ h.1 λd hd=>ih d m (h.2 d hd) (by omega)
theorem gn:∀x y,ltS x y=ZX->ltS y x=ZZ
 | [],[],h=>by simp[ltS]at h
 | [],_::_,_=>by simp[ltS]
 | _::_,[],h=>by simp[ltS]at h
 | a::x,b::y,h=>by
   simp only[ltS]at h ⊢
   by_cases h1:a<b
   .have:¬b<a:=by omega
    simp[this,h1]
   .by_cases h2:b<a
    .simp[h1,h2]at h
    .simp only[h1,h2,if_false]at h ⊢
     exact gn x y h
theorem dj:∀x y,ltS x y=ZZ->ltS y x=ZZ->x=y
 | [],[],_,_=>rfl
 | [],_::_,h,_=>by simp[ltS]at h
 | _::_,[],_,h=>by simp[ltS]at h
 | a::x,b::y,h,h'=>by
   simp only[ltS]at h h'
   by_cases h1:a<b
   .simp[h1]at h
   .by_cases h2:b<a
    .simp[h2]at h'
    .simp only[h1,h2,if_false]at h h'
     rw[dj x y h h',show a=b by omega]
theorem gD:∀x y z,ltS x y=ZX->ltS y z=ZX->ltS x z=ZX
 | [],[],_,h,_=>by simp[ltS]at h
 | [],_::_,[],_,h=>by simp[ltS]at h
 | [],_::_,_::_,_,_=>rfl
 | _::_,[],_,h,_=>by simp[ltS]at h
 | _::_,_::_,[],_,h=>by simp[ltS]at h
 | a::x,b::y,c::z,h,h'=>by
   simp only[ltS]at h h' ⊢
   by_cases h1:a<b
   .by_cases h3:b<c
    .have:a<c:=by omega
     simp[this]
    .by_cases h4:c<b
     .simp[h3,h4]at h'
     .have:a<c:=by omega
      simp[this]
   .by_cases h2:b<a
    .simp[h1,h2]at h
    .simp only[h1,h2,if_false]at h
     by_cases h3:b<c
     .have:a<c:=by omega
      simp[this]
     .by_cases h4:c<b
      .simp[h3,h4]at h'
      .simp only[h3,h4,if_false]at h'
       have e1:¬a<c:=by omega
       have e2:¬c<a:=by omega
       simp only[e1,e2,if_false];exact gD x y z h h'
theorem mL(x y:List Nat):∀l,insS x (insS y l)=insS y (insS x l)
 | []=>by
   simp only[insS];cases h1:ltS x y<;>cases h2:ltS y x<;>simp[insS]
   .exact⟨(dj _ _ h1 h2).symm,dj _ _ h1 h2⟩
   .have:=gn _ _ h1;simp[this]at h2
 | a::l=>by
   have ih:=mL x y l;simp only[insS];cases hx:ltS x a<;>cases hy:ltS y a<;>simp only[insS,hx,hy,QW,if_false,if_true]
   .rw[ih]
   .cases h:ltS x y with
    | true=>have:=gD _ _ _ h hy;simp[this]at hx
    | false=>simp[insS,hx]
   .cases h:ltS y x with
    | true=>have:=gD _ _ _ h hx;simp[this]at hy
    | false=>simp[insS,hy]
   .cases h1:ltS x y<;>cases h2:ltS y x<;>simp[insS,hx,hy]
    .exact⟨(dj _ _ h1 h2).symm,dj _ _ h1 h2⟩
    .have:=gn _ _ h1;simp[this]at h2
def zE(h:l.Perm l'):cG l=cG l':=by
 induction h with
 | nil=>rfl
 | cons x _ ih=>simp only[cG,ih]
 | swap x y l=>simp only[cG,mL]
 | trans _ _ h1 h2=>exact h1.trans h2
theorem cM(x:List Nat):∀l,(insS x l).Perm (x::l)
 | []=>Wu.refl _
 | y::l=>by
   simp only[insS];split
   .exact Wu.refl _
   .exact((cM x l).cons y).trans (Wu.swap x y l)
theorem bG:∀l,(cG l).Perm l
 | []=>Wu.refl _
 | x::l=>(cM x _).trans ((bG l).cons x)
theorem eO [DecidableEq α]:∀{l m:List α},l.Nodup->(∀x∈l,x∈m)->l.length<=m.length
 | [],_,_,_=>by simp
 | a::l,m,hn,hs=>by
   have ha:a∈m:=hs a QM;have hn':=T3.mp hn
   have:=eO (m:=m.erase a) hn'.2 λx hx=>(List.mem_erase_of_ne (show x≠a from λe=>hn'.1 (e▸hx))).mpr (hs x (QQ _ hx))
   rw[List.length_erase_of_mem ha]at this;have hp:0<m.length:=List.length_pos_of_mem ha;simp only[R6];omega
def lY{α:Type} [DecidableEq α]{l m:List α}(h1:l.Nodup)(h2:m.Nodup)(h:∀x,x∈l↔x∈m):l.Perm m:=by
 rw[List.perm_iff_count];intro a
 by_cases ha:a∈l
 .rw[h1.count,h2.count,if_pos ha,if_pos ((h a).mp ha)]
 .rw[List.count_eq_zero_of_not_mem ha,List.count_eq_zero_of_not_mem λx=>ha ((h a).mpr x)]
abbrev Pair:=List Nat×Int
noncomputable def addP:List Pair->Pair->List Pair
 | [],p=>[p]
 | (x,v)::m,p=>if x=p.1 then(x,v+p.2)::m else(x,v)::addP m p
noncomputable def ksD(m:List Pair):List DK:=m.map λp=>.s p.1
noncomputable def vsD(m:List Pair):List D:=m.map λp=>.int p.2
noncomputable def cV:List Pair->List Nat->Option Int
 | [],_=>none
 | (x,v)::m,n=>if x=n then some v else cV m n
theorem xR(n:List Nat):∀m:List Pair,look (ksD m) (vsD m) (.s n)=(cV m n).map .int
 | []=>rfl
 | (x,v)::m=>by
   have ih:=xR n m;simp only[ksD,vsD,QL,look,cV]at ih ⊢
   by_cases h:x=n
   .simp[h]
   .simp[h,ih]
theorem yX(p:Pair):∀m:List Pair,cO (ksD m) (.s p.1)=ksD (addP m p)
 | []=>rfl
 | (x,v)::m=>by
   have ih:=yX p m;simp only[ksD,QL,cO,addP]at ih ⊢
   by_cases h:x=p.1
   .simp[h]
   .simp[h,ih]
theorem DR(p:Pair):∀m:List Pair,putV (ksD m) (vsD m) (.s p.1) (.int ((cV m p.1).getD 0+p.2))=vsD (addP m p)
 | []=>by simp[ksD,vsD,putV,addP,cV]
 | (x,v)::m=>by
   have ih:=DR p m;simp only[ksD,vsD,QL,putV,addP,cV]at ih ⊢
   by_cases h:x=p.1
   .simp[h]
   .simp[h,ih]
noncomputable def tot(l:List Pair)(n:List Nat):Int:=((l.filter λp=>p.1=n).map (·.2)).sum
noncomputable def gather(l:List Pair):List Pair:=l.foldl addP []
theorem kY(p:Pair)(n:List Nat):∀m,cV (addP m p) n=if p.1=n then some ((cV m n).getD 0+p.2)else cV m n
 | []=>by simp[addP,cV]
 | (x,v)::m=>by
   have ih:=kY p n m;simp only[addP]
   by_cases h:x=p.1
   .simp only[h,if_true,cV]
    by_cases h2:p.1=n<;>simp[h2]
   .simp only[h,if_false,cV]
    by_cases h2:x=n
    .have:¬p.1=n:=λe=>h (h2.trans e.symm)
     simp[h2,this]
    .simp[h2,ih]
theorem jf(p:Pair)(n:List Nat):∀m:List Pair,n∈(addP m p).map (·.1)↔n=p.1\/n∈m.map (·.1)
 | []=>by simp[addP]
 | (x,v)::m=>by
   have ih:=jf p n m;simp only[addP]
   by_cases h:x=p.1
   .simp[h]
   .simp only[h,if_false,QL,R8,ih]
    constructor
    all_goals(rintro(h | h | h)<;>simp[h])
theorem jQ(p:Pair):∀m:List Pair,(m.map (·.1)).Nodup->((addP m p).map (·.1)).Nodup
 | [],_=>by simp[addP]
 | (x,v)::m,hn=>by
   have hn':=T3.mp (by simpa using hn:(x::m.map (·.1)).Nodup);simp only[addP]
   by_cases h:x=p.1
   .simpa[h]using hn
   .simp only[h,if_false,QL]
    refine T3.mpr ⟨?_,jQ p m hn'.2⟩;rw[jf]
    rintro(e | e)
    .exact h e
    .exact hn'.1 e
theorem rM(p:Pair):∀m:List Pair,(addP m p).length<=m.length+1
 | []=>by simp[addP]
 | (x,v)::m=>by
   have:=rM p m;simp only[addP];split<;>simp only[R6]<;>omega
theorem eY:∀(l m:List Pair),(m.map (·.1)).Nodup->((l.foldl addP m).map (·.1)).Nodup/\(∀n,n∈(l.foldl addP m).map (·.1)↔n∈l.map (·.1)\/n∈m.map (·.1))/\∀n,(cV (l.foldl addP m) n).getD 0=(cV m n).getD 0+tot l n
 | [],m,hn=>by simp[hn,tot]
 | p::l,m,hn=>by
   obtain⟨h1,h2,h3⟩:=eY l (addP m p) (jQ p m hn);refine⟨h1,λn=>?_,λn=>?_⟩
   .rw[UW,h2,jf]
    simp only[QL,R8]
    constructor
    .rintro(h | h | h)<;>simp[h]
    .rintro((h | h) | h)<;>simp[h]
   .rw[UW,h3,kY]
    by_cases h:p.1=n
    .simp[h,tot];omega
    .simp[h,tot]
theorem nT(n:List Nat):∀m:List Pair,n∈m.map (·.1)->∃v,cV m n=Z_ v
 | [],h=>by simp at h
 | (x,v)::m,h=>by
   simp only[cV]
   by_cases e:x=n
   .exact⟨v,by simp[e]⟩
   .obtain⟨v',h'⟩:=nT n m (by
     simp only[QL,R8]at h;rcases h with h | h
     .exact absurd h.symm e
     .exact h)
    exact⟨v',by simp[e,h']⟩
noncomputable def keysOf(l:List Pair):List (List Nat):=(gather l).map (·.1)
def cA(l:List Pair):(keysOf l).Nodup:=(eY l [] (by simp)).1
def dm(l:List Pair)(n:List Nat):n∈keysOf l↔n∈l.map (·.1):=by
 have:=(eY l [] (by simp)).2.1 n;simpa[keysOf,gather]using this
def qH(l:List Pair)(n:List Nat)(h:n∈keysOf l):cV (gather l) n=Z_ (tot l n):=by
 obtain⟨v,hv⟩:=nT n (gather l) h;have:=(eY l [] (by simp)).2.2 n;rw[show l.foldl addP []=gather l from rfl,hv]at this;simp[cV]at this;rw[hv,this]
noncomputable def prD(p:Pair):D:=.tup [.str p.1,.int p.2]
noncomputable def sumL(l:List Pair):List Pair:=((cG (keysOf l)).filter λn=>tot l n≠0).map λn=>(n,tot l n)
noncomputable def sumD(c:Int)(l:List Pair):D:=.tup [.int c,.tup ((sumL l).map prD)]
theorem jA:∀m:List Pair,strsOf ((ksD m).map keyD)=Z_ (m.map (·.1))
 | []=>rfl
 | p::m=>by
   have:=jA m;simp only[ksD,QL,RD,keyD,strsOf]at this ⊢;rw[this];rfl
abbrev Srt(l:List (List Nat)):Prop:=l.Pairwise λa b=>ltS b a=ZZ
theorem qQ(x:List Nat):∀l,Srt l->Srt (insS x l)
 | [],_=>by simp[insS]
 | y::l,h=>by
   obtain⟨h1,h2⟩:=T5.mp h;simp only[insS]
   cases e:ltS x y with
   | true=>
     simp only[if_true];refine T5.mpr ⟨λz hz=>?_,h⟩;rcases R8.mp hz with rfl | hz
     .exact gn _ _ e
     .cases e2:ltS z x with
      | false=>rfl
      | true=>
        have:=gD _ _ _ e2 e;rw[h1 z hz]at this;cases this
   | false=>
     simp only[QW,if_false];refine T5.mpr ⟨λz hz=>?_,qQ x l h2⟩;rcases R8.mp ((cM x l).mem_iff.mp hz)with rfl | hz
     .exact e
     .exact h1 z hz
theorem nF:∀l,Srt (cG l)
 | []=>by simp[cG]
 | x::l=>qQ x _ (nF l)
theorem vD(x:List Nat):∀l,(∀y∈l,ltS y x=ZZ)->insS x l=x::l
 | [],_=>rfl
 | y::l,h=>by
   simp only[insS]
   cases e:ltS x y with
   | true=>rfl
   | false=>
     have hy:=dj _ _ e (h y QM);subst hy;simp only[QW,if_false];rw[vD x l λz hz=>h z (QQ _ hz)]
theorem lH:∀l,Srt l->cG l=l
 | [],_=>rfl
 | x::l,h=>by
   obtain⟨h1,h2⟩:=T5.mp h;simp only[cG];rw[lH l h2,vD x l h1]
def z6(n:List Nat):tot [] n=0:=rfl
def eU(p:Pair)(l:List Pair)(n:List Nat):tot (p::l) n=(if p.1=n then p.2 else 0)+tot l n:=by
 by_cases h:p.1=n<;>simp[tot,h]
def eV(l m:List Pair)(n:List Nat):tot (l++m) n=tot l n+tot m n:=by
 induction l with
 | nil=>simp[z6]
 | cons p l ih=>rw[SN,eU,eU,ih];omega
def dY(k:Int)(l:List Pair)(n:List Nat):tot (l.map λp=>(p.1,k*p.2)) n=k*tot l n:=by
 induction l with
 | nil=>simp[z6]
 | cons p l ih=>
   rw[QL,eU,eU,ih,Int.mul_add]
   by_cases h:p.1=n<;>simp[h]
def qG(l:List Pair)(n:List Nat)(h:n∉l.map (·.1)):tot l n=0:=by
 induction l with
 | nil=>rfl
 | cons p l ih=>
   simp only[QL,R8,not_or]at h;rw[eU,ih h.2,if_neg λe=>h.1 e.symm];rfl
def Fi(l:List Pair)(hn:(l.map (·.1)).Nodup):∀p∈l,tot l p.1=p.2:=by
 induction l with
 | nil=>simp
 | cons q l ih=>
   obtain⟨h1,h2⟩:=T3.mp (by simpa using hn:(q.1::l.map (·.1)).Nodup);intro p hp;rw[eU];rcases R8.mp hp with rfl | hp
   .rw[if_pos rfl,qG l _ h1];omega
   .have:q.1≠p.1:=λe=>h1 (e▸Uy hp)
    rw[if_neg this,ih h2 p hp];omega
def iV(l:List Pair):(sumL l).map (·.1)=(cG (keysOf l)).filter λn=>tot l n≠0:=by
 simp[sumL,T6]
def sZ(l:List Pair):Srt ((sumL l).map (·.1)):=by
 rw[iV];exact(nF _).sublist List.filter_sublist
def gY(l:List Pair):((sumL l).map (·.1)).Nodup:=by
 rw[iV];exact(((bG _).nodup_iff).mpr (cA l)).sublist List.filter_sublist
def eZ(l:List Pair)(p:Pair):p∈sumL l↔tot l p.1=p.2/\p.2≠0:=by
 constructor
 .intro h
  obtain⟨n,hn,rfl⟩:=Rx.mp h;have:=(UT.mp hn).2;exact⟨rfl,by simpa using this⟩
 .rintro⟨h1,h2⟩
  refine Rx.mpr ⟨p.1,UT.mpr ⟨?_,by simp[h1,h2]⟩,by rw[h1]⟩;rw[(bG _).mem_iff,dm]
  apply Classical.byContradiction
  intro hx;exact h2 (h1▸qG l _ hx)
def lz(l:List Pair)(n:List Nat):tot (sumL l) n=tot l n:=by
 by_cases h:tot l n=0
 .rw[h]
  apply qG
  intro hn;obtain⟨p,hp,rfl⟩:=Rx.mp hn;have:=(eZ l p).mp hp;omega
 .have hp:(n,tot l n)∈sumL l:=(eZ l _).mpr ⟨rfl,h⟩
  exact Fi _ (gY l) _ hp
def lC(h:∀n,tot l n=tot m n):sumL l=sumL m:=by
 have hf:((cG (keysOf l)).filter λn=>tot l n≠0)=(cG (keysOf m)).filter λn=>tot m n≠0:=by
  rw[<-iV,<-iV];rw[<-lH _ (sZ l),<-lH _ (sZ m)]
  apply zE
  apply lY (gY l) (gY m)
  intro x
  constructor
  .intro hx
   obtain⟨p,hp,rfl⟩:=Rx.mp hx;have:=(eZ l p).mp hp;exact Rx.mpr ⟨p,(eZ m p).mpr ⟨(h _).symm.trans this.1,this.2⟩,rfl⟩
  .intro hx
   obtain⟨p,hp,rfl⟩:=Rx.mp hx;have:=(eZ m p).mp hp;exact Rx.mpr ⟨p,(eZ l p).mpr ⟨(h _).trans this.1,this.2⟩,rfl⟩
 unfold sumL;rw[hf];simp only[h]
def Bd(x:Int):Prop:=x.natAbs<2 ^ 70
def Cj(c:Int):0<=o9 c/\o9 c<=120000000000000000000:=by
 unfold o9;have h1:=aG (c.fdiv 4) 100000000000000000000 (by omega);have h2:=aG (c.fdiv 4) 3 (by omega);omega
def Gu(c:Int):Bd (numV c):=by
 unfold numV Bd;have hz:=Cj c;have h2:=aG (c.fdiv 2) 2 (by omega);have h15:=aG (c.fdiv 2) 15 (by omega)
 have hp:(2:Nat) ^ 70=1180591620717411303424:=by decide
 rw[hp];split
 .omega
 .have:(c.fdiv 2).fmod 2=0\/(c.fdiv 2).fmod 2=1:=by omega
  rcases this with e | e<;>rw[e]<;>omega
noncomputable abbrev dctP(m:List Pair):D:=.dct (ksD m) (vsD m)
def Mf(m:List Pair)(n:List Nat):qe (dctP m) (.str n) (.int 0)=.ok (ZZ,.int ((cV m n).getD 0)):=by
 simp only[qe,keyOf,Ro,Xu,xR];cases cV m n<;>rfl
def Qs(m:List Pair)(p:Pair)(hm:m.length<=100000):putItem (dctP m) (.str p.1) (.int ((cV m p.1).getD 0+p.2))=Z_ (dctP (addP m p)):=by
 have:(ksD m).length<=100000:=by simpa[ksD]using hm
 simp only[putItem,keyOf,R7,this,if_true,yX,DR]
def Bh(m:List Pair)(hm:m.length<64):b1D .sorted (dctP m)=.ok (ZX,.lst ((cG (m.map (·.1))).map .str)):=by
 have:(m.map (·.1)).length<64:=by simpa using hm
 simp only[b1D,rP,R7,jA,this,if_true,Xu]
noncomputable def cmC:T:=(Xm .ne (Xv (Xi 1) (Xi 0)) (Xj (Xk 0)))
noncomputable def cmE:T:=(XF (Xl (Xi 0) (Xl (Xv (Xi 1) (Xi 0)) Xo)))
def Ly(l:List Pair)(n:List Nat)(h:n∈keysOf l):idxD (dctP (gather l)) (.str n)=.ok (ZZ,.int (tot l n)):=by
 simp only[idxD,keyOf,R7,xR,qH l n h,Ro,Xu]
def J8:size 2=ZX:=by decide
noncomputable def BP(o:Orc)(l:List Pair):bB (λx=>ev o ((x++[dctP (gather l)]).map λd=>some (Own.sh,d)) ZZ cmE) (λx=>ev o ((x++[dctP (gather l)]).map λd=>some (Own.sh,d)) ZX cmC) 1 ZZ ((cG (keysOf l)).map .str)=.ok ((sumL l).map prD):=by
 rw[jm (g:=λd=>match d with | .str n=>prD (n,tot l n) | _=>.non) (q:=λd=>match d with | .str n=>decide (tot l n≠0) | _=>false)]
 .rw[List.filter_map]
  simp[sumL,T6]
 .intro d hd
  obtain⟨n,hn,rfl⟩:=Rx.mp hd;have hk:n∈keysOf l:=(bG _).mem_iff.mp hn;have hi:=Ly l n hk;generalize dctP (gather l)=X at hi;simp[cmC,ev,Xr,hi,o2,eqA,eqS,Xu]
 .intro d hd _
  obtain⟨n,hn,rfl⟩:=Rx.mp hd;have hk:n∈keysOf l:=(bG _).mem_iff.mp hn;have hi:=Ly l n hk;generalize dctP (gather l)=X at hi;refine⟨false,?_⟩;simp[cmE,ev,evL,bR,isOwn,Xr,hi,Xz,J8,prD]
theorem zf:∀l:List Pair,immL (l.map prD)=ZX
 | []=>rfl
 | p::l=>by simp[immL,prD,D.imm,zf l]
def gK(l:List Pair):(sumL l).length<=(keysOf l).length:=by
 unfold sumL;rw[R5];refine RP (List.length_filter_le _ _) ?_;rw[(bG _).length_eq];exact Ra _
def Ao(p:Pair):takes 2 ZX (prD p)=Z_ [.str p.1,.int p.2]:=by simp[takes,prD]
noncomputable def soB:SL:=(Xn (Y5 2 (Xi 3) (Xm .add (Ys (Xi 2) (Xi 3) (Xj (Xk 0))) (Xi 4))) Xp)
noncomputable def soE:T:=(XF (Xl (Xi 0) (Xl (XD .tuple (XQ [2] 1 ZZ (XJ (XD .sorted (Xi 2))) cmC cmE)) Xo)))
noncomputable def soFd:Fd:=⟨2,5,(Xn (Xw 2 (T.dnew [] Xo)) (Xn (Ye [3,4] ZX (XJ (Xi 1)) soB) (Xn (XC soE) Xp)))⟩
def Hx(o:Orc)(a b:Option Slot)(m:List Pair)(p:Pair)(hm:m.length<=100000):evSs o soB [a,b,some (.ow,dctP m),some (.sh,.str p.1),some (.sh,.int p.2)]=.nx [a,b,some (.ow,dctP (addP m p)),some (.sh,.str p.1),some (.sh,.int p.2)]:=by
 have h1:=Mf m p.1;have h2:=Qs m p hm;generalize dctP m=X at h1 h2 ⊢;generalize dctP (addP m p)=Y at h2 ⊢;generalize (cV m p.1).getD 0=v at h1 h2
 have he:ev o [a,b,some (.ow,X),some (.sh,.str p.1),some (.sh,.int p.2)] ZZ (Xm .add (Ys (Xi 2) (Xi 3) (Xj (Xk 0))) (Xi 4))=.ok (ZZ,.int (v+p.2)):=by
  simp[ev,Xr,h1,o2,arith]
 generalize v+p.2=z at he h2;simp only[soB,evSs,evS,evF,he,SO.of];simp[ev,ownD,h2,aB]
theorem Dd(o:Orc)(a b:Option Slot):∀(l m:List Pair)(c d:Option Slot),m.length+l.length<=100000->∃c' d',cF (evSs o soB) [3,4] ZX (l.map prD) [a,b,some (.ow,dctP m),c,d]=.nx [a,b,some (.ow,dctP (l.foldl addP m)),c',d']
 | [],m,c,d,_=>⟨c,d,rfl⟩
 | p::l,m,c,d,h=>by
   simp only[R6]at h;have hl:=rM p m;obtain⟨c',d',ih⟩:=Dd o a b l (addP m p) (Z_ (.sh,.str p.1)) (Z_ (.sh,.int p.2)) (by omega);refine⟨c',d',?_⟩
   have hs:aM [a,b,some (.ow,dctP m),c,d] [3,4] [.str p.1,.int p.2]=Z_ [a,b,some (.ow,dctP m),some (.sh,.str p.1),some (.sh,.int p.2)]:=by simp[aM,setSlot]
   simp only[QL,cF,R6,T4,Ux,Nat.reduceAdd,Ao,hs,Hx o a b m p (by omega),UW];exact ih
def Kq(o:Orc)(c:Int)(b d e:Option Slot)(l:List Pair)(hk:(keysOf l).length<64):ev o [some (.sh,.int c),b,some (.ow,dctP (gather l)),d,e] ZZ soE=.ok (ZZ,sumD c l):=by
 have hg:=BP o l;have hs:=Bh (gather l) (by simpa[keysOf]using hk);have hi:=zf (sumL l)
 have hz:size ((sumL l).map prD).length=ZX:=by
  have:=gK l;simp[size];omega
 have hx:ev o [some (.sh,.int c),b,some (.ow,dctP (gather l)),d,e] ZX (XQ [2] 1 ZZ (XJ (XD .sorted (Xi 2))) cmC cmE)=.ok (ZX,.lst ((sumL l).map prD)):=by
  rw[show(gather l).map (·.1)=keysOf l from rfl]at hs;rw[ev]
  have h1:evI o [some (.sh,.int c),b,some (.ow,dctP (gather l)),d,e] ZX (XJ (XD .sorted (Xi 2)))=.ok ((cG (keysOf l)).map .str):=by
   generalize dctP (gather l)=X at hs;simp[evI,ev,Xr,hs,jk,Xu]
  have h2:cW [some (.sh,.int c),b,some (.ow,dctP (gather l)),d,e] [2]=Z_ [dctP (gather l)]:=by simp[cW,ut]
  rw[h1,h2];simp only[Xr,Xu];rw[hg];simp only[Xz,hz,hi,Bool.true_or,Vm,if_true]
 unfold sumD;generalize (sumL l).map prD=L at hx;generalize dctP (gather l)=X at hx
 have hb:ev o [some (.sh,.int c),b,some (.ow,X),d,e] ZZ (XD .tuple (XQ [2] 1 ZZ (XJ (XD .sorted (Xi 2))) cmC cmE))=.ok (ZZ,.tup L):=by
  rw[ev,hx];rfl
 have h0:ev o [some (.sh,.int c),b,some (.ow,X),d,e] ZZ (Xi 0)=.ok (ZZ,.int c):=by simp[ev]
 rw[soE,ev,evL,evL,evL];simp only[bR,isOwn,hb,h0,Xr,Xz,R6,T4,J8,List.getElem?_cons_zero];simp[J8]
def vJ(o:Orc)(c:Int)(l:List Pair)(x:D)(hx:jk x=Z_ (l.map prD))(hl:l.length<=1000)(hk:(keysOf l).length<64):bf o soFd [.int c,x]=.ok (ZZ,sumD c l):=by
 refine aF rfl (δ0:=[some (.sh,.int c),some (.sh,x),none,none,none]) rfl ?_;refine stp [some (.sh,.int c),some (.sh,x),some (.ow,dctP []),none,none] ?_ ?_
 .simp[evS,evF,ev,evL,Xr,Xz,SO.of,setSlot,aB,ksD,vsD]
 obtain⟨c',d',hf⟩:=Dd o (Z_ (.sh,.int c)) (Z_ (.sh,x)) l [] none none (by simp;omega);refine stp [some (.sh,.int c),some (.sh,x),some (.ow,dctP (gather l)),c',d'] ?_ ?_
 .rw[evS]
  have h1:cR [some (.sh,.int c),some (.sh,x),some (.ow,dctP []),none,none] (XJ (Xi 1))=[some (.sh,.int c),some (.sh,x),some (.ow,dctP []),none,none]:=by simp[cN,cR,cN,share1]
  have h2:evI o [some (.sh,.int c),some (.sh,x),some (.ow,dctP []),none,none] ZZ (XJ (Xi 1))=.ok (l.map prD):=by simp[evI,ev,Xr,hx,Xu]
  rw[h1];simp only[h2,SO.of];exact hf
 refine stpR (δ':=[some (.sh,.int c),some (.sh,x),some (.ow,dctP (gather l)),c',d']) ?_;have:=Kq o c (Z_ (.sh,x)) c' d' l hk;rw[retE rfl];simp only[evF,this,SO.of]
def J1(c:Int)(l:List Pair)(hk:(keysOf l).length<64):okT 3 (sumD c l):=by
 have:=gK l;refine⟨by simp,?_⟩;intro d hd;simp only[R8,Ti,or_false]at hd;rcases hd with rfl | rfl
 .trivial
 .refine⟨by simp;omega,?_⟩
  intro d hd;obtain⟨p,_,rfl⟩:=Rx.mp hd;refine⟨by simp,?_⟩;intro d hd;simp only[R8,Ti,or_false]at hd;rcases hd with rfl | rfl<;>trivial
def fX(c:Int)(l:List Pair):(sumD c l).imm=ZX:=by simp[sumD,D.imm,immL,zf]
theorem rH:∀{l:List α},(∀d∈l,c [a d]=.ok (ZZ,.bl ZX))->(∀d∈l,∃w,f [a d]=.ok (w,g d))->bB f c 1 ZZ (l.map a)=.ok (l.map g)
 | [],_,_=>rfl
 | d::l,hc,hf=>by
   obtain⟨w,h⟩:=hf d QM;have ih:=rH (l:=l) (λx hx=>hc x (QQ _ hx)) (λx hx=>hf x (QQ _ hx));simp only[QL,bB,takes,QW,if_false,Xu,Xr,hc d QM,truth,if_true,h,ih]
def lN(o:Orc)(δ:Dst)(lk:Bool)(it:TI)(caps:List Nat)(cs l r:List D)(m:Nat)(tg:Bool)(c e:T)(hI:evI o δ ZX it=.ok l)(hs:cW δ caps=Z_ cs)(ho:(caps.all λi=>!isOwn δ i)=ZX)(hr:r.length<=1000)
 (hc:bB (λx=>ev o ((x++cs).map λd=>some (Own.sh,d)) ZZ e) (λx=>ev o ((x++cs).map λd=>some (Own.sh,d)) ZX c) m tg l=.ok r):ev o δ lk (XQ caps m tg it c e)=.ok (ZX,.lst r):=by
 rw[ev,hI,hs];simp only[Xr,Xu];rw[hc]
 have hz:size r.length=ZX:=by simp[size];omega
 simp only[ho,hz,Xz];simp
def aA(h:ev o δ ZZ e=.ok (w,d))(hs:setSlot δ i w d=Z_ δ'):evS o (.set i e) δ=.nx δ':=by
 simp only[evS,evF,h,SO.of,hs,Ro,aB]
def dw(h:ev o δ ZX c=.ok (w,.bl b)):evS o (.ifs c x y) δ=if b=ZX then evSs o x δ else evSs o y δ:=by
 simp only[evS,h,Xr,truth,Xu,SO.of]
def CK(w:List Nat)(m:Nat):slcD (.str w) none (Z_ (m:Int))=Z_ (ZZ,.str (w.take m)):=by
 have:clip w.length (m:Int)=min m w.length:=by unfold clip;rw[if_pos (Vy m),U0]
 simp only[slcD,dU,bW,this,cut,List.drop_zero,List.take_eq_take_iff,QX,Vi,Xq.injEq,true_and]
 exact Nat.min_assoc .. |>.trans (by rw[Nat.min_self])
def aR(ha:ev o δ ZX a=.ok (w1,x))(hb:ev o δ ZX b=.ok (w2,y)):ev o δ lk (Xm p a b)=o2 p x y:=by
 simp only[ev,ha,hb,Xr]
def FZ(h:a.length+b.length<=1000):o2 .add (.str a) (.str b)=.ok (ZZ,.str (a++b)):=by
 have:size (a.length+b.length)=ZX:=decide_eq_true (RP h (by decide));simp only[o2,this,Xz,if_true]
def ak(h:δ[i]?=Z_ (Z_ (.sh,d))):ev o δ lk (Xi i)=.ok (ZZ,d):=by simp only[ev,h]
def aj:ev o δ lk (Xj d)=.ok (ZZ,d):=by simp only[ev]
def mulE(h:dR a b=ZX):o2 .mul (.int a) (.int b)=.ok (ZZ,.int (a*b)):=by simp only[o2,arith,h,Xz,if_true]
section
variable{o:Orc}{δ:Dst}{lk:Bool}
def aa{t:T}{l:TL}{x:D}{xs:List D}{w:Bool}(hk:bR δ t=ZZ)(h:ev o δ ZZ t=.ok (w,x))(hl:evL o δ l=.ok (ZZ,xs)):evL o δ (.cons t l)=.ok (ZZ,x::xs):=by
 simp only[evL,hk,h,hl,Xr,Tw]
def az(hl:evL o δ l=.ok (ZZ,xs))(h:o.fn f xs=.ok (w,x)):ev o δ lk (Xy f l)=.ok (w,x):=by
 simp only[ev,hl,Xr,h,lent,QW,if_false]
def aY(hl:evL o δ l=.ok (ZZ,xs))(hz:size xs.length=ZX):ev o δ lk (XF l)=.ok (ZZ,.tup xs):=by
 simp only[ev,hl,Xr,hz,Sy,Vm,Xz,if_true]
def bx(hl:evL o δ l=.ok (ZZ,xs))(hz:size xs.length=ZX):ev o δ lk (XH l)=.ok (ZX,.lst xs):=by
 simp only[ev,hl,Xr,hz,Sy,Vm,Xz,if_true]
def Do(ha:ev o δ ZX a=.ok (w,.bl ZX))(hb:ev o δ ZX b=.ok (w',.bl c)):ev o δ lk (Y8 a b)=.ok (ZZ,.bl c):=by simp only[ev,ha,hb,Xr,cj]
def Kc(ha:ev o δ ZX a=.ok (w,.bl ZZ)):ev o δ lk (Y8 a b)=.ok (ZZ,.bl ZZ):=by simp only[ev,ha,Xr]
def ifN(h:ev o δ ZX c=.ok (w,.bl ZZ)):evS o (.ifs c x .nil) δ=.nx δ:=by rw[dw h];rfl
def cT(h:a.length+b.length<=1000):o2 .add (.lst a) (.lst b)=.ok (ZX,.lst (a++b)):=by
 have:size (a.length+b.length)=ZX:=decide_eq_true (RP h (by decide));simp only[o2,this,Xz,if_true]
def retR(h:ev o δ ZZ e=.ok (w,d))(hv:isV e=ZZ):evS o (.ret e) δ=.rt w d δ:=by
 rw[retE hv];simp only[evF,h,SO.of]
def ifR(h:ev o δ ZX c=.ok (b,.bl ZX))(k:evS o s δ=.rt w d δ'):evS o (.ifs c (.cons s l) y) δ=.rt w d δ':=by
 rw[dw h];simp only[if_true,evSs,k]
end
def fM(ha:ev o δ ZX a=.ok (w1,x))(hl:ev o δ ZX lo=.ok (w2,y))(hh:ev o δ ZX hi=.ok (w3,z))(bl:bnd lo y=Z_ l)(bh:bnd hi z=Z_ h)(hr:slcD x l h=Z_ r):ev o δ lk (XR a lo hi)=.ok r:=by
 simp only[ev,ha,hl,hh,Xr,bl,bh,R7,hr,Xu]
def Ox(ha:ev o δ ZX a=.ok (w1,x))(hc:ev o δ ZX c=.ok (w2,y)):ev o δ lk (T.b2 b a c)=b2D b x y:=by simp only[ev,ha,hc,Xr]
def Hd(ha:ev o δ ZX a=.ok (w1,x)):ev o δ lk (XD b a)=b1D b x:=by simp only[ev,ha,Xr]
theorem gA(m:List Pair)(n:List Nat)(h:n∉m.map (·.1)):cO (ksD m) (.s n)=ksD m++[.s n]/\∀v,putV (ksD m) (vsD m) (.s n) v=vsD m++[v]:=by
 induction m with
 | nil=>exact⟨rfl,λv=>rfl⟩
 | cons p m ih=>
   simp only[QL,R8,not_or]at h;obtain⟨i1,i2⟩:=ih h.2
   have ne:¬(Y4 p.1=Y4 n):=λe=>h.1 (by cases e;rfl)
   refine⟨?_,λv=>?_⟩
   .show(if Y4 p.1=Y4 n then _ else _)=_
    rw[if_neg ne];show Y4 p.1::cO (ksD m) (.s n)=_;rw[i1];rfl
   .show(if Y4 p.1=Y4 n then _ else _)=_
    rw[if_neg ne];show Xk p.2::putV (ksD m) (vsD m) (.s n) v=_;rw[i2 v];rfl
theorem iT:∀(m:List Pair)(n:List Nat),n∈m.map (·.1)->∃v,(n,v)∈m/\look (ksD m) (vsD m) (.s n)=Z_ (.int v)
 | [],_,h=>by simp at h
 | p::m,n,h=>by
   by_cases e:p.1=n
   .exact⟨p.2,by subst e;simp,by simp[ksD,vsD,look,e]⟩
   .obtain⟨v,h1,h2⟩:=iT m n (by simpa[SJ e]using h)
    exact⟨v,QQ _ h1,by simp only[ksD,vsD,QL,look,Y4.injEq,e,if_false];exact h2⟩
def dH(a b:List Nat):o2 .eq (.str a) (.str b)=.ok (ZZ,.bl (decide (a=b))):=rfl
def cD(a b:Int):o2 .add (.int a) (.int b)=.ok (ZZ,.int (a+b)):=rfl
def iy(ha:ev o δ ZX a=.ok (w1,x))(hi:ev o δ ZX i=.ok (w2,y)):ev o δ lk (Xv a i)=idxD x y:=by simp only[ev,ha,hi,Xr]
def sU(n m:Nat):clip n (m:Int)=min m n:=by unfold clip;rw[if_pos (Vy m),U0]
def ifF(h:ev o δ ZX c=.ok (w,.bl b))(hb:b=ZZ):evS o (.ifs c x .nil) δ=.nx δ:=by subst hb;exact ifN h
def iI(h:ev o δ ZX e=.ok r):evS o (.raise c e) δ=.ex c δ:=by simp only[evS,h,SO.of]
def evSs_ex(h:evS o s δ=.ex c δ'):evSs o (.cons s l) δ=.ex c δ':=by simp only[evSs,h]
def vV(ha:ev o δ ZX a=.ok (w,.bl ZX)):ev o δ lk (Y0 a b)=.ok (ZZ,.bl ZX):=by simp only[ev,ha,Xr]
def oV(ha:ev o δ ZX a=.ok (w,.bl ZZ))(hb:ev o δ ZX b=.ok (w',.bl c)):ev o δ lk (Y0 a b)=.ok (ZZ,.bl c):=by simp only[ev,ha,hb,Xr,cj]
def pK(ha:ev o δ ZX a=.ok (w,.bl c))(hb:ev o δ ZX b=.ok (w',.bl c')):ev o δ lk (Y0 a b)=.ok (ZZ,.bl (c||c')):=by
 cases c
 .exact oV ha hb
 .exact vV ha
def ifS(h:ev o δ ZX c=.ok (w,.bl b))(k:ev o δ ZZ e=.ok (w',d))(hs:setSlot δ i w' d=Z_ δ'):evS o (.ifs c (.cons (.set i e) .nil) .nil) δ=.nx (if b then δ' else δ):=by
 cases b
 .exact ifN h
 .rw[dw h,if_pos rfl,aD (aA k hs)];rfl
def gP(a b:Int)(h:b≠0):o2 .mod (.int a) (.int b)=.ok (ZZ,.int (a.fmod b)):=by simp only[o2,arith,decide_eq_true h,Xz,if_true]
def dO(a b:Int)(h:(decide (b≠0)&&decide (b.natAbs.log2<9000))=ZX):o2 .fdiv (.int a) (.int b)=.ok (ZZ,.int (a.fdiv b)):=by simp only[o2,arith,h,Xz,if_true]
def lR(a b:Int):o2 .eq (.int a) (.int b)=.ok (ZZ,.bl (decide (a=b))):=rfl
def rng0(n:Nat):rngD 0 (n:Int)=(Ru n).map λ(k:Nat)=>Xk (k:Int):=by simp[rngD]
def bU(h:δ[i]?=Z_ (Z_ (.ow,d))):ev o δ ZX (Xi i)=.ok (ZZ,d):=by simp only[ev,h,if_true]
def mq(h:a.length+b.length<=16777216):o2 .add (.str a) (.str b)=.ok (ZZ,.str (a++b)):=by
 have:size (a.length+b.length)=ZX:=decide_eq_true h;simp only[o2,this,Xz,if_true]
def ju{l:List D}{k:Int}{d:D}(h0:0<=k)(h:l[k.toNat]?=Z_ d):idxD (.lst l) (.int k)=.ok (ZZ,d):=by
 have hk:=(R9.mp h).1
 have h1:k<l.length:=by omega
 simp only[idxD,place,h0,h1,if_true,R7,h,Ro,Xu]
def while_t(hc:c δ=.ok (w,.bl ZX))(hb:b δ=.nx δ'):b8 c b (n+1) δ=b8 c b n δ':=by
 simp only[b8,hc,Xr,truth,Xu,SO.of,if_true,hb]
def while_f(hc:c δ=.ok (w,.bl ZZ)):b8 c b (n+1) δ=.nx δ:=by
 simp only[b8,hc,Xr,truth,Xu,SO.of,QW,if_false]
section
variable{o:Orc}{δ:Dst}{lk:Bool}
def El(h:ev o δ ZX a=.ok (w,.bl b)):ev o δ lk (Yj a)=.ok (ZZ,.bl !b):=by simp only[ev,h,Xr,truth,Xu]
end
def pO{o:Orc}{δ:Dst}{i:Nat}{k e:T}{w w':Bool}{d kd c c':D}{q:Own}(he:ev o δ ZZ e=.ok (w,d))(hk:ev o δ ZX k=.ok (w',kd))(ho:ownD δ i=Z_ (q,c))(hp:putItem c kd d=Z_ c'):evS o (.seti i k e) δ=.nx (δ.set i (Z_ (q,c'))):=by
 simp only[evS,evF,he,SO.of,hk,ho,R7,hp,Ro,aB]
def neg1:ev o δ lk (XM (Xj (Xk 1)))=.ok (ZZ,.int (-1)):=by simp only[ev,Xr]
def lq:place (n+1) (-1)=Z_ n:=by
 unfold place;rw[if_neg (by omega),if_pos (by omega)]
 congr 1
 omega
def lO(a:List D)(x v:D):putItem (.lst (a++[x])) (.int (-1)) v=Z_ (.lst (a++[v])):=by
 simp only[putItem,R4,R6,T4,lq,Ro];simp
def sX(a:List D)(x:D):idxD (.lst (a++[x])) (.int (-1))=.ok (ZZ,x):=by
 simp only[idxD,R4,R6,T4,lq,R7];simp[Xu]
section
variable{o:Orc}{δ δ':Dst}{lk:Bool}
def aq(ha:ev o δ ZX a=.ok (w1,x))(hb:ev o δ ZX b=.ok (w2,y))(h:o2 p x y=r):ev o δ lk (Xm p a b)=r:=(aR ha hb).trans h
def e_b1(ha:ev o δ ZX a=.ok (w,x))(h:b1D b x=r):ev o δ lk (XD b a)=r:=(Hd ha).trans h
def e_b2(ha:ev o δ ZX a=.ok (w1,x))(hb:ev o δ ZX c=.ok (w2,y))(h:b2D b x y=r):ev o δ lk (T.b2 b a c)=r:=(Ox ha hb).trans h
def c7(ha:ev o δ ZX a=.ok (w1,x))(hb:ev o δ ZX b=.ok (w2,y))(h:idxD x y=r):ev o δ lk (Xv a b)=r:=(iy ha hb).trans h
def Qy(ha:ev o δ ZX a=.ok (w,.int i)):ev o δ lk (XM a)=.ok (ZZ,.int (-i)):=by simp only[ev,ha,Xr]
def Ex(ha:ev o δ ZX a=.ok (w,.obj c ns vs))(hi:(o.init c).isSome=ZX)(hl:look (ns.map .s) vs (.s f)=Z_ d):ev o δ lk (Yh a f)=.ok (ZZ,d):=by
 simp only[ev,ha,Xr,fldD,hi,hl,Xz,if_true,Ro,Xu]
def Ar(ha:ev o δ (bR δ a) a=.ok (w,x))(hx:x=.obj c ns vs)(hl:evL o δ l=.ok (b,xs))(hn:ns.contains m=ZZ)(hm:o.meth c m=Z_ f)(h:o.fn f (x::xs)=.ok (w',d))(hi:d.imm=ZX):ev o δ lk (Y9 m a l)=.ok (w',d):=by
 subst hx;simp only[ev,ha,Xr,hl,hn,hm,h,Xu,Xz,lent,Sy,if_true,hi,ite_self]
def ao:evL o δ Xo=.ok (ZZ,[]):=rfl
def nQ(h:δ[i]?=Z_ (Z_ (.sh,d))):evS o (.ret (.var i)) δ=.rt ZZ d δ:=by simp only[evS,h]
def MF(h:δ[i]?=Z_ (Z_ (.ow,d))):evS o (.ret (.var i)) δ=.rt ZX d δ:=by simp only[evS,h]
def ji{t:T}{w:Bool}{x:D}{l:List D}(h:ev o δ lk t=.ok (w,x))(hi:jk x=Z_ l):evI o δ lk (.val t)=.ok l:=by simp only[evI,h,Xr,hi,Xu]
def fors(hs:cR δ it=δ)(hi:evI o δ ZZ it=.ok l)(h:cF (evSs o b) tg tp l δ=.nx δ'):evS o (.for_ tg tp it b) δ=.nx δ':=by
 rw[forE hs,hi];exact h
def ifsT(h:ev o δ ZX c=.ok (w,.bl b))(hb:b=ZX)(k:evSs o x δ=r):evS o (.ifs c x y) δ=r:=by subst hb;rw[dw h,if_pos rfl,k]
def ifsF(h:ev o δ ZX c=.ok (w,.bl b))(hb:b=ZZ)(k:evSs o y δ=r):evS o (.ifs c x y) δ=r:=by subst hb;rw[dw h,if_neg (by decide),k]
def one(h:evS o s δ=.nx r):evSs o (.cons s .nil) δ=.nx r:=by rw[aD h];rfl
def lQ(ht:takes tg.length tp d=Z_ ds)(hs:aM δ tg ds=Z_ δ1)(hb:f δ1=.nx δ2)(k:cF f tg tp l δ2=r):cF f tg tp (d::l) δ=r:=by
 simp only[cF,ht,hs,hb,k]
end
def Ay(a b:Int):o2 .sub (.int a) (.int b)=.ok (ZZ,.int (a-b)):=rfl
def xO(a b:List Nat):o2 .ne (.str a) (.str b)=.ok (ZZ,.bl !(decide (a=b))):=rfl
def PQ(h:(decide (0<=b)&&decide (b<=64)&&decide (a.natAbs<18446744073709551616))=ZX)(hc:a ^ b.toNat=c):o2 .pow (.int a) (.int b)=.ok (ZZ,.int c):=by simp only[o2,arith,h,Xz,if_true,hc]
def bu(h:l[i.toNat]?=Z_ d)(h0:decide (0<=i)=ZX):idxD (.tup l) (.int i)=.ok (ZZ,d):=by
 have hk:=(R9.mp h).1;have h0:=of_decide_eq_true h0
 have h1:i<l.length:=by omega
 simp only[idxD,place,h0,h1,if_true,R7,h,Ro,Xu]
def Cq(h:l[i.toNat]?=Z_ d)(h0:decide (0<=i)=ZX):idxD (.lst l) (.int i)=.ok (ZZ,d):=ju (of_decide_eq_true h0) h
def jW(l:List D):b1D .len (.lst l)=.ok (ZZ,.int l.length):=rfl
def mK(l:List Nat):b1D .len (.str l)=.ok (ZZ,.int l.length):=rfl
def PX(i:Int):b1D .abs (.int i)=.ok (ZZ,.int (if i<0 then -i else i)):=rfl
def sH(l:List D):b1D .tuple (.lst l)=.ok (ZZ,.tup l):=rfl
def NZ(h:i.natAbs<10 ^ 64):b1D .str (.int i)=.ok (ZZ,.str (cZ i)):=by
 have h2:i.natAbs.log2<1920:=by
  by_cases h0:i.natAbs=0
  .rw[h0];decide
  .exact(Nat.log2_lt h0).mpr (Rk h (by decide +kernel))
 have h3:(figs i.natAbs).length<=64:=by
  unfold figs;rw[R5];exact(Nat.length_toDigits_le_iff (by decide) (by decide)).mpr h
 have h4:size (cZ i).length=ZX:=by
  unfold cZ;split<;>simp[size]<;>omega
 simp only[b1D,h2,h4,decide_true,Vm,Xz,if_true]
end KG
namespace KU
open Z KG
noncomputable def stk(l:List (D×Nat)):List D:=l.map λq=>.tup [q.1,.int (q.2:Int)]
def tu0(x y:D):idxD (.tup [x,y]) (.int 0)=.ok (ZZ,x):=rfl
def iK(l:List D)(t:Nat)(h:t<=l.length):slcD (.lst l) (Z_ (t:Int)) none=Z_ (ZX,.lst (l.drop t)):=by
 have:clip l.length (t:Int)=t:=by unfold clip;rw[if_pos (by omega)];omega
 simp[slcD,dU,bW,cut,this]
def sO(l:List D)(t:Nat)(h:t<=l.length):slcD (.lst l) none (Z_ (t:Int))=Z_ (ZX,.lst (l.take t)):=by
 have:clip l.length (t:Int)=t:=by unfold clip;rw[if_pos (by omega)];omega
 simp[slcD,dU,bW,cut,this]
noncomputable abbrev st6(w:List Nat)(S:D)(many:Int)(sp:D)(a b:Option Slot):Dst:=[some (.sh,.str w),some (.sh,S),some (.sh,.int many),some (.sh,sp),a,b]
def xZ(x:List D)(d:D):idxD (.lst (x++[d])) (.int (-1))=.ok (ZZ,d):=by
 simp[idxD,place,Xu];rw[if_pos (by omega)];simp;rw[show((-1:Int)+((x.length:Int)+1)).toNat=x.length by omega];simp
noncomputable def negL(L:List Pair):List Pair:=L.map λp=>(p.1,-p.2)
def keysOf_len(L:List Pair)(h:L.length<64):(keysOf L).length<64:=by
 have:(keysOf L).length<=(L.map (·.1)).length:=eO (cA L) λx hx=>(dm L x).mp hx
 simp at this;omega
def Fb(x:Int):dR (-1) x=ZX:=by
 have:bits (-1)<=64:=by decide
 simp[dR,this]
noncomputable def Bc(o:Orc)(L:List Pair):bB (λx=>ev o ((x++[Xk (-1)]).map λd=>some (Own.sh,d)) ZZ (XF (Xl (Xi 0) (Xl (Xm .mul (Xi 2) (Xi 1)) Xo)))) (λx=>ev o ((x++[Xk (-1)]).map λd=>some (Own.sh,d)) ZX (Xj (XN ZX))) 2 ZX (L.map prD)=.ok ((negL L).map prD):=by
 have e1:L.map prD=(L.map λp=>[Xq p.1,Xk p.2]).map .tup:=by simp[prD,RD,T6]
 have e2:(negL L).map prD=(L.map λp=>[Xq p.1,Xk p.2]).map λx=>match x with | [.str n,.int k]=>prD (n,-k) | _=>.non:=by simp[negL,RD,T6]
 rw[e1,e2];refine mG ?_ ?_ ?_
 .intro x hx
  obtain⟨p,_,rfl⟩:=Rx.mp hx
  rfl
 .intro x _;simp[ev]
 .intro x hx
  obtain⟨p,_,rfl⟩:=Rx.mp hx
  have z2:size 2=ZX:=by decide
  refine⟨false,?_⟩;simp[ev,evL,Xr,o2,arith,Xz,Fb,bR,isOwn,z2,prD]
noncomputable def lG(isum:Nat):Fd:=⟨2,2,(Xn (XC (Xy isum (Xl (Xm .mul (Xi 0) (Xv (Xi 1) (Xj (Xk 0)))) (Xl (XQ [0] 2 ZX (XJ (Xv (Xi 1) (Xj (Xk 1)))) (Xj (XN ZX)) (XF (Xl (Xi 0) (Xl (Xm .mul (Xi 2) (Xi 1)) Xo)))) Xo)))) Xp)⟩
def nG(o:Orc)(isum:Nat)(c:Int)(L:List Pair)(r:D)(hL:L.length<=1000)(h:o.fn isum [.int (-1*c),.lst ((negL L).map prD)]=.ok (ZZ,r)):bf o (lG isum) [.int (-1),.tup [.int c,.tup (L.map prD)]]=.ok (ZZ,r):=by
 have he:=lN o [some (.sh,.int (-1)),some (.sh,.tup [.int c,.tup (L.map prD)])] ZZ (XJ (Xv (Xi 1) (Xj (Xk 1)))) [0] [.int (-1)] _ _ 2 ZX _ _ rfl rfl rfl (by simpa[negL]using hL) (Bc o L);generalize (negL L).map prD=NL at *;generalize L.map prD=L' at *;rw[lG]
 have lkO:∀δ p a b,bR δ (Xm p a b)=ZZ:=λ_ _ _ _=>rfl
 generalize hT:(XQ [0] 2 ZX (XJ (Xv (Xi 1) (Xj (Xk 1)))) (Xj (XN ZX)) (XF (Xl (Xi 0) (Xl (Xm .mul (Xi 2) (Xi 1)) Xo))))=tt at *
 have lkt:∀δ,bR δ tt=ZZ:=fun δ=>by rw[<-hT];rfl
 have h':o.fn isum [.int (-c),.lst NL]=.ok (ZZ,r):=by rw[show -c=-1*c by omega];exact h
 simp[bf,evSs,evS,evF,ev,evL,Xr,tu0,o2,arith,Xz,Fb,lkO,lkt,he,h',lent,SO.of]
end KU
namespace P09
open Z
noncomputable def LET:List Nat:=[97,98,99,100,101,102,103,104,105,106,107,108,109,110,111,112,113,114,115,116,117,118,119,120,121,122]
noncomputable def FIG:List Nat:=[48,49,50,51,52,53,54,55,56,57]
noncomputable def SNG:List Nat:=[40,41,44,43,45,42,61]
noncomputable def f0:Fd:=⟨1,4,(Xn (Xx (Xm .gt (XD .len (Xi 0)) (Xj (Xk 2000))) (Xn (Yk 2 (Xj (Xq [116,111,111,32,109,97,110,121,32,115,105,103,110,115]))) Xp) Xp) (Xn (Xw 1 (Xj (Xk 0))) (Xn (Xw 2 (Xj (Xk 0))) (Xn (Ye [3] ZZ (XJ (Xi 0)) (Xn (Xw 1 (Yg (Xm .in (Xi 3) (Xj (Xq FIG))) (Xm .add (Xi 1) (Xj (Xk 1))) (Xj (Xk 0)))) (Xn (Xx (Xm .eq (Xi 3) (Xj (Xq [40]))) (Xn (Xw 2 (Xm .add (Xi 2) (Xj (Xk 1)))) Xp) (Xn (Xx (Xm .eq (Xi 3) (Xj (Xq [41]))) (Xn (Xw 2 (Xm .sub (Xi 2) (Xj (Xk 1)))) Xp) Xp) Xp)) (Xn (Xx (Xm .gt (Xi 1) (Xj (Xk 60))) (Xn (Yk 2 (Xj (Xq [116,111,111,32,109,97,110,121,32,102,105,103,117,114,101,115,32,98,101,104,105,110,100,32,111,110,101,32,97,110,111,116,104,101,114]))) Xp) Xp) (Xn (Xx (Xm .gt (Xi 2) (Xj (Xk 16))) (Xn (Yk 2 (Xj (Xq [116,111,111,32,109,97,110,121,32,114,111,117,110,100,32,115,105,103,110,115,32,119,105,116,104,105,110,32,111,110,101,32,97,110,111,116,104,101,114]))) Xp) Xp) Xp))))) Xp))))⟩
noncomputable def f1:Fd:=⟨3,4,(Xn (Xw 3 (Xi 1)) (Xn (Ym (Y8 (Xm .lt (Xi 3) (XD .len (Xi 0))) (Xm .in (Xv (Xi 0) (Xi 3)) (Xi 2))) (Xn (Xw 3 (Xm .add (Xi 3) (Xj (Xk 1)))) Xp)) (Xn (XC (Xi 3)) Xp)))⟩
noncomputable def f2:Fd:=⟨2,3,(Xn (Xw 2 (Xv (Xi 0) (Xi 1))) (Xn (Xx (Xm .in (Xi 2) (Xj (Xq LET))) (Xn (XC (Xy 1 (Xl (Xi 0) (Xl (Xi 1) (Xl (Xm .add (Xj (Xq LET)) (Xj (Xq FIG))) Xo))))) Xp) Xp) (Xn (Xx (Xm .in (Xi 2) (Xj (Xq FIG))) (Xn (XC (Xy 1 (Xl (Xi 0) (Xl (Xi 1) (Xl (Xj (Xq FIG)) Xo))))) Xp) Xp) (Xn (Xx (Xm .in (Xi 2) (Xj (Xq SNG))) (Xn (XC (Xm .add (Xi 1) (Xj (Xk 1)))) Xp) Xp) (Xn (Xx (Xm .in (XR (Xi 0) (Xi 1) (Xm .add (Xi 1) (Xj (Xk 2)))) (XF (Xl (Xj (Xq [62,61])) (Xl (Xj (Xq [60,61])) Xo)))) (Xn (XC (Xm .add (Xi 1) (Xj (Xk 2)))) Xp) Xp) (Xn fJ Xp))))))⟩
noncomputable def f3:Fd:=⟨1,4,(Xn (Yo (Xy 0 (Xl (Xi 0) Xo))) (Xn (Xw 1 (XH Xo)) (Xn (Xw 2 (Xj (Xk 0))) (Xn (Ym (Xm .lt (Xi 2) (XD .len (Xi 0))) (Xn (Xx (Xm .eq (Xv (Xi 0) (Xi 2)) (Xj (Xq [32]))) (Xn (Xw 2 (Xm .add (Xi 2) (Xj (Xk 1)))) Xp) (Xn (Yp 3 2 (Xl (Xi 0) (Xl (Xi 2) Xo))) (Xn (XS 1 (XR (Xi 0) (Xi 2) (Xi 3))) (Xn (Xw 2 (Xi 3)) Xp)))) Xp)) (Xn (XC (Xi 1)) Xp)))))⟩
noncomputable def f4:Fd:=⟨2,2,(Xn (Xx (Xm .lt (Xi 1) (XD .len (Xi 0))) (Xn (XC (Xv (Xi 0) (Xi 1))) Xp) Xp) (Xn (XC (Xj (Xk 0))) Xp))⟩
noncomputable def f5:Fd:=⟨3,4,(Xn (Xw 3 (XH (Xl (Xj (Xk 271828183)) (Xl (Xj (Xk 314159269)) (Xl (Xj (Xk 161803399)) (Xl (Xj (Xk 141421357)) (Xl (Xj (Xk 173205081)) Xo))))))) (Xn (Xw 3 (Xm .add (Xi 3) (XH (Xl (Xj (Xk 223606797)) (Xl (Xj (Xk 244948975)) (Xl (Xj (Xk 264575131)) (Xl (Xj (Xk 331662479)) (Xl (Xj (Xk 360555127)) Xo)))))))) (Xn (XC (Xm .mod (Xm .mod (Xm .mul (Xm .add (Xi 0) (Xj (Xk 1))) (Xv (Xi 3) (Xi 1))) (Xj (Xk 1000000007))) (Xi 2))) Xp)))⟩
noncomputable def f6:Fd:=⟨2,4,(Xn (Xw 2 (Xj (Xq LET))) (Xn (Xw 3 (Xj (Xq FIG))) (Xn (Xx (Xm .eq (Xi 0) (Xj (Xq []))) (Xn (XC (Xj (XN ZZ))) Xp) Xp) (Xn (Xx (Xm .in (Xv (Xi 0) (Xj (Xk 0))) (Xi 2)) (Xn (XC (Y0 (Xm .in (Xv (Xi 1) (Xj (Xk 0))) (Xi 2)) (Xm .in (Xv (Xi 1) (Xj (Xk 0))) (Xi 3)))) Xp) Xp) (Xn (Xx (Xm .in (Xv (Xi 0) (Xj (Xk 0))) (Xi 3)) (Xn (XC (Xm .in (Xv (Xi 1) (Xj (Xk 0))) (Xi 3))) Xp) Xp) (Xn (XC (Xm .in (Xi 0) (XF (Xl (Xj (Xq [60])) (Xl (Xj (Xq [62])) Xo))))) Xp))))))⟩
noncomputable def f7:Fd:=⟨2,6,(Xn (Xw 2 (XR (Xj (Xq [32,32])) (Xj Yc) (Xm .mod (Xi 1) (Xj (Xk 3))))) (Xn (Xw 3 (Xj (Xq []))) (Xn (Ye [4] ZZ (Y6 (XD .len (Xi 0))) (Xn (Xw 5 (XR (Xj (Xq [32,32])) (Xj Yc) (Xy 5 (Xl (Xm .add (Xi 1) (Xi 4)) (Xl (Xj (Xk 0)) (Xl (Xj (Xk 3)) Xo)))))) (Xn (Xx (Y8 (Xm .eq (Xi 5) (Xj (Xq []))) (Xy 6 (Xl (Xi 3) (Xl (Xv (Xi 0) (Xi 4)) Xo)))) (Xn (Xw 5 (Xj (Xq [32]))) Xp) Xp) (Xn (Xw 2 (Xm .add (Xm .add (Xi 2) (Xi 5)) (Xv (Xi 0) (Xi 4)))) (Xn (Xw 3 (Xv (Xi 0) (Xi 4))) Xp))))) (Xn (XC (Xm .add (Xi 2) (XR (Xj (Xq [32,32])) (Xj Yc) (Xm .mod (Xm .fdiv (Xi 1) (Xj (Xk 3))) (Xj (Xk 3)))))) Xp))))⟩
end P09
namespace K9
open Z KG P09
def while_t(hc:c δ=.ok (w,.bl ZX))(hb:b δ=.nx δ'):b8 c b (n+1) δ=b8 c b n δ':=by
 simp only[b8,hc,Xr,truth,Xu,SO.of,if_true,hb]
def while_f(hc:c δ=.ok (w,.bl ZZ)):b8 c b (n+1) δ=.nx δ:=by
 simp only[b8,hc,Xr,truth,Xu,SO.of,QW,if_false]
def runFn_ex(ha:args.length=f.np)(h0:args.map (λd=>some (Own.sh,d))++Ry (f.ns-f.np) none=δ0)(h:∃δ,evSs o f.body δ0=.ex c δ):bf o f args=.exc c:=by
 obtain⟨δ,h⟩:=h;simp only[bf,ha,if_true,h0,h]
def BX(ha:args.length=f.np)(h0:args.map (λd=>some (Own.sh,d))++Ry (f.ns-f.np) none=δ0)(h:evSs o f.body δ0=.stuck):bf o f args=.stuck:=by simp only[bf,ha,if_true,h0,h]
def stpE(h:evS o s δ=.ex c δ'):∃δ1,evSs o (.cons s l) δ=.ex c δ1:=⟨δ',by simp only[evSs,h]⟩
def ix{x:List Nat}{k c:Nat}(h:x[k]?=Z_ c):idxD (.str x) (.int (k:Int))=.ok (ZZ,.str [c]):=by
 have hk:=(R9.mp h).1
 have h0:(0:Int)<=k:=by omega
 have h1:(k:Int)<x.length:=by omega
 simp only[idxD,place,h0,h1,if_true,U0,R7,h,Ro,Xu]
def o_in(c:Nat)(y:List Nat):o2 .in (.str [c]) (.str y)=.ok (ZZ,.bl (decide (c∈y))):=rfl
def o_lt(a b:Int):o2 .lt (.int a) (.int b)=.ok (ZZ,.bl (decide (a<b))):=rfl
def o_gt(a b:Int):o2 .gt (.int a) (.int b)=.ok (ZZ,.bl (decide (b<a))):=rfl
def dH(a b:List Nat):o2 .eq (.str a) (.str b)=.ok (ZZ,.bl (decide (a=b))):=rfl
def cD(a b:Int):o2 .add (.int a) (.int b)=.ok (ZZ,.int (a+b)):=rfl
def rF(h:δ[i]?=Z_ (Z_ (.sh,.str x))):ev o δ lk (XD .len (Xi i))=.ok (ZZ,.int x.length):=(Hd (ak h)).trans rfl
def iy(ha:ev o δ ZX a=.ok (w1,x))(hi:ev o δ ZX i=.ok (w2,y)):ev o δ lk (Xv a i)=idxD x y:=by simp only[ev,ha,hi,Xr]
noncomputable def tw(sg l:List Nat):List Nat:=l.takeWhile λc=>decide (c∈sg)
def K8{sg l:List Nat}{c:Nat}(h:c∈sg):tw sg (c::l)=c::tw sg l:=by simp[tw,h]
def Dt{sg l:List Nat}{c:Nat}(h:c∉sg):tw sg (c::l)=[]:=by simp[tw,h]
noncomputable def rC:T:=(Y8 (Xm .lt (Xi 3) (XD .len (Xi 0))) (Xm .in (Xv (Xi 0) (Xi 3)) (Xi 2)))
noncomputable def rB:SL:=(Xn (Xw 3 (Xm .add (Xi 3) (Xj (Xk 1)))) Xp)
theorem uL(o:Orc)(x sg:List Nat)(s1:Option Slot):∀(n:Nat)(rest pre:List Nat),x=pre++rest->rest.length<n ->
 b8 (fun δ=>ev o δ ZX rC) (evSs o rB) n [some (.sh,.str x),s1,some (.sh,.str sg),some (.sh,.int (pre.length:Int))]=.nx [some (.sh,.str x),s1,some (.sh,.str sg),some (.sh,.int ((pre.length+(tw sg rest).length:Nat):Int))]
 | 0,_,_,_,h=>absurd h (Nat.not_lt_zero _)
 | n+1,[],pre,hx,_=>by
   refine while_f (w:=ZZ) (Kc (w:=ZZ) ((aR (ak rfl) (rF rfl)).trans ((o_lt _ _).trans ?_)));rw[decide_eq_false (by rw[hx];simp)]
 | n+1,c::r,pre,hx,hn=>by
   have hc:x[pre.length]?=Z_ c:=by rw[hx];simp
   have hl:pre.length<x.length:=(R9.mp hc).1
   have e1:ev o [some (.sh,.str x),s1,some (.sh,.str sg),some (.sh,.int (pre.length:Int))] ZX rC=.ok (ZZ,.bl (decide (c∈sg))):=by
    refine Do (w:=ZZ) (w':=ZZ) ((aR (ak rfl) (rF rfl)).trans ((o_lt _ _).trans ?_)) ((aR ((iy (ak rfl) (ak rfl)).trans (ix hc)) (ak rfl)).trans (o_in c sg));rw[decide_eq_true (by omega)]
   by_cases h:c∈sg
   .rw[decide_eq_true h]at e1
    have ih:=uL o x sg s1 n r (pre++[c]) (by rw[hx];simp) (by simp at hn;omega)
    have e2:evSs o rB [some (.sh,.str x),s1,some (.sh,.str sg),some (.sh,.int (pre.length:Int))]=.nx [some (.sh,.str x),s1,some (.sh,.str sg),some (.sh,.int ((pre++[c]).length:Int))]:=by
     rw[rB,aD (aA ((aR (ak rfl) aj).trans (cD _ _)) rfl)];simp[evSs]
    rw[while_t e1 e2,ih,K8 h]
    have:(pre++[c]).length+(tw sg r).length=pre.length+(c::tw sg r).length:=by simp;omega
    rw[this]
   .rw[decide_eq_false h]at e1
    rw[while_f e1,Dt h];simp
theorem run_end(o:Orc)(x sg pre rest:List Nat)(hx:x=pre++rest)(hw:x.length<o.w):bf o f1 [.str x,.int (pre.length:Int),.str sg]=.ok (ZZ,.int ((pre.length+(tw sg rest).length:Nat):Int)):=by
 refine aF rfl (δ0:=[some (.sh,.str x),some (.sh,.int (pre.length:Int)),some (.sh,.str sg),none]) rfl ?_;refine stp [some (.sh,.str x),some (.sh,.int (pre.length:Int)),some (.sh,.str sg),some (.sh,.int (pre.length:Int))] (aA (ak rfl) rfl) ?_;refine stp _ (show evS o (.while_ rC rB) _=_ from(uL o x sg _ o.w rest pre hx (by rw[hx]at hw;simp at hw;omega))) ?_;exact stpR (δ':=[some (.sh,.str x),some (.sh,.int (pre.length:Int)),some (.sh,.str sg),some (.sh,.int ((pre.length+(tw sg rest).length:Nat):Int))]) rfl
noncomputable def peV(rest:List Nat):Option Nat:=match rest with
 | []=>none
 | c::r=>if c∈LET then some (tw (LET++FIG) rest).length else if c∈FIG then some (tw FIG rest).length else if c∈SNG then some 1 else if rest.take 2=[62,61]\/rest.take 2=[60,61]then some 2 else none
noncomputable def peR(p:Nat):Option Nat->R (Bool×D)
 | some n=>.ok (ZZ,.int ((p+n:Nat):Int))
 | none=>.stuck
def sU(n m:Nat):clip n (m:Int)=min m n:=by unfold clip;rw[if_pos (Vy m),U0]
def G6(pre r:List α)(m:Nat):cut (pre++r) (min pre.length (pre++r).length) (min (pre.length+m) (pre++r).length)=r.take m:=by
 unfold cut;rw[Nat.min_eq_left (show pre.length<=(pre++r).length by simp)]
 have:(pre++r).take (min (pre.length+m) (pre++r).length)=pre++r.take m:=by
  rw[<-List.take_eq_take_min];rw[List.take_append,List.take_of_length_le (by omega)]
  congr 2
  omega
 rw[this];simp
def zj(pre r:List Nat)(m:Nat):slcD (.str (pre++r)) (Z_ (pre.length:Int)) (Z_ ((pre.length+m:Nat):Int))=Z_ (ZZ,.str (r.take m)):=by
 simp only[slcD,dU,bW,sU];rw[G6]
def in2(x:List Nat):o2 .in (.str x) (.tup [.str [62,61],.str [60,61]])=.ok (ZZ,.bl (decide (x=[62,61]\/x=[60,61]))):=by
 have:isIn (.str x) (.tup [.str [62,61],.str [60,61]])=Z_ (decide ([62,61]=x)||(decide ([60,61]=x)||false)):=rfl;simp only[o2,this,Ro,Xu]
 congr 3
 rw[Tw,<-Bool.decide_or];exact decide_eq_decide.mpr ⟨λh=>h.imp Wh Wh,λh=>h.imp Wh Wh⟩
def cat36:o2 .add (.str LET) (.str FIG)=.ok (ZZ,.str (LET++FIG)):=FZ (by decide)
def ifF(h:ev o δ ZX c=.ok (w,.bl b))(hb:b=ZZ):evS o (.ifs c x .nil) δ=.nx δ:=by subst hb;exact ifN h
def ifT(h:ev o δ ZX c=.ok (w,.bl b))(hb:b=ZX)(k:evS o s δ=.rt w' d δ'):evS o (.ifs c (.cons s l) y) δ=.rt w' d δ':=by subst hb;exact ifR h k
def oG(hc:ev o δ ZX c=.ok (w,.bl b))(h:ev o δ lk (if b then a else e)=r):ev o δ lk (Yg c a e)=r:=by
 cases b<;>(simp only[ev,hc,Xr,truth,Xu];exact h)
def iI(h:ev o δ ZX e=.ok r):evS o (.raise c e) δ=.ex c δ:=by simp only[evS,h,SO.of]
def piece_end(o:Orc)(x pre rest:List Nat)(c:Nat)(r:List Nat)(hx:x=pre++rest)(hr:rest=c::r)(hl:pre.length<=10000)
 (h1:∀sg,o.fn 1 [.str x,.int (pre.length:Int),.str sg]=.ok (ZZ,.int ((pre.length+(tw sg rest).length:Nat):Int))):bf o f2 [.str x,.int (pre.length:Int)]=peR pre.length (peV rest):=by
 have hc:x[pre.length]?=Z_ c:=by rw[hx,hr];simp
 have s0:evS o (Xw 2 (Xv (Xi 0) (Xi 1))) [some (.sh,.str x),some (.sh,.int (pre.length:Int)),none]=.nx [some (.sh,.str x),some (.sh,.int (pre.length:Int)),some (.sh,.str [c])]:=aA ((iy (ak rfl) (ak rfl)).trans (ix hc)) rfl
 have t:∀sg:List Nat,ev o [some (.sh,.str x),some (.sh,.int (pre.length:Int)),some (.sh,.str [c])] ZX (Xm .in (Xi 2) (Xj (Xq sg)))=.ok (ZZ,.bl (decide (c∈sg))):=λsg=>(aR (ak rfl) aj).trans (o_in c sg)
 have n0:peV rest=if c∈LET then some (tw (LET++FIG) rest).length else if c∈FIG then some (tw FIG rest).length else if c∈SNG then some 1 else if rest.take 2=[62,61]\/rest.take 2=[60,61]then some 2 else none:=by rw[hr];rfl
 rw[n0]
 by_cases a1:c∈LET
 .rw[if_pos a1]
  refine aF rfl rfl (stp _ s0 (stpR (ifT (t LET) (decide_eq_true a1) (retR (az (aa rfl (ak rfl) (aa rfl (ak rfl) (aa rfl ((aR aj aj).trans cat36) rfl))) (h1 _)) rfl))))
 rw[if_neg a1]
 by_cases a2:c∈FIG
 .rw[if_pos a2]
  refine aF rfl rfl (stp _ s0 (stp _ (ifF (t LET) (decide_eq_false a1)) (stpR (ifT (t FIG) (decide_eq_true a2) (retR (az (aa rfl (ak rfl) (aa rfl (ak rfl) (aa rfl aj rfl))) (h1 _)) rfl)))))
 rw[if_neg a2]
 by_cases a3:c∈SNG
 .rw[if_pos a3]
  refine aF rfl rfl (stp _ s0 (stp _ (ifF (t LET) (decide_eq_false a1)) (stp _ (ifF (t FIG) (decide_eq_false a2)) (stpR (ifT (t SNG) (decide_eq_true a3) (retR ((aR (ak rfl) aj).trans (cD _ _)) rfl))))))
 rw[if_neg a3]
 have u:ev o [some (.sh,.str x),some (.sh,.int (pre.length:Int)),some (.sh,.str [c])] ZX (Xm .in (XR (Xi 0) (Xi 1) (Xm .add (Xi 1) (Xj (Xk 2)))) (XF (Xl (Xj (Xq [62,61])) (Xl (Xj (Xq [60,61])) Xo))))=.ok (ZZ,.bl (decide (rest.take 2=[62,61]\/rest.take 2=[60,61]))) :=
  (aR (fM (ak rfl) (ak rfl) ((aR (ak rfl) aj).trans (cD _ _)) rfl rfl (by rw[hx];exact zj pre rest 2)) (aY (xs:=[.str [62,61],.str [60,61]]) (aa rfl aj (aa rfl aj rfl)) rfl)).trans (in2 _)
 by_cases a4:rest.take 2=[62,61]\/rest.take 2=[60,61]
 .rw[if_pos a4]
  refine aF rfl rfl (stp _ s0 (stp _ (ifF (t LET) (decide_eq_false a1)) (stp _ (ifF (t FIG) (decide_eq_false a2)) (stp _ (ifF (t SNG) (decide_eq_false a3)) (stpR (ifT u (decide_eq_true a4) (retR ((aR (ak rfl) aj).trans (cD _ _)) rfl)))))))
 rw[if_neg a4];exact BX rfl rfl ((aD s0).trans ((aD (ifF (t LET) (decide_eq_false a1))).trans ((aD (ifF (t FIG) (decide_eq_false a2))).trans ((aD (ifF (t SNG) (decide_eq_false a3))).trans ((aD (ifF u (decide_eq_false a4))).trans (by simp[fJ,evSs,evS,ev,SO.of]))))))
noncomputable def run'(r:Int)(c:Nat):Int:=if c∈FIG then r+1 else 0
noncomputable def dp(d:Int)(c:Nat):Int:=if c=40 then d+1 else if c=41 then d-1 else d
noncomputable def chk:List Nat->Int->Int->Bool
 | [],_,_=>false
 | c::l,r,d=>decide (60<run' r c)||(decide (16<dp d c)||chk l (run' r c) (dp d c))
noncomputable def cB(m m':List Nat):SL:=(Xn (Xw 1 (Yg (Xm .in (Xi 3) (Xj (Xq FIG))) (Xm .add (Xi 1) (Xj (Xk 1))) (Xj (Xk 0)))) (Xn (Xx (Xm .eq (Xi 3) (Xj (Xq [40]))) (Xn (Xw 2 (Xm .add (Xi 2) (Xj (Xk 1)))) Xp) (Xn (Xx (Xm .eq (Xi 3) (Xj (Xq [41]))) (Xn (Xw 2 (Xm .sub (Xi 2) (Xj (Xk 1)))) Xp) Xp) Xp)) (Xn (Xx (Xm .gt (Xi 1) (Xj (Xk 60))) (Xn (Yk 2 (Xj (Xq m))) Xp) Xp) (Xn (Xx (Xm .gt (Xi 2) (Xj (Xk 16))) (Xn (Yk 2 (Xj (Xq m'))) Xp) Xp) Xp))))
def evSs_ex(h:evS o s δ=.ex c δ'):evSs o (.cons s l) δ=.ex c δ':=by simp only[evSs,h]
def Eo(c k:Nat):decide ([c]=[k])=decide (c=k):=decide_eq_decide.mpr (by simp)
def M7(o:Orc)(m m':List Nat)(X:Option Slot)(r d:Int)(c:Nat):evSs o (cB m m') [X,some (.sh,.int r),some (.sh,.int d),some (.sh,.str [c])]=if 60<run' r c\/16<dp d c then .ex 2 [X,some (.sh,.int (run' r c)),some (.sh,.int (dp d c)),some (.sh,.str [c])]else .nx [X,some (.sh,.int (run' r c)),some (.sh,.int (dp d c)),some (.sh,.str [c])]:=by
 have s1:evS o (Xw 1 (Yg (Xm .in (Xi 3) (Xj (Xq FIG))) (Xm .add (Xi 1) (Xj (Xk 1))) (Xj (Xk 0)))) [X,some (.sh,.int r),some (.sh,.int d),some (.sh,.str [c])]=.nx [X,some (.sh,.int (run' r c)),some (.sh,.int d),some (.sh,.str [c])]:=by
  refine aA (w:=ZZ) (d:=.int (run' r c)) (oG ((aR (ak rfl) aj).trans (o_in c FIG)) ?_) rfl;unfold run'
  by_cases h:c∈FIG
  .rw[if_pos (decide_eq_true h),if_pos h];exact(aR (ak rfl) aj).trans (cD _ _)
  .rw[if_neg (by simp[h]),if_neg h];exact aj
 have e1:∀k:Nat,ev o [X,some (.sh,.int (run' r c)),some (.sh,.int d),some (.sh,.str [c])] ZX (Xm .eq (Xi 3) (Xj (Xq [k])))=.ok (ZZ,.bl (decide (c=k))):=λk=>((aR (ak rfl) aj).trans (dH _ _)).trans (by rw[Eo])
 have s2:evS o (Xx (Xm .eq (Xi 3) (Xj (Xq [40]))) (Xn (Xw 2 (Xm .add (Xi 2) (Xj (Xk 1)))) Xp) (Xn (Xx (Xm .eq (Xi 3) (Xj (Xq [41]))) (Xn (Xw 2 (Xm .sub (Xi 2) (Xj (Xk 1)))) Xp) Xp) Xp)) [X,some (.sh,.int (run' r c)),some (.sh,.int d),some (.sh,.str [c])]=.nx [X,some (.sh,.int (run' r c)),some (.sh,.int (dp d c)),some (.sh,.str [c])]:=by
  rw[dw (e1 40)];unfold dp
  by_cases h:c=40
  .rw[if_pos (decide_eq_true h),if_pos h,aD (aA ((aR (ak rfl) aj).trans (cD _ _)) rfl)];rfl
  .rw[if_neg (by simp[h]),if_neg h]
   by_cases h':c=41
   .rw[if_pos h']
    have:evS o (Xx (Xm .eq (Xi 3) (Xj (Xq [41]))) (Xn (Xw 2 (Xm .sub (Xi 2) (Xj (Xk 1)))) Xp) Xp) [X,some (.sh,.int (run' r c)),some (.sh,.int d),some (.sh,.str [c])]=.nx [X,some (.sh,.int (run' r c)),some (.sh,.int (d-1)),some (.sh,.str [c])]:=by
     rw[dw (e1 41),if_pos (decide_eq_true h'),aD (aA ((aR (ak rfl) aj).trans (show o2 .sub (.int d) (.int 1)=.ok (ZZ,.int (d-1))from rfl)) rfl)];rfl
    rw[aD this];rfl
   .rw[if_neg h',aD (ifF (e1 41) (decide_eq_false h'))];rfl
 rw[cB,aD s1,aD s2];have e2:ev o [X,some (.sh,.int (run' r c)),some (.sh,.int (dp d c)),some (.sh,.str [c])] ZX (Xm .gt (Xi 1) (Xj (Xk 60)))=.ok (ZZ,.bl (decide (60<run' r c))):=(aR (ak rfl) aj).trans (o_gt _ _);have e3:ev o [X,some (.sh,.int (run' r c)),some (.sh,.int (dp d c)),some (.sh,.str [c])] ZX (Xm .gt (Xi 2) (Xj (Xk 16)))=.ok (ZZ,.bl (decide (16<dp d c))):=(aR (ak rfl) aj).trans (o_gt _ _)
 by_cases h1:60<run' r c
 .rw[if_pos (.inl h1),evSs_ex]
  rw[dw e2,if_pos (decide_eq_true h1),evSs_ex (iI aj)]
 rw[aD (ifF e2 (decide_eq_false h1))]
 by_cases h2:16<dp d c
 .rw[if_pos (.inr h2),evSs_ex]
  rw[dw e3,if_pos (decide_eq_true h2),evSs_ex (iI aj)]
 rw[aD (ifF e3 (decide_eq_false h2)),if_neg (by simp[h1,h2])]
 rfl
theorem Kr(o:Orc)(m m':List Nat)(X:Option Slot):∀(l:List Nat)(r d:Int)(s:Option Slot),∃δ,cF (evSs o (cB m m')) [3] ZZ (l.map λc=>.str [c]) [X,some (.sh,.int r),some (.sh,.int d),s]=if chk l r d then .ex 2 δ else .nx δ
 | [],r,d,s=>⟨_,rfl⟩
 | c::l,r,d,s=>by
   have hb:=M7 o m m' X r d c
   have hs:aM [X,some (.sh,.int r),some (.sh,.int d),s] [3] [.str [c]]=Z_ [X,some (.sh,.int r),some (.sh,.int d),some (.sh,.str [c])]:=by simp[aM,setSlot]
   by_cases h:60<run' r c\/16<dp d c
   .rw[if_pos h]at hb
    refine⟨[X,some (.sh,.int (run' r c)),some (.sh,.int (dp d c)),some (.sh,.str [c])],?_⟩
    have hk:chk (c::l) r d=ZX:=by unfold chk;rcases h with h | h<;>simp[h]
    simp only[QL,cF,takes,QW,if_false,hs,hb,hk,if_true]
   .rw[if_neg h]at hb
    obtain⟨δ,ih⟩:=Kr o m m' X l (run' r c) (dp d c) (Z_ (.sh,.str [c]));refine⟨δ,?_⟩
    have hk:chk (c::l) r d=chk l (run' r c) (dp d c):=by rw[chk,decide_eq_false (λz=>h (.inl z)),decide_eq_false (λz=>h (.inr z))];rfl
    simp only[QL,cF,takes,QW,if_false,hs,hb,hk];exact ih
noncomputable def tooL(x:List Nat):Bool:=decide (2000<x.length)||chk x 0 0
def check_run(o:Orc)(x:List Nat):bf o f0 [.str x]=if tooL x then .exc 2 else .ok (ZZ,.non):=by
 have e0:ev o [some (.sh,.str x),none,none,none] ZX (Xm .gt (XD .len (Xi 0)) (Xj (Xk 2000)))=.ok (ZZ,.bl (decide (2000<x.length))):=((aR (rF rfl) aj).trans (o_gt _ _)).trans (by congr 3;exact decide_eq_decide.mpr (by omega))
 by_cases h:2000<x.length
 .have:tooL x=ZX:=by simp[tooL,h]
  rw[this];refine runFn_ex rfl rfl (stpE (c:=2) (δ':=[some (.sh,.str x),none,none,none]) ?_);show evS o (Xx _ _ _) [some (.sh,.str x),none,none,none]=_;rw[dw e0,if_pos (decide_eq_true h),evSs_ex (iI aj)]
 .have ht:tooL x=chk x 0 0:=by simp[tooL,h]
  rw[ht];obtain⟨δ,hf⟩:=Kr o [116,111,111,32,109,97,110,121,32,102,105,103,117,114,101,115,32,98,101,104,105,110,100,32,111,110,101,32,97,110,111,116,104,101,114] [116,111,111,32,109,97,110,121,32,114,111,117,110,100,32,115,105,103,110,115,32,119,105,116,104,105,110,32,111,110,101,32,97,110,111,116,104,101,114] (Z_ (.sh,.str x)) x 0 0 none
  have e3:evS o (Ye [3] ZZ (XJ (Xi 0)) (cB [116,111,111,32,109,97,110,121,32,102,105,103,117,114,101,115,32,98,101,104,105,110,100,32,111,110,101,32,97,110,111,116,104,101,114] [116,111,111,32,109,97,110,121,32,114,111,117,110,100,32,115,105,103,110,115,32,119,105,116,104,105,110,32,111,110,101,32,97,110,111,116,104,101,114])) [some (.sh,.str x),some (.sh,.int 0),some (.sh,.int 0),none]=if chk x 0 0 then .ex 2 δ else .nx δ:=by
   rw[forE (δ1:=[some (.sh,.str x),some (.sh,.int 0),some (.sh,.int 0),none]) rfl]
   have:evI o [some (.sh,.str x),some (.sh,.int 0),some (.sh,.int 0),none] ZZ (XJ (Xi 0))=.ok (x.map λc=>.str [c]):=by
    rw[evI,ak rfl];rfl
   rw[this];exact hf
  generalize hcB:cB _ _=CB at e3
  have eb:f0.body=Xn (Xx (Xm .gt (XD .len (Xi 0)) (Xj (Xk 2000))) (Xn (Yk 2 (Xj (Xq [116,111,111,32,109,97,110,121,32,115,105,103,110,115]))) Xp) Xp) (Xn (Xw 1 (Xj (Xk 0))) (Xn (Xw 2 (Xj (Xk 0))) (Xn (Ye [3] ZZ (XJ (Xi 0)) CB) Xp))):=by subst hcB;rfl
  have hbody:evSs o f0.body [some (.sh,.str x),none,none,none]=if chk x 0 0 then .ex 2 δ else .nx δ:=by
   rw[eb,aD (ifF e0 (decide_eq_false h)),aD (aA aj rfl),aD (aA aj rfl)];show evSs o (Xn (Ye [3] ZZ (XJ (Xi 0)) CB) Xp) [some (.sh,.str x),some (.sh,.int 0),some (.sh,.int 0),none]=_;rw[evSs,e3];cases chk x 0 0<;>rfl
  have hr:bf o f0 [.str x]=match evSs o f0.body [some (.sh,.str x),none,none,none]with
   | .rt w d _=>.ok (w,d)
   | .nx _=>.ok (ZZ,.non)
   | .ex c _=>.exc c
   | _=>.stuck:=rfl
  rw[hr,hbody];cases chk x 0 0<;>rfl
def Word(p:List Nat):Prop:=∃c r,p=c::r/\c∈LET/\(∀a∈r,a∈LET++FIG)/\p.length<=60
def Num(p:List Nat):Prop:=p≠[]/\∀a∈p,a∈FIG
def Sgn(p:List Nat):Prop:=(∃c,c∈SNG/\p=[c])\/p=[62,61]\/p=[60,61]
def Good(p:List Nat):Prop:=Word p\/Num p\/Sgn p
noncomputable def ALI:List Nat:=[65,90,46,47,58,59,33,63,35,38,39,34,91,92,93,94,123,124,125,126,10,9,36,64,60,62]
def Ali(p:List Nat):Prop:=∃a,a∈ALI/\p=[a]
noncomputable def bO(l:List Nat)(c:Nat):Bool:=match l with
 | []=>false
 | a::_=>if a∈LET then decide (c∈LET)||decide (c∈FIG)else if a∈FIG then decide (c∈FIG)else decide (l=[60])||decide (l=[62])
def Fit(p t:List Nat):Prop:=∀c r,t=c::r->c=32\/bO p c=ZZ
inductive Txt:List Nat->List (List Nat)->Prop
 | nil:Txt [] []
 | blank {t:List Nat} {row:List (List Nat)}:Txt t row->Txt (32::t) row
 | piece {p t:List Nat} {row:List (List Nat)}:(Good p\/Ali p)->Fit p t->Txt t row->Txt (p++t) (p::row)
def uJ:∀a∈FIG,a∉LET:=by decide
def wV:∀a∈SNG,a∉LET/\a∉FIG:=by decide
def CV:∀a∈ALI,a∉LET/\a∉FIG/\a∉SNG/\a≠32/\a≠40/\a≠41:=by decide
def qM{sg p t:List Nat}(h:∀a∈p,a∈sg)(ht:∀c r,t=c::r->c∉sg):tw sg (p++t)=p:=by
 induction p with
 | nil=>
   cases t with
   | nil=>rfl
   | cons c r=>exact Dt (ht c r rfl)
 | cons a p ih=>rw[SN,K8 (h a QM),ih λb hb=>h b (QQ _ hb)]
def Jh{p t:List Nat}(hp:Good p)(hf:Fit p t):peV (p++t)=Z_ p.length:=by
 rcases hp with⟨c,r,rfl,hc,hr,_⟩ | ⟨hne,ha⟩ | hs
 .have:tw (LET++FIG) (c::r++t)=c::r:=by
   refine qM (λa h=>?_) λc' r' e=>?_
   .rcases R8.mp h with rfl | h
    .exact Tn _ hc
    .exact hr a h
   .rcases hf c' r' e with rfl | h
    .decide
    .simp only[bO,if_pos hc,Rp,decide_eq_false_iff_not]at h
     simp[h.1,h.2]
  show(if c∈LET then some (tw (LET++FIG) (c::r++t)).length else _)=_;rw[if_pos hc,this]
 .cases p with
  | nil=>exact absurd rfl hne
  | cons c r=>
    have hc:=ha c QM;have hl:=uJ c hc
    have:tw FIG (c::r++t)=c::r:=by
     refine qM ha λc' r' e=>?_
     rcases hf c' r' e with rfl | h
     .decide
     .simp only[bO,if_neg hl,if_pos hc,decide_eq_false_iff_not]at h
      exact h
    show(if c∈LET then _ else if c∈FIG then some (tw FIG (c::r++t)).length else _)=_;rw[if_neg hl,if_pos hc,this]
 .rcases hs with⟨c,hc,rfl⟩ | rfl | rfl
  .obtain⟨h1,h2⟩:=wV c hc
   show(if c∈LET then _ else if c∈FIG then _ else if c∈SNG then some 1 else _)=_;rw[if_neg h1,if_neg h2,if_pos hc];rfl
  all_goals(rfl)
def good_hd(h:Good p\/Ali p):∃c r,p=c::r/\c≠32:=by
 have l32:∀a∈LET,a≠32:=by decide
 have f32:∀a∈FIG,a≠32:=by decide
 have s32:∀a∈SNG,a≠32:=by decide
 rcases h with(⟨c,r,rfl,hc,_⟩ | ⟨hne,ha⟩ | ⟨c,hc,rfl⟩ | rfl | rfl) | ⟨a,ha,rfl⟩
 .exact⟨c,r,rfl,l32 c hc⟩
 .cases p with
  | nil=>exact absurd rfl hne
  | cons c r=>exact⟨c,r,rfl,f32 c (ha c QM)⟩
 .exact⟨c,[],rfl,s32 c hc⟩
 .exact⟨62,[61],rfl,by decide⟩
 .exact⟨60,[61],rfl,by decide⟩
 .exact⟨a,[],rfl,(CV a ha).2.2.2.1⟩
noncomputable def pC:T:=(Xm .lt (Xi 2) (XD .len (Xi 0)))
noncomputable def pB:SL:=(Xn (Xx (Xm .eq (Xv (Xi 0) (Xi 2)) (Xj (Xq [32]))) (Xn (Xw 2 (Xm .add (Xi 2) (Xj (Xk 1)))) Xp) (Xn (Yp 3 2 (Xl (Xi 0) (Xl (Xi 2) Xo))) (Xn (XS 1 (XR (Xi 0) (Xi 2) (Xi 3))) (Xn (Xw 2 (Xi 3)) Xp)))) Xp)
noncomputable abbrev St(x:List Nat)(F:List D)(p:Nat)(e:Option Slot):Dst:=[some (.sh,.str x),some (.ow,.lst F),some (.sh,.int (p:Int)),e]
section
variable{o:Orc}{x:List Nat}
def IK(hl:evL o δ l=.ok (ZZ,xs))(h:o.fn f xs=.ok (w,d))(hs:setSlot δ i w d=Z_ δ'):evS o (.setx i f l) δ=.nx δ':=by
 simp only[evS,hl,SO.of,h,Xr,lent,QW,if_false,SO.ofX,hs,Ro,aB]
def Ed(F:List D)(e:Option Slot)(pre r:List Nat)(c:Nat)(hx:x=pre++c::r):ev o (St x F pre.length e) ZX (Xm .eq (Xv (Xi 0) (Xi 2)) (Xj (Xq [32])))=.ok (ZZ,.bl (decide (c=32))) :=
 ((aR ((iy (ak rfl) (ak rfl)).trans (ix (c:=c) (by rw[hx];simp))) aj).trans (dH _ _)).trans (by rw[Eo])
def Ga(F:List D)(e:Option Slot)(pre t:List Nat)(hx:x=pre++32::t):evSs o pB (St x F pre.length e)=.nx (St x F (pre++[32]).length e):=by
 have h1:evS o (Xx (Xm .eq (Xv (Xi 0) (Xi 2)) (Xj (Xq [32]))) (Xn (Xw 2 (Xm .add (Xi 2) (Xj (Xk 1)))) Xp) (Xn (Yp 3 2 (Xl (Xi 0) (Xl (Xi 2) Xo))) (Xn (XS 1 (XR (Xi 0) (Xi 2) (Xi 3))) (Xn (Xw 2 (Xi 3)) Xp)))) (St x F pre.length e)=.nx (St x F (pre++[32]).length e):=by
  rw[dw (Ed F e pre t 32 hx),if_pos (by decide),aD (aA ((aR (ak rfl) aj).trans (cD _ _)) rfl)];simp[evSs,St]
 rw[pB,aD h1]
 rfl
def MK(F:List D)(e:Option Slot)(pre r:List Nat)(c:Nat)(hx:x=pre++c::r)(hc:c≠32):evSs o pB (St x F pre.length e)=match evSs o (Xn (Yp 3 2 (Xl (Xi 0) (Xl (Xi 2) Xo))) (Xn (XS 1 (XR (Xi 0) (Xi 2) (Xi 3))) (Xn (Xw 2 (Xi 3)) Xp))) (St x F pre.length e)with | .nx δ=>.nx δ | r=>r:=by
 rw[pB,evSs,dw (Ed F e pre r c hx),if_neg (by simp[hc])];cases evSs o _ (St x F pre.length e)<;>rfl
def Ny(F:List D)(e:Option Slot)(p:Nat):evL o (St x F p e) (Xl (Xi 0) (Xl (Xi 2) Xo))=.ok (ZZ,[.str x,.int (p:Int)]):=aa rfl (ak rfl) (aa rfl (ak rfl) rfl)
def Jf(F:List D)(e:Option Slot)(pre p t:List Nat)(hx:x=pre++(p++t))(hp:∃c r,p=c::r/\c≠32)(hF:F.length<=100000)(h:o.fn 2 [.str x,.int (pre.length:Int)]=.ok (ZZ,.int ((pre.length+p.length:Nat):Int))) :
 ∃e',evSs o pB (St x F pre.length e)=.nx (St x (F++[.str p]) (pre++p).length e'):=by
 obtain⟨c,r,hpe,hc⟩:=hp;refine⟨some (.sh,.int ((pre.length+p.length:Nat):Int)),?_⟩;rw[MK F e pre (r++t) c (by rw[hx,hpe];rfl) hc];have s1:evS o (Yp 3 2 (Xl (Xi 0) (Xl (Xi 2) Xo))) (St x F pre.length e)=.nx (St x F pre.length (Z_ (.sh,.int ((pre.length+p.length:Nat):Int)))):=IK (Ny F e _) h rfl
 have hsl:ev o (St x F pre.length (Z_ (.sh,.int ((pre.length+p.length:Nat):Int)))) ZZ (XR (Xi 0) (Xi 2) (Xi 3))=.ok (ZZ,.str p):=by
  refine fM (ak rfl) (ak rfl) (ak rfl) rfl rfl ?_;rw[hx,zj];simp
 have hz:size (F.length+1)=ZX:=by simp[size];omega
 have s2:evS o (XS 1 (XR (Xi 0) (Xi 2) (Xi 3))) (St x F pre.length (Z_ (.sh,.int ((pre.length+p.length:Nat):Int))))=.nx (St x (F++[.str p]) pre.length (Z_ (.sh,.int ((pre.length+p.length:Nat):Int)))):=by
  have ho:ownD (St x F pre.length (Z_ (.sh,.int ((pre.length+p.length:Nat):Int)))) 1=Z_ (.ow,.lst F):=rfl;simp only[evS,evF,hsl,SO.of,ho,R7,hz,if_true,aB]
  rfl
 rw[aD s1,aD s2,aD (aA (ak rfl) rfl)];simp[evSs,St]
def vp(F:List D)(e:Option Slot)(p:Nat):ev o (St x F p e) ZX pC=.ok (ZZ,.bl (decide (p<x.length))):=((aR (ak rfl) (rF rfl)).trans (o_lt _ _)).trans (by congr 3;exact decide_eq_decide.mpr (by omega))
variable(hpe:∀(pre rest:List Nat)(c:Nat)(r:List Nat),x=pre++rest->rest=c::r->o.fn 2 [.str x,.int (pre.length:Int)]=peR pre.length (peV rest))
include hpe
theorem Gv{rest:List Nat}{row:List (List Nat)}(h:Txt rest row):(∀p∈row,Good p)->∀(pre:List Nat)(F:List D)(e:Option Slot)(n:Nat),x=pre++rest->rest.length<n->F.length+row.length<=100000 ->
 ∃e',b8 (fun δ=>ev o δ ZX pC) (evSs o pB) n (St x F pre.length e)=.nx (St x (F++row.map .str) x.length e'):=by
 induction h with
 | nil=>
   intro _ pre F e n hx hn _
   obtain⟨n,rfl⟩:∃m,n=m+1:=⟨n-1,by omega⟩
   refine⟨e,?_⟩
   have hl:pre.length=x.length:=by rw[hx];simp
   rw[while_f (w:=ZZ) (by rw[vp,decide_eq_false (by omega)]),hl];simp
 | @blank t row h ih=>
   intro hg pre F e n hx hn hF
   obtain⟨n,rfl⟩:∃m,n=m+1:=⟨n-1,by omega⟩
   have hl:pre.length<x.length:=by rw[hx];simp
   rw[while_t (w:=ZZ) (by rw[vp,decide_eq_true hl]) (Ga F e pre t hx)];exact ih hg (pre++[32]) F e n (by rw[hx];simp) (by simp at hn;omega) hF
 | @piece p t row hk hf h ih=>
   intro hg pre F e n hx hn hF
   obtain⟨n,rfl⟩:∃m,n=m+1:=⟨n-1,by omega⟩
   obtain⟨c,r,hc,h32⟩:=good_hd hk
   have hl:pre.length<x.length:=by rw[hx,hc];simp
   have h2:=hpe pre (p++t) c (r++t) hx (by rw[hc];rfl);rw[Jh (hg p QM) hf]at h2;obtain⟨e',h3⟩:=Jf (o:=o) F e pre p t hx ⟨c,r,hc,h32⟩ (by simp at hF;omega) h2;rw[while_t (w:=ZZ) (by rw[vp,decide_eq_true hl]) h3];obtain⟨e2,h4⟩:=ih (λq hq=>hg q (QQ _ hq)) (pre++p) (F++[.str p]) e' n (by rw[hx];simp) (by rw[hc]at hn;simp at hn;omega) (by simp at hF ⊢;omega);exact⟨e2,by rw[h4];simp⟩
end
section
variable{o:Orc}{x:List Nat}
def check_ex(hl:evL o δ l=.ok (ZZ,xs))(h:o.fn f xs=.exc c):evS o (.expr (.call f l)) δ=.ex c δ:=by simp only[evS,hl,SO.of,h,Xr,SO.ofX]
def Bf(hl:evL o δ l=.ok (ZZ,xs))(h:o.fn f xs=.ok (w,d)):evS o (.expr (.call f l)) δ=.nx δ:=by simp only[evS,hl,SO.of,h,Xr,lent,QW,if_false,SO.ofX]
def pieces_long(h0:o.fn 0 [.str x]=.exc 2):bf o f3 [.str x]=.exc 2:=runFn_ex rfl rfl (stpE (check_ex (aa rfl (ak rfl) rfl) h0))
def pieces_ok(h0:o.fn 0 [.str x]=.ok (ZZ,.non))(hpe:∀(pre rest:List Nat)(c:Nat)(r:List Nat),x=pre++rest->rest=c::r->o.fn 2 [.str x,.int (pre.length:Int)]=peR pre.length (peV rest))(ht:Txt x row)(hg:∀p∈row,Good p)(hw:x.length<o.w)(hr:row.length<=1000) :
 bf o f3 [.str x]=.ok (ZX,.lst (row.map .str)):=by
 obtain⟨e',hW⟩:=Gv hpe ht hg [] [] none o.w rfl hw (by simp;omega);refine aF rfl rfl (stp _ (Bf (aa rfl (ak rfl) rfl) h0) (stp _ (aA (bx (xs:=[]) rfl rfl) rfl) (stp _ (aA aj rfl) (stp _ (show evS o (.while_ pC pB) _=_ from hW) ?_))));exact stpR rfl
end
noncomputable def fK(d:Int)(p:List Nat):Int:=if p=[41]then(if p=[40]then d+1 else d)-1 else if p=[40]then d+1 else d
noncomputable def rowL:List (List Nat)->Int->Bool
 | [],_=>false
 | p::row,d=>if 16<fK d p\/60<p.length then ZX else rowL row (fK d p)
def wO(d:Int)(c:Nat):fK d [c]=dp d c:=by
 unfold fK dp
 by_cases h:c=40
 .subst h;simp
 .by_cases h':c=41
  .subst h';simp
  .simp[h,h']
def iQ:∀a∈LET++FIG,a≠40/\a≠41:=by decide
def uy(h:c≠40/\c≠41):dp d c=d:=by unfold dp;rw[if_neg h.1,if_neg h.2]
def qW(h1:¬60<run' r c)(h2:¬16<dp d c):chk (c::l) r d=chk l (run' r c) (dp d c):=by
 rw[chk,decide_eq_false h1,decide_eq_false h2];rfl
def gC(hc:c∉FIG):chk (c::l) r d=(decide (16<dp d c)||chk l 0 (dp d c)):=by
 have:run' r c=0:=if_neg hc;rw[chk,this];rfl
theorem sW{t:List Nat}{d:Int}(hd:d<=16):∀(w:List Nat)(r:Int),(∀a∈w,a∈LET++FIG)->0<=r->r+w.length<=60->∃r',0<=r'/\chk (w++t) r d=chk t r' d
 | [],r,_,h0,_=>⟨r,h0,rfl⟩
 | c::w,r,hw,h0,hl=>by
   have hc:=uy (d:=d) (iQ c (hw c QM))
   have hr:0<=run' r c/\run' r c<=r+1:=by unfold run';split<;>omega
   simp only[R6]at hl;obtain⟨r',h1,h2⟩:=sW hd w (run' r c) (λa ha=>hw a (QQ _ ha)) hr.1 (by omega);refine⟨r',h1,?_⟩;rw[SN,qW (by omega) (by rw[hc];omega),hc,h2]
theorem ye{t:List Nat}{d:Int}(hd:d<=16):∀(w:List Nat)(r:Int),(∀a∈w,a∈FIG)->0<=r->r<=60->chk (w++t) r d=if 60<r+w.length then ZX else chk t (r+w.length) d
 | [],r,_,h0,hl=>by simp;omega
 | c::w,r,hw,h0,hl=>by
   have hf:=hw c QM;have hc:=uy (d:=d) (iQ c (RZ _ hf));have hr:run' r c=r+1:=if_pos hf
   by_cases h:60<r+1
   .rw[SN,chk,hr,decide_eq_true h,if_pos (by simp;omega)];rfl
   .rw[SN,qW (by omega) (by rw[hc];omega),hc,hr,ye hd w (r+1) (λa ha=>hw a (QQ _ ha)) (by omega) (by omega)]
    rw[show r+1+(w.length:Int)=r+((c::w).length:Nat) by simp;omega]
def xQ{p t:List Nat}(hf:Fit p t)(hp:∃c r,p=c::r/\(c∈LET\/c∈FIG)):∀c r,t=c::r->c∉FIG:=λc r e=>by
 obtain⟨a,r',rfl,ha⟩:=hp;rcases hf c r e with rfl | h
 .decide
 .by_cases h1:a∈LET
  .simp only[bO,if_pos h1,Rp,decide_eq_false_iff_not]at h
   exact h.2
  .simp only[bO,if_neg h1,if_pos (ha.resolve_left h1),decide_eq_false_iff_not]at h
   exact h
def Jc{t:List Nat}{row:List (List Nat)}(h:Txt t row):∀(r d:Int),d<=16->0<=r->(r=0\/∀c t',t=c::t'->c∉FIG)->chk t r d=rowL row d:=by
 induction h with
 | nil=>intro r d _ _ _;rfl
 | @blank t row h ih=>
   intro r d hd _ _;rw[gC (by decide),uy (by decide),decide_eq_false (by omega)];exact ih 0 d hd (VD _) (.inl rfl)
 | @piece p t row hk hf h ih=>
   intro r d hd h0 hr
   have one:∀c,p=[c]->c∉FIG->chk (p++t) r d=rowL (p::row) d:=λc e hc=>by
    subst e;rw[show[c]++t=c::t from rfl,gC hc,rowL,wO]
    by_cases hx:16<dp d c
    .rw[decide_eq_true hx,if_pos (.inl hx)];rfl
    .rw[decide_eq_false hx,if_neg (by simp[hx])]
     exact ih 0 _ (by omega) (VD _) (.inl rfl)
   have two:∀c,p=[c,61]->c∉FIG->c≠40/\c≠41->chk (p++t) r d=rowL (p::row) d:=λc e hc hn=>by
    subst e;rw[show[c,61]++t=c::61::t from rfl,gC hc,uy hn,decide_eq_false (by omega),Ug,gC (by decide),uy (by decide),decide_eq_false (by omega),Ug,rowL]
    have:fK d [c,61]=d:=by simp[fK]
    rw[this,if_neg (by simp;omega)];exact ih 0 d hd (VD _) (.inl rfl)
   rcases hk with(⟨c,w,rfl,hc,hw,hl⟩ | ⟨hne,ha⟩ | ⟨c,hc,e⟩ | e | e) | ⟨a,ha,e⟩
   .have hcf:c∉FIG:=λz=>uJ c z hc
    have hn:=iQ c (Tn _ hc)
    have hs:fK d (c::w)=d:=by
     have h1:c::w≠[41]:=λz=>hn.2 (by simpa using(Vd z).1)
     have h2:c::w≠[40]:=λz=>hn.1 (by simpa using(Vd z).1)
     unfold fK;rw[if_neg h1,if_neg h2]
    obtain⟨r',h1,h2⟩:=sW (t:=t) hd w 0 hw (VD _) (by simp at hl;omega);rw[SN,gC hcf,uy hn,decide_eq_false (by omega),Ug,h2,rowL,hs,if_neg (by omega)];exact ih r' d hd h1 (.inr (xQ hf ⟨c,w,rfl,.inl hc⟩))
   .cases p with
    | nil=>exact absurd rfl hne
    | cons c w=>
      have hc:=ha c QM;have hn:=iQ c (RZ _ hc)
      have hs:fK d (c::w)=d:=by
       have h1:c::w≠[41]:=λz=>hn.2 (by simpa using(Vd z).1)
       have h2:c::w≠[40]:=λz=>hn.1 (by simpa using(Vd z).1)
       unfold fK;rw[if_neg h1,if_neg h2]
      have hr0:r=0:=hr.resolve_right λz=>z c (w++t) rfl hc
      subst hr0;rw[ye hd (c::w) 0 ha (VD _) (by omega),rowL,hs,Int.zero_add]
      by_cases hx:60<(c::w).length
      .rw[if_pos (by omega),if_pos (.inr hx)]
      .rw[if_neg (by omega),if_neg (by omega)]
       exact ih _ d hd (by omega) (.inr (xQ hf ⟨c,w,rfl,.inr hc⟩))
   .exact one c e (wV c hc).2
   .exact two 62 e (by decide) (by decide)
   .exact two 60 e (by decide) (by decide)
   .exact one a e (CV a ha).2.1
def tooL_row(h:Txt x row):tooL x=(decide (2000<x.length)||rowL row 0):=by
 unfold tooL;rw[Jc h 0 0 (by omega) (VD _) (.inl rfl)]
def vV(ha:ev o δ ZX a=.ok (w,.bl ZX)):ev o δ lk (Y0 a b)=.ok (ZZ,.bl ZX):=by simp only[ev,ha,Xr]
def oV(ha:ev o δ ZX a=.ok (w,.bl ZZ))(hb:ev o δ ZX b=.ok (w',.bl c)):ev o δ lk (Y0 a b)=.ok (ZZ,.bl c):=by simp only[ev,ha,hb,Xr,cj]
def pK(ha:ev o δ ZX a=.ok (w,.bl c))(hb:ev o δ ZX b=.ok (w',.bl c')):ev o δ lk (Y0 a b)=.ok (ZZ,.bl (c||c')):=by
 cases c
 .exact oV ha hb
 .exact vV ha
def ifS(h:ev o δ ZX c=.ok (w,.bl b))(k:ev o δ ZZ e=.ok (w',d))(hs:setSlot δ i w' d=Z_ δ'):evS o (.ifs c (.cons (.set i e) .nil) .nil) δ=.nx (if b then δ' else δ):=by
 cases b
 .exact ifN h
 .rw[dw h,if_pos rfl,aD (aA k hs)];rfl
def gP(a b:Int)(h:b≠0):o2 .mod (.int a) (.int b)=.ok (ZZ,.int (a.fmod b)):=by simp only[o2,arith,decide_eq_true h,Xz,if_true]
def dO(a b:Int)(h:(decide (b≠0)&&decide (b.natAbs.log2<9000))=ZX):o2 .fdiv (.int a) (.int b)=.ok (ZZ,.int (a.fdiv b)):=by simp only[o2,arith,h,Xz,if_true]
def rng0(n:Nat):rngD 0 (n:Int)=(Ru n).map λ(k:Nat)=>Xk (k:Int):=by simp[rngD]
def rng1_ev{o:Orc}{δ:Dst}{lk:Bool}{t:T}{w:Bool}{n:Nat}(h:ev o δ ZX t=.ok (w,.int (n:Int)))(hn:n<=100000):evI o δ lk (Y6 t)=.ok ((Ru n).map λ(k:Nat)=>Xk (k:Int)):=by
 have:inR (n:Int)=ZX:=by simp[inR];omega
 rw[evI,h];simp only[Xr,this,Xz,if_true,rng0]
def mq(h:a.length+b.length<=16777216):o2 .add (.str a) (.str b)=.ok (ZZ,.str (a++b)):=by
 have:size (a.length+b.length)=ZX:=decide_eq_true h;simp only[o2,this,Xz,if_true]
def ju{l:List D}{k:Int}{d:D}(h0:0<=k)(h:l[k.toNat]?=Z_ d):idxD (.lst l) (.int k)=.ok (ZZ,d):=by
 have hk:=(R9.mp h).1
 have h1:k<l.length:=by omega
 simp only[idxD,place,h0,h1,if_true,R7,h,Ro,Xu]
def LQ(hs:cR δ it=δ)(hi:evI o δ ZZ it=.ok l)(h:cF (evSs o b) tg ZZ l δ=.nx δ'):evS o (.for_ tg ZZ it b) δ=.nx δ':=by
 rw[forE hs,hi];exact h
def inLG(x:List Nat):o2 .in (.str x) (.tup [.str [60],.str [62]])=.ok (ZZ,.bl (decide (x=[60])||decide (x=[62]))):=by
 have:isIn (.str x) (.tup [.str [60],.str [62]])=Z_ (decide ([60]=x)||(decide ([62]=x)||false)):=rfl;simp only[o2,this,Ro,Xu,Tw];rw[show decide ([60]=x)=decide (x=[60])from decide_eq_decide.mpr ⟨Wh,Wh⟩,show decide ([62]=x)=decide (x=[62])from decide_eq_decide.mpr ⟨Wh,Wh⟩]
def parted_run(o:Orc)(l:List Nat)(c:Nat)(r:List Nat):bf o f6 [.str l,.str (c::r)]=.ok (ZZ,.bl (bO l c)):=by
 refine aF rfl rfl (stp _ (aA aj rfl) (stp _ (aA aj rfl) ?_));have e0:ev o [some (.sh,.str l),some (.sh,.str (c::r)),some (.sh,.str LET),some (.sh,.str FIG)] ZX (Xm .eq (Xi 0) (Xj (Xq [])))=.ok (ZZ,.bl (decide (l=[]))):=(aR (ak rfl) aj).trans (dH _ _);have ic:ev o [some (.sh,.str l),some (.sh,.str (c::r)),some (.sh,.str LET),some (.sh,.str FIG)] ZX (Xv (Xi 1) (Xj (Xk 0)))=.ok (ZZ,.str [c]):=(iy (ak rfl) aj).trans (ix (k:=0) rfl)
 have ip:∀(k:Nat)(sg:List Nat),[some (Own.sh,Xq l),some (.sh,.str (c::r)),some (.sh,.str LET),some (.sh,.str FIG)][k]?=Z_ (Z_ (.sh,.str sg))->∀lk,ev o [some (.sh,.str l),some (.sh,.str (c::r)),some (.sh,.str LET),some (.sh,.str FIG)] lk (Xm .in (Xv (Xi 1) (Xj (Xk 0))) (Xi k))=.ok (ZZ,.bl (decide (c∈sg))):=λk sg h lk=>(aR ic (ak h)).trans (o_in c sg)
 cases l with
 | nil=>exact stpR (ifT e0 rfl (retR aj rfl))
 | cons a t=>
   refine stp _ (ifF e0 rfl) ?_;have ia:ev o [some (.sh,.str (a::t)),some (.sh,.str (c::r)),some (.sh,.str LET),some (.sh,.str FIG)] ZX (Xv (Xi 0) (Xj (Xk 0)))=.ok (ZZ,.str [a]):=(iy (ak rfl) aj).trans (ix (k:=0) rfl)
   have iq:∀(k:Nat)(sg:List Nat),[some (Own.sh,Xq (a::t)),some (.sh,.str (c::r)),some (.sh,.str LET),some (.sh,.str FIG)][k]?=Z_ (Z_ (.sh,.str sg))->ev o [some (.sh,.str (a::t)),some (.sh,.str (c::r)),some (.sh,.str LET),some (.sh,.str FIG)] ZX (Xm .in (Xv (Xi 0) (Xj (Xk 0))) (Xi k))=.ok (ZZ,.bl (decide (a∈sg))):=λk sg h=>(aR ia (ak h)).trans (o_in a sg)
   unfold bO
   by_cases h1:a∈LET
   .simp only[if_pos h1]
    exact stpR (ifT (iq 2 LET rfl) (decide_eq_true h1) (retR (pK (ip 2 LET rfl ZX) (ip 3 FIG rfl ZX)) rfl))
   simp only[if_neg h1];refine stp _ (ifF (iq 2 LET rfl) (decide_eq_false h1)) ?_
   by_cases h2:a∈FIG
   .simp only[if_pos h2]
    exact stpR (ifT (iq 3 FIG rfl) (decide_eq_true h2) (retR (ip 3 FIG rfl ZZ) rfl))
   simp only[if_neg h2];exact stp _ (ifF (iq 3 FIG rfl) (decide_eq_false h2)) (stpR (retR ((aR (ak rfl) (aY (xs:=[.str [60],.str [62]]) (aa rfl aj (aa rfl aj rfl)) rfl)).trans (inLG _)) rfl))
def Bl(l:List Nat):Prop:=∀a∈l,a=32
def qx(m:Nat):Bl (U5 m [32,32]):=λa ha=>by
 have:=List.mem_of_mem_take ha;simpa using this
def Ni(ha:Bl a)(hb:Bl b):Bl (a++b):=λx hx=>(Sg.mp hx).elim (ha x) (hb x)
noncomputable def gapV(seed:Int)(k:Nat):List Nat:=U5 (mixV (seed+k) 0 3).toNat [32,32]
noncomputable def gp(seed:Int)(k:Nat)(last p:List Nat):List Nat:=if gapV seed k=[]/\bO last (p.headD 0)=ZX then[32]else gapV seed k
noncomputable def txtF(seed:Int):Nat->List Nat->List (List Nat)->List Nat
 | _,_,[]=>[]
 | k,last,p::row=>gp seed k last p++(p++txtF seed (k+1) p row)
def JD(seed:Int)(k:Nat)(last p:List Nat):Bl (gp seed k last p):=by
 unfold gp;split
 .intro a ha;simpa using ha
 .exact qx _
def yW(seed:Int)(k:Nat)(last p:List Nat):(gp seed k last p).length<=2:=by
 unfold gp;split
 .simp
 .simp[gapV];omega
theorem t6{t:List Nat}{row:List (List Nat)}(h:Txt t row):∀b:List Nat,Bl b->Txt (b++t) row
 | [],_=>h
 | c::b,hb=>by
   have hc:=hb c QM;subst hc;exact .blank (t6 h b λa ha=>hb a (QQ _ ha))
def JV(seed:Int)(k:Nat)(last b:List Nat)(hb:Bl b):∀row:List (List Nat),(∀p∈row,Good p\/Ali p)->∀c r,txtF seed k last row++b=c::r->c=32\/bO last c=ZZ
 | [],_,c,r,e=>by
   have e:b=c::r:=e;exact .inl (hb c (by rw[e];exact QM))
 | q::row,hg,c,r,e=>by
   obtain⟨a,q',hq,_⟩:=good_hd (hg q QM);simp only[txtF,S7]at e
   cases hgp:gp seed k last q with
   | cons g gs=>
     rw[hgp]at e;have:g=c:=(Vd e).1;exact .inl (JD seed k last q c (by rw[hgp,<-this];exact QM))
   | nil=>
     rw[hgp,hq]at e;have:a=c:=(Vd e).1;subst this;unfold gp at hgp;split at hgp
     .cases hgp
     .rename_i hn
      rw[hq]at hn;refine .inr ?_
      cases hp:bO last a with
      | false=>rfl
      | true=>exact absurd ⟨hgp,hp⟩ hn
theorem yN(seed:Int)(b:List Nat)(hb:Bl b):∀(row:List (List Nat))(k:Nat)(last:List Nat),(∀p∈row,Good p\/Ali p)->Txt (txtF seed k last row++b) row
 | [],k,last,_=>by
   have:=t6 .nil b hb;rw[RC]at this;exact this
 | p::row,k,last,hg=>by
   have ih:=yN seed b hb row (k+1) p λq hq=>hg q (QQ _ hq)
   have hf:Fit p (txtF seed (k+1) p row++b):=JV seed (k+1) p b hb row λq hq=>hg q (QQ _ hq)
   have:=t6 (.piece (hg p QM) hf ih) (gp seed k last p) (JD seed k last p);simpa only[txtF,S7]using this
theorem uP(seed:Int):∀(row:List (List Nat))(k:Nat)(last:List Nat),(∀p∈row,p.length<=61)->(txtF seed k last row).length<=63*row.length
 | [],_,_,_=>Ra _
 | p::row,k,last,h=>by
   have ih:=uP seed row (k+1) p λq hq=>h q (QQ _ hq)
   have h1:=yW seed k last p;have h2:=h p QM;simp only[txtF,R4,R6];omega
noncomputable def gB:SL:=(Xn (Xw 5 (XR (Xj (Xq [32,32])) (Xj Yc) (Xy 5 (Xl (Xm .add (Xi 1) (Xi 4)) (Xl (Xj (Xk 0)) (Xl (Xj (Xk 3)) Xo)))))) (Xn (Xx (Y8 (Xm .eq (Xi 5) (Xj (Xq []))) (Xy 6 (Xl (Xi 3) (Xl (Xv (Xi 0) (Xi 4)) Xo)))) (Xn (Xw 5 (Xj (Xq [32]))) Xp) Xp) (Xn (Xw 2 (Xm .add (Xm .add (Xi 2) (Xi 5)) (Xv (Xi 0) (Xi 4)))) (Xn (Xw 3 (Xv (Xi 0) (Xi 4))) Xp))))
def uN(m:Int)(h:0<=m):slcD (.str [32,32]) none (Z_ m)=Z_ (ZZ,.str (U5 m.toNat [32,32])):=by
 have:=CK [32,32] m.toNat;rw[Int.toNat_of_nonneg h]at this;exact this
section
variable{o:Orc}(hmix:∀c:Int,o.fn 5 [.int c,.int 0,.int 3]=.ok (ZZ,.int (mixV c 0 3)))(hpart:∀(l:List Nat)(c:Nat)(r:List Nat),o.fn 6 [.str l,.str (c::r)]=.ok (ZZ,.bl (bO l c)))
include hmix hpart
theorem Kp(row:List (List Nat))(seed:Int)(x last p:List Nat)(k:Nat)(g:Option Slot)(hk:row[k]?=Z_ p)(hp:∃c r,p=c::r)(hx:x.length+p.length<=100000) :
 evSs o gB [some (.sh,.lst (row.map .str)),some (.sh,.int seed),some (.sh,.str x),some (.sh,.str last),some (.sh,.int (k:Int)),g]=.nx [some (.sh,.lst (row.map .str)),some (.sh,.int seed),some (.sh,.str (x++(gp seed k last p++p))),some (.sh,.str p),some (.sh,.int (k:Int)),some (.sh,.str (gp seed k last p))]:=by
 obtain⟨c,r,rfl⟩:=hp;have hm:=(fD (seed+k) 0 3 (by decide)).1;have hi:idxD (.lst (row.map .str)) (.int (k:Int))=.ok (ZZ,.str (c::r)):=ju (Vy k) (by rw[U0,RM,hk];rfl)
 have s1:evS o (Xw 5 (XR (Xj (Xq [32,32])) (Xj Yc) (Xy 5 (Xl (Xm .add (Xi 1) (Xi 4)) (Xl (Xj (Xk 0)) (Xl (Xj (Xk 3)) Xo)))))) [some (.sh,.lst (row.map .str)),some (.sh,.int seed),some (.sh,.str x),some (.sh,.str last),some (.sh,.int (k:Int)),g]=.nx [some (.sh,.lst (row.map .str)),some (.sh,.int seed),some (.sh,.str x),some (.sh,.str last),some (.sh,.int (k:Int)),some (.sh,.str (gapV seed k))] :=
  aA (fM aj aj (az (aa rfl ((aR (ak rfl) (ak rfl)).trans (cD _ _)) (aa rfl aj (aa rfl aj rfl))) (hmix _)) rfl rfl (uN _ hm)) rfl
 have it:∀(x l:List Nat)(g:Option Slot)(lk:Bool),ev o [some (.sh,.lst (row.map .str)),some (.sh,.int seed),some (.sh,.str x),some (.sh,.str l),some (.sh,.int (k:Int)),g] lk (Xv (Xi 0) (Xi 4))=.ok (ZZ,.str (c::r)):=λx l g lk=>(iy (ak rfl) (ak rfl)).trans hi
 have ea:ev o [some (.sh,.lst (row.map .str)),some (.sh,.int seed),some (.sh,.str x),some (.sh,.str last),some (.sh,.int (k:Int)),some (.sh,.str (gapV seed k))] ZX (Y8 (Xm .eq (Xi 5) (Xj (Xq []))) (Xy 6 (Xl (Xi 3) (Xl (Xv (Xi 0) (Xi 4)) Xo))))=.ok (ZZ,.bl (decide (gapV seed k=[]/\bO last c=ZX))):=by
  have e1:ev o [some (.sh,.lst (row.map .str)),some (.sh,.int seed),some (.sh,.str x),some (.sh,.str last),some (.sh,.int (k:Int)),some (.sh,.str (gapV seed k))] ZX (Xm .eq (Xi 5) (Xj (Xq [])))=.ok (ZZ,.bl (decide (gapV seed k=[]))):=(aR (ak rfl) aj).trans (dH _ _)
  by_cases h:gapV seed k=[]
  .rw[decide_eq_true h]at e1
   rw[Do e1 (az (aa rfl (ak rfl) (aa rfl (it _ _ _ _) rfl)) (hpart last c r))]
   congr 3
   cases bO last c<;>simp[h]
  .rw[decide_eq_false h]at e1
   rw[Kc e1]
   congr 3
   simp[h]
 have s2:evS o (Xx (Y8 (Xm .eq (Xi 5) (Xj (Xq []))) (Xy 6 (Xl (Xi 3) (Xl (Xv (Xi 0) (Xi 4)) Xo)))) (Xn (Xw 5 (Xj (Xq [32]))) Xp) Xp) [some (.sh,.lst (row.map .str)),some (.sh,.int seed),some (.sh,.str x),some (.sh,.str last),some (.sh,.int (k:Int)),some (.sh,.str (gapV seed k))]=.nx [some (.sh,.lst (row.map .str)),some (.sh,.int seed),some (.sh,.str x),some (.sh,.str last),some (.sh,.int (k:Int)),some (.sh,.str (gp seed k last (c::r)))]:=by
  rw[ifS ea aj rfl,show gp seed k last (c::r)=if gapV seed k=[]/\bO last c=ZX then[32]else gapV seed k from rfl]
  by_cases h:gapV seed k=[]/\bO last c=ZX
  .rw[if_pos (decide_eq_true h),if_pos h];rfl
  .rw[if_neg (by simpa using h),if_neg h]
 have hg:=yW seed k last (c::r);generalize gp seed k last (c::r)=G at *;rw[gB,aD s1,aD s2,aD (aA ((aR ((aR (ak rfl) (ak rfl)).trans (mq (by omega))) (it _ _ _ _)).trans (mq (by rw[R4];omega))) rfl)];show evSs o _ [some (.sh,.lst (row.map .str)),some (.sh,.int seed),some (.sh,.str (x++G++(c::r))),some (.sh,.str last),some (.sh,.int (k:Int)),some (.sh,.str G)]=_;rw[aD (aA (it _ _ _ _) rfl),S7]
 rfl
theorem Mj(row:List (List Nat))(seed:Int):∀(todo don:List (List Nat))(x last:List Nat)(s g:Option Slot),row=don++todo->(∀p∈todo,(∃c r,p=c::r)/\p.length<=61)->x.length+63*todo.length<=50000 ->
 ∃l' s' g',cF (evSs o gB) [4] ZZ ((V7 don.length todo.length).map λ(k:Nat)=>Xk (k:Int)) [some (.sh,.lst (row.map .str)),some (.sh,.int seed),some (.sh,.str x),some (.sh,.str last),s,g]=.nx [some (.sh,.lst (row.map .str)),some (.sh,.int seed),some (.sh,.str (x++txtF seed don.length last todo)),l',s',g']
 | [],don,x,last,s,g,_,_,_=>⟨_,_,_,by simp only[T4,List.range'_zero,S9,cF,txtF,RC];rfl⟩
 | p::todo,don,x,last,s,g,hr,hp,hx=>by
   obtain⟨h1,h2⟩:=hp p QM;simp only[R6]at hx;have hb:=Kp hmix hpart row seed x last p don.length g (by rw[hr];simp) h1 (by omega);have hgl:=yW seed don.length last p;obtain⟨l',s',g',ih⟩:=Mj row seed todo (don++[p]) (x++(gp seed don.length last p++p)) p (Z_ (.sh,.int (don.length:Int))) (Z_ (.sh,.str (gp seed don.length last p))) (by rw[hr];simp) (λq hq=>hp q (QQ _ hq)) (by simp;omega);refine⟨l',s',g',?_⟩;have hs:aM [some (.sh,.lst (row.map .str)),some (.sh,.int seed),some (.sh,.str x),some (.sh,.str last),s,g] [4] [.int (don.length:Int)]=Z_ [some (.sh,.lst (row.map .str)),some (.sh,.int seed),some (.sh,.str x),some (.sh,.str last),some (.sh,.int (don.length:Int)),g]:=rfl;simp only[R6,Vj,QL,cF,takes,QW,if_false,T4,hs,hb];rw[show don.length+1=(don++[p]).length by simp,ih];simp[txtF]
noncomputable def textV(seed:Int)(row:List (List Nat)):List Nat:=U5 (seed.fmod 3).toNat [32,32]++txtF seed 0 [] row++U5 ((seed.fdiv 3).fmod 3).toNat [32,32]
theorem text_run(row:List (List Nat))(seed:Int)(hp:∀p∈row,(∃c r,p=c::r)/\p.length<=61)(hl:row.length<=780):bf o f7 [.lst (row.map .str),.int seed]=.ok (ZZ,.str (textV seed row)):=by
 have r1:=(aG seed 3 (by decide)).1;have r2:=(aG (seed.fdiv 3) 3 (by decide)).1
 have ht:(U5 (seed.fmod 3).toNat [32,32]).length<=2:=by simp;omega
 have ht2:(U5 ((seed.fdiv 3).fmod 3).toNat [32,32]).length<=2:=by simp;omega
 have htl:=uP seed row 0 [] λp h=>(hp p h).2
 obtain⟨l',s',g',hf⟩:=Mj hmix hpart row seed row [] (U5 (seed.fmod 3).toNat [32,32]) [] none none rfl hp (by omega)
 have hlen:b1D .len (.lst (row.map .str))=.ok (ZZ,.int (row.length:Int)):=by simp[b1D]
 have hI:evI o [some (.sh,.lst (row.map .str)),some (.sh,.int seed),some (.sh,.str (U5 (seed.fmod 3).toNat [32,32])),some (.sh,.str []),none,none] ZZ (Y6 (XD .len (Xi 0)))=.ok ((V7 0 row.length).map λ(k:Nat)=>Xk (k:Int)):=by
  rw[<-Ut];exact rng1_ev ((Hd (ak rfl)).trans hlen) (by omega)
 have hcat:=mq (a:=U5 (seed.fmod 3).toNat [32,32]++txtF seed 0 [] row) (b:=U5 ((seed.fdiv 3).fmod 3).toNat [32,32]) (by simp only[R4];omega);refine aF rfl rfl (stp [some (.sh,.lst (row.map .str)),some (.sh,.int seed),some (.sh,.str (U5 (seed.fmod 3).toNat [32,32])),none,none,none] (aA (fM aj aj ((aR (ak rfl) aj).trans (gP _ 3 (by decide))) rfl rfl (uN _ r1)) rfl) (stp [some (.sh,.lst (row.map .str)),some (.sh,.int seed),some (.sh,.str (U5 (seed.fmod 3).toNat [32,32])),some (.sh,.str []),none,none] (aA aj rfl) (stp _ (LQ rfl hI hf) ?_)));exact stpR (retR ((aR (ak rfl) (fM aj aj ((aR ((aR (ak rfl) aj).trans (dO _ 3 (by decide))) aj).trans (gP _ 3 (by decide))) rfl rfl (uN _ r2))).trans hcat) rfl)
end
def textV_txt(seed:Int)(row:List (List Nat))(pad:List Nat)(hb:Bl pad)(hg:∀p∈row,Good p\/Ali p):Txt (textV seed row++pad) row:=by
 unfold textV;rw[S7,S7];exact t6 (yN seed _ (Ni (qx _) hb) row 0 [] hg) _ (qx _)
end K9
namespace P11
open Z
noncomputable def f0:Fd:=P09.f0
noncomputable def f1:Fd:=P09.f1
noncomputable def f2:Fd:=P09.f2
noncomputable def f3:Fd:=P09.f3
noncomputable def f4:Fd:=P09.f4
noncomputable def f5:Fd:=P09.f5
noncomputable def f6:Fd:=P09.f6
noncomputable def f7:Fd:=P09.f7
noncomputable def f8:Fd:=⟨2,5,(Xn (Xw 2 (T.dnew [] Xo)) (Xn (Ye [3,4] ZX (XJ (Xi 1)) (Xn (Y5 2 (Xi 3) (Xm .add (Ys (Xi 2) (Xi 3) (Xj (Xk 0))) (Xi 4))) Xp)) (Xn (XC (XF (Xl (Xi 0) (Xl (XD .tuple (XQ [2] 1 ZZ (XJ (XD .sorted (Xi 2))) (Xm .ne (Xv (Xi 1) (Xi 0)) (Xj (Xk 0))) (XF (Xl (Xi 0) (Xl (Xv (Xi 1) (Xi 0)) Xo))))) Xo)))) Xp)))⟩
noncomputable def f9:Fd:=⟨2,2,(Xn (XC (Xy 8 (Xl (Xm .add (Xv (Xi 0) (Xj (Xk 0))) (Xv (Xi 1) (Xj (Xk 0)))) (Xl (Xm .add (Xv (Xi 0) (Xj (Xk 1))) (Xv (Xi 1) (Xj (Xk 1)))) Xo)))) Xp)⟩
noncomputable def f10:Fd:=⟨2,2,(Xn (XC (Xy 8 (Xl (Xm .mul (Xi 0) (Xv (Xi 1) (Xj (Xk 0)))) (Xl (XQ [0] 2 ZX (XJ (Xv (Xi 1) (Xj (Xk 1)))) (Xj (XN ZX)) (XF (Xl (Xi 0) (Xl (Xm .mul (Xi 2) (Xi 1)) Xo)))) Xo)))) Xp)⟩
noncomputable def f11:Fd:=⟨1,1,(Xn (Xx (Y0 (Xm .eq (Xi 0) (Xj (Xq []))) (Y0 (Xm .gt (XD .len (Xi 0)) (Xj (Xk 8))) (Y0 (Xm .in (Xi 0) (Xj (Y7 [(Xq [97,110,100]),(Xq [111,114]),(Xq [110,111,116]),(Xq [115,111,109,101]),(Xq [97,108,108]),(Xq [97,108,105,107,101]),(Xq [98,121])]))) (Xm .notin (Xv (Xi 0) (Xj (Xk 0))) (Xj (Xq P09.LET)))))) (Xn (XC (Xj (XN ZZ))) Xp) Xp) (Xn (XC (Xm .eq (Xy 1 (Xl (Xi 0) (Xl (Xj (Xk 0)) (Xl (Xm .add (Xj (Xq P09.LET)) (Xj (Xq P09.FIG))) Xo)))) (XD .len (Xi 0)))) Xp))⟩
noncomputable def f12:Fd:=⟨1,1,(Xn (Xx (Y0 (Xm .eq (Xi 0) (Xj (Xq []))) (Xm .lt (Xy 1 (Xl (Xi 0) (Xl (Xj (Xk 0)) (Xl (Xj (Xq P09.FIG)) Xo)))) (XD .len (Xi 0)))) (Xn (XC (Xj (XN ZZ))) Xp) Xp) (Xn (XC (Y0 (Xm .eq (Xi 0) (Xj (Xq [48]))) (Xm .ne (Xv (Xi 0) (Xj (Xk 0))) (Xj (Xq [48]))))) Xp))⟩
noncomputable def f13:Fd:=⟨1,2,(Xn (XX 1 (TM.meth [116,97,107,101] 0 Xo)) (Xn (Xx (Yj (Xy 11 (Xl (Xi 1) Xo))) (Xn fJ Xp) Xp) (Xn (XC (Xi 1)) Xp)))⟩
noncomputable def f14:Fd:=⟨1,2,(Xn (XX 1 (TM.meth [116,97,107,101] 0 Xo)) (Xn (Xx (Yj (Xy 12 (Xl (Xi 1) Xo))) (Xn fJ Xp) Xp) (Xn (XC (XD .int (Xi 1))) Xp)))⟩
noncomputable def f15:Fd:=⟨1,2,(Xn (Xx (Xy 11 (Xl (Y9 [97,104,101,97,100] (Xi 0) Xo) Xo)) (Xn (Yn (TM.fn 8 (TML.cons (TM.pure (Xj (Xk 0))) (TML.cons (TM.lst (TML.cons (TM.tup (TML.cons (TM.meth [116,97,107,101] 0 Xo) (TML.cons (TM.pure (Xj (Xk 1))) TML.nil))) TML.nil)) TML.nil)))) Xp) Xp) (Xn (XX 1 (TM.call 14 0 Xo)) (Xn (Xx (Xm .ne (Y9 [97,104,101,97,100] (Xi 0) Xo) (Xj (Xq [42]))) (Xn (XC (Xy 8 (Xl (Xi 1) (Xl (XH Xo) Xo)))) Xp) Xp) (Xn (Yi (TM.meth [110,101,101,100] 0 (Xl (Xj (Xq [42])) Xo))) (Xn (Yn (TM.fn 8 (TML.cons (TM.pure (Xj (Xk 0))) (TML.cons (TM.lst (TML.cons (TM.tup (TML.cons (TM.call 13 0 Xo) (TML.cons (TM.pure (Xi 1)) TML.nil))) TML.nil)) TML.nil)))) Xp)))))⟩
noncomputable def f16:Fd:=⟨1,4,(Xn (Xw 1 (Xy 8 (Xl (Xj (Xk 0)) (Xl (XH Xo) Xo)))) (Xn (XX 2 (TM.ite (Xm .eq (Y9 [97,104,101,97,100] (Xi 0) Xo) (Xj (Xq [45]))) (TM.meth [116,97,107,101] 0 Xo) (TM.pure (Xj (Xq [43]))))) (Xn (Ym (Xm .in (Xi 2) (XF (Xl (Xj (Xq [43])) (Xl (Xj (Xq [45])) Xo)))) (Xn (XX 3 (TM.call 15 0 Xo)) (Xn (Xw 1 (Xy 9 (Xl (Xi 1) (Xl (Yg (Xm .eq (Xi 2) (Xj (Xq [43]))) (Xi 3) (Xy 10 (Xl (XM (Xj (Xk 1))) (Xl (Xi 3) Xo)))) Xo)))) (Xn (XX 2 (TM.ite (Xm .in (Y9 [97,104,101,97,100] (Xi 0) Xo) (XF (Xl (Xj (Xq [43])) (Xl (Xj (Xq [45])) Xo)))) (TM.meth [116,97,107,101] 0 Xo) (TM.pure (Xj (Xq []))))) Xp)))) (Xn (XC (Xi 1)) Xp))))⟩
noncomputable def f17:Fd:=⟨1,8,(Xn (XX 1 (TM.call 16 0 Xo)) (Xn (XX 2 (TM.meth [116,97,107,101] 0 Xo)) (Xn (Xx (Xm .notin (Xi 2) (Xj (Y7 [(Xq [62,61]),(Xq [60,61]),(Xq [61]),(Xq [97,108,105,107,101])]))) (Xn fJ Xp) Xp) (Xn (XX 3 (TM.call 16 0 Xo)) (Xn (Xw 4 (Xy 9 (Xl (Xi 1) (Xl (Xy 10 (Xl (XM (Xj (Xk 1))) (Xl (Xi 3) Xo))) Xo)))) (Xn (Xx (Xm .eq (Xi 2) (Xj (Xq [97,108,105,107,101]))) (Xn (Yi (TM.meth [110,101,101,100] 0 (Xl (Xj (Xq [98,121])) Xo))) (Xn (XX 5 (TM.call 14 0 Xo)) (Xn (Xx (Xm .eq (Xi 5) (Xj (Xk 0))) (Xn (Yk 1 (Xj (Xq [98,121,32,48]))) Xp) Xp) (Xn (XC (XF (Xl (Xj (Xq [114,101,115,116])) (Xl (Xi 5) (Xl (Xi 4) Xo))))) Xp)))) Xp) (Xn (Xw 6 (XF (Xl (Xj (Xq [108,101,97,115,116])) (Xl (Xi 4) Xo)))) (Xn (Xw 7 (XF (Xl (Xj (Xq [108,101,97,115,116])) (Xl (Xy 10 (Xl (XM (Xj (Xk 1))) (Xl (Xi 4) Xo))) Xo)))) (Xn (Xx (Xm .eq (Xi 2) (Xj (Xq [61]))) (Xn (XC (XF (Xl (Xj (Xq [97,110,100])) (Xl (XF (Xl (Xi 6) (Xl (Xi 7) Xo))) Xo)))) Xp) Xp) (Xn (XC (Yg (Xm .eq (Xi 2) (Xj (Xq [62,61]))) (Xi 6) (Xi 7))) Xp))))))))))⟩
noncomputable def f18:Fd:=⟨1,2,(Xn (Xw 1 (XH Xo)) (Xn (Xx (Xm .ne (Y9 [97,104,101,97,100] (Xi 0) Xo) (Xj (Xq [41]))) (Xn (Yt 1 (TM.call 20 0 Xo)) (Xn (Ym (Xm .eq (Y9 [97,104,101,97,100] (Xi 0) Xo) (Xj (Xq [44]))) (Xn (Yi (TM.meth [110,101,101,100] 0 (Xl (Xj (Xq [44])) Xo))) (Xn (Yt 1 (TM.call 20 0 Xo)) Xp))) Xp)) Xp) (Xn (XC (XD .tuple (Xi 1))) Xp)))⟩
noncomputable def f19:Fd:=⟨2,3,(Xn (Xx (Xm .eq (Xi 1) (Xj (Xq [110,111,116]))) (Xn (Yn (TM.tup (TML.cons (TM.pure (Xi 1)) (TML.cons (TM.call 20 0 Xo) TML.nil)))) Xp) Xp) (Xn (Xx (Xm .in (Xi 1) (XF (Xl (Xj (Xq [97,110,100])) (Xl (Xj (Xq [111,114])) Xo)))) (Xn (Yn (TM.tup (TML.cons (TM.pure (Xi 1)) (TML.cons (TM.call 18 0 Xo) TML.nil)))) Xp) Xp) (Xn (XX 2 (TM.call 13 0 Xo)) (Xn (Yi (TM.meth [110,101,101,100] 0 (Xl (Xj (Xq [44])) Xo))) (Xn (Yn (TM.tup (TML.cons (TM.pure (Xi 1)) (TML.cons (TM.pure (Xi 2)) (TML.cons (TM.call 20 0 Xo) TML.nil))))) Xp)))))⟩
noncomputable def f20:Fd:=⟨1,3,(Xn (Xx (Xm .notin (Y9 [97,104,101,97,100] (Xi 0) Xo) (XF (Xl (Xj (Xq [97,110,100])) (Xl (Xj (Xq [111,114])) (Xl (Xj (Xq [110,111,116])) (Xl (Xj (Xq [115,111,109,101])) (Xl (Xj (Xq [97,108,108])) Xo))))))) (Xn (Yn (TM.call 17 0 Xo)) Xp) Xp) (Xn (XX 1 (TM.meth [116,97,107,101] 0 Xo)) (Xn (Yi (TM.meth [110,101,101,100] 0 (Xl (Xj (Xq [40])) Xo))) (Xn (XX 2 (TM.call 19 0 (Xl (Xi 1) Xo))) (Xn (Yi (TM.meth [110,101,101,100] 0 (Xl (Xj (Xq [41])) Xo))) (Xn (XC (Xi 2)) Xp))))))⟩
noncomputable def f21:Fd:=⟨1,3,(Xn (S.mkx 1 3 3 (Xl (Xi 0) Xo)) (Xn (XX 2 (TM.call 20 1 Xo)) (Xn (Yi (TM.meth [110,101,101,100] 1 (Xl (Xj (Xq [])) Xo))) (Xn (XC (Xi 2)) Xp))))⟩
noncomputable def f22:Fd:=⟨2,8,(Xn (Xw 2 (Xj (Xq P09.LET))) (Xn (Xw 3 (Xm .add (Xi 2) (Xj (Xq P09.FIG)))) (Xn (Xw 4 (Xm .add (Xj (Xk 1)) (Xm .mod (Xi 1) (Xj (Xk 8))))) (Xn (Xx (Xm .eq (Xm .mod (Xm .fdiv (Xi 1) (Xj (Xk 8))) (Xj (Xk 2))) (Xj (Xk 1))) (Xn (Xw 4 (Xm .add (Xj (Xk 1)) (Xm .mod (Xm .add (Xi 1) (Xi 0)) (Xj (Xk 8))))) Xp) Xp) (Xn (Xw 5 (XQ [1,3] 1 ZZ (Y6 (Xi 4)) (Xj (XN ZX)) (Xv (Xi 2) (Xm .mod (Xm .add (Xm .fdiv (Xi 1) (Xj (Xk 3))) (Xm .mul (Xj (Xk 5)) (Xi 0))) (Xj (Xk 36)))))) (Xn (Y5 5 (Xj (Xk 0)) (Xv (Xi 2) (Xm .mod (Xm .fdiv (Xi 1) (Xj (Xk 3))) (Xj (Xk 26))))) (Xn (Xw 6 (Xm .mod (Xm .fdiv (Xi 1) (Xj (Xk 16))) (Xi 4))) (Xn (Xx (Xm .eq (Xi 6) (Xj (Xk 0))) (Xn (Y5 5 (Xj (Xk 0)) (Xv (Xi 2) (Xm .mod (Xm .add (Xm .fdiv (Xi 1) (Xj (Xk 5))) (Xi 0)) (Xj (Xk 26))))) Xp) (Xn (Y5 5 (Xi 6) (Xv (Xi 3) (Xm .mod (Xm .add (Xm .fdiv (Xi 1) (Xj (Xk 5))) (Xi 0)) (Xj (Xk 36))))) Xp)) (Xn (Xw 7 (T.m1 .join (Xj (Xq [])) (Xi 5))) (Xn (Xx (Xm .in (Xi 7) (XF (Xl (Xj (Xq [97,110,100])) (Xl (Xj (Xq [111,114])) (Xl (Xj (Xq [110,111,116])) (Xl (Xj (Xq [115,111,109,101])) (Xl (Xj (Xq [97,108,108])) (Xl (Xj (Xq [97,108,105,107,101])) (Xl (Xj (Xq [98,121])) Xo))))))))) (Xn (XC (Xm .add (Xi 7) (Xj (Xq [57])))) Xp) Xp) (Xn (XC (Xi 7)) Xp)))))))))))⟩
noncomputable def f23:Fd:=⟨1,2,(Xn (Xx (Xm .eq (Xm .mod (Xi 0) (Xj (Xk 2))) (Xj (Xk 0))) (Xn (XC (Xm .sub (Xm .mod (Xm .fdiv (Xi 0) (Xj (Xk 2))) (Xj (Xk 15))) (Xj (Xk 7)))) Xp) Xp) (Xn (Xw 1 (Xm .add (Xm .mod (Xm .fdiv (Xi 0) (Xj (Xk 4))) (Xm .pow (Xj (Xk 10)) (Xj (Xk 20)))) (Xm .mul (Xm .mod (Xm .fdiv (Xi 0) (Xj (Xk 4))) (Xj (Xk 3))) (Xm .pow (Xj (Xk 10)) (Xj (Xk 19)))))) (Xn (XC (Xm .sub (Xi 1) (Xm .mul (Xm .mul (Xj (Xk 2)) (Xi 1)) (Xm .mod (Xm .fdiv (Xi 0) (Xj (Xk 2))) (Xj (Xk 2)))))) Xp)))⟩
noncomputable def f24:Fd:=⟨2,5,(Xn (Xw 2 (T.dnew [] Xo)) (Xn (Ye [3,4] ZX (XJ (Xi 1)) (Xn (Y5 2 (Xi 3) (Xm .add (Ys (Xi 2) (Xi 3) (Xj (Xk 0))) (Xi 4))) Xp)) (Xn (XC (XF (Xl (Xi 0) (Xl (XD .tuple (XQ [2] 1 ZZ (XJ (XD .sorted (Xi 2))) (Xm .ne (Xv (Xi 1) (Xi 0)) (Xj (Xk 0))) (XF (Xl (Xi 0) (Xl (Xv (Xi 1) (Xi 0)) Xo))))) Xo)))) Xp)))⟩
noncomputable def f25:Fd:=⟨2,10,(Xn (Xw 2 (Xj (Xk 0))) (Xn (Xw 3 (XH Xo)) (Xn (Xw 4 (XH Xo)) (Xn (Ye [5] ZZ (Y6 (Xm .add (Xj (Xk 1)) (Xy 5 (Xl (Xi 0) (Xl (Xj (Xk 0)) (Xl (Xj (Xk 3)) Xo)))))) (Xn (Xw 6 (Xy 5 (Xl (Xi 0) (Xl (Xm .add (Xj (Xk 1)) (Xi 5)) (Xl (Xj (Xk 3)) Xo))))) (Xn (Xw 7 (Xm .sub (Xj (Xk 1)) (Xm .mul (Xj (Xk 2)) (Xy 5 (Xl (Xi 0) (Xl (Xm .add (Xj (Xk 4)) (Xi 5)) (Xl (Xj (Xk 2)) Xo))))))) (Xn (Xw 8 (Xy 5 (Xl (Xm .add (Xi 0) (Xi 5)) (Xl (Xj (Xk 7)) (Xl (Xj (Xk 12)) Xo))))) (Xn (Xx (Xm .eq (Xy 5 (Xl (Xm .add (Xi 0) (Xi 5)) (Xl (Xj (Xk 8)) (Xl (Xj (Xk 6)) Xo)))) (Xj (Xk 0))) (Xn (Xw 8 (XD .abs (Xy 23 (Xl (Xm .fdiv (Xi 0) (Xj (Xk 5))) Xo)))) Xp) Xp) (Xn (Xw 9 (Xy 22 (Xl (Xy 5 (Xl (Xm .add (Xi 0) (Xi 5)) (Xl (Xj (Xk 9)) (Xl (Xj (Xk 5)) Xo)))) (Xl (Xi 1) Xo)))) (Xn (Xx (Xm .lt (Xi 7) (Xj (Xk 0))) (Xn (XS 4 (Xj (Xq [45]))) Xp) (Xn (Xx (Xm .gt (Xi 5) (Xj (Xk 0))) (Xn (XS 4 (Xj (Xq [43]))) Xp) Xp) Xp)) (Xn (Xx (Xm .eq (Xi 6) (Xj (Xk 0))) (Xn (Xw 2 (Xm .add (Xi 2) (Xm .mul (Xi 7) (Xi 8)))) (Xn (XS 4 (XD .str (Xi 8))) Xp)) (Xn (Xx (Xm .eq (Xi 6) (Xj (Xk 1))) (Xn (XS 3 (XF (Xl (Xi 9) (Xl (Xi 7) Xo)))) (Xn (XS 4 (Xi 9)) Xp)) (Xn (XS 3 (XF (Xl (Xi 9) (Xl (Xm .mul (Xi 7) (Xi 8)) Xo)))) (Xn (Xw 4 (Xm .add (Xi 4) (XH (Xl (XD .str (Xi 8)) (Xl (Xj (Xq [42])) (Xl (Xi 9) Xo)))))) Xp))) Xp)) Xp)))))))) (Xn (XC (XF (Xl (Xi 2) (Xl (Xi 3) (Xl (Xi 4) Xo))))) Xp)))))⟩
noncomputable def f26:Fd:=⟨2,2,(Xn (XC (Xy 24 (Xl (Xm .sub (Xv (Xi 0) (Xj (Xk 0))) (Xv (Xi 1) (Xj (Xk 0)))) (Xl (Xm .add (Xv (Xi 0) (Xj (Xk 1))) (XQ [] 2 ZX (XJ (Xv (Xi 1) (Xj (Xk 1)))) (Xj (XN ZX)) (XF (Xl (Xi 0) (Xl (XM (Xi 1)) Xo))))) Xo)))) Xp)⟩
noncomputable def f27:Fd:=⟨2,7,(Xn (Xw 2 (Xy 25 (Xl (Xm .fdiv (Xi 0) (Xj (Xk 4))) (Xl (Xi 1) Xo)))) (Xn (Xw 3 (Xy 25 (Xl (Xm .add (Xm .mul (Xj (Xk 31)) (Xm .fdiv (Xi 0) (Xj (Xk 4)))) (Xj (Xk 7))) (Xl (Xi 1) Xo)))) (Xn (Xw 4 (Xm .mod (Xi 0) (Xj (Xk 4)))) (Xn (Xx (Xm .eq (Xi 4) (Xj (Xk 0))) (Xn (XC (XF (Xl (XF (Xl (Xj (Xq [108,101,97,115,116])) (Xl (Xy 26 (Xl (Xi 2) (Xl (Xi 3) Xo))) Xo))) (Xl (Xm .add (Xm .add (Xv (Xi 2) (Xj (Xk 2))) (XH (Xl (Xj (Xq [62,61])) Xo))) (Xv (Xi 3) (Xj (Xk 2)))) Xo)))) Xp) Xp) (Xn (Xx (Xm .eq (Xi 4) (Xj (Xk 1))) (Xn (XC (XF (Xl (XF (Xl (Xj (Xq [108,101,97,115,116])) (Xl (Xy 26 (Xl (Xi 3) (Xl (Xi 2) Xo))) Xo))) (Xl (Xm .add (Xm .add (Xv (Xi 2) (Xj (Xk 2))) (XH (Xl (Xj (Xq [60,61])) Xo))) (Xv (Xi 3) (Xj (Xk 2)))) Xo)))) Xp) Xp) (Xn (Xx (Xm .eq (Xi 4) (Xj (Xk 2))) (Xn (Xw 5 (XF (Xl (Xj (Xq [97,110,100])) (Xl (XF (Xl (XF (Xl (Xj (Xq [108,101,97,115,116])) (Xl (Xy 26 (Xl (Xi 2) (Xl (Xi 3) Xo))) Xo))) (Xl (XF (Xl (Xj (Xq [108,101,97,115,116])) (Xl (Xy 26 (Xl (Xi 3) (Xl (Xi 2) Xo))) Xo))) Xo))) Xo)))) (Xn (XC (XF (Xl (Xi 5) (Xl (Xm .add (Xm .add (Xv (Xi 2) (Xj (Xk 2))) (XH (Xl (Xj (Xq [61])) Xo))) (Xv (Xi 3) (Xj (Xk 2)))) Xo)))) Xp)) Xp) (Xn (Xw 6 (Xm .add (Xj (Xk 1)) (Xm .mod (Xm .fdiv (Xi 0) (Xj (Xk 4))) (Xj (Xk 50))))) (Xn (Xx (Xm .eq (Xm .mod (Xm .fdiv (Xi 0) (Xj (Xk 8))) (Xj (Xk 3))) (Xj (Xk 0))) (Xn (Xw 6 (Xm .add (Xj (Xk 1)) (Xm .mod (Xm .fdiv (Xi 0) (Xj (Xk 4))) (Xm .pow (Xj (Xk 10)) (Xj (Xk 30)))))) Xp) Xp) (Xn (XC (XF (Xl (XF (Xl (Xj (Xq [114,101,115,116])) (Xl (Xi 6) (Xl (Xy 26 (Xl (Xi 2) (Xl (Xi 3) Xo))) Xo)))) (Xl (Xm .add (Xm .add (Xm .add (Xv (Xi 2) (Xj (Xk 2))) (XH (Xl (Xj (Xq [97,108,105,107,101])) Xo))) (Xv (Xi 3) (Xj (Xk 2)))) (XH (Xl (Xj (Xq [98,121])) (Xl (XD .str (Xi 6)) Xo)))) Xo)))) Xp)))))))))⟩
noncomputable def f28:Fd:=⟨1,3,(Xn (Xw 1 (XH Xo)) (Xn (Ye [2] ZZ (Y6 (XD .len (Xi 0))) (Xn (Xx (Xm .gt (Xi 2) (Xj (Xk 0))) (Xn (XS 1 (Xj (Xq [44]))) Xp) Xp) (Xn (Xw 1 (Xm .add (Xi 1) (Xv (Xi 0) (Xi 2)))) Xp))) (Xn (XC (Xi 1)) Xp)))⟩
noncomputable def f29:Fd:=⟨2,9,(Xn (Xw 2 (XH Xo)) (Xn (Xw 3 (XH (Xl (Xj (Xk 0)) Xo))) (Xn (Ye [4] ZZ (XJ (Xi 0)) (Xn (Xw 5 (Xm .mod (Xi 4) (Xj (Xk 7)))) (Xn (Xx (Y0 (Xm .gt (Xi 5) (Xj (Xk 3))) (Y0 (Xm .eq (XD .len (Xi 2)) (Xj (Xk 0))) (Xm .gt (XD .max (Xi 3)) (Xj (Xk 12))))) (Xn (XS 2 (Xy 27 (Xl (Xm .fdiv (Xi 4) (Xj (Xk 7))) (Xl (Xi 1) Xo)))) (Xn (XS 3 (Xj (Xk 0))) Xp)) (Xn (Xx (Xm .eq (Xi 5) (Xj (Xk 0))) (Xn (Y5 2 (XM (Xj (Xk 1))) (XF (Xl (XF (Xl (Xj (Xq [110,111,116])) (Xl (Xv (Xv (Xi 2) (XM (Xj (Xk 1)))) (Xj (Xk 0))) Xo))) (Xl (Xm .add (Xm .add (XH (Xl (Xj (Xq [110,111,116])) (Xl (Xj (Xq [40])) Xo))) (Xv (Xv (Xi 2) (XM (Xj (Xk 1)))) (Xj (Xk 1)))) (XH (Xl (Xj (Xq [41])) Xo))) Xo)))) (Xn (Y5 3 (XM (Xj (Xk 1))) (Xm .add (Xv (Xi 3) (XM (Xj (Xk 1)))) (Xj (Xk 1)))) Xp)) (Xn (Xx (Xm .eq (Xi 5) (Xj (Xk 1))) (Xn (Xw 6 (Xv (XH (Xl (Xj (Xq [115,111,109,101])) (Xl (Xj (Xq [97,108,108])) Xo))) (Xm .mod (Xm .fdiv (Xi 4) (Xj (Xk 7))) (Xj (Xk 2))))) (Xn (Xw 7 (Xy 22 (Xl (Xm .mod (Xm .fdiv (Xi 4) (Xj (Xk 14))) (Xj (Xk 5))) (Xl (Xi 1) Xo)))) (Xn (Y5 2 (XM (Xj (Xk 1))) (XF (Xl (XF (Xl (Xi 6) (Xl (Xi 7) (Xl (Xv (Xv (Xi 2) (XM (Xj (Xk 1)))) (Xj (Xk 0))) Xo)))) (Xl (Xm .add (Xm .add (XH (Xl (Xi 6) (Xl (Xj (Xq [40])) (Xl (Xi 7) (Xl (Xj (Xq [44])) Xo))))) (Xv (Xv (Xi 2) (XM (Xj (Xk 1)))) (Xj (Xk 1)))) (XH (Xl (Xj (Xq [41])) Xo))) Xo)))) (Xn (Y5 3 (XM (Xj (Xk 1))) (Xm .add (Xv (Xi 3) (XM (Xj (Xk 1)))) (Xj (Xk 1)))) Xp)))) (Xn (Xw 8 (Xm .sub (XD .len (Xi 2)) (T.b2 .min (Xm .mod (Xm .fdiv (Xi 4) (Xj (Xk 7))) (Xj (Xk 4))) (XD .len (Xi 2))))) (Xn (Xw 2 (Xm .add (XR (Xi 2) (Xj Yc) (Xi 8)) (XH (Xl (Xy 30 (Xl (Xv (XH (Xl (Xj (Xq [97,110,100])) (Xl (Xj (Xq [111,114])) Xo))) (Xm .sub (Xi 5) (Xj (Xk 2)))) (Xl (XR (Xi 2) (Xi 8) (Xj Yc)) Xo))) Xo)))) (Xn (Xw 3 (Xm .add (XR (Xi 3) (Xj Yc) (Xm .add (Xi 8) (Xj (Xk 1)))) (XH (Xl (Xm .add (Xj (Xk 1)) (XD .max (Xm .add (XH (Xl (Xj (Xk 0)) Xo)) (XR (Xi 3) (Xm .add (Xi 8) (Xj (Xk 1))) (Xj Yc))))) Xo)))) Xp)))) Xp)) Xp)) Xp))) (Xn (Xx (Xm .eq (XD .len (Xi 2)) (Xj (Xk 1))) (Xn (XC (Xv (Xi 2) (Xj (Xk 0)))) Xp) Xp) (Xn (XC (Xy 30 (Xl (Xv (XH (Xl (Xj (Xq [97,110,100])) (Xl (Xj (Xq [111,114])) Xo))) (Xm .mod (Xi 1) (Xj (Xk 2)))) (Xl (Xi 2) Xo)))) Xp)))))⟩
noncomputable def f30:Fd:=⟨2,3,(Xn (Xw 2 (Xm .add (Xm .add (XH (Xl (Xi 0) (Xl (Xj (Xq [40])) Xo))) (Xy 28 (Xl (XQ [] 1 ZZ (XJ (Xi 1)) (Xj (XN ZX)) (Xv (Xi 0) (Xj (Xk 1)))) Xo))) (XH (Xl (Xj (Xq [41])) Xo)))) (Xn (XC (XF (Xl (XF (Xl (Xi 0) (Xl (XD .tuple (XQ [] 1 ZZ (XJ (Xi 1)) (Xj (XN ZX)) (Xv (Xi 0) (Xj (Xk 0))))) Xo))) (Xl (Xi 2) Xo)))) Xp))⟩
noncomputable def f31:Fd:=⟨2,2,(Xn (Xx (Yb (Xi 1) .tup) (Xn (Xx (Y0 (Yj (Yb (Xi 0) .tup)) (Xm .ne (XD .len (Xi 0)) (XD .len (Xi 1)))) (Xn (XC (Xj (XN ZZ))) Xp) Xp) (Xn (XC (XD .all (XQ [1,0] 1 ZZ (Y6 (XD .len (Xi 1))) (Xj (XN ZX)) (Xy 31 (Xl (Xv (Xi 2) (Xi 0)) (Xl (Xv (Xi 1) (Xi 0)) Xo)))))) Xp)) Xp) (Xn (Xx (Yb (Xi 1) .str) (Xn (XC (Y8 (Yb (Xi 0) .str) (Xm .eq (Xi 0) (Xi 1)))) Xp) Xp) (Xn (XC (Y8 (Yb (Xi 0) .int) (Y8 (Yj (Yb (Xi 0) .bool)) (Xm .eq (Xi 0) (Xi 1))))) Xp)))⟩
noncomputable def f32:Fd:=⟨1,1,(Xn (S.try_ (Xn (Yo (Xy 21 (Xl (Xi 0) Xo))) Xp) 2 none (Xn (XC (Xj (XN ZX))) Xp)) (Xn (XC (Xj (XN ZZ))) Xp))⟩
noncomputable def f33:Fd:=⟨1,4,(Xn (Xw 1 (Xy 4 (Xl (Xi 0) (Xl (Xj (Xk 0)) Xo)))) (Xn (Xw 2 (Xy 29 (Xl (XR (Xi 0) (Xj (Xk 2)) (Xj (Xk 22))) (Xl (Xi 1) Xo)))) (Xn (Xw 3 (Xy 7 (Xl (Xv (Xi 2) (Xj (Xk 1))) (Xl (Xy 4 (Xl (Xi 0) (Xl (Xj (Xk 1)) Xo))) Xo)))) (Xn (Xx (Xm .gt (XD .len (Xi 3)) (Xj (Xk 2000))) (Xn (XC (Xy 32 (Xl (Xi 3) Xo))) Xp) Xp) (Xn (XC (Xy 31 (Xl (Xy 21 (Xl (Xi 3) Xo)) (Xl (Xv (Xi 2) (Xj (Xk 0))) Xo)))) Xp)))))⟩
noncomputable def f34:Fd:=⟨2,2,(Xn (Yq 0 [102,111,117,110,100] (Xi 1)) (Xn (Yq 0 [112,108,97,99,101] (Xj (Xk 0))) Xp))⟩
noncomputable def f35:Fd:=⟨1,1,(Xn (Xx (Xm .lt (Yh (Xi 0) [112,108,97,99,101]) (XD .len (Yh (Xi 0) [102,111,117,110,100]))) (Xn (XC (Xv (Yh (Xi 0) [102,111,117,110,100]) (Yh (Xi 0) [112,108,97,99,101]))) Xp) Xp) (Xn (XC (Xj (Xq []))) Xp))⟩
noncomputable def f36:Fd:=⟨1,2,(Xn (Xw 1 (Y9 [97,104,101,97,100] (Xi 0) Xo)) (Xn (Yq 0 [112,108,97,99,101] (Xm .add (Yh (Xi 0) [112,108,97,99,101]) (Xj (Xk 1)))) (Xn (XC (Xi 1)) Xp)))⟩
noncomputable def f37:Fd:=⟨2,3,(Xn (XX 2 (TM.meth [116,97,107,101] 0 Xo)) (Xn (Xx (Xm .ne (Xi 2) (Xi 1)) (Xn fJ Xp) Xp) Xp))⟩
noncomputable def mtab:List (Nat×List Nat×Nat):=[(3,[97,104,101,97,100],35),(3,[116,97,107,101],36),(3,[110,101,101,100],37)]
noncomputable def itab:List (Nat×Nat):=[(3,34)]
noncomputable def meth:Nat->List Nat->Option Nat:=tabOf mtab
noncomputable def init:Nat->Option Nat:=oR itab
noncomputable def sub:Nat->Nat->Bool
 | 2,2=>true
 | 2,0=>true
 | _,_=>false
noncomputable def prg:Prg:=⟨[f0,f1,f2,f3,f4,f5,f6,f7,f8,f9,f10,f11,f12,f13,f14,f15,f16,f17,f18,f19,f20,f21,f22,f23,f24,f25,f26,f27,f28,f29,f30,f31,f32,f33,f34,f35,f36,f37],meth,init,sub⟩
def QJ:Nat:=33
end P11
namespace KX
open Z KG P11
section
variable{o:Orc}{δ δ1 δ2:Dst}
def bH(h:evM o e δ=.ok (δ1,d))(hs:setSlot δ1 i ZZ d=Z_ δ2):evS o (.mset i e) δ=.nx δ2:=by simp only[evS,h,SO.of,hs,Ro,aB]
def gZ(h:evM o e δ=.ok (δ1,d)):evS o (.mret e) δ=.rt ZZ d δ1:=by simp only[evS,h,SO.of]
def fU(h:evM o e δ=.ok (δ1,d)):evS o (.mexp e) δ=.nx δ1:=by simp only[evS,h,SO.of]
def uZ(h0:xH δ i=ZX)(h:evM o e δ=.ok (δ1,d))(h1:ownD δ1 i=Z_ (w,.lst l))(hz:size (l.length+1)=ZX):evS o (.mapp i e) δ=.nx (δ1.set i (Z_ (w,.lst (l++[d])))):=by
 simp only[evS,h0,if_true,h,SO.of,h1,R7,hz,aB]
def cz(h1:ownD δ i=Z_ (w,.obj c ns vs))(h2:ns.contains m=ZZ)(h3:o.meth c m=Z_ f)(hl:evL o δ l=.ok (ZZ,xs))(h:o.mu f (.obj c ns vs) xs=.ok (s',d)) :
 evM o (.meth m i l) δ=.ok (δ.set i (Z_ (w,s')),d):=by
 simp only[evM,muM,h1,Xu,Xr,h2,Sy,Xz,if_true,h3,hl,muR,h]
def bV(h1:ownD δ i=Z_ (w,s))(hl:evL o δ l=.ok (ZZ,xs))(h:o.mu f s xs=.ok (s',d)):evM o (.call f i l) δ=.ok (δ.set i (Z_ (w,s')),d):=by
 simp only[evM,h1,Xu,Xr,Xz,Sy,if_true,hl,muR,h]
def dM{t:T}{w:Bool}{d:D}(h:ev o δ ZZ t=.ok (w,d)):evM o (.pure t) δ=.ok (δ,d):=by simp only[evM,h,Xr]
def pF(h:evML o l δ=.ok (δ1,ds))(hz:size ds.length=ZX):evM o (.tup l) δ=.ok (δ1,.tup ds):=by simp only[evM,h,Xr,hz,Xz,if_true]
def Cr(h:evML o l δ=.ok (δ1,ds))(hz:size ds.length=ZX):evM o (.lst l) δ=.ok (δ1,.lst ds):=by simp only[evM,h,Xr,hz,Xz,if_true]
def m_fn(h:evML o l δ=.ok (δ1,ds))(hg:o.fn g ds=.ok (w,d)):evM o (.fn g l) δ=.ok (δ1,d):=by simp only[evM,h,Xr,hg]
def gm:evML o .nil δ=.ok (δ,[]):=by simp only[evML]
def bI{t:TM}{l:TML}{d:D}{ds:List D}(h:evM o t δ=.ok (δ1,d))(hl:evML o l δ1=.ok (δ2,ds)):evML o (.cons t l) δ=.ok (δ2,d::ds):=by simp only[evML,h,Xr,hl]
def u5{c:T}{a b:TM}{w t:Bool}{r:R (Dst×D)}(h:ev o δ ZX c=.ok (w,.bl t))(hr:evM o (if t then a else b) δ=r):evM o (.ite c a b) δ=r:=by
 simp only[evM,h,Xr,truth,Xu];cases t<;>exact hr
end
def aN(ha:args.length+1=f.np)(h0:some (Own.me,s)::(args.map (λd=>some (Own.sh,d))++Ry (f.ns-f.np) none)=δ0)(h:evSs o f.body δ0=.rt w d δ1)(hi:d.imm=ZX)(hs:δ1[0]?=Z_ (Z_ (.me,s'))):cU o f s args=.ok (s',d):=by
 unfold cU;rw[if_pos ha,h0,h];simp only[hi,Xz,if_true,selfOf,hs,Xr]
def wN(ha:args.length+1=f.np)(h0:some (Own.me,s)::(args.map (λd=>some (Own.sh,d))++Ry (f.ns-f.np) none)=δ0)(h:evSs o f.body δ0=.nx δ1)(hs:δ1[0]?=Z_ (Z_ (.me,s'))):cU o f s args=.ok (s',.non):=by
 unfold cU;rw[if_pos ha,h0,h];simp only[selfOf,hs,Xr]
noncomputable def FND:List Nat:=[102,111,117,110,100]
noncomputable def PLC:List Nat:=[112,108,97,99,101]
noncomputable def rowD(P:List (List Nat))(k:Nat):D:=.obj 3 [FND,PLC] [.lst (P.map .str),.int (k:Int)]
def st2(h:evS o s δ=.nx δ1)(k:evSs o l δ1=r):evSs o (.cons s l) δ=r:=by rw[aD h];exact k
def stR(h:evS o s δ=.rt w d δ1):evSs o (.cons s l) δ=.rt w d δ1:=by simp only[evSs,h]
def Og(h:δ[i]?=Z_ (Z_ (.me,d))):ev o δ ZX (.var i)=.ok (ZZ,d):=by simp only[ev,h,if_true]
def qd(h:ev o δ ZZ e=.ok (w,d))(ho:ownD δ i=Z_ (b,c))(hp:(gk (λc=>(o.init c).isSome) c f d).map (λc'=>δ.set i (Z_ (b,c')))=Z_ δ'):evS o (.setf i f e) δ=.nx δ':=by
 have ef:evF o δ e=(δ,.ok (w,d)):=by unfold evF;rw[h]
 cases e1:gk (λc=>(o.init c).isSome) c f d with
 | none=>rw[e1]at hp;cases hp
 | some c1=>
   rw[e1]at hp;cases hp;simp only[evS,ef,SO.of,ho,R7,e1,Ro,aB]
section
variable(P:List (List Nat))(k w n:Nat)
def JT(hv:ev o δ ZX (.var i)=.ok (b,rowD P k))(hi:(o.init 3).isSome=ZX):ev o δ lk (.fld (.var i) FND)=.ok (ZZ,.lst (P.map .str)):=Ex hv hi rfl
def Fq(hv:ev o δ ZX (.var i)=.ok (b,rowD P k))(hi:(o.init 3).isSome=ZX):ev o δ lk (.fld (.var i) PLC)=.ok (ZZ,.int (k:Int)):=Ex hv hi rfl
def Ba:(orc prg w (n+1)).fn 35 [rowD P k]=.ok (ZZ,.str (P.getD k [])):=by
 rw[aP (d:=f35) rfl]
 have hi:((orc prg w n).init 3).isSome=ZX:=by cases n<;>rfl
 have hv:ev (orc prg w n) [some (.sh,rowD P k)] ZX (.var 0)=.ok (ZZ,rowD P k):=ak rfl
 have hc:ev (orc prg w n) [some (.sh,rowD P k)] ZX (Xm .lt (Yh (Xi 0) PLC) (XD .len (Yh (Xi 0) FND)))=.ok (ZZ,.bl (decide ((k:Int)<P.length))):=by
  refine(aR (Fq P k hv hi) (e_b1 (JT P k hv hi) (jW _))).trans ?_;rw[R5];exact K9.o_lt _ _
 by_cases hk:k<P.length
 .refine aF rfl rfl (stpR (ifR (hc.trans (by rw[decide_eq_true (by omega)])) (retR (c7 (JT P k hv hi) (Fq P k hv hi) (ju (d:=.str (P.getD k [])) (by omega) ?_)) rfl)))
  rw[U0,RM,Rn hk,RV,Rn hk];rfl
 .have e:P.getD k []=[]:=by rw[RV,List.getElem?_eq_none (by omega)];rfl
  rw[e];exact aF rfl rfl (stp _ (ifN (hc.trans (by rw[decide_eq_false (by omega)]))) (stpR (retR aj rfl)))
def bN(hb:b≠.sh)(h:δ[i]?=Z_ (Z_ (b,rowD P k))):ev (orc prg w (n+1)) δ lk (.meth [97,104,101,97,100] (.var i) .nil)=.ok (ZZ,.str (P.getD k [])):=by
 have ho:bR δ (.var i)=ZX:=by
  simp only[bR,isOwn,h]
  cases b<;>first | rfl | exact absurd rfl hb
 have hv:ev (orc prg w (n+1)) δ (bR δ (.var i)) (.var i)=.ok (ZZ,rowD P k):=by
  rw[ho];simp only[ev,h]
  cases b<;>first | rfl | exact absurd rfl hb
 exact Ar hv rfl rfl rfl rfl (Ba P k w n) rfl
def dW:(orc prg w (n+2)).mu 36 (rowD P k) []=.ok (rowD P (k+1),.str (P.getD k [])):=by
 rw[cP (d:=f36) rfl];refine aN (δ1:=[some (.me,rowD P (k+1)),some (.sh,.str (P.getD k []))]) rfl rfl (st2 (aA (bN P k w n (b:=.me) (by decide) rfl) rfl) (st2 ?_ (stR (nQ rfl)))) rfl rfl;have hi:((orc prg w (n+1)).init 3).isSome=ZX:=rfl;have hv:ev (orc prg w (n+1)) [some (.me,rowD P k),some (.sh,.str (P.getD k []))] ZX (.var 0)=.ok (ZZ,rowD P k):=Og rfl;refine qd (aq (Fq P k hv hi) aj (cD _ _)) rfl ?_
 rfl
def fV(ha:P.getD k []=a):(orc prg w (n+3)).mu 37 (rowD P k) [.str a]=.ok (rowD P (k+1),.non):=by
 rw[cP (d:=f37) rfl];refine wN (δ1:=[some (.me,rowD P (k+1)),some (.sh,.str a),some (.sh,.str a)]) rfl rfl (st2 (bH (cz (w:=.me) rfl rfl rfl ao (dW P k w n)) (by rw[ha];rfl)) (one (ifN (w:=ZZ) ((aR (ak rfl) (ak rfl)).trans ?_)))) rfl;rw[xO,decide_eq_true rfl];rfl
end
end KX
namespace KX
open Z KG P11
open K9 (tw qM)
open P09 (LET FIG)
noncomputable def WRD:List (List Nat):=[[97,110,100],[111,114],[110,111,116],[115,111,109,101],[97,108,108],[97,108,105,107,101],[98,121]]
def Nm(x:List Nat):Prop:=∃c r,x=c::r/\c∈LET/\(∀a∈r,a∈LET++FIG)/\x.length<=8/\x∉WRD
def Nb(x:List Nat):Prop:=x≠[]/\(∀a∈x,a∈FIG)/\x.length<=60/\(x=[48]\/x.head?≠some 48)
def rR(x:List Nat)(l:List (List Nat))(h:∀x,isIn (.str x) (.tup (l.map .str))=inS (.str x) (l.map .str)):o2 .in (.str x) (.tup (l.map .str))=.ok (ZZ,.bl (decide (x∈l))):=by
 simp only[o2,h,iZ,Ro,Xu]
def o7(x:List Nat)(l:List (List Nat))(h:∀x,isIn (.str x) (.tup (l.map .str))=inS (.str x) (l.map .str)):o2 .notin (.str x) (.tup (l.map .str))=.ok (ZZ,.bl !(decide (x∈l))):=by
 simp only[o2,h,iZ,Ro,Xu]
def Du(x:List Nat):o2 .in (.str x) (.tup (WRD.map .str))=.ok (ZZ,.bl (decide (x∈WRD))):=rR x WRD λ_=>rfl
def rA(c:Nat)(y:List Nat):o2 .notin (.str [c]) (.str y)=.ok (ZZ,.bl !(decide (c∈y))):=rfl
def eF{r:R (Bool×D)}{b:Bool}(h:r=.ok (ZZ,.bl b))(hb:b=ZZ):r=.ok (ZZ,.bl ZZ):=by rw[h,hb]
def eT{r:R (Bool×D)}{b:Bool}(h:r=.ok (ZZ,.bl b))(hb:b=ZX):r=.ok (ZZ,.bl ZX):=by rw[h,hb]
def zX(ha:ev o δ ZX a=.ok (w,.bl c))(hb:ev o δ ZX b=.ok (ZZ,.bl ZX)):ev o δ lk (Y0 a b)=.ok (ZZ,.bl ZX):=by
 cases c
 .exact oV ha hb
 .exact vV ha
section
variable(w n:Nat)
def uR:(orc prg w n).w=w:=by cases n<;>rfl
theorem run_end{x sg:List Nat}(h:∀a∈x,a∈sg)(hw:x.length<w):(orc prg w (n+1)).fn 1 [.str x,.int 0,.str sg]=.ok (ZZ,.int (x.length:Int)):=by
 rw[aP (d:=P09.f1) rfl];refine(K9.run_end (orc prg w n) x sg [] x rfl (by rw[uR];exact hw)).trans ?_
 have e:tw sg x=x:=by
  have:=qM (t:=[]) h (λc r z=>by cases z)
  rwa [RC]at this
 rw[e];simp
def idx0(h:δ[i]?=Z_ (Z_ (.sh,.str (c::r)))):ev o δ lk (Xv (Xi i) (Xj (Xk 0)))=.ok (ZZ,.str [c]):=c7 (ak h) aj (K9.ix (k:=0) rfl)
def qT{x:List Nat}(h:Nm x)(hw:8<w):(orc prg w (n+2)).fn 11 [.str x]=.ok (ZZ,.bl ZX):=by
 obtain⟨c,r,rfl,h1,h2,h3,h4⟩:=h;rw[aP (d:=f11) rfl];refine aF rfl rfl (stp _ (ifN (w:=ZZ) (oV (aq (ak rfl) aj (eF (dH _ _) (by simp))) (oV (aq (e_b1 (ak rfl) (mK _)) aj (eF (K9.o_gt _ _) (by rw[decide_eq_false (by omega)]))) (oV (aq (ak rfl) aj (eF (Du _) (decide_eq_false h4))) (aq (idx0 rfl) aj (eF (rA c LET) (by rw[decide_eq_true h1];rfl))))))) (stpR (retR (aq (az (aa rfl (ak rfl) (aa rfl aj (aa rfl (aq aj aj K9.cat36) ao))) (run_end w n (x:=c::r) (λa ha=>?_) (by omega))) (e_b1 (ak rfl) (mK _)) (eT (lR _ _) (decide_eq_true rfl))) rfl)));rcases R8.mp ha with rfl | ha
 .exact Tn _ h1
 .exact h2 a ha
def sV{x:List Nat}{c:Nat}{r:List Nat}(hx:x=c::r)(hc:c∉LET):(orc prg w (n+1)).fn 11 [.str x]=.ok (ZZ,.bl ZZ):=by
 subst hx;rw[aP (d:=f11) rfl];have h4:ev (orc prg w n) [some (.sh,.str (c::r))] ZX (Xm .notin (Xv (Xi 0) (Xj (Xk 0))) (Xj (Xq LET)))=.ok (ZZ,.bl ZX):=aq (idx0 rfl) aj (eT (rA c LET) (by rw[decide_eq_false hc];rfl));exact aF rfl rfl (stpR (ifR (zX (aq (ak rfl) aj (dH _ _)) (zX (aq (e_b1 (ak rfl) (mK _)) aj (K9.o_gt _ _)) (zX (aq (ak rfl) aj (Du _)) h4))) (retR aj rfl)))
def J0{x:List Nat}(h:Nb x)(hw:60<w):(orc prg w (n+2)).fn 12 [.str x]=.ok (ZZ,.bl ZX):=by
 obtain⟨h1,h2,h3,h4⟩:=h;rw[aP (d:=f12) rfl]
 cases x with
 | nil=>exact absurd rfl h1
 | cons c r=>
   refine aF rfl rfl (stp _ (ifN (w:=ZZ) (oV (aq (ak rfl) aj (eF (dH _ _) (by simp))) (aq (az (aa rfl (ak rfl) (aa rfl aj (aa rfl aj ao))) (run_end w n (x:=c::r) h2 (by omega))) (e_b1 (ak rfl) (mK _)) (eF (K9.o_lt _ _) (decide_eq_false (Int.lt_irrefl _)))))) (stpR (retR ?_ rfl)));rcases h4 with h4 | h4
   .exact vV (aq (ak rfl) aj (eT (dH _ _) (decide_eq_true h4)))
   .exact zX (aq (ak rfl) aj (dH _ _)) (aq (idx0 rfl) aj (eT (xO _ _) (by rw[decide_eq_false (λz=>h4 (by cases z;rfl))];rfl)))
variable(P:List (List Nat))(k:Nat)
def wC(h:Nm (P.getD k []))(hw:8<w):(orc prg w (n+3)).mu 13 (rowD P k) []=.ok (rowD P (k+1),.str (P.getD k [])):=by
 rw[cP (d:=f13) rfl];exact aN (δ1:=[some (.me,rowD P (k+1)),some (.sh,.str (P.getD k []))]) rfl rfl (st2 (bH (cz (w:=.me) rfl rfl rfl ao (dW P k w n)) rfl) (st2 (ifN (w:=ZZ) (El (az (aa rfl (ak rfl) ao) (qT w n h hw)))) (stR (nQ rfl)))) rfl rfl
def zr(h:Nb (P.getD k []))(hw:60<w):(orc prg w (n+3)).mu 14 (rowD P k) []=.ok (rowD P (k+1),.int (decVal (P.getD k []))):=by
 rw[cP (d:=f14) rfl];refine aN (δ1:=[some (.me,rowD P (k+1)),some (.sh,.str (P.getD k []))]) rfl rfl (st2 (bH (cz (w:=.me) rfl rfl rfl ao (dW P k w n)) rfl) (st2 (ifN (w:=ZZ) (El (az (aa rfl (ak rfl) ao) (J0 w n h hw)))) (stR (retR (w:=ZZ) (e_b1 (ak rfl) ?_) rfl)))) rfl rfl;obtain⟨h1,h2,h3,h4⟩:=h
 have hd:∀a∈FIG,isDig a=ZX:=by decide
 have e1:(P.getD k []).isEmpty=ZZ:=by cases e:P.getD k []with | nil=>exact absurd e h1 | cons _ _=>rfl
 have e2:(P.getD k []).all isDig=ZX:=RJ.mpr λa ha=>hd a (h2 a ha)
 simp only[b1D,e1,e2,Sy,Wi,Wj,Xz,decide_eq_true (show(P.getD k []).length<=640 by omega),if_true]
end
end KX
namespace KX
open Z KG P11
open P09 (LET FIG)
open KU (negL lG nG keysOf_len)
def cat_tup(h:a.length+b.length<=1000):o2 .add (.tup a) (.tup b)=.ok (ZZ,.tup (a++b)):=by
 have hz:size (a.length+b.length)=ZX:=by simp[size];omega
 simp only[o2,hz,Xz,if_true]
def e10:f10=lG 8:=rfl
section
variable(w n:Nat)
def lu(c:Int)(l:List Pair)(x:D)(hx:jk x=Z_ (l.map prD))(hl:l.length<64):(orc prg w (n+1)).fn 8 [.int c,x]=.ok (ZZ,sumD c l):=by
 rw[aP (d:=soFd) rfl];exact vJ _ c l x hx (by omega) (keysOf_len l hl)
def xY(c d:Int)(l m:List Pair)(hl:l.length+m.length<64):(orc prg w (n+2)).fn 9 [sumD c l,sumD d m]=.ok (ZZ,sumD (c+d) (l++m)):=by
 rw[aP (d:=f9) rfl];have h1:=gK l;have h2:=gK m
 have h3:(keysOf l).length<=l.length:=by
  have:(keysOf l).length<=(l.map (·.1)).length:=eO (cA l) λx hx=>(dm l x).mp hx
  simpa using this
 have h4:(keysOf m).length<=m.length:=by
  have:(keysOf m).length<=(m.map (·.1)).length:=eO (cA m) λx hx=>(dm m x).mp hx
  simpa using this
 have hs:=lu w n (c+d) (sumL l++sumL m) (.tup ((sumL l++sumL m).map prD)) rfl (by rw[R4];omega)
 have e:sumD (c+d) (sumL l++sumL m)=sumD (c+d) (l++m):=by
  unfold sumD;rw[lC (l:=sumL l++sumL m) (m:=l++m) λx=>by rw[eV,eV,lz,lz]]
 rw[e]at hs;refine aF rfl rfl (stpR (retR (az (aa rfl (aq (c7 (ak rfl) aj (bu rfl rfl)) (c7 (ak rfl) aj (bu rfl rfl)) (cD _ _)) (aa (w:=ZZ) rfl (aq (c7 (ak rfl) aj (bu rfl rfl)) (c7 (ak rfl) aj (bu rfl rfl)) ?_) ao)) hs) rfl));rw[UV];exact cat_tup (by rw[R5,R5];omega)
def xx(c:Int)(l:List Pair)(hl:l.length<64):(orc prg w (n+2)).fn 10 [.int (-1),sumD c l]=.ok (ZZ,sumD (-c) (negL l)):=by
 rw[aP (d:=f10) rfl,e10];have h1:=gK l
 have h3:(keysOf l).length<=l.length:=by
  have:(keysOf l).length<=(l.map (·.1)).length:=eO (cA l) λx hx=>(dm l x).mp hx
  simpa using this
 refine nG _ 8 c (sumL l) _ (by omega) ?_
 have e:sumD (-c) (negL l)=sumD (-1*c) (negL (sumL l)):=by
  have hn:∀m:List Pair,negL m=m.map λp=>(p.1,-1*p.2):=λm=>by unfold negL;congr 1;funext p;rw[Int.neg_one_mul]
  unfold sumD;rw[Int.neg_one_mul,lC (l:=negL l) (m:=negL (sumL l)) λx=>by rw[hn,hn,dY,dY,lz]]
 rw[e];exact lu w n _ _ _ rfl (by simp only[negL,R5];omega)
end
inductive TmR:List (List Nat)->Int->List Pair->Prop
 | num (x:List Nat) (h:Nb x):TmR [x] (decVal x) []
 | nam (x:List Nat) (h:Nm x):TmR [x] 0 [(x,1)]
 | mul (x y:List Nat) (h:Nb x) (h':Nm y):TmR [x,[42],y] 0 [(y,decVal x)]
def Ja(h:Nb x):∃c r,x=c::r/\c∉LET:=by
 have hd:∀a∈FIG,a∉LET:=by decide
 cases x with
 | nil=>exact absurd rfl h.1
 | cons c r=>exact⟨c,r,rfl,hd c (h.2.1 c QM)⟩
def At(P:List (List Nat))(k:Nat)(ts:List (List Nat)):Prop:=∃pre post,P=pre++ts++post/\pre.length=k
section
variable{P:List (List Nat)}{k:Nat}
def At.get(h:At P k ts)(hi:ts[i]?=Z_ x):P.getD (k+i) []=x:=by
 obtain⟨pre,post,rfl,rfl⟩:=h;rw[RV,S7,RT (by omega),U8,S6 (R9.mp hi).1,hi];rfl
def At.left(h:At P k (a++b)):At P k a:=by
 obtain⟨pre,post,rfl,rfl⟩:=h;exact⟨pre,b++post,by simp,rfl⟩
def At.right(h:At P k (a++b)):At P (k+a.length) b:=by
 obtain⟨pre,post,rfl,rfl⟩:=h;exact⟨pre++a,post,by simp,by simp⟩
def At.cons(h:At P k (x::b)):P.getD k []=x/\At P (k+1) b:=⟨h.get (i:=0) rfl,At.right (a:=[x]) h⟩
variable(w n:Nat)
def G3(h:TmR ts c l)(ha:At P k ts)(hn:P.getD (k+ts.length) []≠[42])(hw:60<w):(orc prg w (n+4)).mu 15 (rowD P k) []=.ok (rowD P (k+ts.length),sumD c l):=by
 rw[cP (d:=f15) rfl]
 cases h with
 | nam x h=>
   have e0:=ha.cons.1;have hs:=lu w (n+2) 0 [(x,1)] (.lst [.tup [.str x,.int 1]]) rfl (by simp);refine aN (δ1:=[some (.me,rowD P (k+1)),none]) rfl rfl (stR (ifR (az (aa rfl (bN P k w (n+2) (b:=.me) (by decide) rfl) ao) (by rw[e0];exact qT w (n+1) h (by omega))) (gZ (m_fn (bI (dM aj) (bI (Cr (bI (pF (bI (cz (w:=.me) rfl rfl rfl ao (dW P k w (n+1))) (bI (dM aj) gm)) rfl) gm) rfl) gm)) (by rw[e0];exact hs))))) (fX _ _) rfl
 | num x h=>
   have e0:=ha.cons.1;obtain⟨a,r,hx,hc⟩:=Ja h;have hn:P.getD (k+1) []≠[42]:=hn;have hs:=lu w (n+2) (decVal x) [] (.lst []) rfl (by simp);refine aN (δ1:=[some (.me,rowD P (k+1)),some (.sh,.int (decVal x))]) rfl rfl (st2 (ifN (w:=ZZ) (az (aa rfl (bN P k w (n+2) (b:=.me) (by decide) rfl) ao) (by rw[e0];exact sV w (n+2) hx hc))) (st2 (bH (bV (w:=.me) rfl ao (zr w n P k (by rw[e0];exact h) hw)) (by rw[e0];rfl)) (stR (ifR (b:=ZZ) (aq (bN P (k+1) w (n+2) (b:=.me) (by decide) rfl) aj (eT (xO _ _) (by rw[decide_eq_false hn];rfl))) (retR (az (aa rfl (ak rfl) (aa rfl (bx ao rfl) ao)) hs) rfl))))) (fX _ _) rfl
 | mul x y h h'=>
   obtain⟨e0,ha1⟩:=ha.cons;obtain⟨e1,ha2⟩:=ha1.cons;have e2:=ha2.cons.1;obtain⟨a,r,hx,hc⟩:=Ja h;have hs:=lu w (n+2) 0 [(y,decVal x)] (.lst [.tup [.str y,.int (decVal x)]]) rfl (by simp);refine aN (δ1:=[some (.me,rowD P (k+3)),some (.sh,.int (decVal x))]) rfl rfl (st2 (ifN (w:=ZZ) (az (aa rfl (bN P k w (n+2) (b:=.me) (by decide) rfl) ao) (by rw[e0];exact sV w (n+2) hx hc))) (st2 (bH (bV (w:=.me) rfl ao (zr w n P k (by rw[e0];exact h) hw)) (by rw[e0];rfl)) (st2 (ifN (w:=ZZ) (aq (bN P (k+1) w (n+2) (b:=.me) (by decide) rfl) aj (eF (xO _ _) (by rw[e1,decide_eq_true rfl];rfl)))) (st2 (fU (cz (w:=.me) rfl rfl rfl (aa rfl aj ao) (fV P (k+1) w n e1))) (stR (gZ (m_fn (bI (dM aj) (bI (Cr (bI (pF (bI (bV (w:=.me) rfl ao (wC w n P (k+2) (by rw[e2];exact h') (by omega))) (bI (dM (ak rfl)) gm)) rfl) gm) rfl) gm)) (by rw[e2];exact hs)))))))) (fX _ _) rfl
end
end KX
namespace KX
open Z KG P11
open KU (negL)
noncomputable def sgn(b:Bool):List Nat:=if b then[45]else[43]
noncomputable def SG:List (List Nat):=[[43],[45]]
def wJ(b:Bool):sgn b∈SG:=by cases b<;>decide
noncomputable def sI(b:Bool)(c:Int):Int:=if b then -c else c
noncomputable def sL(b:Bool)(l:List Pair):List Pair:=if b then negL l else l
inductive SmM:List (List Nat)->Int->List Pair->Prop
 | nil:SmM [] 0 []
 | cons (b:Bool) {t r:List (List Nat)} {c c':Int} {l l':List Pair} (ht:TmR t c l) (hr:SmM r c' l'):SmM (sgn b::(t++r)) (sI b c+c') (sL b l++l')
inductive SmR:List (List Nat)->Int->List Pair->Prop
 | mk (b:Bool) {t r:List (List Nat)} {c c':Int} {l l':List Pair} (ht:TmR t c l) (hr:SmM r c' l'):SmR ((if b then[[45]]else[])++(t++r)) (sI b c+c') (sL b l++l')
def Beh(x:List Nat):Prop:=x≠[43]/\x≠[45]/\x≠[42]
def mQ{t:List (List Nat)}{c:Int}{l:List Pair}(h:TmR t c l):l.length<=1:=by cases h<;>simp
def kZ(b:Bool)(l:List Pair):(sL b l).length=l.length:=by cases b<;>simp[sL,negL]
noncomputable def sumC:T:=(Xm .in (Xi 2) (XF (Xl (Xj (Xq [43])) (Xl (Xj (Xq [45])) Xo))))
noncomputable def sumN:S:=(XX 2 (TM.ite (Xm .in (Y9 [97,104,101,97,100] (Xi 0) Xo) (XF (Xl (Xj (Xq [43])) (Xl (Xj (Xq [45])) Xo)))) (TM.meth [116,97,107,101] 0 Xo) (TM.pure (Xj (Xq [])))))
noncomputable def sumB:SL:=(Xn (XX 3 (TM.call 15 0 Xo)) (Xn (Xw 1 (Xy 9 (Xl (Xi 1) (Xl (Yg (Xm .eq (Xi 2) (Xj (Xq [43]))) (Xi 3) (Xy 10 (Xl (XM (Xj (Xk 1))) (Xl (Xi 3) Xo)))) Xo)))) (Xn sumN Xp)))
def oG(hc:ev o δ ZX c=.ok (w,.bl b))(h:ev o δ lk (if b then a else e)=r):ev o δ lk (Yg c a e)=r:=by
 simp only[ev,hc,Xr,truth,Xu];cases b<;>exact h
section
variable(P:List (List Nat))(w n:Nat)
noncomputable def Ss(k:Nat)(C:Int)(L:List Pair)(sg:List Nat)(x:Option Slot):Dst:=[some (.me,rowD P k),some (.sh,sumD C L),some (.sh,.str sg),x]
def Ah(k:Nat)(C:Int)(L:List Pair)(sg:List Nat)(x:Option Slot):evS (orc prg w (n+4)) sumN (Ss P k C L sg x)=.nx (if P.getD k []∈SG then Ss P (k+1) C L (P.getD k []) x else Ss P k C L [] x):=by
 have hc:ev (orc prg w (n+4)) (Ss P k C L sg x) ZX (Xm .in (Y9 [97,104,101,97,100] (Xi 0) Xo) (XF (Xl (Xj (Xq [43])) (Xl (Xj (Xq [45])) Xo))))=.ok (ZZ,.bl (decide (P.getD k []∈SG))):=aq (bN P k w (n+3) (b:=.me) (by decide) rfl) (aY (aa rfl aj (aa rfl aj ao)) rfl) (rR _ SG λ_=>rfl)
 by_cases h:P.getD k []∈SG
 .rw[if_pos h]
  rw[decide_eq_true h]at hc;exact bH (u5 hc (cz (w:=.me) rfl rfl rfl ao (dW P k w (n+2)))) rfl
 .rw[if_neg h]
  rw[decide_eq_false h]at hc;exact bH (u5 hc (dM aj)) rfl
def rY{k:Nat}{C:Int}{L:List Pair}{b:Bool}{x:Option Slot}{t:List (List Nat)}{c:Int}{l:List Pair}(h:TmR t c l)(ha:At P k t)(hn:P.getD (k+t.length) []≠[42])(hw:60<w)(hL:L.length<60) :
 evSs (orc prg w (n+4)) sumB (Ss P k C L (sgn b) x)=.nx (if P.getD (k+t.length) []∈SG then Ss P (k+t.length+1) (C+sI b c) (L++sL b l) (P.getD (k+t.length) []) (Z_ (.sh,sumD c l))else Ss P (k+t.length) (C+sI b c) (L++sL b l) [] (Z_ (.sh,sumD c l))):=by
 have hl:=mQ h;refine st2 (bH (bV (w:=.me) rfl ao (G3 w n h ha hn hw)) rfl) (st2 (δ1:=Ss P (k+t.length) (C+sI b c) (L++sL b l) (sgn b) (Z_ (.sh,sumD c l))) (aA (w:=ZZ) (d:=sumD (C+sI b c) (L++sL b l)) ?_ rfl) (one (Ah P w n _ _ _ _ _)));refine az (xs:=[sumD C L,sumD (sI b c) (sL b l)]) (aa rfl (ak rfl) (aa (w:=ZZ) rfl (oG (w:=ZZ) (aq (ak rfl) aj (dH _ _)) ?_) ao)) (xY w (n+2) C (sI b c) L (sL b l) (by rw[kZ];omega))
 cases b with
 | false=>exact ak rfl
 | true=>exact az (aa rfl neg1 (aa rfl (ak rfl) ao)) (xx w (n+2) c l (by omega))
def m9(k:Nat)(C:Int)(L:List Pair)(sg:List Nat)(x:Option Slot)(o:Orc):ev o (Ss P k C L sg x) ZX sumC=.ok (ZZ,.bl (decide (sg∈SG))):=aq (ak rfl) (aY (aa rfl aj (aa rfl aj ao)) rfl) (rR _ SG λ_=>rfl)
def zP(hr:SmM r c' l'):∀{k:Nat}{C:Int}{L:List Pair}{b:Bool}{x:Option Slot}{t:List (List Nat)}{c:Int}{l:List Pair}{m:Nat},TmR t c l->At P k (t++r)->Beh (P.getD (k+(t++r).length) [])->60<w->L.length+l.length+l'.length<50->l'.length+r.length+2<=m ->
 ∃y,b8 (fun δ=>ev (orc prg w (n+4)) δ ZX sumC) (evSs (orc prg w (n+4)) sumB) m (Ss P k C L (sgn b) x)=.nx (Ss P (k+(t++r).length) (C+(sI b c+c')) (L++(sL b l++l')) [] y):=by
 induction hr with
 | nil=>
   intro k C L b x t c l m h ha hb hw hL hm;rw[RC]at ha hb ⊢
   have hs:P.getD (k+t.length) []∉SG:=λz=>by
    simp only[SG,R8,Ti,or_false]at z;exact z.elim hb.1 hb.2.1
   match m,hm with
   | m+2,_=>
     refine⟨some (.sh,sumD c l),?_⟩;have st:=rY P w n (k:=k) (C:=C) (L:=L) (b:=b) (x:=x) h ha hb.2.2 hw (by omega);rw[if_neg hs]at st;rw[K9.while_t (w:=ZZ) ((m9 P _ _ _ _ _ _).trans (by rw[decide_eq_true (wJ b)])) st,K9.while_f (w:=ZZ) ((m9 P _ _ _ _ _ _).trans (by rw[decide_eq_false (by decide)]))];simp
 | cons b' ht hr ih=>
   rename_i t' r' c1 c2 l1 l2;intro k C L b x t c l m h ha hb hw hL hm;have h1:=mQ ht;rw[R4,kZ]at hL;rw[R4,kZ]at hm;have a1:=ha.left;obtain⟨e0,a2⟩:=ha.right.cons;have st:=rY P w n (k:=k) (C:=C) (L:=L) (b:=b) (x:=x) h a1 (by rw[e0];cases b'<;>decide) hw (by omega);rw[if_pos (by rw[e0];exact wJ b'),e0]at st
   match m,hm with
   | m+1,hm=>
     have h2:=mQ h;obtain⟨y,e⟩:=ih (k:=k+t.length+1) (C:=C+sI b c) (L:=L++sL b l) (b:=b') (x:=Z_ (.sh,sumD c l)) (m:=m) ht a2 (by rw[show k+t.length+1+(t'++r').length=k+(t++sgn b'::(t'++r')).length by simp;omega];exact hb) hw (by rw[R4,kZ];omega) (by simp at hm;omega);refine⟨y,?_⟩;rw[K9.while_t (w:=ZZ) ((m9 P _ _ _ _ _ _).trans (by rw[decide_eq_true (wJ b)])) st,e]
     have e1:k+t.length+1+(t'++r').length=k+(t++sgn b'::(t'++r')).length:=by simp;omega
     have e2:C+sI b c+(sI b' c1+c2)=C+(sI b c+(sI b' c1+c2)):=by omega
     rw[e1,e2,S7]
def Em{k:Nat}{ts:List (List Nat)}{c:Int}{l:List Pair}(h:SmR ts c l)(ha:At P k ts)(hb:Beh (P.getD (k+ts.length) []))(hw:60<w)(hl:l.length<40)(ht:l.length+ts.length+2<=w):(orc prg w (n+5)).mu 16 (rowD P k) []=.ok (rowD P (k+ts.length),sumD c l):=by
 rw[cP (d:=f16) rfl]
 cases h with
 | mk b hT hR=>
   rename_i t r c1 c2 l1 l2;have h1:=mQ hT;rw[R4,kZ]at hl ht;have hc:ev (orc prg w (n+4)) (Ss P k 0 [] [] none |>.set 2 none) ZX (Xm .eq (Y9 [97,104,101,97,100] (Xi 0) Xo) (Xj (Xq [45])))=.ok (ZZ,.bl (decide (P.getD k []=[45]))):=aq (bN P k w (n+3) (b:=.me) (by decide) rfl) aj (dH _ _)
   have hd:∀x:List Nat,(Nb x\/Nm x)->x≠[45]:=λx hx z=>by
    subst z;rcases hx with hx | ⟨a,q,e,h,_⟩
    .exact absurd (hx.2.1 45 QM) (by decide)
    .cases e;exact absurd h (by decide)
   have first:∀{k'},At P k' t->P.getD k' []≠[45]:=λa=>by
    cases hT with
    | num x h=>rw[a.cons.1];exact hd x (.inl h)
    | nam x h=>rw[a.cons.1];exact hd x (.inr h)
    | mul x y h h'=>rw[a.cons.1];exact hd x (.inl h)
   have h0:ev (orc prg w (n+4)) [some (.me,rowD P k),none,none,none] ZZ (Xy 8 (Xl (Xj (Xk 0)) (Xl (XH Xo) Xo)))=.ok (ZZ,sumD 0 []):=az (aa rfl aj (aa rfl (bx ao rfl) ao)) (lu w (n+3) 0 [] (.lst []) rfl (by simp))
   have fin:∀{k':Nat},At P k' (t++r)->Beh (P.getD (k'+(t++r).length) [])->(t++r).length+l2.length+2<=w->∃δ1,evSs (orc prg w (n+4)) (Xn (Ym sumC sumB) (Xn (XC (Xi 1)) Xp)) (Ss P k' 0 [] (sgn b) none)=.rt ZZ (sumD (sI b c1+c2) (sL b l1++l2)) δ1/\δ1[0]?=Z_ (Z_ (.me,rowD P (k'+(t++r).length))):=λ{k'} a hb' hw'=>by
    obtain⟨y,e⟩:=zP P w n hR (k:=k') (C:=0) (L:=[]) (b:=b) (x:=ZW) (m:=w) hT a hb' hw (by simp;omega) (by rw[R4]at hw';omega);rw[Int.zero_add,List.nil_append]at e;refine⟨Ss P (k'+(t++r).length) (sI b c1+c2) (sL b l1++l2) [] y,st2 ?_ (stR (nQ rfl)),rfl⟩;show b8 _ _ (orc prg w (n+4)).w _=_;rw[uR];exact e
   cases b with
   | false=>
     have ha:At P k (t++r):=ha;obtain⟨δ1,f1,f2⟩:=fin (k':=k) ha hb (by simp at ht ⊢;omega);refine aN rfl rfl (st2 (aA h0 rfl) (st2 (bH (u5 (t:=ZZ) (w:=ZZ) (hc.trans (by rw[decide_eq_false (first ha.left)])) (dM aj)) rfl) f1)) (fX _ _) f2
   | true=>
     obtain⟨e0,a1⟩:=At.cons (x:=[45]) (b:=t++r) ha;obtain⟨δ1,f1,f2⟩:=fin (k':=k+1) a1 (by rw[show k+1+(t++r).length=k+((if ZX=ZX then[[45]]else[])++(t++r)).length by simp;omega];exact hb) (by simp at ht ⊢;omega);refine(aN rfl rfl (st2 (aA h0 rfl) (st2 (bH (u5 (t:=ZX) (w:=ZZ) (hc.trans (by rw[decide_eq_true e0])) (cz (w:=.me) rfl rfl rfl ao (dW P k w (n+2)))) (by rw[e0];rfl)) f1)) (fX _ _) f2).trans ?_;rw[show k+1+(t++r).length=k+((if ZX=ZX then[[45]]else[])++(t++r)).length by simp;omega]
end
end KX
namespace KX
open Z KG P11
open KU (negL)
noncomputable def GE:List Nat:=[62,61]
noncomputable def LE:List Nat:=[60,61]
noncomputable def EQ:List Nat:=[61]
noncomputable def ALK:List Nat:=[97,108,105,107,101]
noncomputable def BY:List Nat:=[98,121]
noncomputable def RLS:List (List Nat):=[GE,LE,EQ,ALK]
noncomputable def LST:List Nat:=[108,101,97,115,116]
noncomputable def RST:List Nat:=[114,101,115,116]
noncomputable def AND:List Nat:=[97,110,100]
noncomputable def ov(c c':Int)(l l':List Pair):D:=sumD (c+-c') (l++negL l')
noncomputable def no(c c':Int)(l l':List Pair):D:=sumD (-(c+-c')) (negL (l++negL l'))
inductive RlR:List (List Nat)->D->Prop
 | ge {a b:List (List Nat)} {c c':Int} {l l':List Pair} (h:SmR a c l) (h':SmR b c' l') (hz:a.length+b.length+l.length+l'.length<=38):RlR (a++GE::b) (.tup [.str LST,ov c c' l l'])
 | le {a b:List (List Nat)} {c c':Int} {l l':List Pair} (h:SmR a c l) (h':SmR b c' l') (hz:a.length+b.length+l.length+l'.length<=38):RlR (a++LE::b) (.tup [.str LST,no c c' l l'])
 | eq {a b:List (List Nat)} {c c':Int} {l l':List Pair} (h:SmR a c l) (h':SmR b c' l') (hz:a.length+b.length+l.length+l'.length<=38):RlR (a++EQ::b) (.tup [.str AND,.tup [.tup [.str LST,ov c c' l l'],.tup [.str LST,no c c' l l']]])
 | al {a b:List (List Nat)} {c c':Int} {l l':List Pair} {x:List Nat} (h:SmR a c l) (h':SmR b c' l') (hz:a.length+b.length+l.length+l'.length<=38) (hx:Nb x) (h0:decVal x≠0):RlR (a++ALK::(b++[BY,x])) (.tup [.str RST,.int (decVal x),ov c c' l l'])
def wB(l:List Pair):(negL l).length=l.length:=by simp[negL]
section
variable(P:List (List Nat))(w n:Nat)
noncomputable def Rs(k:Nat)(a b r d x y:Option Slot)(rel:List Nat):Dst:=[some (.me,rowD P k),a,some (.sh,.str rel),r,b,d,x,y]
def iU{k:Nat}{a b:List (List Nat)}{c c':Int}{l l':List Pair}{rel:List Nat}{q:SL}{res:SO}(h:SmR a c l)(h':SmR b c' l')(hz:a.length+b.length+l.length+l'.length<=38)(hr:rel∈RLS)(ha:At P k (a++rel::b))(hb:Beh (P.getD (k+(a++rel::b).length) []))(hw:60<w)
 (hq:evSs (orc prg w (n+5)) q (Rs P (k+(a++rel::b).length) (Z_ (.sh,sumD c l)) (Z_ (.sh,ov c c' l l')) (Z_ (.sh,sumD c' l')) none none none rel)=res) :
 evSs (orc prg w (n+5)) (Xn (XX 1 (TM.call 16 0 Xo)) (Xn (XX 2 (TM.meth [116,97,107,101] 0 Xo)) (Xn (Xx (Xm .notin (Xi 2) (Xj (Y7 [(Xq [62,61]),(Xq [60,61]),(Xq [61]),(Xq [97,108,105,107,101])]))) (Xn fJ Xp) Xp) (Xn (XX 3 (TM.call 16 0 Xo)) (Xn (Xw 4 (Xy 9 (Xl (Xi 1) (Xl (Xy 10 (Xl (XM (Xj (Xk 1))) (Xl (Xi 3) Xo))) Xo)))) q)))))
  [some (.me,rowD P k),none,none,none,none,none,none,none]=res:=by
 obtain⟨e0,a1⟩:=ha.right.cons
 have e1:k+a.length+1+b.length=k+(a++rel::b).length:=by simp;omega
 have br:Beh rel:=by
  simp only[RLS,R8,Ti,or_false]at hr;rcases hr with rfl | rfl | rfl | rfl<;>exact⟨by decide,by decide,by decide⟩
 refine st2 (bH (bV (w:=.me) rfl ao (Em P w n h ha.left (by rw[e0];exact br) hw (by omega) (by omega))) rfl) (st2 (bH (cz (w:=.me) rfl rfl rfl ao (dW P (k+a.length) w (n+3))) (by rw[e0];rfl)) (st2 (ifN (w:=ZZ) (aq (ak rfl) aj (eF (o7 rel RLS λ_=>rfl) (by rw[decide_eq_true hr];rfl)))) (st2 (bH (bV (w:=.me) rfl ao (Em P w n h' a1 (by rw[e1];exact hb) hw (by omega) (by omega))) rfl) (st2 (aA (w:=ZZ) (az (xs:=[sumD c l,sumD (-c') (negL l')]) (aa rfl (ak rfl) (aa (w:=ZZ) rfl (az (aa rfl neg1 (aa rfl (ak rfl) ao)) (xx w (n+3) c' l' (by omega))) ao)) (xY w (n+3) c (-c') l (negL l') (by rw[wB];omega))) rfl) ?_))));rw[e1];exact hq
def rm(c c':Int)(l l':List Pair):(ov c c' l l').imm=ZX:=fX _ _
def wA(c c':Int)(l l':List Pair):(no c c' l l').imm=ZX:=fX _ _
def lF{k:Nat}{rel:List Nat}{c c':Int}{l l':List Pair}{A C:Option Slot}(hl:l.length+l'.length<=38)(hr:rel≠ALK){d:D}(hd:d=if rel=EQ then .tup [.str AND,.tup [.tup [.str LST,ov c c' l l'],.tup [.str LST,no c c' l l']]]else if rel=GE then .tup [.str LST,ov c c' l l']else .tup [.str LST,no c c' l l']){q:SL} :
 ∃δ1,evSs (orc prg w (n+5)) (Xn (Xx (Xm .eq (Xi 2) (Xj (Xq [97,108,105,107,101]))) q Xp) (Xn (Xw 6 (XF (Xl (Xj (Xq [108,101,97,115,116])) (Xl (Xi 4) Xo)))) (Xn (Xw 7 (XF (Xl (Xj (Xq [108,101,97,115,116])) (Xl (Xy 10 (Xl (XM (Xj (Xk 1))) (Xl (Xi 4) Xo))) Xo)))) (Xn (Xx (Xm .eq (Xi 2) (Xj (Xq [61]))) (Xn (XC (XF (Xl (Xj (Xq [97,110,100])) (Xl (XF (Xl (Xi 6) (Xl (Xi 7) Xo))) Xo)))) Xp) Xp) (Xn (XC (Yg (Xm .eq (Xi 2) (Xj (Xq [62,61]))) (Xi 6) (Xi 7))) Xp)))))
  (Rs P k A (Z_ (.sh,ov c c' l l')) C none none none rel)=.rt ZZ d δ1/\δ1[0]?=Z_ (Z_ (.me,rowD P k)):=by
 refine⟨Rs P k A (Z_ (.sh,ov c c' l l')) C none (Z_ (.sh,.tup [.str LST,ov c c' l l'])) (Z_ (.sh,.tup [.str LST,no c c' l l'])) rel,st2 (ifN (w:=ZZ) (aq (ak rfl) aj (eF (dH _ _) (decide_eq_false hr)))) (st2 (aA (w:=ZZ) (aY (aa rfl aj (aa rfl (ak rfl) ao)) rfl) rfl) (st2 (aA (w:=ZZ) (aY (aa rfl aj (aa rfl (az (aa rfl neg1 (aa rfl (ak rfl) ao)) (xx w (n+3) (c+-c') (l++negL l') (by rw[R4,wB];omega))) ao)) rfl) rfl) ?_)),rfl⟩
 have hc:∀δ y,δ[2]?=Z_ (Z_ (Own.sh,Xq rel))->ev (orc prg w (n+5)) δ ZX (Xm .eq (Xi 2) (Xj (Xq y)))=.ok (ZZ,.bl (decide (rel=y))):=fun δ y h=>aq (ak h) aj (dH _ _)
 by_cases h1:rel=EQ
 .rw[if_pos h1]at hd
  subst hd;exact stR (ifR ((hc _ _ rfl).trans (by rw[show decide (rel=[61])=ZX from decide_eq_true h1])) (retR (aY (aa rfl aj (aa rfl (aY (aa rfl (ak rfl) (aa rfl (ak rfl) ao)) rfl) ao)) rfl) rfl))
 .rw[if_neg h1]at hd
  refine st2 (ifN ((hc _ _ rfl).trans (by rw[show decide (rel=[61])=ZZ from decide_eq_false h1]))) ?_
  by_cases h2:rel=GE
  .rw[if_pos h2]at hd
   subst hd;exact stR (retR (oG (b:=ZX) ((hc _ _ rfl).trans (by rw[show decide (rel=[62,61])=ZX from decide_eq_true h2])) (ak rfl)) rfl)
  .rw[if_neg h2]at hd
   subst hd;exact stR (retR (oG (b:=ZZ) ((hc _ _ rfl).trans (by rw[show decide (rel=[62,61])=ZZ from decide_eq_false h2])) (ak rfl)) rfl)
def Nz{k:Nat}{ts:List (List Nat)}{d:D}(h:RlR ts d)(ha:At P k ts)(hb:Beh (P.getD (k+ts.length) []))(hw:60<w):(orc prg w (n+6)).mu 17 (rowD P k) []=.ok (rowD P (k+ts.length),d):=by
 rw[cP (d:=f17) rfl]
 cases h with
 | ge h h' hz=>
   rename_i a b c c' l l';obtain⟨δ1,g1,g2⟩:=lF P w n (k:=k+(a++GE::b).length) (rel:=GE) (c:=c) (c':=c') (l:=l) (l':=l') (A:=Z_ (.sh,sumD c l)) (C:=Z_ (.sh,sumD c' l')) (by omega) (by decide) rfl;exact aN rfl rfl (iU P w n h h' hz (by decide) ha hb hw g1) (by simp[D.imm,immL,rm]) g2
 | le h h' hz=>
   rename_i a b c c' l l';obtain⟨δ1,g1,g2⟩:=lF P w n (k:=k+(a++LE::b).length) (rel:=LE) (c:=c) (c':=c') (l:=l) (l':=l') (A:=Z_ (.sh,sumD c l)) (C:=Z_ (.sh,sumD c' l')) (by omega) (by decide) rfl;exact aN rfl rfl (iU P w n h h' hz (by decide) ha hb hw g1) (by simp[D.imm,immL,wA]) g2
 | eq h h' hz=>
   rename_i a b c c' l l';obtain⟨δ1,g1,g2⟩:=lF P w n (k:=k+(a++EQ::b).length) (rel:=EQ) (c:=c) (c':=c') (l:=l) (l':=l') (A:=Z_ (.sh,sumD c l)) (C:=Z_ (.sh,sumD c' l')) (by omega) (by decide) rfl;exact aN rfl rfl (iU P w n h h' hz (by decide) ha hb hw g1) (by simp[D.imm,immL,wA,rm]) g2
 | al h h' hz hx h0=>
   rename_i a b c c' l l' x
   have ha':At P k ((a++ALK::b)++[BY,x]):=by simpa using ha
   obtain⟨e0,a1⟩:=ha'.right.cons;have e1:=a1.cons.1
   have e2:k+(a++ALK::b).length+1+1=k+(a++ALK::(b++[BY,x])).length:=by simp;omega
   refine aN rfl rfl (iU P w n h h' hz (by decide) ha'.left (by rw[e0];exact⟨by decide,by decide,by decide⟩) hw (stR (δ1:=Rs P (k+(a++ALK::(b++[BY,x])).length) (Z_ (.sh,sumD c l)) (Z_ (.sh,ov c c' l l')) (Z_ (.sh,sumD c' l')) (Z_ (.sh,.int (decVal x))) none none ALK) (ifsT (w:=ZZ) (aq (ak rfl) aj (dH _ _)) (decide_eq_true rfl) (st2 (fU (cz (w:=.me) rfl rfl rfl (aa rfl aj ao) (fV P _ w (n+2) e0))) (st2 (bH (bV (w:=.me) rfl ao (zr w (n+2) P _ (by rw[e1];exact hx) hw)) (by rw[e1,e2];rfl)) (st2 (ifN (w:=ZZ) (aq (ak rfl) aj (eF (lR _ _) (decide_eq_false (by omega))))) (stR (retR (aY (aa rfl aj (aa rfl (ak rfl) (aa rfl (ak rfl) ao))) rfl) rfl))))))) ) (by simp[D.imm,immL,rm]) rfl
end
end KX
namespace KX
open Z KG P11
open P09 (LET FIG)
noncomputable def NOT:List Nat:=[110,111,116]
noncomputable def OR:List Nat:=[111,114]
noncomputable def SOM:List Nat:=[115,111,109,101]
noncomputable def ALL:List Nat:=[97,108,108]
noncomputable def KWS:List (List Nat):=[AND,OR,NOT,SOM,ALL]
noncomputable def cms:List (List (List Nat))->List (List Nat)
 | []=>[]
 | r::rs=>r++(rs.map λr=>[44]::r).flatten
inductive PtR:Nat->List (List Nat)->D->Prop
 | rel (n:Nat) {ts:List (List Nat)} {d:D} (h:RlR ts d):PtR n ts d
 | nt {n:Nat} {ts:List (List Nat)} {d:D} (h:PtR n ts d):PtR (n+1) (NOT::[40]::(ts++[[41]])) (.tup [.str NOT,d])
 | trn {n:Nat} {ts:List (List Nat)} {d:D} (w x:List Nat) (hw:w=SOM\/w=ALL) (hx:Nm x) (h:PtR n ts d):PtR (n+1) (w::[40]::x::[44]::(ts++[[41]])) (.tup [.str w,.str x,d])
 | grp {n:Nat} (w:List Nat) (hw:w=AND\/w=OR) (l:List (List (List Nat)×D)) (hl:l.length<=50) (h:∀q∈l,PtR n q.1 q.2):PtR (n+1) (w::[40]::(cms (l.map (·.1))++[[41]])) (.tup [.str w,.tup (l.map (·.2))])
def PtR.up(h:PtR n ts d)(hm:n<=m):PtR m ts d:=by
 induction h generalizing m with
 | rel n h=>exact .rel m h
 | nt h ih=>match m,hm with | m+1,hm=>exact .nt (ih (by omega))
 | trn w x hw hx h ih=>match m,hm with | m+1,hm=>exact .trn w x hw hx (ih (by omega))
 | grp w hw l hl h ih=>match m,hm with | m+1,hm=>exact .grp w hw l hl λq hq=>ih q hq (by omega)
def vU(h:SmR a c l):∃x r,a=x::r/\(x=[45]\/Nb x\/Nm x):=by
 cases h with
 | mk b ht hr=>
   cases b with
   | true=>exact⟨[45],_,rfl,.inl rfl⟩
   | false=>
     cases ht with
     | num x h=>exact⟨x,_,rfl,.inr (.inl h)⟩
     | nam x h=>exact⟨x,_,rfl,.inr (.inr h)⟩
     | mul x y h h'=>exact⟨x,_,rfl,.inr (.inl h)⟩
def zV(h:x=[45]\/Nb x\/Nm x):x∉KWS/\x≠[41]:=by
 rcases h with rfl | h | h
 .exact⟨by decide,by decide⟩
 .obtain⟨c,r,rfl,hc⟩:=Ja h
  refine⟨λz=>?_,λz=>?_⟩
  .have:∀y∈KWS,∃c r,y=c::r/\c∈LET:=λy hy=>by
    simp only[KWS,R8,Ti,or_false]at hy;rcases hy with rfl | rfl | rfl | rfl | rfl<;>exact⟨_,_,rfl,by decide⟩
   obtain⟨c',r',e,h'⟩:=this _ z;cases e;exact hc h'
  .cases z;exact absurd (h.2.1 41 QM) (by decide)
 .obtain⟨c,r,rfl,h1,_,_,h4⟩:=h
  refine⟨λz=>h4 ?_,λz=>?_⟩
  .have:∀y∈KWS,y∈WRD:=by decide
   exact this _ z
  .cases z;exact absurd h1 (by decide)
def NK(h:RlR ts d):∃x r,ts=x::r/\x∉KWS/\x≠[41]:=by
 cases h with
 | ge h _ _=>obtain⟨x,r,rfl,hx⟩:=vU h;exact⟨x,_,rfl,zV hx⟩
 | le h _ _=>obtain⟨x,r,rfl,hx⟩:=vU h;exact⟨x,_,rfl,zV hx⟩
 | eq h _ _=>obtain⟨x,r,rfl,hx⟩:=vU h;exact⟨x,_,rfl,zV hx⟩
 | al h _ _ _ _=>obtain⟨x,r,rfl,hx⟩:=vU h;exact⟨x,_,rfl,zV hx⟩
def Q6(h:PtR n ts d):∃x r,ts=x::r/\x≠[41]:=by
 cases h with
 | rel _ h=>obtain⟨x,r,e,_,h2⟩:=NK h;exact⟨x,r,e,h2⟩
 | nt h=>exact⟨_,_,rfl,by decide⟩
 | trn w x hw hx h=>exact⟨_,_,rfl,by rcases hw with rfl | rfl<;>decide⟩
 | grp w hw l hl h=>exact⟨_,_,rfl,by rcases hw with rfl | rfl<;>decide⟩
def Dq(h:RlR ts d):d.imm=ZX:=by
 cases h<;>simp[D.imm,immL,rm,wA]
theorem iJ:∀{l:List D},(∀d∈l,d.imm=ZX)->immL l=ZX
 | [],_=>rfl
 | d::l,h=>by simp only[immL,h d QM,iJ λx hx=>h x (QQ _ hx),Vm]
def jE(h:PtR n ts d):d.imm=ZX:=by
 induction h with
 | rel n h=>exact Dq h
 | nt h ih=>simp[D.imm,immL,ih]
 | trn w x hw hx h ih=>simp[D.imm,immL,ih]
 | grp w hw l hl h ih=>
   simp only[D.imm,immL,Wj,Wi]
   exact iJ λd hd=>by
    obtain⟨q,hq,rfl⟩:=Rx.mp hd;exact ih q hq
def Aft(x:List Nat):Prop:=x=[41]\/x=[44]\/x=[]
def Gn(h:Aft x):Beh x:=by
 rcases h with rfl | rfl | rfl<;>exact⟨by decide,by decide,by decide⟩
section
variable(P:List (List Nat))(w:Nat)
def Rd(m n:Nat):Prop:=∀{k:Nat}{ts:List (List Nat)}{d:D},PtR n ts d->At P k ts->Aft (P.getD (k+ts.length) [])->(orc prg w m).mu 20 (rowD P k) []=.ok (rowD P (k+ts.length),d)
noncomputable def ptC:T:=(Xm .eq (Y9 [97,104,101,97,100] (Xi 0) Xo) (Xj (Xq [44])))
noncomputable def ptB:SL:=(Xn (Yi (TM.meth [110,101,101,100] 0 (Xl (Xj (Xq [44])) Xo))) (Xn (Yt 1 (TM.call 20 0 Xo)) Xp))
noncomputable def Pp(k:Nat)(l:List D):Dst:=[some (.me,rowD P k),some (.ow,.lst l)]
def vN(n k:Nat)(l:List D):ev (orc prg w (n+1)) (Pp P k l) ZX ptC=.ok (ZZ,.bl (decide (P.getD k []=[44]))):=aq (bN P k w n (b:=.me) (by decide) rfl) aj (dH _ _)
theorem kj(R:Rd P w (m+3) n):∀(l:List (List (List Nat)×D)){k:Nat}{acc:List D}{j:Nat},(∀q∈l,PtR n q.1 q.2)->At P k ((l.map λq=>[44]::q.1).flatten++[[41]])->acc.length+l.length<=60->l.length<j ->
 b8 (fun δ=>ev (orc prg w (m+3)) δ ZX ptC) (evSs (orc prg w (m+3)) ptB) j (Pp P k acc)=.nx (Pp P (k+((l.map λq=>[44]::q.1).flatten).length) (acc++l.map (·.2)))
 | [],k,acc,j,_,ha,_,hj=>by
   match j,hj with
   | j+1,_=>
     have e0:=ha.cons.1;rw[K9.while_f (w:=ZZ) ((vN P w (m+2) k acc).trans (by rw[e0];rfl))];simp
 | (ts,d)::l,k,acc,j,h,ha,hz,hj=>by
   match j,hj with
   | j+1,hj=>
     have hq:=h (ts,d) QM
     have ha:At P k ([44]::(ts++((l.map λq=>[44]::q.1).flatten++[[41]]))):=by simpa using ha
     obtain⟨e0,a1⟩:=ha.cons;have a2:=a1.right
     have hn:Aft (P.getD (k+1+ts.length) []):=by
      cases l with
      | nil=>exact .inl a2.cons.1
      | cons q l=>exact .inr (.inl (At.cons (x:=[44]) (by simpa using a2)).1)
     have st:evSs (orc prg w (m+3)) ptB (Pp P k acc)=.nx (Pp P (k+1+ts.length) (acc++[d])) :=
      st2 (fU (cz (w:=.me) rfl rfl rfl (aa rfl aj ao) (fV P k w m e0))) (one (uZ (w:=.ow) (l:=acc) rfl (bV (w:=.me) rfl ao (R hq a1.left hn)) rfl (by simp[size];simp at hz;omega)))
     rw[K9.while_t (w:=ZZ) ((vN P w (m+2) k acc).trans (by rw[e0];rfl)) st,kj R l (λq hq=>h q (QQ _ hq)) a2 (by simp at hz ⊢;omega) (by simp at hj;omega)];simp[Pp,Nat.add_assoc,Nat.add_comm,Nat.add_left_comm]
def Ax{n m:Nat}(R:Rd P w (m+3) n){l:List (List (List Nat)×D)}{k:Nat}(h:∀q∈l,PtR n q.1 q.2)(hl:l.length<=50)(hw:60<w)(ha:At P k (cms (l.map (·.1))++[[41]])):(orc prg w (m+4)).mu 18 (rowD P k) []=.ok (rowD P (k+(cms (l.map (·.1))).length),.tup (l.map (·.2))):=by
 rw[cP (d:=f18) rfl]
 have him:(Y7 (l.map (·.2))).imm=ZX:=by
  simp only[D.imm]
  exact iJ λd hd=>by
   obtain⟨q,hq,rfl⟩:=Rx.mp hd;exact jE (h q hq)
 have hc:ev (orc prg w (m+3)) (Pp P k []) ZX (Xm .ne (Y9 [97,104,101,97,100] (Xi 0) Xo) (Xj (Xq [41])))=.ok (ZZ,.bl !(decide (P.getD k []=[41]))):=aq (bN P k w (m+2) (b:=.me) (by decide) rfl) aj (xO _ _);have s1:evS (orc prg w (m+3)) (Xw 1 (XH Xo)) [some (.me,rowD P k),none]=.nx (Pp P k []):=aA (bx ao rfl) rfl
 cases l with
 | nil=>
   have e0:=At.cons (x:=[41]) (b:=[]) ha;exact aN (δ1:=Pp P k []) rfl rfl (st2 s1 (st2 (ifN (w:=ZZ) (hc.trans (by rw[e0.1];rfl))) (stR (retR (e_b1 (bU rfl) (sH _)) rfl)))) him rfl
 | cons q l=>
   obtain⟨ts,d⟩:=q;have hq:PtR n ts d:=h (ts,d) QM
   have ha:At P k (ts++((l.map λq=>[44]::q.1).flatten++[[41]])):=by simpa[cms,RD,T6]using ha
   have a2:=ha.right
   have hn:Aft (P.getD (k+ts.length) []):=by
    cases l with
    | nil=>exact .inl a2.cons.1
    | cons q l=>exact .inr (.inl (At.cons (x:=[44]) (by simpa using a2)).1)
   obtain⟨x,r,e,hx⟩:=Q6 hq
   have e0:P.getD k []≠[41]:=by
    have:=ha.left;rw[e]at this;rw[this.cons.1];exact hx
   have lp:=kj P w R l (k:=k+ts.length) (acc:=[d]) (j:=w) (λq hq=>h q (QQ _ hq)) a2 (by simp at hl ⊢;omega) (by simp at hl;omega);have s2:evS (orc prg w (m+3)) (Yt 1 (TM.call 20 0 Xo)) (Pp P k [])=.nx (Pp P (k+ts.length) [d]):=uZ (w:=.ow) (l:=[]) rfl (bV (w:=.me) rfl ao (R hq ha.left hn)) rfl rfl
   have s3:evS (orc prg w (m+3)) (Ym ptC ptB) (Pp P (k+ts.length) [d])=.nx (Pp P (k+ts.length+((l.map λq=>[44]::q.1).flatten).length) ([d]++l.map (·.2))):=by
    show b8 _ _ (orc prg w (m+3)).w _=_;rw[uR];exact lp
   have e2:k+ts.length+((l.map λq=>[44]::q.1).flatten).length=k+(cms (((ts,d)::l).map (·.1))).length:=by simp[cms,RD,T6,Nat.add_assoc]
   rw[e2]at s3;exact aN (δ1:=Pp P (k+(cms (((ts,d)::l).map (·.1))).length) ([d]++l.map (·.2))) rfl rfl (st2 s1 (st2 (ifsT (w:=ZZ) (hc) (by rw[decide_eq_false e0];rfl) (st2 s2 (one s3))) (stR (retR (e_b1 (bU rfl) (sH _)) rfl)))) him rfl
def yr{n m k:Nat}{ts:List (List Nat)}{d:D}(R:Rd P w m n)(h:PtR n ts d)(ha:At P k ts)(hn:Aft (P.getD (k+ts.length) [])):(orc prg w (m+1)).mu 19 (rowD P k) [.str NOT]=.ok (rowD P (k+ts.length),.tup [.str NOT,d]):=by
 rw[cP (d:=f19) rfl];exact aN (δ1:=[some (.me,rowD P (k+ts.length)),some (.sh,.str NOT),none]) rfl rfl (stR (ifsT (w:=ZZ) (aq (ak rfl) aj (dH _ _)) (by decide) (stR (gZ (pF (bI (dM (ak rfl)) (bI (bV (w:=.me) rfl ao (R h ha hn)) gm)) rfl))))) (by simp[D.imm,immL,jE h]) rfl
def in2w(h:δ[1]?=Z_ (Z_ (.sh,.str x))):ev o δ ZX (Xm .in (Xi 1) (XF (Xl (Xj (Xq [97,110,100])) (Xl (Xj (Xq [111,114])) Xo))))=.ok (ZZ,.bl (decide (x∈[AND,OR]))):=aq (ak h) (aY (aa rfl aj (aa rfl aj ao)) rfl) (rR x [AND,OR] λ_=>rfl)
def z8{n m k:Nat}{x:List Nat}{l:List (List (List Nat)×D)}(R:Rd P w (m+3) n)(hx:x=AND\/x=OR)(h:∀q∈l,PtR n q.1 q.2)(hl:l.length<=50)(hw:60<w)(ha:At P k (cms (l.map (·.1))++[[41]])):(orc prg w (m+5)).mu 19 (rowD P k) [.str x]=.ok (rowD P (k+(cms (l.map (·.1))).length),.tup [.str x,.tup (l.map (·.2))]):=by
 rw[cP (d:=f19) rfl]
 have him:(Y7 (l.map (·.2))).imm=ZX:=by
  simp only[D.imm]
  exact iJ λd hd=>by
   obtain⟨q,hq,rfl⟩:=Rx.mp hd;exact jE (h q hq)
 exact aN (δ1:=[some (.me,rowD P (k+(cms (l.map (·.1))).length)),some (.sh,.str x),none]) rfl rfl (st2 (ifN (w:=ZZ) (aq (ak rfl) aj (eF (dH _ _) (by rcases hx with rfl | rfl<;>decide)))) (stR (ifsT (w:=ZZ) (in2w rfl) (by rcases hx with rfl | rfl<;>decide) (stR (gZ (pF (bI (dM (ak rfl)) (bI (bV (w:=.me) rfl ao (Ax P w R h hl hw ha)) gm)) rfl)))))) (by simp only[D.imm,immL,Wj,Wi]at him ⊢;exact him) rfl
def v8{n m k:Nat}{x y:List Nat}{ts:List (List Nat)}{d:D}(R:Rd P w (m+3) n)(hx:x=SOM\/x=ALL)(hy:Nm y)(h:PtR n ts d)(hw:60<w)(ha:At P k (y::[44]::ts))(hn:Aft (P.getD (k+2+ts.length) [])):(orc prg w (m+4)).mu 19 (rowD P k) [.str x]=.ok (rowD P (k+2+ts.length),.tup [.str x,.str y,d]):=by
 rw[cP (d:=f19) rfl];obtain⟨e0,a1⟩:=ha.cons;obtain⟨e1,a2⟩:=a1.cons;exact aN (δ1:=[some (.me,rowD P (k+2+ts.length)),some (.sh,.str x),some (.sh,.str y)]) rfl rfl (st2 (ifN (w:=ZZ) (aq (ak rfl) aj (eF (dH _ _) (by rcases hx with rfl | rfl<;>decide)))) (st2 (ifN (w:=ZZ) (eF (in2w rfl) (by rcases hx with rfl | rfl<;>decide))) (st2 (bH (bV (w:=.me) rfl ao (wC w m P k (by rw[e0];exact hy) (by omega))) (by rw[e0];rfl)) (st2 (fU (cz (w:=.me) rfl rfl rfl (aa rfl aj ao) (fV P (k+1) w m e1))) (stR (gZ (pF (bI (dM (ak rfl)) (bI (dM (ak rfl)) (bI (bV (w:=.me) rfl ao (R h a2 hn)) gm))) rfl))))))) (by simp[D.imm,immL,jE h]) rfl
def CQ{o:Orc}{δ:Dst}{x:List Nat}{t:T}{b:Bool}(h:ev o δ ZX t=.ok (b,.str x)):ev o δ ZX (Xm .notin t (XF (Xl (Xj (Xq [97,110,100])) (Xl (Xj (Xq [111,114])) (Xl (Xj (Xq [110,111,116])) (Xl (Xj (Xq [115,111,109,101])) (Xl (Xj (Xq [97,108,108])) Xo)))))))=.ok (ZZ,.bl !(decide (x∈KWS))):=aq h (aY (aa rfl aj (aa rfl aj (aa rfl aj (aa rfl aj (aa rfl aj ao))))) rfl) (o7 x KWS λ_=>rfl)
def mz{m k j:Nat}{x:List Nat}{ts:List (List Nat)}{d:D}(hx:x∈KWS)(ha:At P k (x::[40]::(ts++[[41]])))(him:d.imm=ZX)(hi:(orc prg w (m+3)).mu 19 (rowD P (k+2)) [.str x]=.ok (rowD P (k+2+ts.length),d)):(orc prg w (m+4)).mu 20 (rowD P k) []=.ok (rowD P (k+(x::[40]::(ts++[[41]])).length),d):=by
 rw[cP (d:=f20) rfl];obtain⟨e0,a1⟩:=ha.cons;obtain⟨e1,a2⟩:=a1.cons;have e2:=a2.right.cons.1
 have e3:k+(x::[40]::(ts++[[41]])).length=k+2+ts.length+1:=by simp;omega
 rw[e3];exact aN (δ1:=[some (.me,rowD P (k+2+ts.length+1)),some (.sh,.str x),some (.sh,d)]) rfl rfl (st2 (ifN (w:=ZZ) (eF (CQ (bN P k w (m+2) (b:=.me) (by decide) rfl)) (by rw[e0,decide_eq_true hx];rfl))) (st2 (bH (cz (w:=.me) rfl rfl rfl ao (dW P k w (m+1))) (by rw[e0];rfl)) (st2 (fU (cz (w:=.me) rfl rfl rfl (aa rfl aj ao) (fV P (k+1) w m e1))) (st2 (bH (bV (w:=.me) rfl (aa rfl (ak rfl) ao) hi) rfl) (st2 (fU (cz (w:=.me) rfl rfl rfl (aa rfl aj ao) (fV P (k+2+ts.length) w m e2))) (stR (nQ rfl))))))) him rfl
def wZ{m k:Nat}{ts:List (List Nat)}{d:D}(h:RlR ts d)(ha:At P k ts)(hn:Aft (P.getD (k+ts.length) []))(hw:60<w):(orc prg w (m+7)).mu 20 (rowD P k) []=.ok (rowD P (k+ts.length),d):=by
 rw[cP (d:=f20) rfl];obtain⟨x,r,e,hx,_⟩:=NK h
 have e0:P.getD k []=x:=by
  have:=ha;rw[e]at this;exact this.cons.1
 exact aN (δ1:=[some (.me,rowD P (k+ts.length)),none,none]) rfl rfl (stR (ifsT (w:=ZZ) (CQ (bN P k w (m+5) (b:=.me) (by decide) rfl)) (by rw[e0,decide_eq_false hx];rfl) (stR (gZ (bV (w:=.me) rfl ao (Nz P w m h ha (Gn hn) hw)))))) (Dq h) rfl
theorem yF(hw:60<w):∀(n c:Nat),Rd P w (c+3*n+7) n
 | 0,c=>λh ha hn=>by
   cases h with
   | rel _ h=>exact wZ P w h ha hn hw
 | n+1,c=>by
   intro h ha hn;rename_i k ts d
   have R1:Rd P w (c+3*n+8) n:=by
    have:Rd P w (c+1+3*n+7) n:=yF hw n (c+1)
    rwa [show c+1+3*n+7=c+3*n+8 by omega]at this
   have R0:Rd P w (c+3*n+7) n:=yF hw n c
   cases h with
   | rel _ h=>
     have:=wZ P w (m:=c+3*(n+1)) h ha hn hw;exact this
   | nt h=>
     rename_i ts d;obtain⟨_,a1⟩:=ha.cons;obtain⟨_,a2⟩:=a1.cons;have hi:=yr P w R1 h a2.left (.inl a2.right.cons.1);have:=mz P w (m:=c+3*n+6) (j:=0) (x:=NOT) (by decide) ha (by simp[D.imm,immL,jE h]) hi;exact this
   | trn x y hx hy h=>
     rename_i ts d;obtain⟨_,a1⟩:=ha.cons;obtain⟨_,a2⟩:=a1.cons
     have a3:At P (k+2) ((y::[44]::ts)++[[41]]):=by simpa using a2
     have hi:=v8 P w (m:=c+3*n+5) (x:=x) (y:=y) R1 hx hy h hw a3.left (.inl (by have:=a3.right.cons.1;rwa [show k+2+(y::[44]::ts).length=k+2+2+ts.length by simp;omega]at this));have:=mz P w (m:=c+3*n+6) (j:=0) (x:=x) (ts:=y::[44]::ts) (d:=.tup [.str x,.str y,d]) (by rcases hx with rfl | rfl<;>decide) (by simpa using ha) (by simp[D.imm,immL,jE h]) (by rw[show k+2+(y::[44]::ts).length=k+2+2+ts.length by simp;omega];exact hi)
     have e:(x::[40]::((y::[44]::ts)++[[41]]))=x::[40]::y::[44]::(ts++[[41]]):=by simp
     rw[e]at this;exact this
   | grp x hx l hl h=>
     obtain⟨_,a1⟩:=ha.cons;obtain⟨_,a2⟩:=a1.cons;have hi:=z8 P w (m:=c+3*n+4) R0 hx h hl hw a2;have him:(Y7 [.str x,.tup (l.map (·.2))]).imm=ZX:=jE (.grp x hx l hl h);have:=mz P w (m:=c+3*n+6) (j:=0) (x:=x) (by rcases hx with rfl | rfl<;>decide) ha him hi;exact this
end
end KX
namespace KX
open Z KG P11
open K9 (Txt Good tooL rowL peR peV fK)
open P09 (LET FIG SNG)
section
variable(w m:Nat)
def zm(x:List Nat):(orc prg w (m+1)).fn 0 [.str x]=if tooL x then .exc 2 else .ok (ZZ,.non):=by
 rw[aP (d:=P09.f0) rfl];exact K9.check_run _ x
def Nx(x:List Nat)(hx:x.length<w)(h1:x.length<=10000):∀(pre rest:List Nat)(c:Nat)(r:List Nat),x=pre++rest->rest=c::r->(orc prg w (m+2)).fn 2 [.str x,.int (pre.length:Int)]=peR pre.length (peV rest):=by
 intro pre rest c r e1 e2;rw[aP (d:=P09.f2) rfl]
 refine K9.piece_end _ x pre rest c r e1 e2 (by rw[e1]at h1;simp at h1;omega) λsg=>?_
 rw[aP (d:=P09.f1) rfl];exact K9.run_end _ x sg pre rest e1 (by rw[uR];exact hx)
def BR(x:List Nat)(h:tooL x=ZX):(orc prg w (m+2)).fn 3 [.str x]=.exc 2:=by
 rw[aP (d:=P09.f3) rfl];exact K9.pieces_long (by rw[zm,h];rfl)
def Lw(x:List Nat)(row:List (List Nat))(h:tooL x=ZZ)(hx:x.length<w)(h1:x.length<=10000)(ht:Txt x row)(hg:∀p∈row,Good p)(hr:row.length<=1000):(orc prg w (m+3)).fn 3 [.str x]=.ok (ZX,.lst (row.map .str)):=by
 rw[aP (d:=P09.f3) rfl];exact K9.pieces_ok (by rw[zm,h];rfl) (Nx w m x hx h1) ht hg (by rw[uR];exact hx) hr
def Ir(P:List (List Nat)):(orc prg w (m+2)).ini 34 (.obj 3 [] []) [.lst (P.map .str)]=.ok (rowD P 0):=by
 rw[xJ (d:=f34) rfl]
 have hi:((orc prg w m).init 3).isSome=ZX:=by cases m<;>rfl
 have s1:evS (orc prg w m) (Yq 0 [102,111,117,110,100] (Xi 1)) [some (.me,.obj 3 [] []),some (.sh,.lst (P.map .str))]=.nx [some (.me,.obj 3 [FND] [.lst (P.map .str)]),some (.sh,.lst (P.map .str))]:=qd (b:=.me) (ak rfl) rfl (by simp only[gk,hi];rfl);have s2:evS (orc prg w m) (Yq 0 [112,108,97,99,101] (Xj (Xk 0))) [some (.me,.obj 3 [FND] [.lst (P.map .str)]),some (.sh,.lst (P.map .str))]=.nx [some (.me,rowD P 0),some (.sh,.lst (P.map .str))]:=qd (b:=.me) aj rfl (by simp only[gk,hi];rfl);unfold du;rw[if_pos (show[Yr (P.map .str)].length+1=f34.np from rfl)];show(match evSs (orc prg w m) f34.body [some (.me,.obj 3 [] []),some (.sh,.lst (P.map .str))]with | .rt _ .non δ=>selfOf δ | .nx δ=>selfOf δ | .ex c _=>.exc c | _=>.stuck)=_;rw[show evSs (orc prg w m) f34.body [some (.me,.obj 3 [] []),some (.sh,.lst (P.map .str))]=.nx [some (.me,rowD P 0),some (.sh,.lst (P.map .str))]from st2 s1 (one s2)]
 rfl
def w6(hi:o.init c=Z_ g)(hl:evL o δ l=.ok (ZZ,xs))(h:o.fn f xs=.ok (b,r))(hg:o.ini g (.obj c [] []) [r]=.ok d)(hs:setSlot δ i ZX d=Z_ δ'):evS o (.mkx i c f l) δ=.nx δ':=by
 simp only[evS,hi,Xu,SO.of,hl,h,Xr,lent,QW,if_false,SO.ofX,hg,hs,Ro,aB]
def N7(hi:o.init c=Z_ g)(hl:evL o δ l=.ok (ZZ,xs))(h:o.fn f xs=.exc e):evS o (.mkx i c f l) δ=.ex e δ:=by
 simp only[evS,hi,Xu,SO.of,hl,h,Xr,SO.ofX]
def yD(x:List Nat)(h:tooL x=ZX):(orc prg w (m+3)).fn 21 [.str x]=.exc 2:=by
 rw[aP (d:=f21) rfl];exact K9.runFn_ex rfl rfl (K9.stpE (N7 rfl (aa rfl (ak rfl) ao) (BR w m x h)))
def Ia(h:tooL x=ZZ)(hx:x.length<w)(h1:x.length<=10000)(ht:Txt x row)(hg:∀p∈row,Good p)(hr:row.length<=1000)(hp:PtR n row d)(hw:60<w):(orc prg w (m+3*n+8)).fn 21 [.str x]=.ok (ZZ,d):=by
 rw[aP (d:=f21) rfl]
 have e1:row.getD row.length []=[]:=by rw[RV,List.getElem?_eq_none (Ra _)];rfl
 have e0:row.getD (0+row.length) []=[]:=by rw[Ux];exact e1
 have hst:=yF row w hw n m hp (k:=0) ⟨[],[],by simp,rfl⟩ (.inr (.inr e0));rw[Ux]at hst
 have f1:m+3*n+7=(m+3*n+4)+3:=by omega
 refine aF rfl (δ0:=[some (.sh,.str x),none,none]) rfl (stp [some (.sh,.str x),some (.ow,rowD row 0),none] (w6 rfl (aa rfl (ak rfl) ao) (by rw[f1];exact Lw w _ x row h hx h1 ht hg hr) (Ir w (m+3*n+5) row) rfl) (stp [some (.sh,.str x),some (.ow,rowD row row.length),some (.sh,d)] (bH (bV (w:=.ow) rfl ao hst) rfl) (stp _ (fU (cz (w:=.ow) rfl rfl rfl (aa rfl aj ao) (by rw[f1];exact fV row row.length w (m+3*n+4) e1))) (stpR (nQ rfl)))))
end
end KX
namespace KX
open Z KG P11
open KU (negL)
open P09 (LET FIG SNG)
def iW(n:Nat):decVal (figs n)=n:=PySem.W.KIN.val_back n
def BV(h:a∈figs n):a∈FIG:=by
 obtain⟨c,hc,rfl⟩:=Rx.mp h;have:=Nat.isDigit_of_mem_toDigits (b:=10) (n:=n) (by decide) (by decide) hc
 have d:48<=c.toNat/\c.toNat<=57:=by
  simp only[Char.isDigit,QR,decide_eq_true_eq,UInt32.le_iff_toNat_le]at this;exact this
 have:∀x:Nat,x<=57->48<=x->x∈FIG:=by decide
 exact this _ d.2 d.1
def xX(n:Nat):figs n≠[]:=λh=>by
 have:=Nat.length_toDigits_pos (b:=10) (n:=n)
 have e:(figs n).length=0:=by rw[h];rfl
 unfold figs at e;rw[R5]at e;omega
def IW:∀n:Nat,n≠0->(figs n).head?≠some 48:=by
 intro n
 induction n using Nat.strongRecOn with
 | _ n ih=>
   intro hn;unfold figs
   by_cases h:n<10
   .rw[Nat.toDigits_of_lt_base h]
    have:∀d:Nat,d<10->d≠0->(Nat.digitChar d).toNat≠48:=by decide
    intro z;exact this n h hn (by simpa using z)
   .have t:W2 10 (n/10)++W2 10 (n % 10)=W2 10 n:=by
     have:=Nat.toDigits_append_toDigits (b:=10) (n:=n/10) (d:=n % 10) (by decide) (by omega) (Nat.mod_lt n (by decide))
     rwa [Nat.div_add_mod]at this
    rw[<-t,UV];have q:=ih (n/10) (by omega) (by omega);have q2:=xX (n/10);unfold figs at q q2
    cases e:List.map Char.toNat (W2 10 (n/10))with
    | nil=>exact absurd e q2
    | cons a r=>rw[e]at q;exact q
def qC(h:n<10 ^ 60):Nb (figs n):=by
 refine⟨xX n,λa ha=>BV ha,?_,?_⟩
 .unfold figs
  rw[R5];exact(Nat.length_toDigits_le_iff (by decide) (by decide)).mpr h
 .by_cases h0:n=0
  .subst h0;exact .inl (by decide)
  .exact .inr (IW n h0)
def getD_in{l:List Nat}{n:Nat}(h:n<l.length):l.getD n 0∈l:=by
 rw[RV,Rn h];exact VJ h
def Ms(j:Int):lt j∈LET:=by
 have:=aG j 26 (by decide);exact getD_in (l:=L26) (by rw[vY];omega)
def Nf(j:Int):sg j∈LET++FIG:=by
 have:=aG j 36 (by decide);exact getD_in (l:=S36) (by rw[yV];omega)
def Ltr(x:List Nat):Prop:=∃c r,x=c::r/\c∈LET/\∀a∈r,a∈LET++FIG
def G7(c b:Int):Ltr (jU c b)/\(jU c b).length<=8:=by
 have hz:=tE c b
 obtain⟨s,hs⟩:∃s,(dN c b).toNat=s+1:=⟨(dN c b).toNat-1,by omega⟩
 have e:lZ c b=lt (b.fdiv 3)::((Ru s).map X4).map λ(k:Nat)=>sg (b.fdiv 3+5*(k:Int)):=by
  unfold lZ;rw[hs,List.range_succ_eq_map,QL];rfl
 have hr:∀a∈((Ru s).map X4).map λ(k:Nat)=>sg (b.fdiv 3+5*(k:Int)),a∈LET++FIG:=λa ha=>by
  obtain⟨k,_,rfl⟩:=Rx.mp ha;exact Nf _
 have hl:(((Ru s).map X4).map λ(k:Nat)=>sg (b.fdiv 3+5*(k:Int))).length=s:=by simp
 generalize ((Ru s).map X4).map (λ(k:Nat)=>sg (b.fdiv 3+5*(k:Int)))=R at *;unfold jU;rw[e];split
 .exact⟨⟨_,R,rfl,Ms _,hr⟩,by simp;omega⟩
 .rename_i hp
  have hp0:0<=dD c b:=(aG _ _ (by omega)).1
  obtain⟨p,hq⟩:∃p,(dD c b).toNat=p+1:=⟨(dD c b).toNat-1,by omega⟩
  rw[hq];refine⟨⟨_,R.set p (sg (b.fdiv 5+c)),rfl,Ms _,λa ha=>?_⟩,by simp;omega⟩;rcases List.mem_or_eq_of_mem_set ha with h | rfl
  .exact hr a h
  .exact Nf _
def Nt(c b:Int):Nm (nm c b):=by
 obtain⟨⟨a,r,e,h1,h2⟩,h3⟩:=G7 c b;unfold nm;split
 .rename_i h
  have hw:∀x∈jq,x.length<=5/\x++[57]∉WRD:=by decide
  obtain⟨h5,h6⟩:=hw _ h;rw[e]at h5 h6 ⊢;refine⟨a,r++[57],rfl,h1,λq hq=>?_,by simp at h5 ⊢;omega,h6⟩;rcases Sg.mp hq with hq | hq
  .exact h2 q hq
  .have:q=57:=by simpa using hq
   subst this;decide
 .rename_i h
  exact⟨a,r,e,h1,h2,h3,h⟩
def SmM.snoc{r:List (List Nat)}{c:Int}{l:List Pair}(h:SmM r c l){b:Bool}{t:List (List Nat)}{c':Int}{l':List Pair}(ht:TmR t c' l'):SmM (r++sgn b::t) (c+sI b c') (l++sL b l'):=by
 induction h with
 | nil=>
   have:=SmM.cons b ht .nil;simpa using this
 | cons b' ht' hr ih=>
   have:=SmM.cons b' ht' ih;simpa[Int.add_assoc]using this
theorem SmR.snoc{r:List (List Nat)}{c:Int}{l:List Pair}(h:SmR r c l){b:Bool}{t:List (List Nat)}{c':Int}{l':List Pair}(ht:TmR t c' l'):SmR (r++sgn b::t) (c+sI b c') (l++sL b l'):=by
 cases h with
 | mk b' ht' hr=>
   have:=SmR.mk b' ht' (hr.snoc (b:=b) ht);simpa[Int.add_assoc]using this
end KX
namespace KX
open Z KG P11
open KU (negL)
noncomputable def sdI:TI:=(Y6 (Xm .add (Xj (Xk 1)) (Xy 5 (Xl (Xi 0) (Xl (Xj (Xk 0)) (Xl (Xj (Xk 3)) Xo))))))
noncomputable def sd0:S:=(Xw 6 (Xy 5 (Xl (Xi 0) (Xl (Xm .add (Xj (Xk 1)) (Xi 5)) (Xl (Xj (Xk 3)) Xo)))))
noncomputable def sd1:S:=(Xw 7 (Xm .sub (Xj (Xk 1)) (Xm .mul (Xj (Xk 2)) (Xy 5 (Xl (Xi 0) (Xl (Xm .add (Xj (Xk 4)) (Xi 5)) (Xl (Xj (Xk 2)) Xo)))))))
noncomputable def sd2:S:=(Xw 8 (Xy 5 (Xl (Xm .add (Xi 0) (Xi 5)) (Xl (Xj (Xk 7)) (Xl (Xj (Xk 12)) Xo)))))
noncomputable def sd3:S:=(Xx (Xm .eq (Xy 5 (Xl (Xm .add (Xi 0) (Xi 5)) (Xl (Xj (Xk 8)) (Xl (Xj (Xk 6)) Xo)))) (Xj (Xk 0))) (Xn (Xw 8 (XD .abs (Xy 23 (Xl (Xm .fdiv (Xi 0) (Xj (Xk 5))) Xo)))) Xp) Xp)
noncomputable def sd4:S:=(Xw 9 (Xy 22 (Xl (Xy 5 (Xl (Xm .add (Xi 0) (Xi 5)) (Xl (Xj (Xk 9)) (Xl (Xj (Xk 5)) Xo)))) (Xl (Xi 1) Xo))))
noncomputable def sd5:S:=(Xx (Xm .lt (Xi 7) (Xj (Xk 0))) (Xn (XS 4 (Xj (Xq [45]))) Xp) (Xn (Xx (Xm .gt (Xi 5) (Xj (Xk 0))) (Xn (XS 4 (Xj (Xq [43]))) Xp) Xp) Xp))
noncomputable def sd6:S:=(Xx (Xm .eq (Xi 6) (Xj (Xk 0))) (Xn (Xw 2 (Xm .add (Xi 2) (Xm .mul (Xi 7) (Xi 8)))) (Xn (XS 4 (XD .str (Xi 8))) Xp)) (Xn (Xx (Xm .eq (Xi 6) (Xj (Xk 1))) (Xn (XS 3 (XF (Xl (Xi 9) (Xl (Xi 7) Xo)))) (Xn (XS 4 (Xi 9)) Xp)) (Xn (XS 3 (XF (Xl (Xi 9) (Xl (Xm .mul (Xi 7) (Xi 8)) Xo)))) (Xn (Xw 4 (Xm .add (Xi 4) (XH (Xl (XD .str (Xi 8)) (Xl (Xj (Xq [42])) (Xl (Xi 9) Xo)))))) Xp))) Xp))
noncomputable def sdB:SL:=(Xn sd0 (Xn sd1 (Xn sd2 (Xn sd3 (Xn sd4 (Xn sd5 (Xn sd6 Xp)))))))
section
variable(w n:Nat)
def jB(c m:Int)(k:Nat)(hk:k<10)(hm:m≠0):(orc prg w (n+1)).fn 5 [.int c,.int (k:Int),.int m]=.ok (ZZ,.int (mixV c k m)):=by
 rw[aP (d:=JK) rfl];exact Ii _ c m k hk hm
def MN(c:Int):(orc prg w (n+1)).fn 23 [.int c]=.ok (ZZ,.int (numV c)):=by
 rw[aP (d:=Hm) rfl];exact J9 _ c
def name_fn(c b:Int):(orc prg w (n+1)).fn 22 [.int c,.int b]=.ok (ZZ,.str (nm c b)):=by
 rw[aP (d:=nmFd) rfl];exact JL _ c b
def appO(h:ev o δ ZZ e=.ok (b,d))(ho:ownD δ i=Z_ (.ow,.lst l))(hz:l.length<=100000):evS o (.append i e) δ=.nx (δ.set i (Z_ (.ow,.lst (l++[d])))):=by
 have ef:evF o δ e=(δ,.ok (b,d)):=by unfold evF;rw[h]
 have hz':size (l.length+1)=ZX:=by simp[size];omega
 simp only[evS,ef,SO.of,ho,R7,hz',if_true,aB]
noncomputable def Sd(cell base c:Int)(L:List Pair)(R:List (List Nat))(j a b d e:Option Slot):Dst:=[some (.sh,.int cell),some (.sh,.int base),some (.sh,.int c),some (.ow,.lst (L.map prD)),some (.ow,.lst (R.map .str)),j,a,b,d,e]
noncomputable def pre(b:Bool)(j:Nat):List (List Nat):=if b then[[45]]else if 0<j then[[43]]else[]
def Jj(c:Int):(numV c).natAbs<10 ^ 60:=Rk (Gu c) (by decide)
def jc(a v:Int)(h:bits a<=64):dR a v=ZX:=by simp[dR,h]
def sgi(b:Bool)(v:Int):(if b then -1 else 1)*v=sI b v:=by cases b<;>simp[sI]
def Di(b:Bool)(v:Int):o2 .mul (.int (if b then -1 else 1)) (.int v)=.ok (ZZ,.int (sI b v)):=by
 rw[<-sgi];exact mulE (jc _ _ (by cases b<;>decide))
def yx(cell base C:Int)(L:List Pair)(R:List (List Nat))(j:Nat)(hj:j<3)(a b d e:Option Slot)(hL:L.length<=10)(hR:R.length<=100) :
 ∃(s:Bool)(t:List (List Nat))(c':Int)(l':List Pair)(a' b' d' e':Option Slot),TmR t c' l'/\t.length<=3/\evSs (orc prg w (n+1)) sdB (Sd cell base C L R (Z_ (.sh,.int (j:Int))) a b d e)=.nx (Sd cell base (C+sI s c') (L++sL s l') (R++(pre s j++t)) (Z_ (.sh,.int (j:Int))) a' b' d' e'):=by
 obtain⟨s,hs⟩:∃s:Bool,1-2*mixV cell (4+j) 2=if s then -1 else 1:=by
  have:=fD cell (4+j) 2 (by decide)
  by_cases h:mixV cell (4+j) 2=0
  .exact⟨false,by rw[h];rfl⟩
  .exact⟨true,by rw[show mixV cell (4+j) 2=1 by omega];rfl⟩
 obtain⟨z,hz,hz60⟩:∃z:Nat,(if mixV (cell+j) 8 6=0 then(if numV (cell.fdiv 5)<0 then -numV (cell.fdiv 5)else numV (cell.fdiv 5))else mixV (cell+j) 7 12)=(z:Int)/\z<10 ^ 60:=by
  split
  .exact⟨(numV (cell.fdiv 5)).natAbs,by split<;>omega,Jj _⟩
  .have:=fD (cell+j) 7 12 (by decide)
   exact⟨(mixV (cell+j) 7 12).toNat,by omega,Rk (show(mixV (cell+j) 7 12).toNat<12 by omega) (by decide)⟩
 have c1:((1:Int)+(j:Int))=((1+j:Nat):Int):=by simp
 have c4:((4:Int)+(j:Int))=((4+j:Nat):Int):=by simp
 have s0:evS (orc prg w (n+1)) sd0 (Sd cell base C L R (Z_ (.sh,.int (j:Int))) a b d e)=.nx (Sd cell base C L R (Z_ (.sh,.int (j:Int))) (Z_ (.sh,.int (mixV cell (1+j) 3))) b d e) :=
  aA (az (aa rfl (ak rfl) (aa rfl (aq aj (ak rfl) (cD _ _)) (aa rfl aj ao))) (by rw[c1];exact jB w n cell 3 (1+j) (by omega) (by decide))) rfl
 have s1:evS (orc prg w (n+1)) sd1 (Sd cell base C L R (Z_ (.sh,.int (j:Int))) (Z_ (.sh,.int (mixV cell (1+j) 3))) b d e)=.nx (Sd cell base C L R (Z_ (.sh,.int (j:Int))) (Z_ (.sh,.int (mixV cell (1+j) 3))) (Z_ (.sh,.int (if s then -1 else 1))) d e) :=
  aA (aq aj (aq aj (az (aa rfl (ak rfl) (aa rfl (aq aj (ak rfl) (cD _ _)) (aa rfl aj ao))) (by rw[c4];exact jB w n cell 2 (4+j) (by omega) (by decide))) (mulE (jc _ _ (by decide)))) ((Ay _ _).trans (by rw[hs]))) rfl
 have s2:evS (orc prg w (n+1)) sd2 (Sd cell base C L R (Z_ (.sh,.int (j:Int))) (Z_ (.sh,.int (mixV cell (1+j) 3))) (Z_ (.sh,.int (if s then -1 else 1))) d e)=.nx (Sd cell base C L R (Z_ (.sh,.int (j:Int))) (Z_ (.sh,.int (mixV cell (1+j) 3))) (Z_ (.sh,.int (if s then -1 else 1))) (Z_ (.sh,.int (mixV (cell+j) 7 12))) e) :=
  aA (az (aa rfl (aq (ak rfl) (ak rfl) (cD _ _)) (aa rfl aj (aa rfl aj ao))) (jB w n (cell+j) 12 7 (by decide) (by decide))) rfl
 have s3:evS (orc prg w (n+1)) sd3 (Sd cell base C L R (Z_ (.sh,.int (j:Int))) (Z_ (.sh,.int (mixV cell (1+j) 3))) (Z_ (.sh,.int (if s then -1 else 1))) (Z_ (.sh,.int (mixV (cell+j) 7 12))) e)=.nx (Sd cell base C L R (Z_ (.sh,.int (j:Int))) (Z_ (.sh,.int (mixV cell (1+j) 3))) (Z_ (.sh,.int (if s then -1 else 1))) (Z_ (.sh,.int (z:Int))) e):=by
  have hc:ev (orc prg w (n+1)) (Sd cell base C L R (Z_ (.sh,.int (j:Int))) (Z_ (.sh,.int (mixV cell (1+j) 3))) (Z_ (.sh,.int (if s then -1 else 1))) (Z_ (.sh,.int (mixV (cell+j) 7 12))) e) ZX (Xm .eq (Xy 5 (Xl (Xm .add (Xi 0) (Xi 5)) (Xl (Xj (Xk 8)) (Xl (Xj (Xk 6)) Xo)))) (Xj (Xk 0)))=.ok (ZZ,.bl (decide (mixV (cell+j) 8 6=0))) :=
   aq (az (aa rfl (aq (ak rfl) (ak rfl) (cD _ _)) (aa rfl aj (aa rfl aj ao))) (jB w n (cell+j) 6 8 (by decide) (by decide))) aj (lR _ _)
  by_cases h:mixV (cell+j) 8 6=0
  .rw[if_pos h]at hz
   exact ifsT hc (decide_eq_true h) (one (aA (e_b1 (az (aa rfl (aq (ak rfl) aj (dO _ _ (by decide))) ao) (MN w n _)) ((PX _).trans (by rw[hz]))) rfl))
  .rw[if_neg h]at hz
   exact(ifN (hc.trans (by rw[decide_eq_false h]))).trans (by rw[hz])
 have s4:evS (orc prg w (n+1)) sd4 (Sd cell base C L R (Z_ (.sh,.int (j:Int))) (Z_ (.sh,.int (mixV cell (1+j) 3))) (Z_ (.sh,.int (if s then -1 else 1))) (Z_ (.sh,.int (z:Int))) e)=.nx (Sd cell base C L R (Z_ (.sh,.int (j:Int))) (Z_ (.sh,.int (mixV cell (1+j) 3))) (Z_ (.sh,.int (if s then -1 else 1))) (Z_ (.sh,.int (z:Int))) (Z_ (.sh,.str (nm (mixV (cell+j) 9 5) base)))) :=
  aA (az (aa rfl (az (aa rfl (aq (ak rfl) (ak rfl) (cD _ _)) (aa rfl aj (aa rfl aj ao))) (jB w n (cell+j) 5 9 (by decide) (by decide))) (aa rfl (ak rfl) ao)) (name_fn w n _ _)) rfl
 have hN:=Nt (mixV (cell+j) 9 5) base;generalize nm (mixV (cell+j) 9 5) base=x at *
 have s5:evS (orc prg w (n+1)) sd5 (Sd cell base C L R (Z_ (.sh,.int (j:Int))) (Z_ (.sh,.int (mixV cell (1+j) 3))) (Z_ (.sh,.int (if s then -1 else 1))) (Z_ (.sh,.int (z:Int))) (Z_ (.sh,.str x)))=.nx (Sd cell base C L (R++pre s j) (Z_ (.sh,.int (j:Int))) (Z_ (.sh,.int (mixV cell (1+j) 3))) (Z_ (.sh,.int (if s then -1 else 1))) (Z_ (.sh,.int (z:Int))) (Z_ (.sh,.str x))):=by
  cases s with
  | true=>
    refine ifsT (w:=ZZ) (aq (ak rfl) aj (K9.o_lt _ _)) (by decide) (one ((appO aj rfl (by rw[R5];omega)).trans ?_));simp[Sd,pre]
  | false=>
    refine ifsF (w:=ZZ) (aq (ak rfl) aj (K9.o_lt _ _)) (by decide) (one ?_)
    by_cases h:0<j
    .refine ifsT (w:=ZZ) (aq (ak rfl) aj (K9.o_gt _ _)) (decide_eq_true (by omega)) (one ((appO aj rfl (by rw[R5];omega)).trans ?_))
     simp[Sd,pre,h]
    .refine(ifN (w:=ZZ) (aq (ak rfl) aj (eF (K9.o_gt _ _) (decide_eq_false (by omega))))).trans ?_
     simp[Sd,pre,h]
 have hst:∀r,evS (orc prg w (n+1)) sd6 (Sd cell base C L (R++pre s j) (Z_ (.sh,.int (j:Int))) (Z_ (.sh,.int (mixV cell (1+j) 3))) (Z_ (.sh,.int (if s then -1 else 1))) (Z_ (.sh,.int (z:Int))) (Z_ (.sh,.str x)))=.nx r->evSs (orc prg w (n+1)) sdB (Sd cell base C L R (Z_ (.sh,.int (j:Int))) a b d e)=.nx r:=λr h6=>st2 s0 (st2 s1 (st2 s2 (st2 s3 (st2 s4 (st2 s5 (one h6))))))
 have hp:(pre s j).length<=1:=by unfold pre;split<;>(try split)<;>simp
 have hz0:¬(z:Int)<0:=by omega
 have htx:b1D .str (.int (z:Int))=.ok (ZZ,.str (figs z)):=by
  rw[NZ (Rk (show(z:Int).natAbs<10 ^ 60 by simpa using hz60) (by decide))];simp[cZ,hz0]
 have hk:∀δ y,δ[6]?=Z_ (Z_ (Own.sh,Xk (mixV cell (1+j) 3)))->ev (orc prg w (n+1)) δ ZX (Xm .eq (Xi 6) (Xj (Xk y)))=.ok (ZZ,.bl (decide (mixV cell (1+j) 3=y))):=fun δ y h=>aq (ak h) aj (lR _ _)
 by_cases k0:mixV cell (1+j) 3=0
 .refine⟨s,[figs z],z,[],(Z_ (.sh,.int (mixV cell (1+j) 3))),(Z_ (.sh,.int (if s then -1 else 1))),(Z_ (.sh,.int (z:Int))),(Z_ (.sh,.str x)),by have:=TmR.num (figs z) (qC hz60);rwa [iW]at this,by simp,hst _ (ifsT (hk _ _ rfl) (decide_eq_true k0) (st2 (aA (aq (ak rfl) (aq (ak rfl) (ak rfl) (Di s z)) (cD _ _)) rfl) (one ((appO (e_b1 (ak rfl) htx) rfl (by rw[R5,R4];omega)).trans ?_))))⟩
  cases s<;>simp[Sd,sL,negL,sI]
 .by_cases k1:mixV cell (1+j) 3=1
  .refine⟨s,[x],0,[(x,1)],(Z_ (.sh,.int (mixV cell (1+j) 3))),(Z_ (.sh,.int (if s then -1 else 1))),(Z_ (.sh,.int (z:Int))),(Z_ (.sh,.str x)),.nam x hN,by simp,hst _ (ifsF (hk _ _ rfl) (decide_eq_false k0) (one (ifsT (hk _ _ rfl) (decide_eq_true k1) (st2 (appO (aY (aa rfl (ak rfl) (aa rfl (ak rfl) ao)) rfl) rfl (by rw[R5];omega)) (one ((appO (ak rfl) rfl (by rw[R5,R4];omega)).trans ?_))))))⟩
   cases s<;>simp[Sd,sL,negL,sI,prD]
  .refine⟨s,[figs z,[42],x],0,[(x,z)],(Z_ (.sh,.int (mixV cell (1+j) 3))),(Z_ (.sh,.int (if s then -1 else 1))),(Z_ (.sh,.int (z:Int))),(Z_ (.sh,.str x)),by have:=TmR.mul (figs z) x (qC hz60) hN;rwa [iW]at this,by simp,hst _ (ifsF (hk _ _ rfl) (decide_eq_false k0) (one (ifsF (hk _ _ rfl) (decide_eq_false k1) (st2 (appO (aY (aa rfl (ak rfl) (aa rfl (aq (ak rfl) (ak rfl) (Di s z)) ao)) rfl) rfl (by rw[R5];omega)) (one ((aA (aq (bU rfl) (bx (aa rfl (e_b1 (ak rfl) htx) (aa rfl aj (aa rfl (ak rfl) ao))) rfl) (cT (by rw[R5,R4];simp;omega))) rfl).trans ?_))))))⟩
   cases s<;>simp[Sd,sL,negL,sI,prD]
end
end KX
namespace KX
open Z KG P11
open KU (negL)
def retS(hv:isV e=ZZ)(h1:ev o δ ZZ e=.stuck)(h2:share δ (bj e)=δ1)(h3:ev o δ1 ZZ e=.ok (b,d)):evS o (.ret e) δ=.rt b d δ1:=by
 rw[retE hv];simp only[evF,h1,h2,h3,SO.of]
section
variable(w n:Nat)
theorem p7(cell base:Int):∀(r j:Nat)(C:Int)(L:List Pair)(R:List (List Nat))(x a b d e:Option Slot),j+r<=3->L.length<=j->R.length<=4*j->((j=0/\R=[]/\C=0/\L=[])\/SmR R C L) ->
 ∃(C':Int)(L':List Pair)(R':List (List Nat))(x' a' b' d' e':Option Slot),cF (evSs (orc prg w (n+1)) sdB) [5] ZZ ((V7 j r).map λ(k:Nat)=>Xk (k:Int)) (Sd cell base C L R x a b d e)=.nx (Sd cell base C' L' R' x' a' b' d' e')/\L'.length<=j+r/\R'.length<=4*(j+r)/\((j+r=0/\R'=[]/\C'=0/\L'=[])\/SmR R' C' L')
 | 0,j,C,L,R,x,a,b,d,e,_,h1,h2,h3=>⟨C,L,R,x,a,b,d,e,rfl,h1,h2,h3⟩
 | r+1,j,C,L,R,x,a,b,d,e,hj,h1,h2,h3=>by
   obtain⟨s,t,c',l',a',b',d',e',ht,htl,st⟩:=yx w n cell base C L R j (by omega) a b d e (by omega) (by omega);have hl:=mQ ht
   have hp:(pre s j).length<=1:=by unfold pre;split<;>(try split)<;>simp
   have hS:SmR (R++(pre s j++t)) (C+sI s c') (L++sL s l'):=by
    rcases h3 with⟨rfl,rfl,rfl,rfl⟩ | h3
    .have:=SmR.mk s ht .nil
     cases s<;>simpa[pre]using this
    .by_cases hj0:j=0
     .subst hj0
      have:R=[]:=List.length_eq_zero_iff.mp (by omega);subst this;obtain⟨_,_,e,_⟩:=vU h3;cases e
     .have:=SmR.snoc h3 (b:=s) ht
      have e:pre s j=[sgn s]:=by
       unfold pre sgn
       cases s with
       | true=>rfl
       | false=>simp;omega
      rw[e];exact this
   obtain⟨C',L',R',x',a2,b2,d2,e2,g1,g2,g3,g4⟩:=p7 cell base r (j+1) (C+sI s c') (L++sL s l') (R++(pre s j++t)) (Z_ (.sh,.int (j:Int))) a' b' d' e' (by omega) (by rw[R4,kZ];omega) (by simp only[R4];omega) (.inr hS);refine⟨C',L',R',x',a2,b2,d2,e2,?_,by omega,by omega,?_⟩
   .rw[Vj,QL]
    exact lQ (δ1:=Sd cell base C L R (Z_ (.sh,.int (j:Int))) a b d e) rfl rfl st g1
   .exact g4.imp (λz=>absurd z.1 (by omega)) id
noncomputable def cI(c:Int)(l:List Pair)(ts:List (List Nat)):D:=.tup [.int c,.lst (l.map prD),.lst (ts.map .str)]
def uT(cell base:Int):∃c l ts,SmR ts c l/\ts.length<=12/\l.length<=3/\(orc prg w (n+2)).fn 25 [.int cell,.int base]=.ok (ZZ,cI c l ts):=by
 have r3:=fD cell 0 3 (by decide)
 obtain⟨m,hm,hm3⟩:∃m:Nat,1+mixV cell 0 3=(m:Int)/\1<=m/\m<=3:=⟨(1+mixV cell 0 3).toNat,by omega,by omega,by omega⟩
 obtain⟨C,L,R,x',a,b,d,e,g1,g2,g3,g4⟩:=p7 w n cell base m 0 0 [] [] none none none none none (by omega) (by simp) (by simp) (.inl ⟨rfl,rfl,rfl,rfl⟩)
 have hS:SmR R C L:=g4.resolve_left λz=>by omega
 refine⟨C,L,R,hS,by omega,by omega,?_⟩;rw[aP (d:=f25) rfl]
 have hI:evI (orc prg w (n+1)) (Sd cell base 0 [] [] none none none none none) ZZ sdI=.ok ((V7 0 m).map λ(k:Nat)=>Xk (k:Int)):=by
  rw[<-Ut];exact K9.rng1_ev (w:=ZZ) ((aq aj (az (aa rfl (ak rfl) (aa rfl aj (aa rfl aj ao))) (jB w n cell 3 0 (by decide) (by decide))) (cD _ _)).trans (by rw[hm])) (by omega)
 refine aF rfl rfl (stp _ (aA aj rfl) (stp _ (aA (bx ao rfl) rfl) (stp (Sd cell base 0 [] [] none none none none none) (aA (bx ao rfl) rfl) (stp _ (fors rfl hI g1) (stpR (retS rfl ?_ rfl (aY (aa rfl (ak rfl) (aa rfl (ak rfl) (aa rfl (ak rfl) ao))) rfl)))))))
 rfl
def Hv(o:Orc)(L:List Pair):bB (λx=>ev o ((x++[]).map λd=>some (Own.sh,d)) ZZ (XF (Xl (Xi 0) (Xl (XM (Xi 1)) Xo)))) (λx=>ev o ((x++[]).map λd=>some (Own.sh,d)) ZX (Xj (XN ZX))) 2 ZX (L.map prD)=.ok ((negL L).map prD):=by
 have e1:L.map prD=(L.map λp=>[Xq p.1,Xk p.2]).map .tup:=by simp[prD,RD,T6]
 have e2:(negL L).map prD=(L.map λp=>[Xq p.1,Xk p.2]).map λx=>match x with | [.str n,.int k]=>prD (n,-k) | _=>.non:=by simp[negL,RD,T6]
 rw[e1,e2];refine mG ?_ ?_ ?_
 .intro x hx
  obtain⟨p,_,rfl⟩:=Rx.mp hx
  rfl
 .intro x _;simp[ev]
 .intro x hx
  obtain⟨p,_,rfl⟩:=Rx.mp hx;exact⟨false,aY (aa rfl (ak rfl) (aa rfl (Qy (ak rfl)) ao)) rfl⟩
def Hf(c:Int)(l:List Pair)(x:D)(hx:jk x=Z_ (l.map prD))(hl:l.length<64):(orc prg w (n+1)).fn 24 [.int c,x]=.ok (ZZ,sumD c l):=by
 rw[aP (d:=soFd) rfl];exact vJ _ c l x hx (by omega) (KU.keysOf_len l hl)
def wz(c c':Int)(l l':List Pair)(ts ts':List (List Nat))(hl:l.length<=3)(hl':l'.length<=3):(orc prg w (n+2)).fn 26 [cI c l ts,cI c' l' ts']=.ok (ZZ,sumD (c-c') (l++negL l')):=by
 rw[aP (d:=f26) rfl];have hcm:ev (orc prg w (n+1)) [some (.sh,cI c l ts),some (.sh,cI c' l' ts')] ZX (XQ [] 2 ZX (XJ (Xv (Xi 1) (Xj (Xk 1)))) (Xj (XN ZX)) (XF (Xl (Xi 0) (Xl (XM (Xi 1)) Xo))))=.ok (ZX,.lst ((negL l').map prD)):=lN _ _ ZX _ [] [] _ _ 2 ZX _ _ (ji (w:=ZZ) (c7 (ak rfl) aj (bu rfl rfl)) rfl) rfl rfl (by simp[negL];omega) (Hv _ l');refine aF rfl rfl (stpR (retR (az (aa rfl (aq (c7 (ak rfl) aj (bu rfl rfl)) (c7 (ak rfl) aj (bu rfl rfl)) (Ay _ _)) (aa (w:=ZX) (x:=.lst ((l++negL l').map prD)) rfl (aq (c7 (ak rfl) aj (bu rfl rfl)) hcm ?_) ao)) (Hf w n (c-c') (l++negL l') _ rfl (by simp[negL];omega))) rfl));rw[UV];exact cT (by simp[negL];omega)
def Q3(c c':Int)(l l':List Pair):sumD (c-c') (l++negL l')=ov c c' l l':=by rw[Int.sub_eq_add_neg];rfl
def Qg(c c':Int)(l l':List Pair):sumD (c'-c) (l'++negL l)=no c c' l l':=by
 have hn:∀m:List Pair,negL m=m.map λp=>(p.1,-1*p.2):=λm=>by unfold negL;congr 1;funext p;rw[Int.neg_one_mul]
 unfold no sumD;rw[show c'-c=-(c+-c') by omega,lC (l:=l'++negL l) (m:=negL (l++negL l')) λx=>by rw[hn (l++negL l'),dY,eV,eV,hn l,hn l',dY,dY];omega]
noncomputable def pairD(d:D)(ts:List (List Nat)):D:=.tup [d,.lst (ts.map .str)]
noncomputable def Rw(one oth way due m:Option Slot)(cell base:Int):Dst:=[some (.sh,.int cell),some (.sh,.int base),one,oth,way,due,m]
def idx2(h:δ[i]?=Z_ (Z_ (.sh,cI c l ts))):ev o δ lk (Xv (Xi i) (Xj (Xk 2)))=.ok (ZZ,.lst (ts.map .str)):=c7 (ak h) aj (bu rfl rfl)
def Km(cell base:Int):∃d ts,RlR ts d/\ts.length<=27/\(orc prg w (n+3)).fn 27 [.int cell,.int base]=.ok (ZZ,pairD d ts):=by
 obtain⟨c,l,a,ha,za,zl,ea⟩:=uT w n (cell.fdiv 4) base;obtain⟨c',l',b,hb,zb,zl',eb⟩:=uT w n (31*cell.fdiv 4+7) base
 have hz:a.length+b.length+l.length+l'.length<=38:=by omega
 rw[aP (d:=f27) rfl];have s0:evS (orc prg w (n+2)) (Xw 2 (Xy 25 (Xl (Xm .fdiv (Xi 0) (Xj (Xk 4))) (Xl (Xi 1) Xo)))) (Rw none none none none none cell base)=.nx (Rw (Z_ (.sh,cI c l a)) none none none none cell base):=aA (az (aa rfl (aq (ak rfl) aj (dO _ _ (by decide))) (aa rfl (ak rfl) ao)) ea) rfl;have s1:evS (orc prg w (n+2)) (Xw 3 (Xy 25 (Xl (Xm .add (Xm .mul (Xj (Xk 31)) (Xm .fdiv (Xi 0) (Xj (Xk 4)))) (Xj (Xk 7))) (Xl (Xi 1) Xo)))) (Rw (Z_ (.sh,cI c l a)) none none none none cell base)=.nx (Rw (Z_ (.sh,cI c l a)) (Z_ (.sh,cI c' l' b)) none none none cell base):=aA (az (aa rfl (aq (aq aj (aq (ak rfl) aj (dO _ _ (by decide))) (mulE (jc _ _ (by decide)))) aj (cD _ _)) (aa rfl (ak rfl) ao)) eb) rfl;have s2:evS (orc prg w (n+2)) (Xw 4 (Xm .mod (Xi 0) (Xj (Xk 4)))) (Rw (Z_ (.sh,cI c l a)) (Z_ (.sh,cI c' l' b)) none none none cell base)=.nx (Rw (Z_ (.sh,cI c l a)) (Z_ (.sh,cI c' l' b)) (Z_ (.sh,.int (cell.fmod 4))) none none cell base):=aA (aq (ak rfl) aj (gP _ _ (by decide))) rfl;have lf:=wz w n c c' l l' a b zl zl';have lg:=wz w n c' c l' l b a zl' zl;rw[Q3]at lf;rw[Qg]at lg
 have hk:∀δ y,δ[4]?=Z_ (Z_ (Own.sh,Xk (cell.fmod 4)))->ev (orc prg w (n+2)) δ ZX (Xm .eq (Xi 4) (Xj (Xk y)))=.ok (ZZ,.bl (decide (cell.fmod 4=y))):=fun δ y h=>aq (ak h) aj (lR _ _)
 have hc:∀{x y:List (List Nat)},x.length<=40->y.length<=40->o2 .add (.lst (x.map .str)) (.lst (y.map .str))=.ok (ZX,.lst ((x++y).map .str)):=λ{x y} h1 h2=>by
  rw[UV];exact cT (by simp;omega)
 by_cases k0:cell.fmod 4=0
 .refine⟨_,a++GE::b,.ge ha hb hz,by simp;omega,aF rfl rfl (stp _ s0 (stp _ s1 (stp _ s2 (stpR (ifsT (hk _ _ rfl) (decide_eq_true k0) (stR (retR (aY (aa rfl (aY (aa rfl aj (aa rfl (az (aa rfl (ak rfl) (aa rfl (ak rfl) ao)) lf) ao)) rfl) (aa (w:=ZX) rfl (aq (aq (idx2 rfl) (bx (aa rfl aj ao) rfl) (hc (x:=a) (y:=[GE]) (by omega) (by simp))) (idx2 rfl) ((hc (x:=a++[GE]) (y:=b) (by simp;omega) (by omega)).trans (by rw[S7];rfl))) ao)) rfl) rfl)))))))⟩
 by_cases k1:cell.fmod 4=1
 .refine⟨_,a++LE::b,.le ha hb hz,by simp;omega,aF rfl rfl (stp _ s0 (stp _ s1 (stp _ s2 (stp _ (ifN ((hk _ _ rfl).trans (by rw[decide_eq_false k0]))) (stpR (ifsT (hk _ _ rfl) (decide_eq_true k1) (stR (retR (aY (aa rfl (aY (aa rfl aj (aa rfl (az (aa rfl (ak rfl) (aa rfl (ak rfl) ao)) lg) ao)) rfl) (aa (w:=ZX) rfl (aq (aq (idx2 rfl) (bx (aa rfl aj ao) rfl) (hc (x:=a) (y:=[LE]) (by omega) (by simp))) (idx2 rfl) ((hc (x:=a++[LE]) (y:=b) (by simp;omega) (by omega)).trans (by rw[S7];rfl))) ao)) rfl) rfl))))))))⟩
 by_cases k2:cell.fmod 4=2
 .refine⟨_,a++EQ::b,.eq ha hb hz,by simp;omega,aF rfl rfl (stp _ s0 (stp _ s1 (stp _ s2 (stp _ (ifN ((hk _ _ rfl).trans (by rw[decide_eq_false k0]))) (stp _ (ifN ((hk _ _ rfl).trans (by rw[decide_eq_false k1]))) (stpR (ifsT (hk _ _ rfl) (decide_eq_true k2) (st2 (aA (aY (aa rfl aj (aa rfl (aY (aa rfl (aY (aa rfl aj (aa rfl (az (aa rfl (ak rfl) (aa rfl (ak rfl) ao)) lf) ao)) rfl) (aa rfl (aY (aa rfl aj (aa rfl (az (aa rfl (ak rfl) (aa rfl (ak rfl) ao)) lg) ao)) rfl) ao)) rfl) ao)) rfl) rfl) (stR (retR (aY (aa rfl (ak rfl) (aa (w:=ZX) rfl (aq (aq (idx2 rfl) (bx (aa rfl aj ao) rfl) (hc (x:=a) (y:=[EQ]) (by omega) (by simp))) (idx2 rfl) ((hc (x:=a++[EQ]) (y:=b) (by simp;omega) (by omega)).trans (by rw[S7];rfl))) ao)) rfl) rfl))))))))))⟩
 have r50:=aG (cell.fdiv 4) 50 (by decide);have r30:=aG (cell.fdiv 4) 1000000000000000000000000000000 (by decide)
 obtain⟨m,hm,hm0,hm60⟩:∃m:Nat,(if(cell.fdiv 8).fmod 3=0 then 1+(cell.fdiv 4).fmod 1000000000000000000000000000000 else 1+(cell.fdiv 4).fmod 50)=(m:Int)/\m≠0/\m<10 ^ 60:=by
  split
  .exact⟨(1+(cell.fdiv 4).fmod 1000000000000000000000000000000).toNat,by omega,by omega,Rk (show(1+(cell.fdiv 4).fmod 1000000000000000000000000000000).toNat<1000000000000000000000000000002 by omega) (by decide)⟩
  .exact⟨(1+(cell.fdiv 4).fmod 50).toNat,by omega,by omega,Rk (show(1+(cell.fdiv 4).fmod 50).toNat<52 by omega) (by decide)⟩
 have s6:evS (orc prg w (n+2)) (Xw 6 (Xm .add (Xj (Xk 1)) (Xm .mod (Xm .fdiv (Xi 0) (Xj (Xk 4))) (Xj (Xk 50))))) (Rw (Z_ (.sh,cI c l a)) (Z_ (.sh,cI c' l' b)) (Z_ (.sh,.int (cell.fmod 4))) none none cell base)=.nx (Rw (Z_ (.sh,cI c l a)) (Z_ (.sh,cI c' l' b)) (Z_ (.sh,.int (cell.fmod 4))) none (Z_ (.sh,.int (1+(cell.fdiv 4).fmod 50))) cell base):=aA (aq aj (aq (aq (ak rfl) aj (dO _ _ (by decide))) aj (gP _ _ (by decide))) (cD _ _)) rfl
 have s7:evS (orc prg w (n+2)) (Xx (Xm .eq (Xm .mod (Xm .fdiv (Xi 0) (Xj (Xk 8))) (Xj (Xk 3))) (Xj (Xk 0))) (Xn (Xw 6 (Xm .add (Xj (Xk 1)) (Xm .mod (Xm .fdiv (Xi 0) (Xj (Xk 4))) (Xm .pow (Xj (Xk 10)) (Xj (Xk 30)))))) Xp) Xp) (Rw (Z_ (.sh,cI c l a)) (Z_ (.sh,cI c' l' b)) (Z_ (.sh,.int (cell.fmod 4))) none (Z_ (.sh,.int (1+(cell.fdiv 4).fmod 50))) cell base)=.nx (Rw (Z_ (.sh,cI c l a)) (Z_ (.sh,cI c' l' b)) (Z_ (.sh,.int (cell.fmod 4))) none (Z_ (.sh,.int (m:Int))) cell base):=by
  have h8:ev (orc prg w (n+2)) (Rw (Z_ (.sh,cI c l a)) (Z_ (.sh,cI c' l' b)) (Z_ (.sh,.int (cell.fmod 4))) none (Z_ (.sh,.int (1+(cell.fdiv 4).fmod 50))) cell base) ZX (Xm .eq (Xm .mod (Xm .fdiv (Xi 0) (Xj (Xk 8))) (Xj (Xk 3))) (Xj (Xk 0)))=.ok (ZZ,.bl (decide ((cell.fdiv 8).fmod 3=0))):=aq (aq (aq (ak rfl) aj (dO _ _ (by decide))) aj (gP _ _ (by decide))) aj (lR _ _)
  by_cases h:(cell.fdiv 8).fmod 3=0
  .rw[if_pos h]at hm
   exact ifsT h8 (decide_eq_true h) (one (aA (aq aj (aq (aq (ak rfl) aj (dO _ _ (by decide))) (aq aj aj (PQ (c:=1000000000000000000000000000000) (by decide) (by decide))) (gP _ _ (by decide))) ((cD _ _).trans (by rw[hm]))) rfl))
  .rw[if_neg h]at hm
   exact(ifN (h8.trans (by rw[decide_eq_false h]))).trans (by rw[hm])
 have htx:b1D .str (.int (m:Int))=.ok (ZZ,.str (figs m)):=by
  rw[NZ (Rk (show(m:Int).natAbs<10 ^ 60 by simpa using hm60) (by decide))];simp[cZ,show ¬(m:Int)<0 by omega]
 have hR:=RlR.al ha hb hz (qC hm60) (by rw[iW];exact hm0);rw[iW]at hR;refine⟨_,_,hR,by simp;omega,aF rfl rfl (stp _ s0 (stp _ s1 (stp _ s2 (stp _ (ifN ((hk _ _ rfl).trans (by rw[decide_eq_false k0]))) (stp _ (ifN ((hk _ _ rfl).trans (by rw[decide_eq_false k1]))) (stp _ (ifN ((hk _ _ rfl).trans (by rw[decide_eq_false k2]))) (stp _ s6 (stp _ s7 (stpR (retR (aY (aa rfl (aY (aa rfl aj (aa rfl (ak rfl) (aa rfl (az (aa rfl (ak rfl) (aa rfl (ak rfl) ao)) lf) ao))) rfl) (aa (w:=ZX) rfl (aq (aq (aq (idx2 rfl) (bx (aa rfl aj ao) rfl) (hc (x:=a) (y:=[ALK]) (by omega) (by simp))) (idx2 rfl) (hc (x:=a++[ALK]) (y:=b) (by simp;omega) (by omega))) (bx (aa rfl aj (aa rfl (e_b1 (ak rfl) htx) ao)) rfl) ((hc (x:=a++[ALK]++b) (y:=[BY,figs m]) (by simp;omega) (by simp)).trans (by simp))) ao)) rfl) rfl)))))))))) ⟩
end
end KX
namespace KX
open Z KG P11
open KU (iK sO xZ)
noncomputable def cmB:SL:=(Xn (Xx (Xm .gt (Xi 2) (Xj (Xk 0))) (Xn (XS 1 (Xj (Xq [44]))) Xp) Xp) (Xn (Xw 1 (Xm .add (Xi 1) (Xv (Xi 0) (Xi 2)))) Xp))
def zz(l:List (List (List Nat)))(r:List (List Nat))(h:l≠[]):cms (l++[r])=cms l++([44]::r):=by
 cases l with
 | nil=>exact absurd rfl h
 | cons a l=>simp[cms]
def mJ:∀l:List (List (List Nat)),(cms l).length<=(l.map λr=>r.length+1).sum
 | []=>by simp[cms]
 | r::l=>by
   have:((l.map λr=>[44]::r).flatten).length=(l.map λr=>r.length+1).sum:=by
    induction l with
    | nil=>rfl
    | cons a l ih=>simp[ih];omega
   simp only[cms,R4,this,QL,Wf];omega
noncomputable def my(rs:List (List (List Nat))):D:=.lst (rs.map λr=>.lst (r.map .str))
section
variable(w n:Nat)
theorem xg(rs:List (List (List Nat)))(hs:(rs.map λr=>r.length+1).sum<=900):∀(todo don:List (List (List Nat)))(x:Option Slot),rs=don++todo ->
 ∃x',cF (evSs (orc prg w n) cmB) [2] ZZ ((V7 don.length todo.length).map λ(k:Nat)=>Xk (k:Int)) [some (.sh,my rs),some (.ow,.lst ((cms don).map .str)),x]=.nx [some (.sh,my rs),some (.ow,.lst ((cms rs).map .str)),x']
 | [],don,x,h=>⟨x,by rw[RC]at h;rw[h];rfl⟩
 | r::todo,don,x,h=>by
   have hb:(cms don).length+r.length+1<=900:=by
    have h1:=mJ don;rw[h,UV,List.sum_append,QL,Wf]at hs;omega
   have hi:idxD (my rs) (.int (don.length:Int))=.ok (ZZ,.lst (r.map .str)):=ju (by omega) (by rw[U0,h];simp)
   have e:(don++[r]).length=don.length+1:=by simp
   obtain⟨x',ih⟩:=xg rs hs todo (don++[r]) (Z_ (.sh,.int (don.length:Int))) (by rw[h];simp);refine⟨x',?_⟩;rw[R6,Vj,QL];rw[e]at ih;refine lQ (δ1:=[some (.sh,my rs),some (.ow,.lst ((cms don).map .str)),some (.sh,.int (don.length:Int))]) (δ2:=[some (.sh,my rs),some (.ow,.lst ((cms (don++[r])).map .str)),some (.sh,.int (don.length:Int))]) rfl rfl ?_ ih
   by_cases hd:don=[]
   .subst hd
    refine st2 (ifN (w:=ZZ) (aq (ak rfl) aj (eF (K9.o_gt _ _) (by decide)))) (one ((aA (aq (bU rfl) (c7 (ak rfl) (ak rfl) hi) (cT (by simp[cms];omega))) rfl).trans ?_));simp[cms]
   .have hp:0<don.length:=by cases don with | nil=>exact absurd rfl hd | cons a l=>simp
    refine st2 (ifsT (w:=ZZ) (aq (ak rfl) aj (K9.o_gt _ _)) (decide_eq_true (by omega)) (one (appO aj rfl (by rw[R5];omega)))) (one ((aA (aq (bU rfl) (c7 (ak rfl) (ak rfl) hi) (cT (by simp;omega))) rfl).trans ?_));rw[zz _ _ hd];simp
def My(rs:List (List (List Nat)))(hs:(rs.map λr=>r.length+1).sum<=900)(hl:rs.length<=1000):(orc prg w (n+1)).fn 28 [my rs]=.ok (ZX,.lst ((cms rs).map .str)):=by
 rw[aP (d:=f28) rfl];obtain⟨x',h⟩:=xg w n rs hs rs [] none rfl
 have hI:evI (orc prg w n) [some (.sh,my rs),some (.ow,.lst []),none] ZZ (Y6 (XD .len (Xi 0)))=.ok ((V7 0 rs.length).map λ(k:Nat)=>Xk (k:Int)):=by
  rw[<-Ut];exact K9.rng1_ev (e_b1 (ak rfl) ((jW _).trans (by rw[R5]))) (by omega)
 exact aF rfl rfl (stp _ (aA (bx ao rfl) rfl) (stp _ (fors rfl hI h) (stpR (MF rfl))))
noncomputable def prsD(l:List (List (List Nat)×D)):D:=.lst (l.map λq=>pairD q.2 q.1)
def yd(o:Orc)(l:List (List (List Nat)×D))(k:Int)(f:List (List Nat)×D->D)(h:∀q∈l,idxD (pairD q.2 q.1) (.int k)=.ok (ZZ,f q)):bB (λx=>ev o ((x++[]).map λd=>some (Own.sh,d)) ZZ (Xv (Xi 0) (Xj (Xk k)))) (λx=>ev o ((x++[]).map λd=>some (Own.sh,d)) ZX (Xj (XN ZX))) 1 ZZ (l.map λq=>pairD q.2 q.1)=.ok (l.map f) :=
 rH (λq _=>by simp[ev]) λq hq=>⟨false,(c7 (ak rfl) aj (h q hq))⟩
def Dj(x:List Nat)(l:List (List (List Nat)×D))(hs:(l.map λq=>q.1.length+1).sum<=800)(hl:l.length<=50):(orc prg w (n+2)).fn 30 [.str x,prsD l]=.ok (ZZ,pairD (.tup [.str x,.tup (l.map (·.2))]) (x::[40]::(cms (l.map (·.1))++[[41]]))):=by
 rw[aP (d:=f30) rfl]
 have c1:∀lk,ev (orc prg w (n+1)) [some (.sh,.str x),some (.sh,prsD l),none] lk (XQ [] 1 ZZ (XJ (Xi 1)) (Xj (XN ZX)) (Xv (Xi 0) (Xj (Xk 1))))=.ok (ZX,my (l.map (·.1))):=λlk=>by
  have:=lN (orc prg w (n+1)) [some (.sh,.str x),some (.sh,prsD l),none] lk (XJ (Xi 1)) [] [] _ _ 1 ZZ _ _ (ji (w:=ZZ) (ak rfl) rfl) rfl rfl (by simp;omega) (yd _ l 1 (λq=>.lst (q.1.map .str)) λq _=>bu rfl rfl);rw[this];simp[my,RD,T6]
 have hz:=mJ (l.map (·.1));rw[RD]at hz;have hz:(cms (l.map (·.1))).length<=800:=RP hz hs
 have s0:evS (orc prg w (n+1)) (Xw 2 (Xm .add (Xm .add (XH (Xl (Xi 0) (Xl (Xj (Xq [40])) Xo))) (Xy 28 (Xl (XQ [] 1 ZZ (XJ (Xi 1)) (Xj (XN ZX)) (Xv (Xi 0) (Xj (Xk 1)))) Xo))) (XH (Xl (Xj (Xq [41])) Xo)))) [some (.sh,.str x),some (.sh,prsD l),none]=.nx [some (.sh,.str x),some (.sh,prsD l),some (.ow,.lst ((x::[40]::(cms (l.map (·.1))++[[41]])).map .str))]:=by
  refine(aA (aq (aq (bx (aa rfl (ak rfl) (aa rfl aj ao)) rfl) (az (aa rfl (c1 ZZ) ao) (My w n (l.map (·.1)) (by rw[RD];exact RP hs (by omega)) (by simp;omega))) (cT (by simp;omega))) (bx (aa rfl aj ao) rfl) (cT (by simp;omega))) rfl).trans ?_;simp
 have c2:∀δ lk,δ[1]?=Z_ (Z_ (Own.sh,prsD l))->ev (orc prg w (n+1)) δ lk (XQ [] 1 ZZ (XJ (Xi 1)) (Xj (XN ZX)) (Xv (Xi 0) (Xj (Xk 0))))=.ok (ZX,.lst (l.map (·.2))):=fun δ lk h=>lN (orc prg w (n+1)) δ lk (XJ (Xi 1)) [] [] _ _ 1 ZZ _ _ (ji (w:=ZZ) (ak h) rfl) rfl rfl (by simp;omega) (yd _ l 0 (λq=>q.2) λq _=>bu rfl rfl)
 have hst:ev (orc prg w (n+1)) [some (.sh,.str x),some (.sh,prsD l),some (.ow,.lst ((x::[40]::(cms (l.map (·.1))++[[41]])).map .str))] ZZ (XF (Xl (XF (Xl (Xi 0) (Xl (XD .tuple (XQ [] 1 ZZ (XJ (Xi 1)) (Xj (XN ZX)) (Xv (Xi 0) (Xj (Xk 0))))) Xo))) (Xl (Xi 2) Xo)))=.stuck:=by
  have e1:ev (orc prg w (n+1)) [some (.sh,.str x),some (.sh,prsD l),some (.ow,.lst ((x::[40]::(cms (l.map (·.1))++[[41]])).map .str))] ZZ (XF (Xl (Xi 0) (Xl (XD .tuple (XQ [] 1 ZZ (XJ (Xi 1)) (Xj (XN ZX)) (Xv (Xi 0) (Xj (Xk 0))))) Xo)))=.ok (ZZ,.tup [.str x,.tup (l.map (·.2))]):=aY (aa rfl (ak rfl) (aa rfl (e_b1 (c2 _ ZX rfl) (sH _)) ao)) rfl;rw[ev,evL,show bR _ (XF _)=ZZ from rfl,e1]
  rfl
 exact aF rfl rfl (stp _ s0 (stpR (retS rfl hst rfl (aY (aa rfl (aY (aa rfl (ak rfl) (aa rfl (e_b1 (c2 _ ZX rfl) (sH _)) ao)) rfl) (aa rfl (ak rfl) ao)) rfl))))
end
end KX
namespace KX
open Z KG P11
open KU (iK sO)
noncomputable def ppC:T:=(Y0 (Xm .gt (Xi 5) (Xj (Xk 3))) (Y0 (Xm .eq (XD .len (Xi 2)) (Xj (Xk 0))) (Xm .gt (XD .max (Xi 3)) (Xj (Xk 12)))))
noncomputable def pn0:S:=(Y5 2 (XM (Xj (Xk 1))) (XF (Xl (XF (Xl (Xj (Xq [110,111,116])) (Xl (Xv (Xv (Xi 2) (XM (Xj (Xk 1)))) (Xj (Xk 0))) Xo))) (Xl (Xm .add (Xm .add (XH (Xl (Xj (Xq [110,111,116])) (Xl (Xj (Xq [40])) Xo))) (Xv (Xv (Xi 2) (XM (Xj (Xk 1)))) (Xj (Xk 1)))) (XH (Xl (Xj (Xq [41])) Xo))) Xo))))
noncomputable def pn1:S:=(Y5 3 (XM (Xj (Xk 1))) (Xm .add (Xv (Xi 3) (XM (Xj (Xk 1)))) (Xj (Xk 1))))
noncomputable def pt0:S:=(Xw 6 (Xv (XH (Xl (Xj (Xq [115,111,109,101])) (Xl (Xj (Xq [97,108,108])) Xo))) (Xm .mod (Xm .fdiv (Xi 4) (Xj (Xk 7))) (Xj (Xk 2)))))
noncomputable def pt1:S:=(Xw 7 (Xy 22 (Xl (Xm .mod (Xm .fdiv (Xi 4) (Xj (Xk 14))) (Xj (Xk 5))) (Xl (Xi 1) Xo))))
noncomputable def pt2:S:=(Y5 2 (XM (Xj (Xk 1))) (XF (Xl (XF (Xl (Xi 6) (Xl (Xi 7) (Xl (Xv (Xv (Xi 2) (XM (Xj (Xk 1)))) (Xj (Xk 0))) Xo)))) (Xl (Xm .add (Xm .add (XH (Xl (Xi 6) (Xl (Xj (Xq [40])) (Xl (Xi 7) (Xl (Xj (Xq [44])) Xo))))) (Xv (Xv (Xi 2) (XM (Xj (Xk 1)))) (Xj (Xk 1)))) (XH (Xl (Xj (Xq [41])) Xo))) Xo))))
noncomputable def pt3:S:=(Y5 3 (XM (Xj (Xk 1))) (Xm .add (Xv (Xi 3) (XM (Xj (Xk 1)))) (Xj (Xk 1))))
noncomputable def pg0:S:=(Xw 8 (Xm .sub (XD .len (Xi 2)) (T.b2 .min (Xm .mod (Xm .fdiv (Xi 4) (Xj (Xk 7))) (Xj (Xk 4))) (XD .len (Xi 2)))))
noncomputable def pg1:S:=(Xw 2 (Xm .add (XR (Xi 2) (Xj Yc) (Xi 8)) (XH (Xl (Xy 30 (Xl (Xv (XH (Xl (Xj (Xq [97,110,100])) (Xl (Xj (Xq [111,114])) Xo))) (Xm .sub (Xi 5) (Xj (Xk 2)))) (Xl (XR (Xi 2) (Xi 8) (Xj Yc)) Xo))) Xo))))
noncomputable def pg2:S:=(Xw 3 (Xm .add (XR (Xi 3) (Xj Yc) (Xm .add (Xi 8) (Xj (Xk 1)))) (XH (Xl (Xm .add (Xj (Xk 1)) (XD .max (Xm .add (XH (Xl (Xj (Xk 0)) Xo)) (XR (Xi 3) (Xm .add (Xi 8) (Xj (Xk 1))) (Xj Yc))))) Xo))))
noncomputable def ppB:SL:=(Xn (Xw 5 (Xm .mod (Xi 4) (Xj (Xk 7)))) (Xn (Xx ppC (Xn (XS 2 (Xy 27 (Xl (Xm .fdiv (Xi 4) (Xj (Xk 7))) (Xl (Xi 1) Xo)))) (Xn (XS 3 (Xj (Xk 0))) Xp)) (Xn (Xx (Xm .eq (Xi 5) (Xj (Xk 0))) (Xn pn0 (Xn pn1 Xp)) (Xn (Xx (Xm .eq (Xi 5) (Xj (Xk 1))) (Xn pt0 (Xn pt1 (Xn pt2 (Xn pt3 Xp)))) (Xn pg0 (Xn pg1 (Xn pg2 Xp)))) Xp)) Xp)) Xp))
abbrev Itm:Type:=Nat×(List (List Nat)×D)
noncomputable def rowI(q:Itm):D:=pairD q.2.2 q.2.1
noncomputable def depI(q:Itm):D:=.int (q.1:Int)
noncomputable def wt(l:List Itm):Nat:=(l.map λq=>q.2.1.length+1).sum
def jP(a b:List Itm):wt (a++b)=wt a+wt b:=by simp[wt]
def gG(q:Itm):wt [q]=q.2.1.length+1:=by simp[wt]
def IOk(l:List Itm):Prop:=∀q∈l,PtR q.1 q.2.1 q.2.2/\q.1<=13
noncomputable def Pw(cells:D)(base:Int)(it:List Itm)(a b c d e:Option Slot):Dst:=[some (.sh,cells),some (.sh,.int base),some (.ow,.lst (it.map rowI)),some (.ow,.lst (.int 0::it.map depI)),a,b,c,d,e]
theorem qZ:∀l:List Itm,intsOf (l.map depI)=Z_ (l.map λq=>(q.1:Int))
 | []=>rfl
 | q::l=>by simp only[QL,depI,intsOf,qZ l];rfl
theorem ym:∀(l:List Itm)(a:Nat),∃v:Nat,(l.map λq=>(q.1:Int)).foldl (λm z=>if z>m then z else m) (a:Int)=(v:Int)/\a<=v/\(∀q∈l,q.1<=v)/\∀b,a<=b->(∀q∈l,q.1<=b)->v<=b
 | [],a=>⟨a,rfl,Ra _,(λ_ h=>by cases h),λb h _=>h⟩
 | q::l,a=>by
   obtain⟨v,h1,h2,h3,h4⟩:=ym l (if q.1>a then q.1 else a);refine⟨v,?_,by split at h2<;>omega,λx hx=>?_,λb hb hq=>h4 b (by have:=hq q QM;split<;>omega) λx hx=>hq x (QQ _ hx)⟩
   .rw[QL,UW,<-h1]
    congr 1
    by_cases h:q.1>a
    .rw[if_pos h,if_pos (by omega)]
    .rw[if_neg h,if_neg (by omega)]
   .rcases R8.mp hx with rfl | hx
    .split at h2<;>omega
    .exact h3 x hx
def vR(l:List Itm):∃v:Nat,b1D .max (.lst (.int 0::l.map depI))=.ok (ZZ,.int (v:Int))/\(∀q∈l,q.1<=v)/\∀b,(∀q∈l,q.1<=b)->v<=b:=by
 obtain⟨v,h1,_,h3,h4⟩:=ym l 0;refine⟨v,?_,h3,λb hb=>h4 b (Va _) hb⟩
 have e:intsOf (.int 0::l.map depI)=Z_ (0::l.map λq=>(q.1:Int)):=by simp only[intsOf,qZ];rfl
 simp only[b1D,e,R7,Xu];rw[show(0:Int)=((0:Nat):Int)from rfl,h1]
section
variable(w n:Nat)
def catS{x y:List (List Nat)}(h:x.length+y.length<=1000):o2 .add (.lst (x.map .str)) (.lst (y.map .str))=.ok (ZX,.lst ((x++y).map .str)):=by
 rw[UV];exact cT (by simp;omega)
def yO(cells:D)(base cell:Int)(it:List Itm)(k:Nat)(hk:k<25)(h:IOk it)(hl:it.length<=k)(hw:wt it<=30*k)(b c d e:Option Slot) :
 ∃(it':List Itm)(b' c' d' e':Option Slot),IOk it'/\it'.length<=k+1/\wt it'<=30*(k+1)/\evSs (orc prg w (n+3)) ppB (Pw cells base it (Z_ (.sh,.int cell)) b c d e)=.nx (Pw cells base it' (Z_ (.sh,.int cell)) b' c' d' e'):=by
 have r7:=aG cell 7 (by decide);obtain⟨v,m1,m2,m3⟩:=vR it;have s0:evS (orc prg w (n+3)) (Xw 5 (Xm .mod (Xi 4) (Xj (Xk 7)))) (Pw cells base it (Z_ (.sh,.int cell)) b c d e)=.nx (Pw cells base it (Z_ (.sh,.int cell)) (Z_ (.sh,.int (cell.fmod 7))) c d e):=aA (aq (ak rfl) aj (gP _ _ (by decide))) rfl
 have hc:ev (orc prg w (n+3)) (Pw cells base it (Z_ (.sh,.int cell)) (Z_ (.sh,.int (cell.fmod 7))) c d e) ZX ppC=.ok (ZZ,.bl (decide (3<cell.fmod 7)||(decide ((it.length:Int)=0)||decide ((12:Int)<v)))) :=
  pK (aq (ak rfl) aj (K9.o_gt _ _)) (pK (aq (e_b1 (bU rfl) ((jW _).trans (by rw[R5]))) aj (lR _ _)) (aq (e_b1 (bU rfl) m1) aj (K9.o_gt _ _)))
 by_cases hg:(decide (3<cell.fmod 7)||(decide ((it.length:Int)=0)||decide ((12:Int)<v)))=ZX
 .obtain⟨dd,ts,hR,hts,ef⟩:=Km w n (cell.fdiv 7) base
  refine⟨it++[(0,ts,dd)],some (.sh,.int (cell.fmod 7)),c,d,e,λq hq=>?_,by simp;omega,by rw[jP,gG];show wt it+(ts.length+1)<=_;omega,st2 s0 (one (ifsT hc hg (st2 (appO (az (aa rfl (aq (ak rfl) aj (dO _ _ (by decide))) (aa rfl (ak rfl) ao)) ef) rfl (by rw[R5];omega)) (one ((appO aj rfl (by simp;omega)).trans ?_)))))⟩
  .rcases Sg.mp hq with hq | hq
   .exact h q hq
   .have:q=(0,ts,dd):=by simpa using hq
    subst this;exact⟨.rel 0 hR,Va _⟩
  .simp[Pw,rowI,depI]
 have hgf:(decide (3<cell.fmod 7)||(decide ((it.length:Int)=0)||decide ((12:Int)<v)))=ZZ:=Bool.eq_false_iff.mpr hg;have hg:=hgf;simp only[Rp,decide_eq_false_iff_not]at hg;obtain⟨g1,g2,g3⟩:=hg
 have h12:∀q∈it,q.1<=12:=λq hq=>by have:=m2 q hq;omega
 have s1:∀r,evSs (orc prg w (n+3)) (Xn (Xx (Xm .eq (Xi 5) (Xj (Xk 0))) (Xn pn0 (Xn pn1 Xp)) (Xn (Xx (Xm .eq (Xi 5) (Xj (Xk 1))) (Xn pt0 (Xn pt1 (Xn pt2 (Xn pt3 Xp)))) (Xn pg0 (Xn pg1 (Xn pg2 Xp)))) Xp)) Xp) (Pw cells base it (Z_ (.sh,.int cell)) (Z_ (.sh,.int (cell.fmod 7))) c d e)=.nx r->evSs (orc prg w (n+3)) ppB (Pw cells base it (Z_ (.sh,.int cell)) b c d e)=.nx r:=λr hr=>st2 s0 (one (ifsF hc hgf hr))
 have hy:∀δ y,δ[5]?=Z_ (Z_ (Own.sh,Xk (cell.fmod 7)))->ev (orc prg w (n+3)) δ ZX (Xm .eq (Xi 5) (Xj (Xk y)))=.ok (ZZ,.bl (decide (cell.fmod 7=y))):=fun δ y h=>aq (ak h) aj (lR _ _)
 by_cases kg:2<=cell.fmod 7
 .have r4:=aG (cell.fdiv 7) 4 (by decide)
  obtain⟨f,hf,hfl⟩:∃f:Nat,(it.length:Int)-(if(it.length:Int)<(cell.fdiv 7).fmod 4 then(it.length:Int)else(cell.fdiv 7).fmod 4)=(f:Int)/\f<=it.length:=by
   split
   .exact⟨0,by omega,by omega⟩
   .exact⟨it.length-((cell.fdiv 7).fmod 4).toNat,by omega,by omega⟩
  obtain⟨x,hx,hxw⟩:∃x,idxD (.lst [.str AND,.str OR]) (.int (cell.fmod 7-2))=.ok (ZZ,.str x)/\(x=AND\/x=OR):=by
   by_cases hz:cell.fmod 7=2
   .exact⟨AND,by rw[hz];rfl,.inl rfl⟩
   .exact⟨OR,by rw[show cell.fmod 7=3 by omega];rfl,.inr rfl⟩
  obtain⟨v',n1,n2,n3⟩:=vR (it.drop f)
  have hv':v'<=12:=n3 12 λq hq=>h12 q (List.mem_of_mem_drop hq)
  have hwd:wt (it.take f)+wt (it.drop f)=wt it:=by rw[<-jP,List.take_append_drop]
  have hgl:(((it.drop f).map (·.2)).map λq=>q.1.length+1).sum=wt (it.drop f):=by rw[RD];rfl
  have hcl:(cms (((it.drop f).map (·.2)).map (·.1))).length<=wt (it.drop f):=RP (mJ _) (by rw[RD,RD];exact Ra _);have gf:=Dj w (n+1) x ((it.drop f).map (·.2)) (by rw[hgl];omega) (by simp;omega)
  have ep:prsD ((it.drop f).map (·.2))=.lst ((it.map rowI).drop f):=by unfold prsD;rw[RD,<-List.map_drop];rfl
  rw[ep]at gf
  have hPt:PtR (v'+1) (x::[40]::(cms (((it.drop f).map (·.2)).map (·.1))++[[41]])) (.tup [.str x,.tup (((it.drop f).map (·.2)).map (·.2))]):=.grp x hxw _ (by simp;omega) λq hq=>by
   obtain⟨i,hi,rfl⟩:=Rx.mp hq;exact(h i (List.mem_of_mem_drop hi)).1.up (n2 i hi)
  generalize hT:x::[40]::(cms (((it.drop f).map (·.2)).map (·.1))++[[41]])=T2 at *
  have hTl:T2.length<=wt (it.drop f)+3:=by rw[<-hT];simp only[R6,R4,T4];omega
  generalize hD:Y7 [.str x,.tup (((it.drop f).map (·.2)).map (·.2))]=D2 at *;refine⟨it.take f++[(v'+1,T2,D2)],some (.sh,.int (cell.fmod 7)),c,d,some (.sh,.int (f:Int)),λq hq=>?_,by simp;omega,?_,s1 _ (one (ifsF (hy _ _ rfl) (decide_eq_false (by omega)) (one (ifsF (hy _ _ rfl) (decide_eq_false (by omega)) ?_))))⟩
  .rcases Sg.mp hq with hq | hq
   .exact h q (List.mem_of_mem_take hq)
   .have:q=(v'+1,T2,D2):=by simpa using hq
    subst this;exact⟨hPt,by show v'+1<=13;omega⟩
  .rw[jP,gG]
   show wt (it.take f)+(T2.length+1)<=_;omega
  .have e8:evS (orc prg w (n+3)) pg0 (Pw cells base it (Z_ (.sh,.int cell)) (Z_ (.sh,.int (cell.fmod 7))) c d e)=.nx (Pw cells base it (Z_ (.sh,.int cell)) (Z_ (.sh,.int (cell.fmod 7))) c d (Z_ (.sh,.int (f:Int)))) :=
    aA (aq (e_b1 (bU rfl) ((jW _).trans (by rw[R5]))) (e_b2 (aq (aq (ak rfl) aj (dO _ _ (by decide))) aj (gP _ _ (by decide))) (e_b1 (bU rfl) ((jW _).trans (by rw[R5]))) rfl) ((Ay _ _).trans (by rw[hf]))) rfl
   have hlr:(it.map rowI).length=it.length:=R5 _
   have hld:(Xk 0::it.map depI).length=it.length+1:=by simp
   have cf:((f:Int)+1)=((f+1:Nat):Int):=by simp
   have et:(it.map rowI).take f++[pairD D2 T2]=(it.take f++[(v'+1,T2,D2)]).map rowI:=by simp[rowI,List.map_take]
   have e2:evS (orc prg w (n+3)) pg1 (Pw cells base it (Z_ (.sh,.int cell)) (Z_ (.sh,.int (cell.fmod 7))) c d (Z_ (.sh,.int (f:Int))))=.nx [some (.sh,cells),some (.sh,.int base),some (.ow,.lst ((it.take f++[(v'+1,T2,D2)]).map rowI)),some (.ow,.lst (.int 0::it.map depI)),some (.sh,.int cell),some (.sh,.int (cell.fmod 7)),c,d,some (.sh,.int (f:Int))]:=by
    rw[<-et];exact aA (aq (fM (bU rfl) aj (ak rfl) rfl rfl (sO _ f (by omega))) (bx (aa rfl (az (aa rfl (c7 (bx (aa rfl aj (aa rfl aj ao)) rfl) (aq (ak rfl) aj (Ay _ _)) hx) (aa rfl (fM (bU rfl) (ak rfl) aj rfl rfl (iK _ f (by omega))) ao)) gf) ao) rfl) (cT (by simp;omega))) rfl
   have ed2:(Xk 0::it.map depI).take (f+1)++[.int ((1:Int)+(v':Int))]=.int 0::(it.take f++[(v'+1,T2,D2)]).map depI:=by
    simp[depI,List.map_take];omega
   have ed3:[Xk 0]++(Xk 0::it.map depI).drop (f+1)=.int 0::(it.drop f).map depI:=by simp[List.map_drop]
   have e3:evS (orc prg w (n+3)) pg2 [some (.sh,cells),some (.sh,.int base),some (.ow,.lst ((it.take f++[(v'+1,T2,D2)]).map rowI)),some (.ow,.lst (.int 0::it.map depI)),some (.sh,.int cell),some (.sh,.int (cell.fmod 7)),c,d,some (.sh,.int (f:Int))]=.nx (Pw cells base (it.take f++[(v'+1,T2,D2)]) (Z_ (.sh,.int cell)) (Z_ (.sh,.int (cell.fmod 7))) c d (Z_ (.sh,.int (f:Int)))):=by
    unfold Pw;rw[<-ed2];exact aA (aq (fM (bU rfl) aj ((aq (ak rfl) aj (cD _ _)).trans (by rw[cf])) rfl rfl (sO _ (f+1) (by omega))) (bx (aa rfl (aq aj (e_b1 (aq (bx (aa rfl aj ao) rfl) (fM (bU rfl) ((aq (ak rfl) aj (cD _ _)).trans (by rw[cf])) aj rfl rfl (iK _ (f+1) (by omega))) ((cT (by simp;omega)).trans (by rw[ed3]))) n1) (cD _ _)) ao) rfl) (cT (by simp;omega))) rfl
   exact st2 e8 (st2 e2 (one e3))
 obtain⟨it0,q,rfl⟩:∃it0 q,it=it0++[q]:=by
  rcases List.eq_nil_or_concat it with rfl | ⟨a,q,rfl⟩
  .exact absurd rfl g2
  .exact⟨a,q,by simp⟩
 obtain⟨dp,ts,dd⟩:=q;have hq:=h (dp,ts,dd) (by simp);have hq12:dp<=12:=h12 (dp,ts,dd) (by simp);rw[jP,gG]at hw;have hw:wt it0+(ts.length+1)<=30*k:=hw
 have hl:it0.length+1<=k:=by simpa using hl
 have er:(it0++[(dp,ts,dd)]).map rowI=it0.map rowI++[pairD dd ts]:=by simp[rowI]
 have ed:(Xk 0::(it0++[(dp,ts,dd)]).map depI)=(.int 0::it0.map depI)++[.int (dp:Int)]:=by simp[depI]
 have hP:∀a b c d e,Pw cells base (it0++[(dp,ts,dd)]) a b c d e=[some (.sh,cells),some (.sh,.int base),some (.ow,.lst (it0.map rowI++[pairD dd ts])),some (.ow,.lst ((.int 0::it0.map depI)++[.int (dp:Int)])),a,b,c,d,e]:=λa b c d e=>by unfold Pw;rw[er,ed]
 have hlast:∀{δ:Dst} {lk:Bool},δ[2]?=Z_ (Z_ (.ow,.lst (it0.map rowI++[pairD dd ts])))->ev (orc prg w (n+3)) δ lk (Xv (Xi 2) (XM (Xj (Xk 1))))=.ok (ZZ,pairD dd ts):=λhδ=>c7 (bU hδ) neg1 (sX _ _)
 have hdep:∀{δ:Dst},δ[3]?=Z_ (Z_ (.ow,.lst ((.int 0::it0.map depI)++[.int (dp:Int)])))->ev (orc prg w (n+3)) δ ZZ (Xm .add (Xv (Xi 3) (XM (Xj (Xk 1)))) (Xj (Xk 1)))=.ok (ZZ,.int ((dp+1:Nat):Int)):=λhδ=>aq (c7 (bU hδ) neg1 (sX _ _)) aj (cD _ _)
 have fin:∀{δ:Dst} {t2:List (List Nat)} {d2:D} {A B C E F:Option Slot},δ=[some (.sh,cells),some (.sh,.int base),some (.ow,.lst (it0.map rowI++[pairD d2 t2])),some (.ow,.lst ((.int 0::it0.map depI)++[.int (dp:Int)])),A,B,C,E,F]->evS (orc prg w (n+3)) pn1 δ=.nx (Pw cells base (it0++[(dp+1,t2,d2)]) A B C E F):=λ{δ t2 d2 A B C E F} hδ=>by
  subst hδ;refine(pO (q:=.ow) (hdep rfl) neg1 rfl (lO _ _ _)).trans ?_;simp[Pw,rowI,depI]
 have hIO:∀{t2:List (List Nat)}{d2:D},PtR (dp+1) t2 d2->IOk (it0++[(dp+1,t2,d2)]):=λ{t2 d2} hp q hq=>by
  rcases Sg.mp hq with hq | hq
  .exact h q (Tn _ hq)
  .have:q=(dp+1,t2,d2):=by simpa using hq
   subst this;exact⟨hp,by show dp+1<=13;omega⟩
 by_cases k0:cell.fmod 7=0
 .refine⟨it0++[(dp+1,NOT::[40]::(ts++[[41]]),.tup [.str NOT,dd])],some (.sh,.int (cell.fmod 7)),c,d,e,hIO (.nt hq.1),by simp;omega,?_,s1 _ ?_⟩
  .rw[jP,gG]
   show wt it0+((NOT::[40]::(ts++[[41]])).length+1)<=_;simp;omega
  .rw[hP]
   refine one (ifsT (hy _ _ rfl) (decide_eq_true k0) (st2 (pO (q:=.ow) (aY (aa rfl (aY (aa rfl aj (aa rfl (c7 (hlast rfl) aj (bu rfl rfl)) ao)) rfl) (aa (w:=ZX) (x:=.lst ((NOT::[40]::(ts++[[41]])).map .str)) rfl (aq (aq (bx (aa rfl aj (aa rfl aj ao)) rfl) (c7 (hlast rfl) aj (bu rfl rfl)) (catS (x:=[NOT,[40]]) (y:=ts) (by simp;omega))) (bx (aa rfl aj ao) rfl) ((catS (x:=[NOT,[40]]++ts) (y:=[[41]]) (by simp;omega)).trans (by simp))) ao)) rfl) neg1 rfl (lO _ _ _)) (one (fin rfl))))
 by_cases k1:cell.fmod 7=1
 .have hN:=Nt ((cell.fdiv 14).fmod 5) base
  have hnf:=name_fn w (n+2) ((cell.fdiv 14).fmod 5) base;generalize nm ((cell.fdiv 14).fmod 5) base=y at *;have r2:=aG (cell.fdiv 7) 2 (by decide)
  obtain⟨x,hx,hxw⟩:∃x,idxD (.lst [.str SOM,.str ALL]) (.int ((cell.fdiv 7).fmod 2))=.ok (ZZ,.str x)/\(x=SOM\/x=ALL):=by
   by_cases hz:(cell.fdiv 7).fmod 2=0
   .exact⟨SOM,by rw[hz];rfl,.inl rfl⟩
   .exact⟨ALL,by rw[show(cell.fdiv 7).fmod 2=1 by omega];rfl,.inr rfl⟩
  refine⟨it0++[(dp+1,x::[40]::y::[44]::(ts++[[41]]),.tup [.str x,.str y,dd])],some (.sh,.int (cell.fmod 7)),some (.sh,.str x),some (.sh,.str y),e,hIO (.trn x y hxw hN hq.1),by simp;omega,?_,s1 _ ?_⟩
  .rw[jP,gG]
   show wt it0+((x::[40]::y::[44]::(ts++[[41]])).length+1)<=_;simp;omega
  .rw[hP]
   refine one (ifsF (hy _ _ rfl) (decide_eq_false k0) (one (ifsT (hy _ _ rfl) (decide_eq_true k1) (st2 (aA (c7 (bx (aa rfl aj (aa rfl aj ao)) rfl) (aq (aq (ak rfl) aj (dO _ _ (by decide))) aj (gP _ _ (by decide))) hx) rfl) (st2 (aA (az (aa rfl (aq (aq (ak rfl) aj (dO _ _ (by decide))) aj (gP _ _ (by decide))) (aa rfl (ak rfl) ao)) hnf) rfl) (st2 (pO (q:=.ow) (aY (aa rfl (aY (aa rfl (ak rfl) (aa rfl (ak rfl) (aa rfl (c7 (hlast rfl) aj (bu rfl rfl)) ao))) rfl) (aa (w:=ZX) (x:=.lst ((x::[40]::y::[44]::(ts++[[41]])).map .str)) rfl (aq (aq (bx (aa rfl (ak rfl) (aa rfl aj (aa rfl (ak rfl) (aa rfl aj ao)))) rfl) (c7 (hlast rfl) aj (bu rfl rfl)) (catS (x:=[x,[40],y,[44]]) (y:=ts) (by simp;omega))) (bx (aa rfl aj ao) rfl) ((catS (x:=[x,[40],y,[44]]++ts) (y:=[[41]]) (by simp;omega)).trans (by simp))) ao)) rfl) neg1 rfl (lO _ _ _)) (one (fin rfl))))))))
 omega
end
end KX
namespace KX
open Z KG P11
open K9 (Txt Good Word Num Sgn tooL rowL fK)
open P09 (LET FIG SNG)
def HQ(h:Nb x):Good x:=.inr (.inl ⟨h.1,h.2.1⟩)
def Gs(h:Nm x):Good x:=by
 obtain⟨c,r,e,h1,h2,h3,_⟩:=h;exact .inl ⟨c,r,e,h1,h2,by omega⟩
def Q0(h:Nm x):x.length<=60:=by
 obtain⟨_,_,_,_,_,h3,_⟩:=h;omega
def qu(h:c∈SNG):Good [c]:=.inr (.inr (.inl ⟨c,h,rfl⟩))
def Jb(h:x∈WRD):Good x/\x.length<=60:=by
 simp only[WRD,R8,Ti,or_false]at h;rcases h with rfl | rfl | rfl | rfl | rfl | rfl | rfl<;>exact⟨.inl ⟨_,_,rfl,by decide,by decide,by decide⟩,by decide⟩
def Pc(p:List Nat):Prop:=(Good p/\p.length<=60)/\p≠[40]/\p≠[41]
def Gb(h:Nb x):Pc x:=⟨⟨HQ h,h.2.2.1⟩,λz=>by subst z;exact absurd (h.2.1 40 QM) (by decide),λz=>by subst z;exact absurd (h.2.1 41 QM) (by decide)⟩
def Gq(h:Nm x):Pc x:=⟨⟨Gs h,Q0 h⟩,λz=>by subst z;obtain⟨_,_,e,h1,_⟩:=h;cases e;exact absurd h1 (by decide),λz=>by subst z;obtain⟨_,_,e,h1,_⟩:=h;cases e;exact absurd h1 (by decide)⟩
def ur(h:c∈[44,43,45,42,61]):Pc [c]:=by
 have:∀c∈[44,43,45,42,61],c∈SNG/\c≠40/\c≠41:=by decide
 obtain⟨h1,h2,h3⟩:=this c h;exact⟨⟨qu h1,by simp⟩,by simpa using h2,by simpa using h3⟩
def vG(h:x∈WRD):Pc x :=
 ⟨Jb h,(show ∀x∈WRD,x≠[40] by decide) x h,(show ∀x∈WRD,x≠[41] by decide) x h⟩
def O1{t:List (List Nat)}{c:Int}{l:List Pair}(h:TmR t c l):∀p∈t,Pc p:=by
 cases h with
 | num x h=>intro p hp;have:p=x:=by simpa using hp
            subst this;exact Gb h
 | nam x h=>intro p hp;have:p=x:=by simpa using hp
            subst this;exact Gq h
 | mul x y h h'=>
   intro p hp;simp only[R8,Ti,or_false]at hp;rcases hp with rfl | rfl | rfl
   .exact Gb h
   .exact ur (by decide)
   .exact Gq h'
def Lx{t:List (List Nat)}{c:Int}{l:List Pair}(h:SmM t c l):∀p∈t,Pc p:=by
 induction h with
 | nil=>intro p hp;cases hp
 | cons b ht hr ih=>
   intro p hp;rcases R8.mp hp with rfl | hp
   .cases b<;>exact ur (by decide)
   .rcases Sg.mp hp with hp | hp
    .exact O1 ht p hp
    .exact ih p hp
def oh{t:List (List Nat)}{c:Int}{l:List Pair}(h:SmR t c l):∀p∈t,Pc p:=by
 cases h with
 | mk b ht hr=>
   intro p hp;rcases Sg.mp hp with hp | hp
   .cases b with
    | true=>have:p=[45]:=by simpa using hp
            subst this;exact ur (by decide)
    | false=>cases hp
   .rcases Sg.mp hp with hp | hp
    .exact O1 ht p hp
    .exact Lx hr p hp
def oK(ha:∀p∈a,Pc p)(hb:∀p∈b,Pc p)(hx:Pc x):∀p∈a++x::b,Pc p:=λp hp=>by
 rcases Sg.mp hp with hp | hp
 .exact ha p hp
 .rcases R8.mp hp with rfl | hp
  .exact hx
  .exact hb p hp
def OD{t:List (List Nat)}{d:D}(h:RlR t d):∀p∈t,Pc p:=by
 have g:∀x,x=GE\/x=LE->Pc x:=λx hx=>by
  rcases hx with rfl | rfl
  .exact⟨⟨.inr (.inr (.inr (.inl rfl))),by decide⟩,by decide,by decide⟩
  .exact⟨⟨.inr (.inr (.inr (.inr rfl))),by decide⟩,by decide,by decide⟩
 cases h with
 | ge h h' _=>exact oK (oh h) (oh h') (g _ (.inl rfl))
 | le h h' _=>exact oK (oh h) (oh h') (g _ (.inr rfl))
 | eq h h' _=>exact oK (oh h) (oh h') (ur (by decide))
 | al h h' _ hx _=>exact oK (oh h) (oK (oh h') (λp hp=>by have:=Vv.mp hp;subst this;exact Gb hx) (vG (by decide))) (vG (by decide))
def Dp(n:Nat)(ts:List (List Nat)):Prop:=(∀p∈ts,Good p/\p.length<=60)/\∀(d:Int)(rest:List (List Nat)),d+n<=16->rowL (ts++rest) d=rowL rest d
theorem wY:∀{ts:List (List Nat)},(∀p∈ts,Pc p)->∀(d:Int)(rest:List (List Nat)),d<=16->rowL (ts++rest) d=rowL rest d
 | [],_,d,rest,_=>rfl
 | p::ts,h,d,rest,hd=>by
   obtain⟨⟨_,h2⟩,h3,h4⟩:=h p QM
   have e:fK d p=d:=by unfold fK;rw[if_neg h4,if_neg h3]
   rw[SN,rowL,e,if_neg (by omega)];exact wY (λq hq=>h q (QQ _ hq)) d rest hd
def Dp.pc(h:∀p∈ts,Pc p):Dp n ts:=⟨λp hp=>(h p hp).1,λd rest hd=>wY h d rest (by omega)⟩
def Dp.app(ha:Dp n a)(hb:Dp n b):Dp n (a++b):=⟨λp hp=>(Sg.mp hp).elim (ha.1 p) (hb.1 p),λd rest hd=>by rw[S7,ha.2 d _ hd,hb.2 d rest hd]⟩
def Dp.one(h:Pc p):Dp n [p]:=.pc λq hq=>by rw[Vv.mp hq];exact h
def Dp.round(h:Dp n ts):Dp (n+1) ([40]::(ts++[[41]])):=by
 have g0:Good [40]/\([40]:List Nat).length<=60:=⟨qu (by decide),by decide⟩
 have g1:Good [41]/\([41]:List Nat).length<=60:=⟨qu (by decide),by decide⟩
 refine⟨λp hp=>?_,λd rest hd=>?_⟩
 .rcases R8.mp hp with rfl | hp
  .exact g0
  .rcases Sg.mp hp with hp | hp
   .exact h.1 p hp
   .rw[Vv.mp hp];exact g1
 .have e0:fK d [40]=d+1:=rfl
  have e1:fK (d+1) [41]=d:=by show d+1-1=d;omega
  rw[SN,rowL,e0,if_neg (by simp;omega),S7,h.2 (d+1) _ (by omega),SN,rowL,e1,if_neg (by simp;omega)]
  rfl
def LR:∀{l:List (List (List Nat))},(∀r∈l,Dp n r)->Dp n (cms l)
 | [],_=>.pc λ_ h=>by cases h
 | r::l,h=>by
   have:∀l:List (List (List Nat)),(∀r∈l,Dp n r)->Dp n (l.map λr=>[44]::r).flatten:=λl h=>by
    induction l with
    | nil=>exact .pc λ_ h=>by cases h
    | cons a l ih=>
      have:=(Dp.one (n:=n) (ur (c:=44) (by decide))).app ((h a QM).app (ih λq hq=>h q (QQ _ hq)));simpa using this
   exact(h r QM).app (this l λq hq=>h q (QQ _ hq))
def Qi(h:PtR n ts d):Dp n ts:=by
 induction h with
 | rel n h=>exact .pc (OD h)
 | nt h ih=>exact(Dp.one (vG (by decide))).app ih.round
 | trn w x hw hx h ih=>
   have:=(Dp.one (vG (x:=w) (by rcases hw with rfl | rfl<;>decide))).app ((Dp.one (Gq hx)).app ((Dp.one (ur (c:=44) (by decide))).app ih)).round;simpa using this
 | grp w hw l hl h ih=>
   have:=(Dp.one (vG (x:=w) (by rcases hw with rfl | rfl<;>decide))).app (LR (l:=l.map (·.1)) λr hr=>by obtain⟨q,hq,rfl⟩:=Rx.mp hr;exact ih q hq).round;simpa using this
def Mg:∀{n:Nat}{d:D},okT n d->okT (n+1) d:=by
 intro n
 induction n with
 | zero=>intro d h;cases d<;>simp only[okT]at h ⊢
 | succ n ih=>
   intro d h;cases d<;>simp only[okT]at h ⊢;exact⟨h.1,λd hd=>ih (h.2 d hd)⟩
def jY(h:okT n d)(hm:n<=m):okT m d:=by
 induction m with
 | zero=>have:n=0:=by omega
         subst this;exact h
 | succ m ih=>
   by_cases e:n=m+1
   .subst e;exact h
   .exact Mg (ih (by omega))
def jL(n:Nat)(x:List Nat):okT n (.str x):=by cases n<;>simp[okT]
def Pn(n:Nat)(x:Int):okT n (.int x):=by cases n<;>simp[okT]
def nu(ha:okT n a)(hb:okT n b):okT (n+1) (.tup [a,b]):=by simp[okT,ha,hb]
def Mw(ha:okT n a)(hb:okT n b)(hc:okT n c):okT (n+1) (.tup [a,b,c]):=by simp[okT,ha,hb,hc]
def Ou(h:PtR n ts d):okT (2*n+6) d:=by
 have hs:∀c l,l.length<64->okT 3 (sumD c l):=λc l hl=>J1 c l (KU.keysOf_len l hl)
 induction h with
 | rel n h=>
   refine jY (n:=6) ?_ (by omega)
   cases h with
   | ge h h' hz=>exact nu (jL _ _) (jY (hs _ _ (by simp[KU.negL];omega)) (by omega))
   | le h h' hz=>exact nu (jL _ _) (jY (hs _ _ (by simp[KU.negL];omega)) (by omega))
   | eq h h' hz=>exact nu (jL _ _) (nu (nu (jL _ _) (hs _ _ (by simp[KU.negL];omega))) (nu (jL _ _) (hs _ _ (by simp[KU.negL];omega))))
   | al h h' hz hx h0=>exact Mw (jL _ _) (Pn _ _) (jY (hs _ _ (by simp[KU.negL];omega)) (by omega))
 | nt h ih=>exact nu (jL _ _) (jY ih (by omega))
 | trn w x hw hx h ih=>exact Mw (jL _ _) (jL _ _) (jY ih (by omega))
 | grp w hw l hl h ih=>
   rename_i n
   have e:2*(n+1)+6=2*n+6+1+1:=by omega
   rw[e];refine nu (jL _ _) ?_;simp only[okT,R5];refine⟨by omega,λd hd=>?_⟩;obtain⟨q,hq,rfl⟩:=Rx.mp hd;exact ih q hq
section
variable(w n:Nat)
theorem oH(cells:D)(base:Int):∀(xs:List Int)(k:Nat)(it:List Itm)(a b c d e:Option Slot),k+xs.length<=24->IOk it->it.length<=k->wt it<=30*k ->
 ∃(it':List Itm)(a' b' c' d' e':Option Slot),IOk it'/\it'.length<=k+xs.length/\wt it'<=30*(k+xs.length)/\cF (evSs (orc prg w (n+3)) ppB) [4] ZZ (xs.map .int) (Pw cells base it a b c d e)=.nx (Pw cells base it' a' b' c' d' e')
 | [],k,it,a,b,c,d,e,_,h1,h2,h3=>⟨it,a,b,c,d,e,h1,h2,h3,rfl⟩
 | x::xs,k,it,a,b,c,d,e,hk,h1,h2,h3=>by
   simp only[R6]at hk ⊢;obtain⟨it',b',c',d',e',g1,g2,g3,g4⟩:=yO w n cells base x it k (by omega) h1 h2 h3 b c d e;obtain⟨it2,a2,b2,c2,d2,e2,q1,q2,q3,q4⟩:=oH cells base xs (k+1) it' (Z_ (.sh,.int x)) b' c' d' e' (by omega) g1 g2 g3;exact⟨it2,a2,b2,c2,d2,e2,q1,by omega,by omega,lQ (δ1:=Pw cells base it (Z_ (.sh,.int x)) b c d e) rfl rfl g4 q4⟩
def FW(xs:List Int)(base:Int)(hx:xs.length<=20):∃(m:Nat)(ts:List (List Nat))(d:D),m<=14/\PtR m ts d/\ts.length<=700/\(orc prg w (n+4)).fn 29 [.lst (xs.map .int),.int base]=.ok (ZZ,pairD d ts):=by
 obtain⟨it,a,b,c,d,e,g1,g2,g3,g4⟩:=oH w n (.lst (xs.map .int)) base xs 0 [] none none none none none (by omega) (λq hq=>by cases hq) (by simp) (by simp[wt]);rw[Ux]at g2 g3
 have hw:wt it<=600:=by omega
 have s1:evS (orc prg w (n+3)) (Xw 2 (XH Xo)) [some (.sh,.lst (xs.map .int)),some (.sh,.int base),none,none,none,none,none,none,none]=.nx [some (.sh,.lst (xs.map .int)),some (.sh,.int base),some (.ow,.lst []),none,none,none,none,none,none]:=aA (bx ao rfl) rfl;have s2:evS (orc prg w (n+3)) (Xw 3 (XH (Xl (Xj (Xk 0)) Xo))) [some (.sh,.lst (xs.map .int)),some (.sh,.int base),some (.ow,.lst []),none,none,none,none,none,none]=.nx (Pw (.lst (xs.map .int)) base [] none none none none none):=aA (bx (aa rfl aj ao) rfl) rfl;have hl:ev (orc prg w (n+3)) (Pw (.lst (xs.map .int)) base it a b c d e) ZX (Xm .eq (XD .len (Xi 2)) (Xj (Xk 1)))=.ok (ZZ,.bl (decide ((it.length:Int)=1))):=aq (e_b1 (bU rfl) ((jW _).trans (by rw[R5]))) aj (lR _ _);rw[aP (d:=f29) rfl]
 by_cases h1:it.length=1
 .obtain⟨q,rfl⟩:=List.length_eq_one_iff.mp h1
  obtain⟨dp,ts,dd⟩:=q;have hq:=g1 (dp,ts,dd) (by simp);rw[gG]at hw;have hw:ts.length+1<=600:=hw;have hq2:dp<=13:=hq.2;exact⟨dp,ts,dd,by omega,hq.1,by omega,aF rfl rfl (stp _ s1 (stp _ s2 (stp _ (fors rfl (ji (ak rfl) rfl) g4) (stpR (ifR (hl.trans (by rw[decide_eq_true (by omega)])) (retR (c7 (bU rfl) aj (Cq rfl rfl)) rfl))))))⟩
 .have r2:=aG base 2 (by decide)
  obtain⟨x,hx,hxw⟩:∃x,idxD (.lst [.str AND,.str OR]) (.int (base.fmod 2))=.ok (ZZ,.str x)/\(x=AND\/x=OR):=by
   by_cases hz:base.fmod 2=0
   .exact⟨AND,by rw[hz];rfl,.inl rfl⟩
   .exact⟨OR,by rw[show base.fmod 2=1 by omega];rfl,.inr rfl⟩
  have hgl:((it.map (·.2)).map λq=>q.1.length+1).sum=wt it:=by rw[RD];rfl
  have gf:=Dj w (n+1) x (it.map (·.2)) (by rw[hgl];omega) (by simp;omega)
  have ep:prsD (it.map (·.2))=.lst (it.map rowI):=by unfold prsD;rw[RD];rfl
  rw[ep]at gf;have hcl:(cms ((it.map (·.2)).map (·.1))).length<=wt it:=RP (mJ _) (by rw[RD,RD];exact Ra _)
  have hPt:PtR 14 (x::[40]::(cms ((it.map (·.2)).map (·.1))++[[41]])) (.tup [.str x,.tup ((it.map (·.2)).map (·.2))]):=.grp x hxw _ (by simp;omega) λq hq=>by
   obtain⟨i,hi,rfl⟩:=Rx.mp hq;exact(g1 i hi).1.up (g1 i hi).2
  have hst:∀δ:Dst,δ[1]?=Z_ (Z_ (.sh,.int base))->δ[2]?=Z_ (Z_ (.ow,.lst (it.map rowI)))->ev (orc prg w (n+3)) δ ZZ (Xy 30 (Xl (Xv (XH (Xl (Xj (Xq [97,110,100])) (Xl (Xj (Xq [111,114])) Xo))) (Xm .mod (Xi 1) (Xj (Xk 2)))) (Xl (Xi 2) Xo)))=.stuck:=fun δ q1 q2=>by
   have e1:ev (orc prg w (n+3)) δ ZZ (Xv (XH (Xl (Xj (Xq [97,110,100])) (Xl (Xj (Xq [111,114])) Xo))) (Xm .mod (Xi 1) (Xj (Xk 2))))=.ok (ZZ,.str x):=c7 (bx (aa rfl aj (aa rfl aj ao)) rfl) (aq (ak q1) aj (gP _ _ (by decide))) hx
   have e2:bR δ (Xi 2)=ZX:=by simp only[bR,isOwn,q2]
   have e3:ev (orc prg w (n+3)) δ ZX (Xi 2)=.ok (ZZ,.lst (it.map rowI)):=bU q2
   have eL:evL (orc prg w (n+3)) δ (Xl (Xv (XH (Xl (Xj (Xq [97,110,100])) (Xl (Xj (Xq [111,114])) Xo))) (Xm .mod (Xi 1) (Xj (Xk 2)))) (Xl (Xi 2) Xo))=.ok (ZX,[.str x,.lst (it.map rowI)]):=by
    simp only[evL,e2,e3,Xr,show bR δ (Xv (XH (Xl (Xj (Xq [97,110,100])) (Xl (Xj (Xq [111,114])) Xo))) (Xm .mod (Xi 1) (Xj (Xk 2))))=ZZ from rfl,e1]
    rfl
   rw[ev,eL];show((orc prg w (n+3)).fn 30 [.str x,.lst (it.map rowI)]).bind (lent ZX)=_;rw[gf];simp only[Xr,lent,if_true];rw[if_neg (by simp[pairD,D.imm,immL])]
  refine⟨14,_,_,by omega,hPt,by simp only[R6,R4,T4];omega,aF rfl rfl (stp _ s1 (stp _ s2 (stp _ (fors rfl (ji (ak rfl) rfl) g4) (stp _ (ifN (hl.trans (by rw[decide_eq_false (by omega)]))) (stpR (retS rfl (hst _ rfl rfl) rfl (az (aa rfl (c7 (bx (aa rfl aj (aa rfl aj ao)) rfl) (aq (ak rfl) aj (gP _ _ (by decide))) hx) (aa rfl (ak rfl) ao)) gf)))))))⟩
def Iu(row:List (List Nat))(seed:Int)(h:∀p∈row,Good p/\p.length<=60)(hl:row.length<=780):(orc prg w (n+2)).fn 7 [.lst (row.map .str),.int seed]=.ok (ZZ,.str (K9.textV seed row)):=by
 rw[aP (d:=P09.f7) rfl];exact K9.text_run (λc=>jB w n c 3 0 (by decide) (by decide)) (λl c r=>by rw[aP (d:=P09.f6) rfl];exact K9.parted_run _ l c r) row seed (λp hp=>⟨let⟨c,r,e,_⟩:=K9.good_hd (.inl (h p hp).1);⟨c,r,e⟩,by have:=(h p hp).2;omega⟩) hl
def Ih(x:List Nat)(h:tooL x=ZX):(orc prg w (n+4)).fn 32 [.str x]=.ok (ZZ,.bl ZX):=by
 rw[aP (d:=f32) rfl];refine aF rfl rfl (stpR (δ':=[some (.sh,.str x)]) ?_);have e1:evS (orc prg w (n+3)) (Yo (Xy 21 (Xl (Xi 0) Xo))) [some (.sh,.str x)]=.ex 2 [some (.sh,.str x)]:=K9.check_ex (aa rfl (ak rfl) ao) (yD w n x h);have e2:evSs (orc prg w (n+3)) (Xn (Yo (Xy 21 (Xl (Xi 0) Xo))) Xp) [some (.sh,.str x)]=.ex 2 [some (.sh,.str x)]:=K9.evSs_ex e1;have e3:(orc prg w (n+3)).sub 2 2=ZX:=rfl;show evS (orc prg w (n+3)) (S.try_ (Xn (Yo (Xy 21 (Xl (Xi 0) Xo))) Xp) 2 none (Xn (XC (Xj (XN ZX))) Xp)) [some (.sh,.str x)]=_;simp only[evS,e2,e3,if_true];exact stR (retR aj rfl)
end
def cut2(ns:List Int):slcD (.lst (ns.map .int)) (Z_ 2) (Z_ 22)=Z_ (ZX,.lst ((cut ns (min 2 ns.length) (min 22 ns.length)).map .int)):=by
 simp[slcD,dU,bW,clip,cut,List.map_drop,List.map_take]
def zQ(ns:List Int):(cut ns (min 2 ns.length) (min 22 ns.length)).length<=20:=by
 simp[cut];omega
def law_ok(ns:List Int):(orc prg 10000 71).fn 33 [.lst (ns.map .int)]=.ok (ZZ,.bl ZX):=by
 rw[aP (n:=70) (d:=f33) rfl]
 have c0:∀k:Nat,(orc prg 10000 70).fn 4 [.lst (ns.map .int),.int (k:Int)]=.ok (ZZ,.int (ns.getD k 0)):=λk=>by rw[aP (n:=69) (d:=sG) rfl];exact BZ _ ns k
 obtain⟨m,ts,d,hm,hp,htl,ef⟩:=FW 10000 66 (cut ns (min 2 ns.length) (min 22 ns.length)) (ns.getD 0 0) (zQ ns);have hD:=Qi hp;have et:=Iu 10000 68 ts (ns.getD 1 0) hD.1 (by omega)
 have hT:Txt (K9.textV (ns.getD 1 0) ts) ts:=by
  have:=K9.textV_txt (ns.getD 1 0) ts [] (λa ha=>by cases ha) λp hp=>.inl (hD.1 p hp).1
  rwa [RC]at this
 have hr:rowL ts 0=ZZ:=by
  have:=hD.2 0 [] (by omega);rw[RC]at this;rw[this];rfl
 have htoo:=K9.tooL_row hT;rw[hr,Tw]at htoo;generalize K9.textV (ns.getD 1 0) ts=x at *;have s1:evS (orc prg 10000 70) (Xw 1 (Xy 4 (Xl (Xi 0) (Xl (Xj (Xk 0)) Xo)))) [some (.sh,.lst (ns.map .int)),none,none,none]=.nx [some (.sh,.lst (ns.map .int)),some (.sh,.int (ns.getD 0 0)),none,none]:=aA (az (aa rfl (ak rfl) (aa rfl aj ao)) (c0 0)) rfl;have s2:evS (orc prg 10000 70) (Xw 2 (Xy 29 (Xl (XR (Xi 0) (Xj (Xk 2)) (Xj (Xk 22))) (Xl (Xi 1) Xo)))) [some (.sh,.lst (ns.map .int)),some (.sh,.int (ns.getD 0 0)),none,none]=.nx [some (.sh,.lst (ns.map .int)),some (.sh,.int (ns.getD 0 0)),some (.sh,pairD d ts),none]:=aA (az (aa rfl (fM (ak rfl) aj aj rfl rfl (cut2 ns)) (aa rfl (ak rfl) ao)) ef) rfl;have s3:evS (orc prg 10000 70) (Xw 3 (Xy 7 (Xl (Xv (Xi 2) (Xj (Xk 1))) (Xl (Xy 4 (Xl (Xi 0) (Xl (Xj (Xk 1)) Xo))) Xo)))) [some (.sh,.lst (ns.map .int)),some (.sh,.int (ns.getD 0 0)),some (.sh,pairD d ts),none]=.nx [some (.sh,.lst (ns.map .int)),some (.sh,.int (ns.getD 0 0)),some (.sh,pairD d ts),some (.sh,.str x)]:=aA (az (aa rfl (c7 (ak rfl) aj (bu rfl rfl)) (aa rfl (az (aa rfl (ak rfl) (aa rfl aj ao)) (c0 1)) ao)) et) rfl;have hc:ev (orc prg 10000 70) [some (.sh,.lst (ns.map .int)),some (.sh,.int (ns.getD 0 0)),some (.sh,pairD d ts),some (.sh,.str x)] ZX (Xm .gt (XD .len (Xi 3)) (Xj (Xk 2000)))=.ok (ZZ,.bl (decide ((2000:Int)<(x.length:Int)))):=aq (e_b1 (ak rfl) (mK _)) aj (K9.o_gt _ _)
 by_cases hx:2000<x.length
 .rw[decide_eq_true hx]at htoo
  exact aF rfl rfl (stp _ s1 (stp _ s2 (stp _ s3 (stpR (ifR (hc.trans (by rw[decide_eq_true (by omega)])) (retR (az (aa rfl (ak rfl) ao) (Ih 10000 66 x htoo)) rfl))))))
 .rw[decide_eq_false hx]at htoo
  have hrd:=Ia 10000 (62-3*m) htoo (by omega) (by omega) hT (λp hp=>(hD.1 p hp).1) (by omega) hp (by decide);rw[show 62-3*m+3*m+8=70 by omega]at hrd;have hsm:=same_refl prg 10000 31 rfl (2*m+6) d 70 (Ou hp) (by omega);exact aF rfl rfl (stp _ s1 (stp _ s2 (stp _ s3 (stp _ (ifN (hc.trans (by rw[decide_eq_false (by omega)]))) (stpR (retR (az (aa rfl (az (aa rfl (ak rfl) ao) hrd) (aa rfl (c7 (ak rfl) aj (bu rfl rfl)) ao)) hsm) rfl))))))
end KX
namespace P11
open Z
def pure(ns:List Int)(_:ns.length<=63):∃w0,(orc prg w0 (70+1)).fn 33 [.lst (ns.map .int)]=.ok (ZZ,.bl ZX):=⟨10000,KX.law_ok ns⟩
end P11
namespace KF11
open PySem L2 Z P11
noncomputable def top(i:Nat):Stmt:=PySem.Challenge.pw_sumlaw_k11_freely_written.main.body.getD i (.Pass ⟨0,0,0,0⟩)
noncomputable def m0:Df:=⟨"__init__","Row.__init__",(bodyOf (top 21)).getD 0 (.Pass ⟨0,0,0,0⟩),["self","found"],["self","found"],f34⟩
noncomputable def m1:Df:=⟨"ahead","Row.ahead",(bodyOf (top 21)).getD 1 (.Pass ⟨0,0,0,0⟩),["self"],["self"],f35⟩
noncomputable def m2:Df:=⟨"take","Row.take",(bodyOf (top 21)).getD 2 (.Pass ⟨0,0,0,0⟩),["self","piece"],["self"],f36⟩
noncomputable def m3:Df:=⟨"need","Row.need",(bodyOf (top 21)).getD 3 (.Pass ⟨0,0,0,0⟩),["self","asked","piece"],["self","asked"],f37⟩
noncomputable def ms:List Df:=[m0,m1,m2,m3]
noncomputable def d0:Df:=⟨"check_length","check_length",top 17,["text","run","opened","sign"],["text"],f0⟩
noncomputable def d1:Df:=⟨"run_end","run_end",top 18,["text","start","signs","place"],["text","start","signs"],f1⟩
noncomputable def d2:Df:=⟨"piece_end","piece_end",top 19,["text","start","sign"],["text","start"],f2⟩
noncomputable def d3:Df:=⟨"pieces","pieces",top 20,["text","found","place","end"],["text"],f3⟩
noncomputable def d4:Df:=⟨"_law_cell_at","_law_cell_at",top 34,["_law_script","_law_k"],["_law_script","_law_k"],f4⟩
noncomputable def d5:Df:=⟨"_law_mix","_law_mix",top 35,["_law_cell","_law_k","_law_many","_law_some"],["_law_cell","_law_k","_law_many"],f5⟩
noncomputable def d6:Df:=⟨"_law_parted","_law_parted",top 45,["_law_last","_law_piece","_law_letters","_law_figures"],["_law_last","_law_piece"],f6⟩
noncomputable def d7:Df:=⟨"_law_text_of","_law_text_of",top 46,["_law_row","_law_seed","_law_text","_law_last","_law_k","_law_gap"],["_law_row","_law_seed"],f7⟩
noncomputable def d8:Df:=⟨"sum_of","sum_of",top 5,["c","pairs","totals","name","k"],["c","pairs"],f8⟩
noncomputable def d9:Df:=⟨"plus","plus",top 6,["one","other"],["one","other"],f9⟩
noncomputable def d10:Df:=⟨"times","times",top 7,["k","one"],["k","one"],f10⟩
noncomputable def d11:Df:=⟨"is_name","is_name",top 22,["text"],["text"],f11⟩
noncomputable def d12:Df:=⟨"is_number","is_number",top 23,["text"],["text"],f12⟩
noncomputable def d13:Df:=⟨"read_name","read_name",top 24,["row","piece"],["row"],f13⟩
noncomputable def d14:Df:=⟨"read_number","read_number",top 25,["row","piece"],["row"],f14⟩
noncomputable def d15:Df:=⟨"read_term","read_term",top 26,["row","number"],["row"],f15⟩
noncomputable def d16:Df:=⟨"read_sum","read_sum",top 27,["row","total","sign","term"],["row"],f16⟩
noncomputable def d17:Df:=⟨"read_relation","read_relation",top 28,["row","left","relation","right","over","divisor","upper","lower"],["row"],f17⟩
noncomputable def d18:Df:=⟨"read_parts","read_parts",top 29,["row","parts"],["row"],f18⟩
noncomputable def d19:Df:=⟨"read_inner","read_inner",top 30,["row","word","name"],["row","word"],f19⟩
noncomputable def d20:Df:=⟨"read_statement","read_statement",top 31,["row","word","statement"],["row"],f20⟩
noncomputable def d21:Df:=⟨"read","read",top 32,["text","row","statement"],["text"],f21⟩
noncomputable def d22:Df:=⟨"_law_name_by","_law_name_by",top 36,["_law_cell","_law_base","_law_letters","_law_signs","_law_size","_law_row","_law_place","_law_name"],["_law_cell","_law_base"],f22⟩
noncomputable def d23:Df:=⟨"_law_number","_law_number",top 37,["_law_cell","_law_size"],["_law_cell"],f23⟩
noncomputable def d24:Df:=⟨"_law_made","_law_made",top 38,["_law_c","_law_pairs","_law_shares","_law_name","_law_k"],["_law_c","_law_pairs"],f24⟩
noncomputable def d25:Df:=⟨"_law_side","_law_side",top 39,["_law_cell","_law_base","_law_c","_law_pairs","_law_row","_law_j","_law_kind","_law_sign","_law_size","_law_name"],["_law_cell","_law_base"],f25⟩
noncomputable def d26:Df:=⟨"_law_less","_law_less",top 40,["_law_one","_law_other"],["_law_one","_law_other"],f26⟩
noncomputable def d27:Df:=⟨"_law_relation","_law_relation",top 41,["_law_cell","_law_base","_law_one","_law_other","_law_way","_law_due","_law_m"],["_law_cell","_law_base"],f27⟩
noncomputable def d28:Df:=⟨"_law_with_commas","_law_with_commas",top 42,["_law_rows","_law_row","_law_k"],["_law_rows"],f28⟩
noncomputable def d29:Df:=⟨"_law_pair_by","_law_pair_by",top 43,["_law_cells","_law_base","_law_row","_law_deeps","_law_cell","_law_way","_law_word","_law_name","_law_first"],["_law_cells","_law_base"],f29⟩
noncomputable def d30:Df:=⟨"_law_group","_law_group",top 44,["_law_word","_law_pairs","_law_row"],["_law_word","_law_pairs"],f30⟩
noncomputable def d31:Df:=⟨"_law_same","_law_same",top 47,["_law_got","_law_due"],["_law_got","_law_due"],f31⟩
noncomputable def d32:Df:=⟨"_law_too_long","_law_too_long",top 48,["_law_text"],["_law_text"],f32⟩
noncomputable def d33:Df:=⟨"law","law",top 49,["_law_script","_law_base","_law_pair","_law_text"],["_law_script"],f33⟩
noncomputable def cs:List (Str×Gk):=[("LETTERS",.val (Xq [97,98,99,100,101,102,103,104,105,106,107,108,109,110,111,112,113,114,115,116,117,118,119,120,121,122])),("FIGURES",.val (Xq [48,49,50,51,52,53,54,55,56,57])),("SINGLES",.val (Xq [40,41,44,43,45,42,61])),("WORDS",.val (Y7 [(Xq [97,110,100]),(Xq [111,114]),(Xq [110,111,116]),(Xq [115,111,109,101]),(Xq [97,108,108]),(Xq [97,108,105,107,101]),(Xq [98,121])])),("RELATIONS",.val (Y7 [(Xq [62,61]),(Xq [60,61]),(Xq [61]),(Xq [97,108,105,107,101])])),("MOST_SIGNS",.val (Xk 2000)),("MOST_FIGURES",.val (Xk 60)),("MOST_OPENED",.val (Xk 16)),("!",.mark [2,3]),("!w",.names [[116,97,107,101],[110,101,101,100],[114,101,97,100,95,110,97,109,101],[114,101,97,100,95,110,117,109,98,101,114],[114,101,97,100,95,116,101,114,109],[114,101,97,100,95,115,117,109],[114,101,97,100,95,114,101,108,97,116,105,111,110],[114,101,97,100,95,112,97,114,116,115],[114,101,97,100,95,105,110,110,101,114],[114,101,97,100,95,115,116,97,116,101,109,101,110,116]]),("!f",.names [[102,111,117,110,100],[112,108,97,99,101]]),("!m",.names [[97,104,101,97,100],[116,97,107,101],[110,101,101,100]]),("SumError",.cls 0),("NoText",.cls 1),("TooLong",.cls 2),("Row",.ocl 3)]
noncomputable def ds:List Df:=[d0,d1,d2,d3,d4,d5,d6,d7,d8,d9,d10,d11,d12,d13,d14,d15,d16,d17,d18,d19,d20,d21,d22,d23,d24,d25,d26,d27,d28,d29,d30,d31,d32,d33]
open PySem.W
noncomputable def ge(P:WX)(x:Str)(t:Tok)(v:Value):DictEntry:=⟨PyData.keyHash P x,.str x t,v⟩
noncomputable def co(a:Addr)(x:Str)(t:Nat)(l n f:Int)(r:Addr)(b:Bool)(r2:Addr)(v1 v2 v3:Value)(r3:Addr)(u:Nat):Addr×Obj:=(a,⟨.type "code",none,.fields #[.str x t,.str x (t+1),.str "/claim/cut.py" (t+2),.int l 0,.int n 0,.int 0 0,.int 0 0,.int f 0,.ref r,.bool b,.int 181 0,.ref r2,v1,v2,v3,.ref r3,.int u 0,.int l 0,.str "/claim/cut.py" (u+1)],#[]⟩)
noncomputable def fo(a:Addr)(x:Str)(i:Nat)(m:Str)(t:Tok)(c:Addr):Addr×Obj:=(a,⟨.type "function",none,.func (fnOf x x (cC (top i)) (bF (top i)) (aH (top i)) .none .none .none (.str m t) none (.ref c) .none),#[]⟩)
noncomputable def cm(a:Addr)(x q:Str)(t:Nat)(l n f:Int)(r:Addr)(b:Bool)(r2:Addr)(v1 v2 v3:Value)(r3:Addr)(u:Nat):Addr×Obj:=(a,⟨.type "code",none,.fields #[.str x t,.str q (t+1),.str "/claim/cut.py" (t+2),.int l 0,.int n 0,.int 0 0,.int 0 0,.int f 0,.ref r,.bool b,.int 181 0,.ref r2,v1,v2,v3,.ref r3,.int u 0,.int l 0,.str "/claim/cut.py" (u+1)],#[]⟩)
noncomputable def fm(a:Addr)(x q:Str)(st:Stmt)(m:Str)(t:Tok)(c:Addr):Addr×Obj:=(a,⟨.type "function",none,.func (fnOf x q (cC st) (bF st) (aH st) .none .none .none (.str m t) none (.ref c) .none),#[]⟩)
noncomputable def KK:WX->Frag:=λP=>[(2,W8 .none none (WF.dict #[]) #[]),(3,⟨.type "dict",none,.dict #[ge P "__name__" 165 (.str "law_sumlaw_k11_freely_written" 478),ge P "__doc__" 166 .none,ge P "__package__" 167 .none,ge P "__loader__" 168 (.builtin "__main__.__loader__#opaque"),ge P "__spec__" 169 .none,ge P "__annotations__" 170 (.ref 6),ge P "__builtins__" 171 (.ref 4),ge P "__file__" 173 (.str "/claim/cut.py" 172),ge P "__cached__" 174 .none,ge P "SumError" 206 (.ref 24),ge P "NoText" 222 (.ref 37),ge P "TooLong" 238 (.ref 49),ge P "sum_of" 246 (.ref 56),ge P "plus" 254 (.ref 63),ge P "times" 260 (.ref 68),ge P "LETTERS" 264 (.str "abcdefghijklmnopqrstuvwxyz" 263),ge P "FIGURES" 266 (.str "0123456789" 265),ge P "SINGLES" 268 (.str "(),+-*=" 267),ge P "WORDS" 276 (.ref 69),ge P "RELATIONS" 281 (.ref 70),ge P "MOST_SIGNS" 283 (.int 2000 282),ge P "MOST_FIGURES" 285 (.int 60 284),ge P "MOST_OPENED" 287 (.int 16 286),ge P "check_length" 297 (.ref 77),ge P "run_end" 307 (.ref 84),ge P "piece_end" 316 (.ref 91),ge P "pieces" 326 (.ref 98),ge P "Row" 380 (.ref 136),ge P "is_name" 387 (.ref 147),ge P "is_number" 394 (.ref 154),ge P "read_name" 402 (.ref 161),ge P "read_number" 410 (.ref 168),ge P "read_term" 418 (.ref 175),ge P "read_sum" 428 (.ref 182),ge P "read_relation" 442 (.ref 189),ge P "read_parts" 450 (.ref 196),ge P "read_inner" 459 (.ref 203),ge P "read_statement" 468 (.ref 210),ge P "read" 477 (.ref 217),ge P "_law_cell_at" 487 (.ref 224),ge P "_law_mix" 497 (.ref 231),ge P "_law_name_by" 503 (.ref 236),ge P "_law_number" 511 (.ref 243),ge P "_law_made" 517 (.ref 248),ge P "_law_side" 533 (.ref 255),ge P "_law_less" 539 (.ref 260),ge P "_law_relation" 552 (.ref 267),ge P "_law_with_commas" 561 (.ref 274),ge P "_law_pair_by" 576 (.ref 281),ge P "_law_group" 582 (.ref 286),ge P "_law_parted" 592 (.ref 293),ge P "_law_text_of" 604 (.ref 300),ge P "_law_same" 610 (.ref 305),ge P "_law_too_long" 617 (.ref 312),ge P "law" 627 (.ref 319)] 55,#[]⟩),co 76 "check_length" 288 27 1 3 71 ZX 72 .none (.ref 73) (.ref 74) 75 295,fo 77 "check_length" 17 "sumlaw.reading" 261 76,co 83 "run_end" 298 42 3 3 78 ZX 79 .none (.ref 80) (.ref 81) 82 305,fo 84 "run_end" 18 "sumlaw.reading" 261 83,co 90 "piece_end" 308 47 2 3 85 ZX 86 .none (.ref 87) (.ref 88) 89 314,fo 91 "piece_end" 19 "sumlaw.reading" 261 90,co 97 "pieces" 317 58 1 3 92 ZX 93 .none (.ref 94) (.ref 95) 96 324,fo 98 "pieces" 20 "sumlaw.reading" 261 97,co 223 "_law_cell_at" 480 172 2 3 218 ZX 219 .none (.ref 220) (.ref 221) 222 485,fo 224 "_law_cell_at" 34 "law_sumlaw_k11_freely_written" 478 223,co 230 "_law_mix" 488 176 3 3 225 ZX 226 .none (.ref 227) (.ref 228) 229 495,fo 231 "_law_mix" 35 "law_sumlaw_k11_freely_written" 478 230,co 292 "_law_parted" 583 282 2 3 287 ZX 288 .none (.ref 289) (.ref 290) 291 590,fo 293 "_law_parted" 45 "law_sumlaw_k11_freely_written" 478 292,co 299 "_law_text_of" 593 292 2 3 294 ZX 295 .none (.ref 296) (.ref 297) 298 602,fo 300 "_law_text_of" 46 "law_sumlaw_k11_freely_written" 478 299,co 55 "sum_of" 241 9 2 3 52 ZX 53 .none .none .none 54 244,fo 56 "sum_of" 5 "sumlaw.sums" 239 55,co 62 "plus" 247 14 2 3 57 ZX 58 .none (.ref 59) (.ref 60) 61 252,fo 63 "plus" 6 "sumlaw.sums" 239 62,co 67 "times" 255 16 2 3 64 ZX 65 .none .none .none 66 258,fo 68 "times" 7 "sumlaw.sums" 239 67,co 146 "is_name" 381 90 1 3 141 ZX 142 .none (.ref 143) (.ref 144) 145 385,fo 147 "is_name" 22 "sumlaw.reading" 261 146,co 153 "is_number" 388 94 1 3 148 ZX 149 .none (.ref 150) (.ref 151) 152 392,fo 154 "is_number" 23 "sumlaw.reading" 261 153,co 160 "read_name" 395 98 1 3 155 ZX 156 .none (.ref 157) (.ref 158) 159 400,fo 161 "read_name" 24 "sumlaw.reading" 261 160,co 167 "read_number" 403 103 1 3 162 ZX 163 .none (.ref 164) (.ref 165) 166 408,fo 168 "read_number" 25 "sumlaw.reading" 261 167,co 174 "read_term" 411 108 1 3 169 ZX 170 .none (.ref 171) (.ref 172) 173 416,fo 175 "read_term" 26 "sumlaw.reading" 261 174,co 181 "read_sum" 419 116 1 3 176 ZX 177 .none (.ref 178) (.ref 179) 180 426,fo 182 "read_sum" 27 "sumlaw.reading" 261 181,co 188 "read_relation" 429 124 1 3 183 ZX 184 .none (.ref 185) (.ref 186) 187 440,fo 189 "read_relation" 28 "sumlaw.reading" 261 188,co 195 "read_parts" 443 142 1 3 190 ZX 191 .none (.ref 192) (.ref 193) 194 448,fo 196 "read_parts" 29 "sumlaw.reading" 261 195,co 202 "read_inner" 451 150 2 3 197 ZX 198 .none (.ref 199) (.ref 200) 201 457,fo 203 "read_inner" 30 "sumlaw.reading" 261 202,co 209 "read_statement" 460 158 1 3 204 ZX 205 .none (.ref 206) (.ref 207) 208 466,fo 210 "read_statement" 31 "sumlaw.reading" 261 209,co 216 "read" 469 166 1 3 211 ZX 212 .none (.ref 213) (.ref 214) 215 475,fo 217 "read" 32 "sumlaw.reading" 261 216,co 235 "_law_name_by" 498 180 2 3 232 ZX 233 .none .none .none 234 501,fo 236 "_law_name_by" 36 "law_sumlaw_k11_freely_written" 478 235,co 242 "_law_number" 504 197 1 3 237 ZX 238 .none (.ref 239) (.ref 240) 241 509,fo 243 "_law_number" 37 "law_sumlaw_k11_freely_written" 478 242,co 247 "_law_made" 512 202 2 3 244 ZX 245 .none .none .none 246 515,fo 248 "_law_made" 38 "law_sumlaw_k11_freely_written" 478 247,co 254 "_law_side" 518 207 2 3 249 ZX 250 .none (.ref 251) (.ref 252) 253 531,fo 255 "_law_side" 39 "law_sumlaw_k11_freely_written" 478 254,co 259 "_law_less" 534 232 2 3 256 ZX 257 .none .none .none 258 537,fo 260 "_law_less" 40 "law_sumlaw_k11_freely_written" 478 259,co 266 "_law_relation" 540 234 2 3 261 ZX 262 .none (.ref 263) (.ref 264) 265 550,fo 267 "_law_relation" 41 "law_sumlaw_k11_freely_written" 478 266,co 273 "_law_with_commas" 553 249 1 3 268 ZX 269 .none (.ref 270) (.ref 271) 272 559,fo 274 "_law_with_commas" 42 "law_sumlaw_k11_freely_written" 478 273,co 280 "_law_pair_by" 562 256 2 3 275 ZX 276 .none (.ref 277) (.ref 278) 279 574,fo 281 "_law_pair_by" 43 "law_sumlaw_k11_freely_written" 478 280,co 285 "_law_group" 577 279 2 3 282 ZX 283 .none .none .none 284 580,fo 286 "_law_group" 44 "law_sumlaw_k11_freely_written" 478 285,co 304 "_law_same" 605 302 2 3 301 ZX 302 .none .none .none 303 608,fo 305 "_law_same" 47 "law_sumlaw_k11_freely_written" 478 304,co 311 "_law_too_long" 611 310 1 3 306 ZX 307 .none (.ref 308) (.ref 309) 310 615,fo 312 "_law_too_long" 48 "law_sumlaw_k11_freely_written" 478 311,co 318 "law" 618 316 1 3 313 ZX 314 .none (.ref 315) (.ref 316) 317 625,fo 319 "law" 49 "law_sumlaw_k11_freely_written" 478 318,cm 111 "__init__" "Row.__init__" 339 72 2 3 106 ZX 107 .none (.ref 108) (.ref 109) 110 344,fm 112 "__init__" "Row.__init__" m0.st "sumlaw.reading" 261 111,cm 118 "ahead" "Row.ahead" 347 76 1 3 113 ZX 114 .none (.ref 115) (.ref 116) 117 351,fm 119 "ahead" "Row.ahead" m1.st "sumlaw.reading" 261 118,cm 125 "take" "Row.take" 354 81 1 3 120 ZX 121 .none (.ref 122) (.ref 123) 124 359,fm 126 "take" "Row.take" m2.st "sumlaw.reading" 261 125,cm 132 "need" "Row.need" 362 86 2 3 127 ZX 128 .none (.ref 129) (.ref 130) 131 368,fm 133 "need" "Row.need" m3.st "sumlaw.reading" 261 132,(69,W8 (.type "tuple") none (WL #[.str "and" 269,.str "or" 270,.str "not" 271,.str "some" 272,.str "all" 273,.str "alike" 274,.str "by" 275]) #[]),(70,W8 (.type "tuple") none (WL #[.str ">=" 277,.str "<=" 278,.str "=" 279,.str "alike" 280]) #[]),(23,⟨.type "dict",none,.dict #[ge P "__module__" 196 (.str "sumlaw.errors" 187),ge P "__firstlineno__" 200 (.int 2 199),ge P "__static_attributes__" 201 (.ref 22),ge P "__weakref__" 203 (.ref 25),ge P "__doc__" 204 .none] 3,#[]⟩),(24,W8 (.type "type") none (X3 (Wa "SumError" [.type "ValueError"] [.ref 24,.type "ValueError",.type "Exception",.type "BaseException",.type "object"] 23 "SumError" ZX [] [.ref 37,.ref 49] ZZ none ZZ)) #[QT (.ref 15),none,QT (.str "SumError" 189),QT (.str "SumError" 197),QT (.builtin "ValueError.__new__"),QT (.bool ZX)]),(25,W8 (.type "getset_descriptor") none (Wx #[.str "__weakref__" 202,.ref 24,.builtin "ExceptionGroup.__weakref__",.none]) #[]),(36,⟨.type "dict",none,.dict #[ge P "__module__" 214 (.str "sumlaw.errors" 187),ge P "__firstlineno__" 218 (.int 4 217),ge P "__static_attributes__" 219 (.ref 35),ge P "__doc__" 220 .none] 2,#[]⟩),(37,W8 (.type "type") none (X3 (Wa "NoText" [.ref 24] [.ref 37,.ref 24,.type "ValueError",.type "Exception",.type "BaseException",.type "object"] 36 "NoText" ZX [] [] ZZ none ZZ)) #[QT (.ref 28),none,QT (.str "NoText" 207),QT (.str "NoText" 215),QT (.builtin "ValueError.__new__"),QT (.bool ZX)]),(48,⟨.type "dict",none,.dict #[ge P "__module__" 230 (.str "sumlaw.errors" 187),ge P "__firstlineno__" 234 (.int 6 233),ge P "__static_attributes__" 235 (.ref 47),ge P "__doc__" 236 .none] 2,#[]⟩),(49,W8 (.type "type") none (X3 (Wa "TooLong" [.ref 24] [.ref 49,.ref 24,.type "ValueError",.type "Exception",.type "BaseException",.type "object"] 48 "TooLong" ZX [] [] ZZ none ZZ)) #[QT (.ref 40),none,QT (.str "TooLong" 223),QT (.str "TooLong" 231),QT (.builtin "ValueError.__new__"),QT (.bool ZX)]),(135,⟨.type "dict",none,.dict #[ge P "__module__" 334 (.str "sumlaw.reading" 261),ge P "__firstlineno__" 338 (.int 70 337),ge P "__init__" 346 (.ref 112),ge P "ahead" 353 (.ref 119),ge P "take" 361 (.ref 126),ge P "need" 370 (.ref 133),ge P "__static_attributes__" 373 (.ref 134),ge P "__dict__" 375 (.ref 137),ge P "__weakref__" 377 (.ref 138),ge P "__doc__" 378 .none] 4,#[]⟩),(136,W8 (.type "type") none (X3 (Wa "Row" [.type "object"] [.ref 136,.type "object"] 135 "Row" ZX [] [] ZZ none ZZ)) #[none,none,QT (.str "Row" 327),QT (.str "Row" 335),QT (.builtin "object.__new__"),QT (.bool ZX)]),(137,W8 (.type "getset_descriptor") none (Wx #[.str "__dict__" 374,.ref 136,.builtin "function.__dict__",.builtin "function.__dict__#set"]) #[]),(138,W8 (.type "getset_descriptor") none (Wx #[.str "__weakref__" 376,.ref 136,.builtin "ExceptionGroup.__weakref__",.none]) #[])]
noncomputable def Kas:List Addr:=[2,3,76,77,83,84,90,91,97,98,223,224,230,231,292,293,299,300,55,56,62,63,67,68,146,147,153,154,160,161,167,168,174,175,181,182,188,189,195,196,202,203,209,210,216,217,235,236,242,243,247,248,254,255,259,260,266,267,273,274,280,281,285,286,304,305,311,312,318,319,111,112,118,119,125,126,132,133,69,70,23,24,25,36,37,48,49,135,136,137,138]
noncomputable def cts:List Addr:=[24,37,49,136]
noncomputable def u0(a c:Addr):Pl4:=(a,c,"sumlaw.reading",261)
noncomputable def u1(a c:Addr):Pl4:=(a,c,"law_sumlaw_k11_freely_written",478)
noncomputable def u2(a c:Addr):Pl4:=(a,c,"sumlaw.sums",239)
noncomputable def tds:List Pl4:=[u0 77 76,u0 84 83,u0 91 90,u0 98 97,u1 224 223,u1 231 230,u1 293 292,u1 300 299,u2 56 55,u2 63 62,u2 68 67,u0 147 146,u0 154 153,u0 161 160,u0 168 167,u0 175 174,u0 182 181,u0 189 188,u0 196 195,u0 203 202,u0 210 209,u0 217 216,u1 236 235,u1 243 242,u1 248 247,u1 255 254,u1 260 259,u1 267 266,u1 274 273,u1 281 280,u1 286 285,u1 305 304,u1 312 311,u1 319 318]
noncomputable def tms:List Pl4:=[u0 112 111,u0 119 118,u0 126 125,u0 133 132]
noncomputable def prs:List (Nat×Nat):=[(2,0),(2,2)]
def Dz(c c':Nat)(e:P11.sub c c'=ZX):(c,c')∈prs:=by
 unfold P11.sub at e
 split at e<;>first | decide | exact absurd e Rq
def oks:∀d∈ds,DfOk (glOf 0 ds++cs) d:=Eu (by kernel_rfl) (by kernel_rfl)
def mos:∀d∈ms,DfOk (glOf 0 ds++cs) d:=Eu (by kernel_rfl) (by kernel_rfl)
def bds:∀d∈ds,pU d:=Dy λ_ _ _ _ _ _ _=>by kernel_rfl
def bms:∀d∈ms,pU d:=Dy λ_ _ _ _ _ _ _=>by kernel_rfl
def all_mk{lw:PySem.W.OpenLaw}{w:RX}{h:Rc}{mg:Str->Option Value}{fa:Addr}(X:(KK w.params).In h)(G:h.Ns RW mg)(hfa:mg "law"=Z_ (.ref fa)):∃(fd:Sw)(CT:Nat->Addr),(∀(s:Shared)(u:Value),WK s fd ⟨[u],[]⟩ [("_law_script",u)])/\∀(base:Rc)(w0:Nat),FnOk lw.prog w (KK w.params) mg base CX0 (70+1) fa fd ["_law_script"] (spFn ⟨(KK w.params),CT⟩ ((orc prg w0 (70+1)).fn 33) 1):=by
 have e:=hfa.symm.trans (Uw X G (show nsIn (KK w.params) RW "law"=Z_ (Z_ (.ref 319)) by kernel_rfl));cases e
 have n1:cs.all (nmB (KK w.params) (ctOf cts))=ZX:=by kernel_rfl
 have n2:(prs.all λr=>cs.all (prB (KK w.params) (ctOf cts) P11.prg.sub r))=ZX:=by kernel_rfl
 obtain⟨hcs,hno⟩:=Mr (P:=lw.prog) (w:=w) (CT:=ctOf cts) (cs:=cs) X G (by kernel_rfl);obtain⟨hgv,hgd⟩:=Ke (ds:=ds) hcs
 have GR0:Ground lw.prog w (KK w.params) mg ⟨(KK w.params),ctOf cts⟩ prg (glOf 0 ds++cs):=⟨rfl,Oc X G (by kernel_rfl),hgv,trivial,Qn X G Dz n1 n2 (by kernel_rfl),trivial⟩
 have CF0:ClFacts (KK w.params) mg ⟨(KK w.params),ctOf cts⟩ P11.prg (glOf 0 ds++cs) ms (λi=>(tms.map (·.1)).getD i 0) ds.length:=QD X G Dz n1 n2 (fl:=([[102,111,117,110,100],[112,108,97,99,101]]:List (List Nat))) (by kernel_rfl) rfl rfl (by kernel_rfl) (by kernel_rfl) (by kernel_rfl);refine⟨Tv "law" "law" (cC (top 49)) (bF (top 49)) (aH (top 49)) .none .none .none (.str "law_sumlaw_k11_freely_written" 478) none (.ref 318) .none,ctOf cts,λs v=>.of_eq rfl,λbase w0=>?_⟩;exact Np (d:=d33) (i:=33) (n:=70) (W:=⟨(KK w.params),ctOf cts⟩) (p:=prg) (ds:=ds) (cs:=cs) (ms:=ms) hno GR0 rfl oks (at_of (t:=tds) X G bds (by decide) (by kernel_rfl)) CF0 mos (Oj (t:=tms) bms (by kernel_rfl) rfl) (yu (st:=top 49) (show(KK w.params).lookup 319=Z_ ⟨.type "function",none,.func (fnOf "law" "law" (cC (top 49)) (bF (top 49)) (aH (top 49)) .none .none .none (.str "law_sumlaw_k11_freely_written" 478) none (.ref 318) .none),#[]⟩ by kernel_rfl) (show codeIn (KK w.params) (.ref 318) "law"=ZX by kernel_rfl) (by kernel_rfl)) (oks d33 (RK (i:=33) rfl)) rfl
end KF11
open PySem PySem.W PyProof.Rows
namespace KF11
open PySem PySem.W L2
noncomputable def Q:Rt:={ PySem.Challenge.pw_sumlaw_k11_freely_written with main:={ PySem.Challenge.pw_sumlaw_k11_freely_written.main with body:=[1,2,3,5,6,7,9,10,11,12,13,14,15,16,17,18,19,20,21,22,23,24,25,26,27,28,29,30,31,32,34,35,36,37,38,39,40,41,42,43,44,45,46,47,48,49].filterMap λi=>PySem.Challenge.pw_sumlaw_k11_freely_written.main.body[i]? } }
def JZ:∀P,Kas=(KK P).map (·.1):=λP=>by kernel_rfl
noncomputable def HH:Hook:=kHook KK Kas JZ
set_option maxHeartbeats 0 in
def left:LeftO PySem.Challenge.rw_sumlaw_k11_freely_written.row.prog Q [] (λs=>xlAt Q [] s&&recOk (RowW.records (OpenRow.toRowW PySem.Challenge.rw_sumlaw_k11_freely_written.row)) s) (Hook.obs HH) (Hook.val HH) 4306 :=
 HN (by kernel_rfl) (by kernel_rfl) (λs=>by kernel_rfl) (λw os=>by kernel_rfl)
end KF11
set_option maxRecDepth 100000 in
set_option maxHeartbeats 0 in
theorem PySem.Challenge.cw_sumlaw_k11_freely_written_holds : PySem.Challenge.rw_sumlaw_k11_freely_written.Holds := by
 refine PySem.W.holds_law (by kernel_rfl) λsaid=>?_
 refine PySem.W.holds_open (q:=KF11.Q) (YP:=PySem.W.Hook.says KF11.HH) (XP:=PySem.W.XL KF11.Q []) KF11.left (PySem.W.Hook.of KF11.HH) (PySem.W.Hook.keeps KF11.HH) (λs e=>PySem.W.xl_of s (Bool.and_eq_true_iff.mp e).1) PySem.W.XL.keeps (by rfl) (by rfl) (by rfl) (λs e=>PySem.W.recFacts_of (Bool.and_eq_true_iff.mp e).2) (by rfl) (by first | assumption | decide +kernel) (by decide +kernel) ⟨rfl,rfl,rfl,rfl,rfl,by decide +kernel⟩ ?hw ?hc
 case hw=>w_witness2
 case hc=>
  refine Z.walkZ (l:=PySem.Challenge.rw_sumlaw_k11_freely_written) (p:=P11.prg) (n:=70+1) (i:=33) (x:="_law_script") rfl rfl ⟨rfl,by decide,by decide⟩ (λw h Y=>PySem.W.kIn_of Y) ?F P11.pure
  case F=>
   intro w mg fa h KX G hmg;exact KF11.all_mk KX G hmg
