import PyProof.Rows.All
import Wide.All
import OpenK.AllK
import Wide.FinOn
import Lean
import PyProof.EqAt
import PyProof.EqKinds
import PyProof.TupleCall
import KE.KSortedL
import KE.KEqDict
import PyProof.Rows.SumAny
import PySem.Challenge.RW_sumlaw_k15_measured
set_option Elab.async false
set_option linter.all false
set_option compiler.extract_closed false
set_option maxRecDepth 100000
set_option autoImplicit true
open PySem renaming wpAny_bind→Rj,Value→Rm,wpAny_pure→Rn,Shared→Rr,Heap→Rz,wpAny→RG,model→RQ,Builtin→S8,SetTable→Ss,Program→Sx,starEach→SJ,World→Th,Around→Tu,wpAny_newObj_type→U9,sizeLine_eq→Ut,wpAny_holding→Uu,wpAny_call_entry→Ux,rawInt→Uy,NameKind→UL,wpAny_rule→UV,unsupported→UW,wpAny_seqItems→V1,behindInMarks→V2,codeAny_builtin→V3,wpAny_mono→V6,assignEach→V7,wpAny_field→V9,wpAny_callSpecial?_slot→Va,mainGlobals→Vb,mem_of_lookup→Vc,wpAny_setState_of→Vf,foldedSetIterable→Vg,compareOp→Vj,eval→Vl,bootBuiltins→Vu,sysModules→Vx,plainId_quiet→VF,wpAny_truthy_bool→W2,wpAny_setField→Wc,binaryOp→We,wpAny_setField_rec→Wk,wpAny_passesOwn→Wo,FuncData→Wr,strIterType→WR,tupleKind_room_in1→Xf,backTo→Xg,wpAny_getItem_str_slice→Xk,valueAt→Xv,pyNext→Xw,holding→Xy,Paired→XC,swapsWith→XH,wpAny_letGo→XN,sliceBounds→XQ,bindArgs→XR,wpAny_updateSeq→Y5,cLine→Y8,codeAny_mono→Yb,codeAny→Yc,scanBound→Ye,wpAny_tryCatch→Yh,wpAny_Call_Name_kw→Yi,assign→Yj,wpAny_pyIter_list→Yp,fits_of_scanBound→Yq,wpAny_attempt→Ys,attributeBase→Yu,PassesOwn→YB,isInstance→YF,Keyword→YJ,IsPair→YK,wpAny_loadPart'→YM,post_val_or_str→YQ,letOwnedTupleGo→YS,firstArgMember→Z2,tupleKind→Z3,pickOrder→Z4,getItem→Z5,callerA→Z6,wpAny_onRaise→Zb,wpAny_newList→Zc,setEntries→Zf,setField→Zm,relayAll→Zn,relabel→Zo,concat_meets→Zq,BindsTo→Zr,seqItems?→Zt,IsPart→Zv,wpAny_throw→Zw,subscripted→Zx,keywordEach→Zy,IsZip→ZD,standAt→ZF,raiseNew→ZG,atKey→ZK,updateSeq→ZL,field→ZM,bindL→ZQ,bindC→ZR,setItem→ZV,pyIter→ZX,newExc→ZZ,intKind→a0a,collect→a0b,argsOk→a0c,Result→a0e,ElemsOf→a0g,backToKw→a0k,IntMulOk→a0l,GenState→a0m
open PySem.Heap renaming get?_push_of_some→Rk,lt_size→RB,get?_push_size→RD,get?_update_self→TJ,get?_update_other→Ua,SameBut→Ub,get?_update_ne→Uw,size_push→Vs
open List renaming map_cons→Ro,mem_cons→Rp,length_map→Rq,mem_cons_of_mem→Rt,mem_cons_self→Ru,getElem?_eq_getElem→RC,length_append→RJ,length_cons→RK,size_toArray→RM,mem_of_getElem?→S5,not_mem_nil→Sd,map_map→Sg,getElem?_eq_some_iff→Sq,mem_singleton→Sv,mem_map→Sw,mem_append_right→T3,getElem?_set_self→T4,getElem?_map→T8,mem_append→Tf,nodup_cons→Tg,map_nil→Ti,getElem?_set_ne→Tn,pairwise_cons→Tr,getD_eq_getElem?_getD→Tv,take_append_drop→Tz,length_filter_le→TF,range→TQ,mem_map_of_mem→U0,map_append→U3,replicate→Uc,any_cons→Ue,length_singleton→Uk,append_assoc→Um,mem_append_left→Uo,getElem?_append_right→Uq,append_nil→Ur,eq_nil_of_length_eq_zero→UG,Perm→UT,length_nil→V0,mem_filter→Ve,getElem?_append_left→Vi,lookup_cons→Vo,length_take→Vp,foldl_cons→Vv,length_replicate→VD,find?_cons→VH,length→VM,length_drop→W4,getElem?_cons_succ→W5,getElem?_drop→Wa,drop_of_length_le→Wb,mem_iff_getElem?→Wj,drop_take→Wu,getElem_mem→Wy,pairwise_iff_getElem→WK,drop_eq_getElem_cons→WL,map_congr_left→WN,getElem_of_mem→WP,nil_append→X3,getElem?_replicate→X7,getElem?_cons_zero→X8,take_of_length_le→Xc,pairwise_map→Xd,nodup_nil→Xe,perm_append_comm→Xm,getElem?_toArray→Xn,getElem?_eq_none→Xo,cons_append→Xr,mem_range→XX,drop_drop→Y0,length_range→Yd,drop_length→Yk,all_eq_true→Ym,any_nil→Yr,forIn_cons→Yw,filter_map→Yx,all_cons→YX
open Bool renaming false_eq_true→Rv,and_eq_true→RT,false_ne_true→S9,not_eq_true'→Sy,or_eq_false_iff→Vt,or_false→WX,or_eq_true→X4,eq_iff_iff→X5,xor→Y4,not_true→Yg,not_false→YD,false_or→YZ,and_true→Z0,and_self→Z1,true_or→Z8
open PySem.W renaming Frag→Rw,fnOf→Ui,keepIn→Uz,kia_one→W8,findIn→XJ,codeIn→Yv
open Nat renaming le_refl→Rx,le_trans→RW,ne_of_lt→RX,lt_of_lt_of_le→Td,lt_succ_of_lt→TV,lt_of_le_of_lt→TX,zero_le→Uj,ne_of_gt→Vq,mul_le_mul→VB,zero_add→VP,lt_trans→VR,lt_irrefl→VV,dvd_trans→W0,lcm→Wn,log2_lt→Wx,lt_succ_self→WF,le_of_dvd→WY,gcd→X6,pow_lt_pow_right→XF,strongRecOn→XM,le_of_lt→XS,eq_zero_or_pos→Y6,log2→Yn,dvd_refl→Za,pow_add→Zg,mul_one→Zh,le_succ→Zi,lcm_dvd→Zj
open Option.some renaming injEq→Ry,inj→U5
open PyProof.Rows renaming wpS_bind→RN,wpS_pure→RV,arrOf→Su,pendingOf→Tp,wpS_forRange→Ud,wpS_mono→Ul,elem'→Vn,failedOf→W3,callWith_type1→W7,sortedS→W9,seqObj→Ww,IntsAre→Wz,wpS_modify→WQ,oneType'→WT,wpS_get→Xu,pairsOf→Xx,wpS_lift→Yz,envOfC→YG,AllBare→YL,setPending→Ze,numOf→ZJ,IsTup→ZS,setArr→ZW,StrsAre→a0d,gallopOf→a0j
open Array renaming getElem?_eq_getElem→RZ,getD_eq_getD_getElem?→SQ,toList_append→Ug,length_toList→Uv,getElem?_toList→UJ,getElem?_eq_none→Vw,perm_iff_toList_perm→Vy,getElem_toList→VL,getElem?_eq_some_iff→Ws,toList_push→Y9
open Option renaming bind_some→Sh,map_some→Te,map_eq_some_iff→U8,isNone_iff_eq_none→VG,getD_some→Wt
open False renaming elim→SX
open PySem.SetTable renaming below→Tq,grown→Wh
open PySem.Builtin.SmallTypes renaming nextOf→TY,ownedTupleIsFree→Vm
open PySem.Around renaming under_plainId→U4
open PySem.SeqAt renaming EqAt→Uh
open PySem.Value renaming ref→Us,none→Wq,bool→Xl,type→YW,int→Z9,str→ZC
open List.Perm renaming refl→V4
open Function renaming comp_def→V5
open PySem.F renaming plain_max_loop→V8,called_set→Vh,plain_list_iadd→WW
open Int renaming toNat_natCast→Vd,natCast_mul→VN,lt_trans→WM,natCast_nonneg→Xa,natAbs_mul→Xi,natAbs_natCast→Y7,natAbs→Yy,le_refl→Zk
open PySem.NameKind renaming free→Vk,cell→YC
open Ne renaming symm→Vr
open PySem.Obj renaming mapSeq→Vz,data_mapFields→Wf,mapFields→Wi,isFreed_of_fields→Wl,putSet→Zu
open PySem.Builtin.Str renaming occurrences→VJ
open PySem.Txt renaming slice→W6,slice_le→XD
open PySem.Builtin.Slice renaming slicePlaces→Wg
open PySem.Builtin.Tuple renaming tupleExact→Wm
open ForInStep renaming yield→WD,done→Yo
open PySem.PyData renaming keyHash→Xb
open Sum renaming inr→Xh,inl→YT
open PySem.Heap.SameBut renaming update→Xj
open List.cons renaming injEq→Xp
open True renaming intro→Xq
open PySem.SetTable.below renaming go→Xz
open PySem.Paired renaming length→YH
open Except renaming ok→Z7
open ForIn renaming forIn→Zz
open LawfulBEq renaming eq_of_beq→ZP
open MonadExcept renaming tryCatch→a0h
open ToString renaming toString→a0i
open Option renaming some→Z_,none→Yt
open Bool renaming true→Y_,false→Zd
noncomputable section
namespace L2
open PySem PySem.Spec PyProof.Rows
abbrev Key:=Sum Int Str
noncomputable def jo:Key->Rm->Bool
 | .inl k,v=>Rm.isInt k v
 | .inr x,v=>Rm.isStrOf x v
noncomputable def keyH(w:Th):Key->Int
 | .inl k=>hashInt k
 | .inr x=>hashStr w x
def aX:∀{k:Key}{v:Rm},jo k v=Y_->(∃i t,k=YT i/\v=Z9 i t)\/(∃x t,k=Xh x/\v=ZC x t)
 | .inl i,v,h=>by
   obtain⟨t,e⟩:=Rm.isInt_shape (k:=i) (v:=v) h;exact .inl ⟨i,t,rfl,e⟩
 | .inr x,v,h=>by
   obtain⟨t,e⟩:=Rm.isStrOf_shape (x:=x) (v:=v) h;exact .inr ⟨x,t,rfl,e⟩
def vI(i:Int)(t:Tok):jo (.inl i) (.int i t)=Y_:=by simp[jo,Rm.isInt]
def ud(x:Str)(t:Tok):jo (.inr x) (.str x t)=Y_:=by simp[jo,Rm.isStrOf]
def Oo(a b:Int):decide ((YT a:Key)=YT b)=(a==b):=by
 by_cases e:a=b
 .subst e;simp
 .have h:¬(YT a:Key)=YT b:=λq=>e (YT.inj q)
  rw[decide_eq_false h];exact(beq_eq_false_iff_ne.mpr e).symm
def Ny(a b:Str):decide ((Xh a:Key)=Xh b)=decide (a=b):=by
 by_cases e:a=b
 .subst e;simp
 .have h:¬(Xh a:Key)=Xh b:=λq=>e (Xh.inj q)
  rw[decide_eq_false h,decide_eq_false e]
def JN(a:Int)(b:Str):decide ((YT a:Key)=Xh b)=Zd:=decide_eq_false (λq=>nomatch q)
def Mz(a:Str)(b:Int):decide ((Xh a:Key)=YT b)=Zd:=decide_eq_false (λq=>nomatch q)
def aV(prog:Sx)(w:Th):PySem.KeyKind prog w Key where
 is:=jo
 hash:=keyH w
 inj:=λv a b ha hb=>by
  rcases aX ha with⟨i,t,rfl,rfl⟩ | ⟨x,t,rfl,rfl⟩
  .rcases aX hb with⟨j,u,rfl,e⟩ | ⟨y,u,rfl,e⟩
   .injection e with e1 _;rw[e1]
   .exact nomatch e
  .rcases aX hb with⟨j,u,rfl,e⟩ | ⟨y,u,rfl,e⟩
   .exact nomatch e
   .injection e with e1 _;rw[e1]
 byValue:=λk v h=>by
  rcases aX h with⟨i,t,rfl,rfl⟩ | ⟨x,t,rfl,rfl⟩<;>rfl
 pyHash:=λhv h=>by
  rcases aX hv with⟨i,t,rfl,rfl⟩ | ⟨x,t,rfl,rfl⟩
  .exact wpAny_pyHash_int h
  .exact wpAny_pyHash_str h
 eqBool:=λhu hv h=>by
  rcases aX hu with⟨i,t,rfl,rfl⟩ | ⟨x,t,rfl,rfl⟩
  .rcases aX hv with⟨j,u,rfl,rfl⟩ | ⟨y,u,rfl,rfl⟩
   .rw[Oo]at h;exact wpAny_eqBool_int h
   .rw[JN]at h;exact Uh.int_str i t y u _ _ _ _ h
  .rcases aX hv with⟨j,u,rfl,rfl⟩ | ⟨y,u,rfl,rfl⟩
   .rw[Mz]at h;exact Uh.str_int x t j u _ _ _ _ h
   .rw[Ny]at h;exact wpAny_eqBool_str h
 «strs»:=λk x t v h=>by
  rcases aX h with⟨i,u,rfl,e⟩ | ⟨y,u,rfl,e⟩
  .exact nomatch e
  .injection e with e1 _
   subst e1;cases v<;>rfl
def pJ(prog:Sx)(w:Th)(i:Int)(t:Tok):(aV prog w).is (.inl i) (.int i t)=Y_:=vI i t
def oJ(prog:Sx)(w:Th)(x:Str)(t:Tok):(aV prog w).is (.inr x) (.str x t)=Y_:=ud x t
inductive V where
 | non | bl (b:Bool) | int (i:Int) | str (x:Str) | byt (b:Array UInt8) | flt (b:UInt64) | ref (a:Addr) | ty (n:String)
 deriving DecidableEq
def RelV:V->Rm->Prop
 | .non,u=>u=Wq
 | .bl b,u=>u=Xl b
 | .int i,u=>∃t,u=Z9 i t
 | .str x,u=>∃t,u=ZC x t
 | .byt b,u=>∃t,u=Rm.bytes b t
 | .flt b,u=>∃t,u=Rm.float b t
 | .ref a,u=>u=Us a
 | .ty n,u=>u=YW n
abbrev Vals:List V->List Rm->Prop:=XC RelV
def Vals.length(r:Vals xs us):xs.length=us.length:=YH r
theorem Vals.get:∀{xs:List V}{us:List Rm}{i:Nat}{x:V},Vals xs us->xs[i]?=Z_ x->∃u,us[i]?=Z_ u/\RelV x u
 | _,_,_,_,.nil,e=>by simp at e
 | _,_,0,_,.cons r _,e=>by simp at e;subst e;exact⟨_,rfl,r⟩
 | _,_,i+1,x,.cons _ t,e=>by
   obtain⟨u,h1,h2⟩:=Vals.get (i:=i) (x:=x) t (by simpa using e);exact⟨u,by simpa using h1,h2⟩
theorem Vals.set(r:RelV x u):∀{xs:List V}{us:List Rm}(i:Nat),Vals xs us->Vals (xs.set i x) (us.set i u)
 | _,_,_,.nil=>.nil
 | _,_,0,.cons _ t=>.cons r t
 | _,_,i+1,.cons q t=>.cons q (Vals.set r i t)
theorem Vals.append:∀{xs ys:List V}{us ws:List Rm},Vals xs us->Vals ys ws->Vals (xs++ys) (us++ws)
 | _,_,_,_,.nil,s=>s
 | _,_,_,_,.cons r t,s=>.cons r (Vals.append t s)
theorem Vals.take:∀{xs:List V}{us:List Rm}(n:Nat),Vals xs us->Vals (xs.take n) (us.take n)
 | _,_,0,_=>.nil
 | _,_,_+1,.nil=>.nil
 | _,_,n+1,.cons r t=>.cons r (Vals.take n t)
theorem Vals.drop:∀{xs:List V}{us:List Rm}(n:Nat),Vals xs us->Vals (xs.drop n) (us.drop n)
 | _,_,0,r=>r
 | _,_,_+1,.nil=>.nil
 | _,_,n+1,.cons _ t=>Vals.drop n t
def RelO:Option V->Option Rm->Prop
 | some v,some u=>RelV v u
 | none,none=>True
 | _,_=>False
def KV{κ:Type}:List (κ×V)->List (κ×Rm)->Prop:=XC λ(p:κ×V)(q:κ×Rm)=>p.1=q.1/\RelV p.2 q.2
noncomputable def kV:Key->V
 | .inl i=>.int i
 | .inr x=>.str x
inductive HO where
 | lst (xs:List V)
 | tup (xs:List V)
 | dK (kvs:List (Key×V)) (ep:Nat) | dT (kvs:List (List Key×V))
 | set (S:Int->Bool) (n:Nat)
 | ins (C dx:Addr) (fs:List (Str×V))
 | own (x:Addr)
 | xd (fs:List (Str×V))
 | met (f x:Addr)
 | rng (lo hi:Int)
 | frz (o:Obj) (u:HO)
 | tbl (ps:Array Rm)
 | ext (φ:Rz->Prop)
abbrev Hp:=Addr->Option HO
noncomputable def upd(H:Hp)(a:Addr)(o:HO):Hp:=λb=>if b=a then some o else H b
def bf:upd H a o a=Z_ o:=by unfold upd;rw[if_pos rfl]
def aP(h:b≠a):upd H a o b=H b:=by unfold upd;rw[if_neg h]
def PQ{H:Hp}{a b:Addr}{o u:HO}(h:H a=Z_ o)(h':H b=Z_ u)(d:o≠u):a≠b:=by
 intro e;subst e;rw[h]at h';exact d (U5 h')
def bA{H:Hp}{a b:Addr}{o:HO}(h:H a=Z_ o)(h':H b=Yt):a≠b:=by
 intro e;subst e;rw[h]at h';cases h'
section
variable(P:Sx)(w:Th)
def ObjOk(H:Hp)(h:Rz)(a:Addr):HO->Prop
 | .lst xs=>xs.length<=sizeLine/\∃(its:List Rm)(n:Nat),Vals xs its/\h.get? a=Z_ { cls:=.type "list",data:=.seq its.toArray n }
 | .tup xs=>xs.length<=sizeLine/\∃its:List Rm,Vals xs its/\ZS h a its.toArray
 | .dK kvs ep=>kvs.length<=sizeLine/\(a==Vx)=Zd/\∃vs,KV kvs vs/\h.DictAt (aV P w) a vs ep
 | .dT kvs=>kvs.length<=sizeLine/\(a==Vx)=Zd/\∃xs:List (List Key×Addr×Rm),
  XC (λ(p:List Key×V)(q:List Key×Addr×Rm)=>p.1=q.1/\H q.2.1=Z_ (.tup (p.1.map kV))/\RelV p.2 q.2.2) kvs xs /\
  ∃o es ep,h.get? a=Z_ o/\o.ExactDict/\o.data=.dict es ep/\es.toList=xs.map (entryOfKey (Z3 (aV P w)))/\(xs.map (·.1)).Nodup
 | .set S n=>h.SetOf (a0a P w) a S n
 | .ins C dx fs=>H dx=Z_ (.own a)/\fs.length<=1000/\dx≠a/\h.get? a=Z_ (PySem.W.instObj C dx) /\
  ∃mA,h.Ns1 dx mA/\(∀f,RelO (fs.lookup f) (mA f))/\PySem.Within mA (fs.map (·.1))
 | .own _=>∃o,h.get? a=Z_ o
 | .xd fs=>∃mA,h.Ns1 a mA/\∀f,RelO (fs.lookup f) (mA f)
 | .rng lo hi=>∃t u v,h.get? a=Z_ { cls:=.type "range",data:=.fields #[.int lo t,.int hi u,.int 1 v] }
 | .frz o u=>h.get? a=Z_ o/\ObjOk H h a u
 | .tbl ps=>h.get? a=Z_ { cls:=.none,data:=.fields ps }
 | .met f x=>h.get? a=Z_ (PySem.W.methodObj (.ref f) (.ref x))
 | .ext φ=>φ h/\(∃o,h.get? a=Z_ o)/\∀h1 h2:Rz,φ h1->(∀o,h1.get? a=Z_ o->h2.get? a=Z_ o)->φ h2
def HOk(H:Hp)(h:Rz):Prop:=∀a o,H a=Z_ o->ObjOk P w H h a o
end
section
variable{P:Sx}{w:Th}{H H':Hp}{h h':Rz}{a:Addr}{o:HO}
def ObjOk.lt(x:ObjOk P w H h a o):a<h.objs.size:=by
 cases o with
 | lst xs=>obtain⟨_,_,_,_,e⟩:=x;exact RB e
 | tup xs=>obtain⟨_,_,_,p⟩:=x;exact p.lt
 | dK kvs ep=>obtain⟨_,_,_,_,o,_,e,_⟩:=x;exact RB e
 | dT kvs=>obtain⟨_,_,_,_,o,_,_,e,_⟩:=x;exact RB e
 | set S n=>obtain⟨o,_,_,_,e,_⟩:=x;exact RB e
 | ins C dx fs=>obtain⟨_,_,_,e,_⟩:=x;exact RB e
 | own y=>obtain⟨_,e⟩:=x;exact RB e
 | xd fs=>obtain⟨_,⟨_,_,_,e,_⟩,_⟩:=x;exact RB e
 | rng lo hi=>obtain⟨_,_,_,e⟩:=x;exact RB e
 | frz ob u=>obtain⟨e,_⟩:=x;exact RB e
 | tbl ps=>exact RB (show h.get? a=Z_ _ from x)
 | met f y=>exact RB (show h.get? a=Z_ _ from x)
 | ext φ=>obtain⟨_,⟨_,e⟩,_⟩:=x;exact RB e
theorem Paired.mapP:∀{l₁:List α}{l₂:List β},XC F l₁ l₂->(∀a b,F a b->G a b)->XC G l₁ l₂
 | _,_,.nil,_=>.nil
 | _,_,.cons r t,f=>.cons (f _ _ r) (Paired.mapP t f)
def ObjOk.stay(x:ObjOk P w H h a o)(k:∀b u,(b=a\/H b=Z_ (.own a))->h.get? b=Z_ u->h'.get? b=Z_ u)
 (ho:∀b,H b=Z_ (.own a)->H' b=Z_ (.own a))(ht:∀b xs,H b=Z_ (.tup xs)->H' b=Z_ (.tup xs)):ObjOk P w H' h' a o:=by
 induction o with
 | lst xs=>obtain⟨z,its,n,r,e⟩:=x;exact⟨z,its,n,r,k _ _ (.inl rfl) e⟩
 | tup xs=>obtain⟨z,its,r,ob,e,c⟩:=x;exact⟨z,its,r,ob,k _ _ (.inl rfl) e,c⟩
 | dK kvs ep=>obtain⟨z,y,vs,r,ob,es,e,c⟩:=x;exact⟨z,y,vs,r,ob,es,k _ _ (.inl rfl) e,c⟩
 | dT kvs=>
   obtain⟨z,y,xs,r,ob,es,ep,e,c⟩:=x;exact⟨z,y,xs,Paired.mapP r λp q z=>⟨z.1,ht _ _ z.2.1,z.2.2⟩,ob,es,ep,k _ _ (.inl rfl) e,c⟩
 | set S n=>obtain⟨ob,es,ep,t,e,c⟩:=x;exact⟨ob,es,ep,t,k _ _ (.inl rfl) e,c⟩
 | ins C dx fs=>
   obtain⟨d,z,ne,e,mA,⟨od,es,ep,e2,c⟩,r⟩:=x;exact⟨ho _ d,z,ne,k _ _ (.inl rfl) e,mA,⟨od,es,ep,k _ _ (.inr d) e2,c⟩,r⟩
 | own y=>obtain⟨ob,e⟩:=x;exact⟨ob,k _ _ (.inl rfl) e⟩
 | xd fs=>obtain⟨mA,⟨od,es,ep,e,c⟩,r⟩:=x;exact⟨mA,⟨od,es,ep,k _ _ (.inl rfl) e,c⟩,r⟩
 | rng lo hi=>obtain⟨t,u,v,e⟩:=x;exact⟨t,u,v,k _ _ (.inl rfl) e⟩
 | frz ob u ih=>obtain⟨e,q⟩:=x;exact⟨k _ _ (.inl rfl) e,ih q⟩
 | tbl ps=>
   have e:h.get? a=Z_ { cls:=.none,data:=.fields ps }:=x;show h'.get? a=Z_ { cls:=.none,data:=.fields ps };exact k a _ (.inl rfl) e
 | met f y=>
   have e:h.get? a=Z_ (PySem.W.methodObj (.ref f) (.ref y)):=x;show h'.get? a=Z_ (PySem.W.methodObj (.ref f) (.ref y));exact k a _ (.inl rfl) e
 | ext φ=>obtain⟨p,⟨o,e⟩,st⟩:=x;exact⟨st _ _ p λo q=>k _ _ (.inl rfl) q,⟨o,k _ _ (.inl rfl) e⟩,st⟩
def HOk.lt(x:HOk P w H h)(e:H a=Z_ o):a<h.objs.size:=(x a o e).lt
def HOk.fresh(x:HOk P w H h)(e:h.objs.size<=a):H a=Yt:=by
 cases q:H a with
 | none=>rfl
 | some u=>exact absurd (Td (x.lt q) e) (VV _)
def HOk.kept(x:HOk P w H h)(k:∀b u,h.get? b=Z_ u->h'.get? b=Z_ u):HOk P w H h':=λa o e=>
 (x a o e).stay (λb u _ q=>k b u q) (λ_ q=>q) λ_ _ q=>q
def HOk.laid(x:HOk P w H h)(k:∀b u,h.get? b=Z_ u->h'.get? b=Z_ u)(hp:h.objs.size<=a)(new:ObjOk P w (upd H a o) h' a o):HOk P w (upd H a o) h':=λb u e=>by
 have hn:=x.fresh hp
 by_cases hb:b=a
 .subst hb;rw[bf]at e;cases e;exact new
 .rw[aP hb]at e
  exact(x b u e).stay (λc v _ q=>k c v q) (λc q=>by rw[aP (bA q hn)];exact q) λc xs q=>by rw[aP (bA q hn)];exact q
end
def Rd(H:Hp)(a:Addr)(u:HO):Prop:=H a=Z_ u\/∃o,H a=Z_ (.frz o u)
def Rd.ok(r:Rd H a u)(x:HOk P w H h):ObjOk P w H h a u:=by
 rcases r with r | ⟨o,r⟩
 .exact x a u r
 .obtain⟨_,q⟩:=x a _ r
  exact q
def Mut:Option HO->Prop
 | some (.lst _)=>True
 | some (.dK _ _)=>True
 | some (.dT _)=>True
 | some (.set _ _)=>True
 | some (.ins _ _ _)=>True
 | some (.ext _)=>True
 | _=>False
section
variable{P:Sx}{w:Th}{H:Hp}{h h':Rz}{x e:Addr}{o':HO}
def HOk.write(ok:HOk P w H h)(mu:Mut (H x))(he:e=x\/H e=Z_ (.own x))(k:∀b u,b≠e->h.get? b=Z_ u->h'.get? b=Z_ u)(heo:∃u,h'.get? e=Z_ u)
 (new:ObjOk P w (upd H x o') h' x o'):HOk P w (upd H x o') h':=λb u q=>by
 have nown:∀c y,H c=Z_ (.own y)->c≠x:=λc y r z=>by subst z;rw[r]at mu;exact mu
 have ntup:∀c xs,H c=Z_ (.tup xs)->c≠x:=λc xs r z=>by subst z;rw[r]at mu;exact mu
 by_cases hb:b=x
 .subst hb;rw[bf]at q;cases q;exact new
 .rw[aP hb]at q
  by_cases hbe:b=e
  .have q':H b=Z_ (.own x):=by
    rcases he with z | z
    .exact absurd (hbe.trans z) hb
    .rw[hbe];exact z
   rw[q]at q';cases q';obtain⟨v,hv⟩:=heo;exact⟨v,by rw[hbe];exact hv⟩
  .refine(ok b u q).stay (λc v hc r=>k c v ?_ r) (λc r=>by rw[aP (nown c b r)];exact r) λc xs r=>by rw[aP (ntup c xs r)];exact r
   rcases hc with rfl | hc
   .exact hbe
   .rintro rfl
    rcases he with z | z
    .exact nown c b hc z
    .rw[hc]at z;cases z;exact hb rfl
end
structure Un(fs ex:List Addr)(H H':Hp)(h h':Rz):Prop where
 keep:∀b o,h.get? b=Z_ o->H b=Yt->b∉fs->b∉ex->h'.get? b=Z_ o
 slot:∀b o,h.get? b=Z_ o->H b=Yt->b∈fs->b∉ex->∃sl,h'.get? b=Z_ { o with slots:=sl }
 free:∀b o,h.get? b=Z_ o->H b=Yt->b∉ex->H' b=Yt
 there:∀b o,h.get? b=Z_ o->b∉ex->∃o',h'.get? b=Z_ o'
 tups:∀b xs,H b=Z_ (.tup xs)->H' b=Z_ (.tup xs)
 frzs:∀b o u,H b=Z_ (.frz o u)->H' b=Z_ (.frz o u)
 tbls:∀b ps,H b=Z_ (.tbl ps)->∃more,H' b=Z_ (.tbl (ps++more))
section
variable{fs fs' ex ex':List Addr}{H H1 H2:Hp}{h h1 h2 h':Rz}{a x e:Addr}{o:HO}
def Un.any(u:Un fs ex H H1 h h1)(q:h.get? b=Z_ ob)(n:H b=Yt)(hx:b∉ex):∃sl,h1.get? b=Z_ { ob with slots:=sl }:=by
 by_cases hb:b∈fs
 .exact u.slot b ob q n hb hx
 .exact⟨ob.slots,u.keep b ob q n hb hx⟩
def Un.kept(k:∀b u,h.get? b=Z_ u->h'.get? b=Z_ u):Un fs ex H H h h' :=
 ⟨λb ob q _ _ _=>k b ob q,λb ob q _ _ _=>⟨ob.slots,k b ob q⟩,λ_ _ _ n _=>n,λb ob q _=>⟨ob,k b ob q⟩,λ_ _ q=>q,λ_ _ _ q=>q,λ_ ps q=>⟨#[],by rw[q];simp⟩⟩
def Un.refl:Un fs ex H H h h:=Un.kept λ_ _ q=>q
def Un.laid(k:∀b u,h.get? b=Z_ u->h'.get? b=Z_ u)(hp:h.objs.size<=a)(hn:H a=Yt):Un fs ex H (upd H a o) h h' where
 keep:=λb u q _ _ _=>k b u q
 slot:=λb u q _ _ _=>⟨u.slots,k b u q⟩
 free:=λb u q n _=>by rw[aP (RX (Td (RB q) hp))];exact n
 there:=λb u q _=>⟨u,k b u q⟩
 tups:=λb xs q=>by rw[aP (bA q hn)];exact q
 frzs:=λb u xs q=>by rw[aP (bA q hn)];exact q
 tbls:=λb ps q=>⟨#[],by rw[aP (bA q hn),q];simp⟩
def Un.write(mu:Mut (H x))(he:e=x\/H e=Z_ (.own x))(k:∀b u,b≠e->h.get? b=Z_ u->h'.get? b=Z_ u)(heo:∃u,h'.get? e=Z_ u):Un fs ex H (upd H x o) h h':=by
 have hx:∀b,H b=Yt->b≠x:=λb n z=>by subst z;rw[n]at mu;exact mu
 have hb:∀b,H b=Yt->b≠e:=λb n z=>by
  subst z;rcases he with r | r
  .exact hx b n r
  .rw[n]at r;cases r
 have hm:∀b u,H b=Z_ u->¬Mut (Z_ u)->b≠x:=λb u q nm z=>by subst z;rw[q]at mu;exact nm mu
 refine⟨λb u q n _ _=>k b u (hb b n) q,λb u q n _ _=>⟨u.slots,k b u (hb b n) q⟩,λb u q n _=>by rw[aP (hx b n)];exact n,λb u q _=>?_,
  λb xs q=>by rw[aP (hm b _ q λz=>z)];exact q,λb u xs q=>by rw[aP (hm b _ q λz=>z)];exact q,λb ps q=>⟨#[],by rw[aP (hm b _ q λz=>z),q];simp⟩⟩
 by_cases hbe:b=e
 .subst hbe;exact heo
 .exact⟨u,k b u hbe q⟩
end
noncomputable def trk(h:Rz)(H:Hp):List Addr:=(TQ h.objs.size).filter λa=>(H a).isSome
noncomputable def hidT(h:Rz)(H:Hp):Rz:=PySem.W.hideAll h (trk h H)
def uv(h:Rz)(H:Hp):(hidT h H).objs.size=h.objs.size:=PySem.W.hideAll_size _ _
def zz(e:h.get? b=Z_ o)(n:H b=Yt):(hidT h H).get? b=Z_ o :=
 PySem.W.hideAll_get _ e λhm=>by
  have q:(H b).isSome=Y_:=(Ve.mp hm).2;rw[n]at q;simp at q
def Gf(e:(hidT h H).get? b=Z_ o):h.get? b=Z_ o/\H b=Yt:=by
 have e':h.get? b=Z_ o:=PySem.W.of_hideAll (trk h H) e;refine⟨e',?_⟩
 cases q:H b with
 | none=>rfl
 | some x=>
   have hm:b∈trk h H:=Ve.mpr ⟨XX.mpr (RB e'),by simp[q]⟩;have z:(hidT h H).get? b=Yt:=PySem.W.hideAll_none (trk h H) hm;rw[z]at e;cases e
structure Mod(K:Rw)(mg:Str->Option Rm)(base:Rz):Prop where
 kin:K.In base
 glob:base.Ns Vb mg
 blt:∃mb,base.Ns builtinsNs mb/\∀x:Str,x≠"__name__"->mb x=Vu x
 nolimit:base.NoLimit
structure Cx where
 prog:Sx
 w:Th
 K:Rw
 mg:Str->Option Rm
 base:Rz
 A:Tu
 N:List Str
 s₀:Rr
 H₀:Hp
 env:Env
 outer:List Env
 stack:List Env
 ex:List Addr
 fn:Str->Bool
 calm:Bool
 pn:List (Addr×Obj)
 xe:Rm->Rr->Prop
noncomputable def frs(l:List Env):List Addr:=l.filterMap (·.frame)
noncomputable abbrev Cx.fs(X:Cx):List Addr:=frs X.outer
def Vis(sc:Scope)(x:Str):Prop:=sc.names.lookup x=Z_ .local\/sc.names.lookup x=Z_ .cell\/sc.names.lookup x=Z_ .free
def Loc(sc:Scope)(x:Str):Prop:=sc.names.lookup x=Z_ .local\/sc.names.lookup x=Z_ .cell
def Look(env:Env)(h:Rz)(m:Str->Option Rm)(x:Str)(u:Rm):Prop :=
 (env.kindOf x=Z_ .local/\m x=Z_ u)\/((env.kindOf x=Z_ .cell\/env.kindOf x=Z_ .free)/\∃c,env.cells.lookup x=Z_ c/\h.IsCell c (Z_ u))
structure Cx.Ok(X:Cx):Prop where
 mod:Mod X.K X.mg X.base
 kind:X.env.scope.kind=.function
 glob:X.env.globals=Vb
 blt:X.env.builtins=builtinsNs
 above:X.s₀.heap.objs.size<=X.env.locals
 inj:∀x y c,X.env.cells.lookup x=Z_ c->X.env.cells.lookup y=Z_ c->x=y
 has:∀x,(X.env.kindOf x=Z_ .cell\/X.env.kindOf x=Z_ .free)->∃c,X.env.cells.lookup x=Z_ c
 cab:∀x c,X.fn x=Y_->X.env.cells.lookup x=Z_ c->X.s₀.heap.objs.size<=c
 hd:X.calm=Y_->X.A.handled=Yt
 frames:X.A.frames=Z_ X.stack
 stk:X.stack=X.outer\/(X.stack=X.env::X.outer/\X.env.frame=Z_ X.env.locals)
 exf:∀b∈X.ex,b≠X.env.locals/\∀x c,X.env.cells.lookup x=Z_ c->c≠b
 bs:∀b o,X.base.get? b=Z_ o->X.s₀.heap.get? b=Z_ o/\X.H₀ b=Yt
 bsz:X.base.objs.size<=X.s₀.heap.objs.size
 noex:∀b o,X.base.get? b=Z_ o->b∉X.ex
 exfs:∀b∈X.ex,b∉X.fs
 funs:X.s₀.heap.FunFrames X.base X.outer
 frf:∀b∈X.fs,X.H₀ b=Yt
structure Inv(X:Cx)(pins:List (Addr×Obj))(σ:List (Option V))(H:Hp)(s:Rr):Prop where
 ok:X.Ok
 os:s.os=X.s₀.os
 bare:YL s.gens
 base:Un X.fs X.ex X.H₀ H X.s₀.heap s.heap
 loc:∃m,s.heap.Ns X.env.locals m/\∀(i:Nat)(x:Str)(v:V),X.N[i]?=Z_ x->σ[i]?=Z_ (Z_ v)->Vis X.env.scope x->∃u,RelV v u/\Look X.env s.heap m x u
 cell:∀x c,X.env.cells.lookup x=Z_ c->∃v,s.heap.IsCell c v
 free:H X.env.locals=Yt
 freeC:∀x c,X.env.cells.lookup x=Z_ c->H c=Yt
 pin:∀p∈X.pn++pins,s.heap.get? p.1=Z_ p.2/\H p.1=Yt/\p.1≠X.env.locals/\p.1∉X.fs/\∀v,p.2.data≠.cell v
 hok:HOk X.prog X.w H s.heap
 len:σ.length=X.N.length
section
variable{X:Cx}{pins:List (Addr×Obj)}{σ:List (Option V)}{H H':Hp}{s:Rr}{h':Rz}
def Cx.Ok.nofr(ok:X.Ok)(e:X.base.get? b=Z_ o):b∉X.fs:=λhb=>by
 have:=(ok.funs.mem hb).1;rw[e]at this;cases this
def Inv.bs(I:Inv X pins σ H s):∀b o,X.base.get? b=Z_ o->s.heap.get? b=Z_ o/\H b=Yt:=λb o e=>
 ⟨I.base.keep b o (I.ok.bs b o e).1 (I.ok.bs b o e).2 (I.ok.nofr e) (I.ok.noex b o e),I.base.free b o (I.ok.bs b o e).1 (I.ok.bs b o e).2 (I.ok.noex b o e)⟩
def Inv.bk(I:Inv X pins σ H s):∀b o,X.base.get? b=Z_ o->s.heap.get? b=Z_ o:=λb o e=>(I.bs b o e).1
def Inv.mod(I:Inv X pins σ H s):Mod X.K X.mg X.base:=I.ok.mod
def Inv.kIn(I:Inv X pins σ H s):X.K.In s.heap:=I.ok.mod.kin.keeps I.bk
def Inv.lt(I:Inv X pins σ H s):X.env.locals<s.heap.objs.size:=let⟨_,hn,_⟩:=I.loc;hn.lt
def Inv.sz(I:Inv X pins σ H s):X.s₀.heap.objs.size<=s.heap.objs.size:=RW I.ok.above (XS I.lt)
def Inv.nofs(I:Inv X pins σ H s)(h:s.heap.objs.size<=a):a∉X.fs:=λhb=>by
 obtain⟨_,o,ho,_⟩:=I.ok.funs.mem hb;exact absurd (Td (RB ho) (RW I.sz h)) (VV _)
def Inv.cne(I:Inv X pins σ H s):∀x c,X.env.cells.lookup x=Z_ c->c≠X.env.locals:=λx c e z=>by
 obtain⟨v,o,ho,hd⟩:=I.cell x c e;obtain⟨m,⟨o',es,ep,ho',hd',_⟩,_⟩:=I.loc;rw[z,ho']at ho;cases ho;rw[hd']at hd;cases hd
def Inv.funs(I:Inv X pins σ H s):s.heap.FunFrames X.base X.outer:=by
 have all:∀(l:List Env),(∀b∈frs l,b∈X.fs)->X.s₀.heap.FunFrames X.base l->s.heap.FunFrames X.base l:=by
  intro l
  induction l with
  | nil=>intro _ _;trivial
  | cons env r ih=>
    intro hs hl;obtain⟨hk,⟨L,o,hf,hn,ho,hd⟩,hr⟩:=hl;have hL:L∈X.fs:=hs L (by unfold frs;rw[List.filterMap_cons,hf];exact Ru)
    obtain⟨sl,e⟩:=I.base.slot L o ho (I.ok.frf L hL) hL λz=>I.ok.exfs L z hL
    exact⟨hk,⟨L,_,hf,hn,e,hd⟩,ih (λb hb=>hs b (by unfold frs;rw[List.filterMap_cons,hf];exact Rt _ hb)) hr⟩
 exact all X.outer (λ_ hb=>hb) I.ok.funs
def Inv.stack(I:Inv X pins σ H s):s.heap.FunFrames X.base X.stack:=by
 rcases I.ok.stk with e | ⟨e,hf⟩
 .rw[e];exact I.funs
 .rw[e]
  obtain⟨m,hn,_⟩:=I.loc;refine .cons (by rw[I.ok.kind];decide) hf hn ?_ I.funs;exact Rz.get?_none_of_le (RW I.ok.bsz I.ok.above)
def Inv.stkSub(I:Inv X pins σ H s):∀b∈frs X.stack,b∈X.env.locals::X.fs:=λb hb=>by
 rcases I.ok.stk with e | ⟨e,hf⟩
 .rw[e]at hb;exact Rt _ hb
 .rw[e]at hb
  unfold frs at hb;rw[List.filterMap_cons,hf]at hb;exact hb
def Inv.stkFree(I:Inv X pins σ H s):∀b∈frs X.stack,H b=Yt:=λb hb=>by
 rcases Rp.mp (I.stkSub b hb)with e | hb
 .rw[e];exact I.free
 .obtain⟨_,o,ho,_⟩:=I.ok.funs.mem hb
  exact I.base.free b o ho (I.ok.frf b hb) λz=>I.ok.exfs b z hb
def Inv.step{g':Array a0m}{t':Nat}{d':Drawn}{ch:List Addr}(I:Inv X pins σ H s)
 (hch:∀b∈ch,(b∈X.ex\/X.s₀.heap.objs.size<=b)/\b≠X.env.locals/\(∀x c,X.env.cells.lookup x=Z_ c->c≠b)/\∀p∈X.pn++pins,p.1≠b)
 (keep:∀b o,b≠X.env.locals->b∉X.fs->b∉ch->s.heap.get? b=Z_ o->H b=Yt->h'.get? b=Z_ o)
 (slot:∀b o,b≠X.env.locals->b∈X.fs->b∉ch->s.heap.get? b=Z_ o->H b=Yt->∃sl,h'.get? b=Z_ { o with slots:=sl })(free:∀b o,b∉ch->s.heap.get? b=Z_ o->H b=Yt->H' b=Yt)
 (there:∀b o,b∉ch->s.heap.get? b=Z_ o->∃o',h'.get? b=Z_ o')
 (tups:∀b xs,H b=Z_ (.tup xs)->H' b=Z_ (.tup xs))(frzs:∀b o u,H b=Z_ (.frz o u)->H' b=Z_ (.frz o u))(tbls:∀b ps,H b=Z_ (.tbl ps)->∃more,H' b=Z_ (.tbl (ps++more)))
 (ns:∀m,s.heap.Ns X.env.locals m->h'.Ns X.env.locals m)(hok:HOk X.prog X.w H' h')(hg:YL g') :
 Inv X pins σ H' { s with heap:=h',gens:=g',drawn:=d',toks:=t' }:=by
 have neL:∀b o,X.s₀.heap.get? b=Z_ o->b≠X.env.locals:=λb o e=>RX (Td (RB e) I.ok.above)
 have neC:∀b o,X.s₀.heap.get? b=Z_ o->b∉X.ex->b∉ch:=λb o e hx hb=>by
  rcases(hch b hb).1 with z | z
  .exact hx z
  .exact absurd (Td (RB e) z) (VV _)
 have cellK:∀x c,X.env.cells.lookup x=Z_ c->∀v,s.heap.IsCell c v->h'.IsCell c v:=λx c e v ⟨o,ho,hd⟩=>by
  have nch:c∉ch:=λz=>(hch c z).2.2.1 x c e rfl
  by_cases hc:c∈X.fs
  .obtain⟨sl,q⟩:=slot c o (I.cne x c e) hc nch ho (I.freeC x c e)
   exact⟨_,q,hd⟩
  .exact⟨o,keep c o (I.cne x c e) hc nch ho (I.freeC x c e),hd⟩
 refine⟨I.ok,I.os,hg,⟨λb o e n hb hx=>?_,λb o e n hb hx=>?_,λb o e n hx=>?_,λb o e hx=>?_,λb xs e=>tups b xs (I.base.tups b xs e),λb o xs e=>frzs b o xs (I.base.frzs b o xs e),λb ps e=>?_⟩,?_,λx c e=>?_,?_,λx c e=>?_,λp hp=>?_,hok,I.len⟩
 .exact keep b o (neL b o e) hb (neC b o e hx) (I.base.keep b o e n hb hx) (I.base.free b o e n hx)
 .obtain⟨sl,e1⟩:=I.base.slot b o e n hb hx
  obtain⟨sl',e2⟩:=slot b _ (neL b o e) hb (neC b o e hx) e1 (I.base.free b o e n hx);exact⟨sl',e2⟩
 .obtain⟨o',e1⟩:=I.base.there b o e hx
  exact free b o' (neC b o e hx) e1 (I.base.free b o e n hx)
 .obtain⟨o',e1⟩:=I.base.there b o e hx
  exact there b o' (neC b o e hx) e1
 .obtain⟨m1,e1⟩:=I.base.tbls b ps e
  obtain⟨m2,e2⟩:=tbls b _ e1;exact⟨m1++m2,by rw[e2,Array.append_assoc]⟩
 .obtain⟨m,hn,hl⟩:=I.loc
  refine⟨m,ns m hn,λi x v e1 e2 e3=>?_⟩;obtain⟨u,r,l⟩:=hl i x v e1 e2 e3;refine⟨u,r,?_⟩;rcases l with l | ⟨k,c,e,z⟩
  .exact .inl l
  .exact .inr ⟨k,c,e,cellK x c e _ z⟩
 .obtain⟨v,z⟩:=I.cell x c e
  exact⟨v,cellK x c e v z⟩
 .obtain⟨m,⟨o,_,_,ho,_⟩,_⟩:=I.loc
  exact free _ o (λz=>(hch _ z).2.1 rfl) ho I.free
 .obtain⟨v,o,ho,hd⟩:=I.cell x c e
  exact free c o (λz=>(hch c z).2.2.1 x c e rfl) ho (I.freeC x c e)
 .obtain⟨e,n,ne,nf,d⟩:=I.pin p hp
  have nch:p.1∉ch:=λz=>(hch p.1 z).2.2.2 p hp rfl
  exact⟨keep p.1 p.2 ne nf nch e n,free p.1 p.2 nch e n,ne,nf,d⟩
def Inv.un{t':Nat}(I:Inv X pins σ H s)(u:Un X.fs [] H H' s.heap h')(hok:HOk X.prog X.w H' h'):Inv X pins σ H' { s with heap:=h',toks:=t' }:=by
 obtain⟨m,⟨o,es,ep,ho,r⟩,_⟩:=id I.loc;obtain⟨sl,hL⟩:=u.any ho I.free (by simp)
 exact I.step (g':=s.gens) (d':=s.drawn) (ch:=[]) (λ_ z=>nomatch z) (λb o _ hb _ e n=>u.keep b o e n hb (by simp)) (λb o _ hb _ e n=>u.slot b o e n hb (by simp)) (λb o _ e n=>u.free b o e n (by simp)) (λb o _ e=>u.there b o e (by simp)) u.tups u.frzs u.tbls (λm' hm=>by
  obtain⟨o',es',ep',ho',r'⟩:=hm;rw[ho]at ho';cases ho'
  exact⟨_,es',ep',hL,r'⟩) hok I.bare
def Inv.call{g':Array a0m}{t':Nat}{d':Drawn}{ch:List Addr}(I:Inv X pins σ H s)(u:Un (frs X.stack) ch H H' s.heap h')(hok:HOk X.prog X.w H' h')(hg:YL g')
 (hch:∀b∈ch,(b∈X.ex\/X.s₀.heap.objs.size<=b)/\b≠X.env.locals/\(∀x c,X.env.cells.lookup x=Z_ c->c≠b)/\∀p∈X.pn++pins,p.1≠b) :
 Inv X pins σ H' { s with heap:=h',gens:=g',drawn:=d',toks:=t' }:=by
 obtain⟨m,⟨o,es,ep,ho,r⟩,_⟩:=id I.loc
 obtain⟨sl,hL⟩:=u.any ho I.free λz=>(hch _ z).2.1 rfl
 exact I.step (ch:=ch) hch (λb o hL hb hc e n=>u.keep b o e n (λz=>(Rp.mp (I.stkSub b z)).elim hL hb) hc) (λb o _ _ hc e n=>u.any e n hc) (λb o hc e n=>u.free b o e n hc) (λb o hc e=>u.there b o e hc) u.tups u.frzs u.tbls (λm' hm=>by
  obtain⟨o',es',ep',ho',r'⟩:=hm;rw[ho]at ho';cases ho'
  exact⟨_,es',ep',hL,r'⟩) hok hg
def Inv.turned{t':Nat}{it:Addr}(I:Inv X pins σ H s)(k:∀b o,b≠it->s.heap.get? b=Z_ o->h'.get? b=Z_ o)(hn:H it=Yt)(hL:it≠X.env.locals)
 (h1:it∈X.ex\/X.s₀.heap.objs.size<=it)(h2:∀x c,X.env.cells.lookup x=Z_ c->c≠it)(h3:∀p∈X.pn++pins,p.1≠it):Inv X pins σ H { s with heap:=h',toks:=t' }:=by
 have nit:∀b u,H b=Z_ u->b≠it:=λb u e z=>by rw[z,hn]at e;cases e
 refine I.step (g':=s.gens) (d':=s.drawn) (ch:=[it]) (λb hb=>?_) (λb o _ _ hc e _=>k b o (λz=>hc (by simp[z])) e) (λb o _ _ hc e _=>⟨o.slots,k b o (λz=>hc (by simp[z])) e⟩) (λ_ _ _ _ n=>n)
  (λb o hc e=>⟨o,k b o (λz=>hc (by simp[z])) e⟩) (λ_ _ e=>e) (λ_ _ _ e=>e) (λb ps e=>⟨#[],by rw[e];simp⟩) (λm hm=>?_) (λb u e=>?_) I.bare
 .have e:b=it:=by simpa using hb
  subst e;exact⟨h1,hL,h2,h3⟩
 .obtain⟨o,es,ep,ho,r⟩:=hm
  exact⟨o,es,ep,k _ o (Vr hL) ho,r⟩
 .refine(I.hok b u e).stay (λc v hc q=>k c v ?_ q) (λ_ q=>q) λ_ _ q=>q
  rcases hc with z | z
  .rw[z];exact nit b u e
  .exact nit c _ z
def Inv.tok(I:Inv X pins σ H s)(t:Nat):Inv X pins σ H { s with toks:=t }:=I.un (h':=s.heap) (t':=t) Un.refl I.hok
def Inv.kept(I:Inv X pins σ H s)(k:∀b u,s.heap.get? b=Z_ u->h'.get? b=Z_ u):Inv X pins σ H { s with heap:=h',toks:=t' }:=I.un (Un.kept k) (I.hok.kept k)
def Inv.laid(I:Inv X pins σ H s)(k:∀b u,s.heap.get? b=Z_ u->h'.get? b=Z_ u)(hp:s.heap.objs.size<=a)(new:ObjOk X.prog X.w (upd H a o) h' a o) :
 Inv X pins σ (upd H a o) { s with heap:=h',toks:=t' }:=I.un (Un.laid k hp (I.hok.fresh hp)) (I.hok.laid k hp new)
def Inv.write(I:Inv X pins σ H s)(mu:Mut (H x))(he:e=x\/H e=Z_ (.own x))(k:∀b u,b≠e->s.heap.get? b=Z_ u->h'.get? b=Z_ u)(heo:∃u,h'.get? e=Z_ u)
 (new:ObjOk X.prog X.w (upd H x o) h' x o):Inv X pins σ (upd H x o) { s with heap:=h',toks:=t' }:=I.un (Un.write mu he k heo) (I.hok.write mu he k heo new)
def Inv.pins_of(I:Inv X pins σ H s)(h:∀p∈pins',s.heap.get? p.1=Z_ p.2/\H p.1=Yt/\p.1≠X.env.locals/\p.1∉X.fs/\∀v,p.2.data≠.cell v):Inv X pins' σ H s :=
 ⟨I.ok,I.os,I.bare,I.base,I.loc,I.cell,I.free,I.freeC,λp hp=>(Tf.mp hp).elim (λz=>I.pin p (Uo _ z)) (h p),I.hok,I.len⟩
def rY{N:List Str}(hN:N.Nodup){i j:Nat}{x:Str}(a:N[i]?=Z_ x)(b:N[j]?=Z_ x):i=j:=by
 obtain⟨h1,e1⟩:=Sq.mp a;obtain⟨h2,e2⟩:=Sq.mp b;exact(List.getElem_inj hN).mp (e1.trans e2.symm)
noncomputable def mQ(I:Inv X pins σ H s)(hN:X.N.Nodup)(hi:X.N[i]?=Z_ x)(hx:Loc X.env.scope x)(r:RelV v u)
 (h:∀s',Inv X pins (σ.set i (Z_ v)) H s'->(∃a,Ub a s.heap s'.heap/\(a=X.env.locals\/X.env.cells.lookup x=Z_ a))->Q () s')(hf:X.fn x=Y_\/X.env.scope.names.lookup x=Z_ .local:=by first | exact .inl rfl | exact .inr rfl | assumption):RG M A (storeName X.env x u) Q E s:=by
 obtain⟨m,hn,hl⟩:=id I.loc
 have hcls:(X.env.scope.kind==.class||(X.env.scope.kind==.module&&X.env.locals !=X.env.globals))=Zd:=by rw[I.ok.kind];rfl
 have hiσ:i<σ.length:=by rw[I.len];exact(Sq.mp hi).1
 have cne:=I.cne
 have tracked:∀{a:Addr}{h':Rz},(∃o,s.heap.get? a=Z_ o/\H a=Yt)->Ub a s.heap h'->HOk X.prog X.w H h':=λ{a h'} ha hs b ob e=>by
  obtain⟨_,_,hfree⟩:=ha
  refine(I.hok b ob e).stay (λc w' hc q=>(hs.2 c ?_).trans q) (λ_ q=>q) λ_ _ q=>q
  rintro rfl
  rcases hc with rfl | hc
  .rw[hfree]at e;cases e
  .rw[hfree]at hc;cases hc
 rcases hx with hk | hk
 .refine wpAny_storeName_local hk hn (λh' hn' hs=>?_) hcls
  obtain⟨oL,_,_,hoL,_⟩:=id hn;refine h _ ⟨I.ok,I.os,I.bare,⟨λb o e n hb hx=>?_,λb o e n hb hx=>?_,I.base.free,λb o e hx=>?_,I.base.tups,I.base.frzs,I.base.tbls⟩,⟨_,hn',λj y v' e1 e2 e3=>?_⟩,λy c e=>?_,I.free,I.freeC,λp hp=>?_,tracked ⟨oL,hoL,I.free⟩ hs,by simpa using I.len⟩ ⟨_,hs,.inl rfl⟩
  .exact(hs.2 b (RX (Td (RB e) I.ok.above))).trans (I.base.keep b o e n hb hx)
  .obtain⟨sl,e1⟩:=I.base.slot b o e n hb hx
   exact⟨sl,(hs.2 b (RX (Td (RB e) I.ok.above))).trans e1⟩
  .obtain⟨o',e1⟩:=I.base.there b o e hx
   exact⟨o',(hs.2 b (RX (Td (RB e) I.ok.above))).trans e1⟩
  .by_cases hj:j=i
   .subst hj
    rw[hi]at e1;cases e1;rw[T4 hiσ]at e2;cases e2;exact⟨u,r,.inl ⟨hk,by simp⟩⟩
   .rw[Tn (Vr hj)]at e2
    obtain⟨u',r',q⟩:=hl j y v' e1 e2 e3;refine⟨u',r',?_⟩;rcases q with⟨k,e⟩ | ⟨k,c,e,z⟩
    .refine .inl ⟨k,?_⟩
     have:y≠x:=λe=>hj (rY hN e1 (e▸hi))
     simp[this,e]
    .exact .inr ⟨k,c,e,z.sameBut hs (cne y c e)⟩
  .obtain⟨w',z⟩:=I.cell y c e
   exact⟨w',z.sameBut hs (cne y c e)⟩
  .obtain⟨e,n,ne,nf,d⟩:=I.pin p hp
   exact⟨(hs.2 p.1 ne).trans e,n,ne,nf,d⟩
 .have hfn:X.fn x=Y_:=by
   rcases hf with z | z
   .exact z
   .rw[z]at hk;cases hk
  obtain⟨c,hc⟩:=I.ok.has x (.inl hk);obtain⟨w',z⟩:=I.cell x c hc;refine wpAny_storeName_cell I.ok.kind hk hc z (λh' hc' hs=>?_);obtain⟨oc,hoc,hocd⟩:=id z;refine h { s with heap:=h' } ⟨I.ok,I.os,I.bare,⟨λb o e n hb hx=>?_,λb o e n hb hx=>?_,I.base.free,λb o e hx=>?_,I.base.tups,I.base.frzs,I.base.tbls⟩,⟨m,hn.sameBut hs (Vr (cne x c hc)),λj y v' e1 e2 e3=>?_⟩,λy c' e=>?_,I.free,I.freeC,λp hp=>?_,tracked ⟨oc,hoc,I.freeC x c hc⟩ hs,by simpa using I.len⟩ ⟨c,hs,.inr hc⟩
  .exact(hs.2 b (RX (Td (RB e) (I.ok.cab x c hfn hc)))).trans (I.base.keep b o e n hb hx)
  .obtain⟨sl,e1⟩:=I.base.slot b o e n hb hx
   exact⟨sl,(hs.2 b (RX (Td (RB e) (I.ok.cab x c hfn hc)))).trans e1⟩
  .obtain⟨o',e1⟩:=I.base.there b o e hx
   exact⟨o',(hs.2 b (RX (Td (RB e) (I.ok.cab x c hfn hc)))).trans e1⟩
  .by_cases hj:j=i
   .subst hj
    rw[hi]at e1;cases e1;rw[T4 hiσ]at e2;cases e2;exact⟨u,r,.inr ⟨.inl hk,c,hc,hc'⟩⟩
   .rw[Tn (Vr hj)]at e2
    obtain⟨u',r',q⟩:=hl j y v' e1 e2 e3;refine⟨u',r',?_⟩;rcases q with q | ⟨k,c',e,z'⟩
    .exact .inl q
    .refine .inr ⟨k,c',e,z'.sameBut hs ?_⟩
     rintro rfl
     exact hj (rY hN e1 (I.ok.inj _ _ _ e hc▸hi))
  .by_cases hcc:c'=c
   .subst hcc;exact⟨_,hc'⟩
   .obtain⟨w2,z2⟩:=I.cell y c' e
    exact⟨w2,z2.sameBut hs hcc⟩
  .obtain⟨e,n,ne,nf,d⟩:=I.pin p hp
   refine⟨(hs.2 p.1 ?_).trans e,n,ne,nf,d⟩;intro q;rw[q,hoc]at e;have q':oc=p.2:=U5 e;exact d w' (by rw[<-q'];exact hocd)
noncomputable def qL(I:Inv X pins σ H s)(hN:X.N.Nodup)(hi:X.N[i]?=Z_ x)(hx:Loc X.env.scope x)(r:RelV v u)
 (h:∀s',Inv X pins (σ.set i (Z_ v)) H s'->Q () s')(hf:X.fn x=Y_\/X.env.scope.names.lookup x=Z_ .local:=by first | exact .inl rfl | exact .inr rfl | assumption):RG M A (storeName X.env x u) Q E s :=
 mQ I hN hi hx r (λs' I' _=>h s' I') hf
end
abbrev XK:=Rm->Option Addr->Hp->Prop
abbrev St:=List (Option V)
abbrev VK:=V->Hp->Prop
abbrev TE:=St->Hp->VK->Prop
abbrev TT:=St->Hp->(Bool->Hp->Prop)->Prop
abbrev TA:=St->Hp->(List V->Hp->Prop)->Prop
structure Ends where
 nx:St->Hp->Prop
 rt:VK
 bk:St->Hp->Prop:=λ_ _=>False
 ct:St->Hp->Prop:=λ_ _=>False
abbrev TS:=Ends->St->Hp->Prop
def EP(X:Cx)(pins:List (Addr×Obj))(σ:St)(Q:VK)(u:Rm)(s':Rr):Prop:=∃v H',Inv X pins σ H' s'/\RelV v u/\Q v H'
def TP(X:Cx)(pins:List (Addr×Obj))(σ:St)(Q:Bool->Hp->Prop)(b:Bool)(s':Rr):Prop:=∃H',Inv X pins σ H' s'/\Q b H'
def AP(X:Cx)(pins:List (Addr×Obj))(σ:St)(Q:List V->Hp->Prop)(us:List Rm)(s':Rr):Prop:=∃vs H',Inv X pins σ H' s'/\Vals vs us/\Q vs H'
def SP(X:Cx)(pins:List (Addr×Obj))(D:Ends)(f:Flow)(s':Rr):Prop :=
 match f with
 | .next=>∃σ' H',Inv X pins σ' H' s'/\D.nx σ' H'
 | .brk=>∃σ' H',Inv X pins σ' H' s'/\D.bk σ' H'
 | .cont=>∃σ' H',Inv X pins σ' H' s'/\D.ct σ' H'
 | .ret u=>∃v σ' H',Inv X pins σ' H' s'/\RelV v u/\D.rt v H'
def PE(X:Cx)(e:Expr)(t:TE):Prop :=
 ∀(pins:List (Addr×Obj)) (s:Rr) (σ:St) (H:Hp) (Q:VK),Inv X pins σ H s->t σ H Q->RG (RQ X.prog X.w) X.A (Vl e X.env) (EP X pins σ Q) X.xe s
def PT(X:Cx)(e:Expr)(t:TT):Prop :=
 ∀(pins:List (Addr×Obj)) (s:Rr) (σ:St) (H:Hp) (Q:Bool->Hp->Prop),Inv X pins σ H s->t σ H Q->RG (RQ X.prog X.w) X.A (isTrue e X.env (Vl e X.env)) (TP X pins σ Q) X.xe s
def PW(X:Cx)(e:Expr)(t:TT):Prop :=
 ∀(whole:Sem Rm) (pins:List (Addr×Obj)) (s:Rr) (σ:St) (H:Hp) (Q:Bool->Hp->Prop),Inv X pins σ H s->t σ H Q->RG (RQ X.prog X.w) X.A (isTrue e X.env whole) (TP X pins σ Q) X.xe s
def PW.pt(h:PW X e t):PT X e t:=h _
def PA(X:Cx)(es:List Expr)(t:TA):Prop :=
 ∀(pos:Pos) (pins:List (Addr×Obj)) (s:Rr) (σ:St) (H:Hp) (Q:List V->Hp->Prop),Inv X pins σ H s->t σ H Q->RG (RQ X.prog X.w) X.A (spliced (Xg pos (SJ es X.env))) (AP X pins σ Q) X.xe s
def PS(X:Cx)(st:Stmt)(t:TS):Prop :=
 ∀(pins:List (Addr×Obj)) (s:Rr) (σ:St) (H:Hp) (D:Ends),Inv X pins σ H s->t D σ H->RG (RQ X.prog X.w) X.A (exec st X.env) (SP X pins D) X.xe s
def PSs(X:Cx)(st:List Stmt)(t:TS):Prop :=
 ∀(pins:List (Addr×Obj)) (s:Rr) (σ:St) (H:Hp) (D:Ends),Inv X pins σ H s->t D σ H->RG (RQ X.prog X.w) X.A (execs st X.env) (SP X pins D) X.xe s
def thn(h:RG M A t Q E s)(hQ:∀a s,Q a s->Q' a s):RG M A t Q' E s:=V6 h hQ λ_ _ x=>x
section
variable{X:Cx}
def tVar(i:Nat):TE:=fun σ H Q=>∃v,σ[i]?=Z_ (Z_ v)/\Q v H
def tC(v:V):TE:=λ_ H Q=>Q v H
noncomputable def mq(hN:X.N[i]?=Z_ x)(hv:Vis X.env.scope x)(hd:(x==("__debug__":Str))=Zd:=by decide)(hcd:(x==("__classdict__":Str))=Zd:=by decide):PE X (.Name x pos) (tVar i):=by
 intro pins s σ H Q I h;obtain⟨v,e,h⟩:=h;obtain⟨m,hn,hl⟩:=I.loc;obtain⟨u,r,l⟩:=hl i x v hN e hv
 have fin:EP X pins σ Q u s:=⟨v,H,I,r,h⟩
 rcases l with⟨hk,hm⟩ | ⟨hk,c,hc,hcell⟩
 .exact wpAny_Name (wpAny_loadName_local I.ok.kind hk hn hm fin) hd
 .rcases hk with hk | hk
  .exact wpAny_Name (wpAny_loadName_cell I.ok.kind hk hc hcell fin) hd
  .exact wpAny_Name (wpAny_loadName_free I.ok.kind hk hc hcell fin hcd) hd
def NB:PE X (.Constant (.int i) j pos) (tC (.int i)):=λ_ _ _ H _ I h=>wpAny_Constant_int ⟨.int i,H,I.tok _,⟨_,rfl⟩,h⟩
def QB:PE X (.Constant (.bool b) j pos) (tC (.bl b)):=λ_ _ _ H _ I h=>Constant_bool ⟨.bl b,H,I,rfl,h⟩
def LC:PE X (.Constant .none j pos) (tC .non):=λ_ _ _ H _ I h=>Constant_none ⟨.non,H,I,rfl,h⟩
def M8:PE X (.Constant (.str x) j pos) (tC (.str x)):=λ_ _ _ H _ I h=>Calls.Constant_str ⟨.str x,H,I.tok _,⟨_,rfl⟩,h⟩
def Gl(X:Cx)(x:Str):Prop:=X.env.kindOf x=Z_ .globalImplicit
def jQ(I:Inv X pins σ H s)(hg:Gl X x)(hm:X.mg x=Z_ u)(h:Q u s)
 (hd:(x==("__debug__":Str))=Zd:=by decide):RG (RQ X.prog X.w) X.A (Vl (.Name x pos) X.env) Q E s :=
 Calls.Name_function_global I.ok.kind hg (Calls.loadGlobal_global (by rw[I.ok.glob];exact I.mod.glob.keeps I.bk) hm h) hd
noncomputable def jc(I:Inv X pins σ H s)(hg:Gl X x)(hm:X.mg x=Yt)(hv:Vu x=Z_ u)(h:Q u s)
 (hn:x≠"__name__":=by decide)(hd:(x==("__debug__":Str))=Zd:=by decide):RG (RQ X.prog X.w) X.A (Vl (.Name x pos) X.env) Q E s:=by
 obtain⟨mb,h1,h2⟩:=I.mod.blt;exact Calls.Name_function_global I.ok.kind hg (Calls.loadGlobal_builtin (by rw[I.ok.glob];exact I.mod.glob.keeps I.bk) hm (by rw[I.ok.blt];exact h1.keeps I.bk) ((h2 x hn).trans hv) h) hd
def Gd(hg:Gl X x)(hm:X.mg x=Z_ u)(r:RelV v u)(hd:(x==("__debug__":Str))=Zd:=by decide):PE X (.Name x pos) (tC v) :=
 λ_ _ _ H _ I h=>jQ I hg hm ⟨v,H,I,r,h⟩ hd
noncomputable def J6(hg:Gl X x)(hm:X.mg x=Yt)(hv:Vu x=Z_ u)(r:RelV v u)(hn:x≠"__name__":=by decide)(hd:(x==("__debug__":Str))=Zd:=by decide):PE X (.Name x pos) (tC v) :=
 λ_ _ _ H _ I h=>jc I hg hm hv ⟨v,H,I,r,h⟩ hn hd
variable{a b:Expr}{ta tb:TE}{pos:Pos}
def PC(X:Cx)(op:CmpOp)(a b:Expr)(t:TE):Prop :=
 ∀(pins:List (Addr×Obj)) (s:Rr) (σ:St) (H:Hp) (Q:VK),Inv X pins σ H s->t σ H Q ->
  RG (RQ X.prog X.w) X.A (Vl a X.env) (λv s₁=>RG (RQ X.prog X.w) X.A (Vl b X.env) (λu s₂=>RG (RQ X.prog X.w) X.A (Vj op v u) (EP X pins σ Q) X.xe s₂) X.xe s₁) X.xe s
def tB(t:TE):TT:=fun σ H Q=>t σ H λx H1=>∃c,x=.bl c/\Q c H1
noncomputable def uI(h:PC X op a b t)(h1:V2 op b=Zd:=by first | exact nobehind _ (by decide) (by decide) | rfl):PE X (.Compare a [op] [b] pos) t:=λpins s σ H Q I hw=>wpAny_Compare1 (h pins s σ H Q I hw) h1
def uM(h:PC X op a b t)(h1:V2 op b=Zd:=by first | exact nobehind _ (by decide) (by decide) | rfl):PT X (.Compare a [op] [b] pos) (tB t):=by
 intro pins s σ H Q I hw;refine wpAny_isTrue_Compare1 (thn (h pins s σ H _ I hw) λv s1 h1=>thn h1 λu s2 h2=>thn h2 λc s3 ⟨x,H1,I1,r1,q1⟩=>?_) h1;obtain⟨d,rfl,q⟩:=q1;cases r1;exact W2 ⟨H1,I1,q⟩
variable{tA tB':TT}{rest:List Expr}
def tAnd(t u:TT):TT:=fun σ H Q=>t σ H λc H1=>if c=Y_ then u σ H1 Q else Q Zd H1
def tOr(t u:TT):TT:=fun σ H Q=>t σ H λc H1=>if c=Y_ then Q Y_ H1 else u σ H1 Q
def tNot(t:TT):TT:=fun σ H Q=>t σ H λc H1=>Q (!c) H1
def Er(ha:PT X a tA):PW X (.BoolOp .And [a] pos) tA:=by
 intro wh pins s σ H Q I h;refine isTrue_and (thn (ha pins s σ H Q I h) λc s1 e=>?_)
 cases c with
 | true=>exact isTrue_and_nil e
 | false=>exact e
def Ot(ha:PT X a tA):PW X (.BoolOp .Or [a] pos) tA:=by
 intro wh pins s σ H Q I h;refine isTrue_or (thn (ha pins s σ H Q I h) λc s1 e=>?_)
 cases c with
 | false=>exact isTrue_or_nil e
 | true=>exact e
def Oe(ha:PT X a tA)(hb:PW X (.BoolOp .And (b::rest) pos) tB'):PW X (.BoolOp .And (a::b::rest) pos) (tAnd tA tB'):=by
 intro wh pins s σ H Q I h;refine isTrue_and (thn (ha pins s σ H _ I h) λc s1 ⟨H1,I1,q1⟩=>?_)
 cases c with
 | true=>exact hb wh pins s1 σ H1 Q I1 q1
 | false=>exact⟨H1,I1,q1⟩
def PL(ha:PT X a tA)(hb:PW X (.BoolOp .Or (b::rest) pos) tB'):PW X (.BoolOp .Or (a::b::rest) pos) (tOr tA tB'):=by
 intro wh pins s σ H Q I h;refine isTrue_or (thn (ha pins s σ H _ I h) λc s1 ⟨H1,I1,q1⟩=>?_)
 cases c with
 | true=>exact⟨H1,I1,q1⟩
 | false=>exact hb wh pins s1 σ H1 Q I1 q1
def Lp(ha:PT X a tA):PT X (.UnaryOp .Not a pos) (tNot tA):=by
 intro pins s σ H Q I h;exact isTrue_not (ha pins s σ H (λc H1=>Q (!c) H1) I h)
def Pr(ta tb:TE):TE:=fun σ H Q=>ta σ H λx H1=>∃c,x=.bl c/\if c=Y_ then tb σ H1 Q else Q (.bl Zd) H1
def tOrV(ta tb:TE):TE:=fun σ H Q=>ta σ H λx H1=>∃c,x=.bl c/\if c=Y_ then Q (.bl Y_) H1 else tb σ H1 Q
def Nz(h:PE X a t):PE X (.BoolOp op [a] pos) t:=λpins s σ H Q I hw=>BoolOp_one (h pins s σ H Q I hw)
def Om(ha:PE X a ta)(hb:PE X (.BoolOp .And (b::rest) pos) tb):PE X (.BoolOp .And (a::b::rest) pos) (Pr ta tb):=by
 intro pins s σ H Q I h;refine BoolOp_and (thn (ha pins s σ H _ I h) λv s1 ⟨x,H1,I1,r1,q1⟩=>?_);obtain⟨c,rfl,q1⟩:=q1;cases r1;refine W2 ?_
 cases c with
 | true=>exact hb pins s1 σ H1 Q I1 q1
 | false=>exact⟨.bl Zd,H1,I1,rfl,q1⟩
def Pz(ha:PE X a ta)(hb:PE X (.BoolOp .Or (b::rest) pos) tb):PE X (.BoolOp .Or (a::b::rest) pos) (tOrV ta tb):=by
 intro pins s σ H Q I h;refine BoolOp_or (thn (ha pins s σ H _ I h) λv s1 ⟨x,H1,I1,r1,q1⟩=>?_);obtain⟨c,rfl,q1⟩:=q1;cases r1;refine W2 ?_
 cases c with
 | false=>exact hb pins s1 σ H1 Q I1 q1
 | true=>exact⟨.bl Y_,H1,I1,rfl,q1⟩
def tIf(t:TT)(ta tb:TE):TE:=fun σ H Q=>t σ H λc H1=>if c=Y_ then ta σ H1 Q else tb σ H1 Q
def Bw(hc:PT X c tA)(ha:PE X a ta)(hb:PE X b tb):PE X (.IfExp c a b pos) (tIf tA ta tb):=by
 intro pins s σ H Q I h;refine wpAny_IfExp (thn (hc pins s σ H _ I h) λd s1 ⟨H1,I1,q1⟩=>?_)
 cases d with
 | true=>exact ha pins s1 σ H1 Q I1 q1
 | false=>exact hb pins s1 σ H1 Q I1 q1
end
def SqL(K:Rw)(H:Hp)(a:Addr)(xs:List V):Prop :=
 Rd H a (.lst xs) \/
  ∃(o:Obj)(its:Array Rm)(n:Nat),K.lookup a=Z_ o/\o.cls=.type "list"/\o.dict=Yt/\o.data=.seq its n/\its.size<=sizeLine/\Vals xs its.toList
def SqT(K:Rw)(H:Hp)(a:Addr)(xs:List V):Prop :=
 Rd H a (.tup xs) \/
  ∃(o:Obj)(its:Array Rm)(n:Nat),K.lookup a=Z_ o/\o.cls=.type "tuple"/\o.data=.seq its n/\its.size<=sizeLine/\Vals xs its.toList
noncomputable def absV:Rm->Option V
 | .none=>some .non
 | .bool b=>some (.bl b)
 | .int i _=>some (.int i)
 | .str x _=>some (.str x)
 | .bytes b _=>some (.byt b)
 | .float b _=>some (.flt b)
 | .ref a=>some (.ref a)
 | .type n=>some (.ty n)
 | _=>none
def RelV.abs(r:RelV x u):absV u=Z_ x:=by
 cases x with
 | non=>cases r;rfl
 | bl _=>cases r;rfl
 | int _=>obtain⟨t,rfl⟩:=r;rfl
 | str _=>obtain⟨t,rfl⟩:=r;rfl
 | byt _=>obtain⟨t,rfl⟩:=r;rfl
 | flt _=>obtain⟨t,rfl⟩:=r;rfl
 | ref _=>cases r;rfl
 | ty _=>cases r;rfl
def RelV.inj(r:RelV x u)(q:RelV y u):x=y:=U5 (r.abs.symm.trans q.abs)
theorem Vals.inj:∀{xs ys:List V}{us:List Rm},Vals xs us->Vals ys us->xs=ys
 | _,_,_,.nil,.nil=>rfl
 | _,_,_,.cons r t,.cons r' t'=>by rw[r.inj r',Vals.inj t t']
section
variable{X:Cx}{pins:List (Addr×Obj)}{σ:St}{H:Hp}{s:Rr}{a:Addr}{xs ys:List V}
def SqL.of{K:Rw}(h:H a=Z_ (.lst xs)):SqL K H a xs:=.inl (.inl h)
theorem Inv.list(I:Inv X pins σ H s)(h:SqL X.K H a xs):∃its:List Rm,Vals xs its/\PlainL s.heap a its.toArray/\xs.length<=sizeLine:=by
 rcases h with h | ⟨o,its,n,hk,hc,hd,hs,hz,r⟩
 .obtain⟨z,its,n,r,e⟩:=h.ok I.hok
  exact⟨its,r,⟨_,n,e,rfl,rfl,rfl⟩,z⟩
 .refine⟨its.toList,r,⟨o,n,I.kIn a o hk,hc,hd,by simpa using hs⟩,?_⟩
  have e:=r.length;simp only[Uv]at e;omega
def Inv.tuple(I:Inv X pins σ H s)(h:SqT X.K H a xs):∃its:List Rm,Vals xs its/\ZS s.heap a its.toArray/\xs.length<=sizeLine:=by
 rcases h with h | ⟨o,its,n,hk,hc,hs,hz,r⟩
 .obtain⟨z,its,r,p⟩:=h.ok I.hok
  exact⟨its,r,p,z⟩
 .refine⟨its.toList,r,⟨o,I.kIn a o hk,hc,n,by simpa using hs⟩,?_⟩
  have e:=r.length;simp only[Uv]at e;omega
def Inv.list_inj(I:Inv X pins σ H s)(h:SqL X.K H a xs)(h':SqL X.K H a ys):xs=ys:=by
 obtain⟨its,r,⟨o,n,e,_,_,d⟩,_⟩:=I.list h;obtain⟨its',r',⟨o',n',e',_,_,d'⟩,_⟩:=I.list h';rw[e]at e';cases e';rw[d]at d';injection d' with d1 _
 have:its=its':=by simpa using congrArg Array.toList d1
 subst this;exact r.inj r'
def Inv.tuple_inj(I:Inv X pins σ H s)(h:SqT X.K H a xs)(h':SqT X.K H a ys):xs=ys:=by
 obtain⟨its,r,⟨o,e,_,n,d⟩,_⟩:=I.tuple h;obtain⟨its',r',⟨o',e',_,n',d'⟩,_⟩:=I.tuple h';rw[e]at e';cases e';rw[d]at d';injection d' with d1 _
 have:its=its':=by simpa using congrArg Array.toList d1
 subst this;exact r.inj r'
end
noncomputable abbrev Cx.wish(X:Cx)(E:Rm->Rr->Prop):Cx:={ X with xe:=E }
noncomputable abbrev Cx.nox(X:Cx):Cx:=X.wish λ_ _=>False
def Cx.Ok.wish{X:Cx}(ok:X.Ok)(E:Rm->Rr->Prop):(X.wish E).Ok :=
 ⟨ok.mod,ok.kind,ok.glob,ok.blt,ok.above,ok.inj,ok.has,ok.cab,ok.hd,ok.frames,ok.stk,ok.exf,ok.bs,ok.bsz,ok.noex,ok.exfs,ok.funs,ok.frf⟩
def Cx.Ok.unwish{X:Cx}{E:Rm->Rr->Prop}(ok:(X.wish E).Ok):X.Ok :=
 ⟨ok.mod,ok.kind,ok.glob,ok.blt,ok.above,ok.inj,ok.has,ok.cab,ok.hd,ok.frames,ok.stk,ok.exf,ok.bs,ok.bsz,ok.noex,ok.exfs,ok.funs,ok.frf⟩
section
variable{X:Cx}{pins:List (Addr×Obj)}{σ:St}{H:Hp}{s:Rr}{E:Rm->Rr->Prop}
def Inv.wish(I:Inv X pins σ H s)(E:Rm->Rr->Prop):Inv (X.wish E) pins σ H s:=⟨I.ok.wish E,I.os,I.bare,I.base,I.loc,I.cell,I.free,I.freeC,I.pin,I.hok,I.len⟩
def Inv.unwish(I:Inv (X.wish E) pins σ H s):Inv X pins σ H s:=⟨I.ok.unwish,I.os,I.bare,I.base,I.loc,I.cell,I.free,I.freeC,I.pin,I.hok,I.len⟩
def SP.unwish{D:Ends}{f:Flow}{s':Rr}(h:SP (X.wish E) pins D f s'):SP X pins D f s':=by
 cases f with
 | next=>obtain⟨σ',H',I,q⟩:=h;exact⟨σ',H',I.unwish,q⟩
 | brk=>obtain⟨σ',H',I,q⟩:=h;exact⟨σ',H',I.unwish,q⟩
 | cont=>obtain⟨σ',H',I,q⟩:=h;exact⟨σ',H',I.unwish,q⟩
 | ret u=>obtain⟨v,σ',H',I,r,q⟩:=h;exact⟨v,σ',H',I.unwish,r,q⟩
def PE.nox(h:PE X.nox e t):PE X e t:=λpins s σ H Q I hw=>
 V6 (h pins s σ H Q (I.wish _) hw) (λ_ _ ⟨v,H',I',r,q⟩=>⟨v,H',I'.unwish,r,q⟩) λ_ _ z=>SX z
def PT.nox(h:PT X.nox e t):PT X e t:=λpins s σ H Q I hw=>
 V6 (h pins s σ H Q (I.wish _) hw) (λ_ _ ⟨H',I',q⟩=>⟨H',I'.unwish,q⟩) λ_ _ z=>SX z
def PSs.nox{st:List Stmt}{t:TS}(h:PSs X.nox st t):PSs X st t:=λpins s σ H D I hw=>
 V6 (h pins s σ H D (I.wish _) hw) (λ_ _ q=>q.unwish) λ_ _ z=>SX z
end
section
variable{X:Cx}{st:Stmt}{rest:List Stmt}{t u:TS}{e:Expr}{te:TE}{pos:Pos}
def Ob:TS:=λD σ H=>D.nx σ H
def tSeq(t u:TS):TS:=λD σ H=>t { D with nx:=u D } σ H
def Gy:PSs X [] Ob:=λ_ _ σ H _ I h=>wpAny_execs_nil ⟨σ,H,I,h⟩
def zZ(h1:PS X st t)(h2:PSs X rest u):PSs X (st::rest) (tSeq t u):=by
 intro pins s σ H D I h;refine wpAny_execs_cons (thn (h1 pins s σ H { D with nx:=u D } I h) λf s1 q=>?_)
 cases f with
 | next=>
   obtain⟨σ',H',I',q⟩:=q;exact h2 pins s1 σ' H' D I' q
 | ret v=>exact q
 | brk=>exact q
 | cont=>exact q
def Oj:TS:=λD σ H=>D.bk σ H
def QS:TS:=λD σ H=>D.ct σ H
def FW:PS X (.Pass pos) Ob:=λ_ _ σ H _ I h=>wpAny_Pass ⟨σ,H,I,h⟩
def zQ:PS X (.Break pos) Oj:=λ_ _ σ H _ I h=>wpAny_Break ⟨σ,H,I,h⟩
def oG:PS X (.Continue pos) QS:=λ_ _ σ H _ I h=>wpAny_Continue ⟨σ,H,I,h⟩
def Inv.quiet(I:Inv X pins σ H s):interactive X.env=Zd:=by simp[interactive,I.ok.kind]
def PN(te:TE):TS:=λD σ H=>te σ H λ_ H1=>D.nx σ H1
def yw(he:PE X e te)(hs:XH e none pos.line X.env=pure Zd:=by rfl):PS X (.Expr e pos) (PN te):=by
 intro pins s σ H D I h;exact wpAny_Expr_any (thn (he pins s σ H _ I h) λv s1 ⟨x,H1,I1,r1,q1⟩=>⟨σ,H1,I1,q1⟩) I.quiet hs
def tRet(te:TE):TS:=λD σ H=>te σ H D.rt
def Du(he:PE X e te):PS X (.Return (Z_ e) pos) (tRet te):=by
 intro pins s σ H D I h;exact wpAny_Return_some (thn (he pins s σ H _ I h) λv s1 ⟨x,H1,I1,r1,q1⟩=>⟨x,σ,H1,I1,r1,q1⟩)
def PX:TS:=λD _ H=>D.rt .non H
def Gs:PS X (.Return none pos) PX:=λ_ _ σ H _ I h=>wpAny_Return_none ⟨.non,σ,H,I,rfl,h⟩
def tIfS(c:TT)(t u:TS):TS:=λD σ H=>c σ H λb H1=>if b=Y_ then t D σ H1 else u D σ H1
def N7(hc:PT X c tc)(ha:PSs X a t)(hb:PSs X b u):PS X (.If c a b pos) (tIfS tc t u):=by
 intro pins s σ H D I h;refine wpAny_If (thn (hc pins s σ H _ I h) λd s1 ⟨H1,I1,q1⟩=>?_)
 cases d with
 | true=>exact ha pins s1 σ H1 D I1 q1
 | false=>exact hb pins s1 σ H1 D I1 q1
end
abbrev TG:=V->St->Hp->(St->Hp->Prop)->Prop
abbrev TGs:=List V->St->Hp->(St->Hp->Prop)->Prop
def PG(X:Cx)(target:Expr)(t:TG):Prop :=
 ∀(pins:List (Addr×Obj)) (s:Rr) (σ:St) (H:Hp) (v:V) (u:Rm) (Q:St->Hp->Prop),Inv X pins σ H s->RelV v u->t v σ H Q ->
  RG (RQ X.prog X.w) X.A (Yj target X.env u) (λ_ s'=>∃σ' H',Inv X pins σ' H' s'/\Q σ' H') X.xe s
def PGs(X:Cx)(ts:List Expr)(t:TGs):Prop :=
 ∀(pins:List (Addr×Obj)) (s:Rr) (σ:St) (H:Hp) (vs:List V) (us:List Rm) (Q:St->Hp->Prop),Inv X pins σ H s->Vals vs us->t vs σ H Q ->
  RG (RQ X.prog X.w) X.A (assignInOrder ((V7 ts X.env).map (·.2)) us) (λ_ s'=>∃σ' H',Inv X pins σ' H' s'/\Q σ' H') X.xe s
abbrev TSet:=V->V->V->Hp->(Hp->Prop)->Prop
def PSet(X:Cx)(t:TSet):Prop :=
 ∀(pins:List (Addr×Obj)) (s:Rr) (σ:St) (H:Hp) (o i v:V) (ov iv u:Rm) (Q:Hp->Prop),Inv X pins σ H s->RelV o ov->RelV i iv->RelV v u->t o i v H Q ->
  RG (RQ X.prog X.w) X.A (ZV ov iv u) (λ_ s'=>∃H',Inv X pins σ H' s'/\Q H') X.xe s
section
variable{X:Cx}{pos:Pos}
def t6(i:Nat):TG:=λv σ H Q=>Q (σ.set i (Z_ v)) H
def jU(hN:X.N.Nodup)(hi:X.N[i]?=Z_ x)(hx:Loc X.env.scope x)(hf:X.fn x=Y_\/X.env.scope.names.lookup x=Z_ .local:=by first | exact .inl rfl | exact .inr rfl | assumption):PG X (.Name x pos) (t6 i):=by
 intro pins s σ H v u Q I r h;exact wpAny_assign_Name (qL I hN hi hx r (λs' I'=>⟨_,H,I',h⟩) hf)
def gNil:TGs:=λvs σ H Q=>vs=[]/\Q σ H
def JC(t:TG)(u:TGs):TGs:=λvs σ H Q=>∃v r,vs=v::r/\t v σ H fun σ' H'=>u r σ' H' Q
def vN:PGs X [] gNil:=by
 intro pins s σ H vs us Q I r h;obtain⟨e,h⟩:=h;subst e;cases r;exact assignInOrder_nil ⟨σ,H,I,h⟩
def rM(h1:PG X e t)(h2:PGs X es u)
 (hs:(V7 (e::es) X.env).map (·.2)=Yj e X.env::(V7 es X.env).map (·.2):=by rfl):PGs X (e::es) (JC t u):=by
 intro pins s σ H vs us Q I r h;obtain⟨v,vr,e1,h⟩:=h;subst e1
 cases r with
 | cons r rr=>
   rw[hs];refine assignInOrder_cons (thn (h1 pins s σ H _ _ _ I r h) λ_ s1 ⟨σ1,H1,I1,q1⟩=>?_);exact h2 pins s1 σ1 H1 _ _ Q I1 rr q1
def gTup(K:Rw)(n:Nat)(t:TGs):TG:=λv σ H Q=>∃a xs,v=.ref a/\SqT K H a xs/\xs.length=n/\t xs σ H Q
noncomputable def Cj(hc:X.calm=Y_)(h:PGs X es t)
 (hn:(V7 es X.env).length=n:=by rfl)(hst:(V7 es X.env).findIdx? (·.1)=Yt:=by rfl):PG X (.Tuple es k pos) (gTup X.K n t):=by
 intro pins s σ H v u Q I r hw;obtain⟨a,xs,e1,hq,hl,hw⟩:=hw;subst e1;cases r;obtain⟨its,rv,ht,hz⟩:=I.tuple hq
 refine assign_Tuple_tuple (I.ok.hd hc) ht (by simp[hn,<-hl,rv.length]) hst λh' hx=>?_
 have I1:Inv X pins σ H { s with heap:=h' }:=I.kept (t':=s.toks) λb o e=>hx b o (RX (RB e)) e
 exact h pins _ σ H xs _ Q I1 (by simpa using rv) hw
def gSub(to ti:TE)(t:TSet):TG:=λv σ H Q=>to σ H λo H1=>ti σ H1 λi H2=>t o i v H2 λH3=>Q σ H3
noncomputable def Og(ho:PE X o to)(hi:PE X i ti)(hs:PSet X t)
 (ha:∀v,Yj (.Subscript o i pos) X.env v=(do
  let ov <-Xy [v] (Vl o X.env)
  let iv <-Xy [v,ov] (Vl i X.env)
  ZF pos
  Xy [v,ov,iv] (ZV ov iv v)
  release [v,ov,iv] []):=by intro _;rfl):PG X (.Subscript o i pos) (gSub to ti t):=by
 intro pins s σ H v u Q I r h;rw[ha];refine Rj (Uu (thn (ho pins s σ H _ I h) λov s1 ⟨x,H1,I1,r1,q1⟩=>?_));refine Rj (Uu (thn (hi pins s1 σ H1 _ I1 q1) λiv s2 ⟨y,H2,I2,r2,q2⟩=>?_));refine Rj (wpAny_standAt (Rj (Uu (thn (hs pins s2 σ H2 x y v ov iv u _ I2 r1 r2 r q2) λ_ s3 ⟨H3,I3,q3⟩=>?_))));exact wpAny_release ⟨σ,H3,I3,q3⟩
def tAsg(te:TE)(g:TG):TS:=λD σ H=>te σ H λx H1=>g x σ H1 D.nx
noncomputable def K4(he:PE X e te)(hg:PG X tg g)(hs:swapsWithSole [tg] e pos.line X.env=pure Zd:=by rfl)(hw:swappedStores [tg] e X.env=pure none:=by rfl)
 (h1:(V7 [tg] X.env).map (·.2)=[Yj tg X.env]:=by rfl):PS X (.Assign [tg] e pos) (tAsg te g):=by
 intro pins s σ H D I h;refine wpAny_Assign_stores (thn (he pins s σ H _ I h) λv s1 ⟨x,H1,I1,r1,q1⟩=>?_) hs hw;rw[h1]
 exact thn (hg pins s1 σ H1 x v _ I1 r1 q1) λ_ s2 q=>q
noncomputable def Mj(hN:X.N.Nodup)(hi:X.N[i]?=Z_ x)(hx:Loc X.env.scope x)(he:PE X e te)(hs:XH e (Z_ (.Name x pos')) pos.line X.env=pure Zd:=by rfl)(hf:X.fn x=Y_\/X.env.scope.names.lookup x=Z_ .local:=by first | exact .inl rfl | exact .inr rfl | assumption) :
 PS X (.Assign [.Name x pos'] e pos) (tAsg te (t6 i)):=by
 intro pins s σ H D I h;refine wpAny_Assign_Name (thn (he pins s σ H _ I h) λv s1 ⟨y,H1,I1,r1,q1⟩=>?_) hs;exact qL I1 hN hi hx r1 (λs2 I2=>⟨_,H1,I2,q1⟩) hf
end
section
variable{X:Cx}{pos:Pos}
def K3(c:TT)(tb:TS):TS:=λD σ H=>∃W:Nat->St->Hp->Prop,(∃m,W m σ H)/\∀m σ H,W m σ H ->
 c σ H λb H1=>if b=Y_ then ∃N:St->Hp->Prop,(∀σ' H',N σ' H'->∃m',m'<m/\W m' σ' H')/\tb { D with nx:=N,ct:=N,bk:=D.nx } σ H1 else D.nx σ H1
def z8(hp:YB (RQ X.prog X.w) X.A X.env X.xe)(hc:PT X c tc)(hb:PSs X body tb):PS X (.While c body [] pos) (K3 tc tb):=by
 intro pins s σ H D I h;obtain⟨W,⟨m0,w0⟩,turn⟩:=h;refine wpAny_While (codeAny_whileLoop (λn s'=>∃σ' H',Inv X pins σ' H' s'/\W n σ' H') ?_ m0 ⟨σ,H,I,w0⟩)
 rintro n s1 ⟨σ1,H1,I1,w1⟩
 refine Wo hp (thn (hc pins s1 σ1 H1 _ I1 (turn n σ1 H1 w1)) λb s2 ⟨H2,I2,q2⟩=>?_)
 cases b with
 | true=>
   obtain⟨N,hN,q2⟩:=q2;rw[if_pos rfl];refine Wo hp (thn (hb pins s2 σ1 H2 _ I2 q2) λf s3 q3=>?_)
   cases f with
   | next=>
     obtain⟨σ3,H3,I3,n3⟩:=q3;obtain⟨m',hm,w3⟩:=hN σ3 H3 n3;exact⟨m',hm,σ3,H3,I3,w3⟩
   | cont=>
     obtain⟨σ3,H3,I3,n3⟩:=q3;obtain⟨m',hm,w3⟩:=hN σ3 H3 n3;exact⟨m',hm,σ3,H3,I3,w3⟩
   | brk=>exact q3
   | ret v=>exact q3
 | false=>
   rw[if_neg S9];exact wpAny_execs_nil ⟨σ1,H2,I2,q2⟩
end
structure It where
 go:Nat->Hp->Prop
 yld:Nat->Hp->V->Hp->Prop
 stop:Nat->Hp->Prop
def FpOk(X:Cx)(pins:List (Addr×Obj))(H:Hp)(b:Addr):Prop :=
 H b=Yt/\b≠X.env.locals/\b∉X.fs/\(b∈X.ex\/X.s₀.heap.objs.size<=b)/\(∀x c,X.env.cells.lookup x=Z_ c->c≠b)/\∀p∈X.pn++pins,p.1≠b
def Inv.fpOk(I:Inv X pins σ H s)(hb:s.heap.objs.size<=b)(hn:H' b=Yt):FpOk X pins H' b:=by
 refine⟨hn,Vq (Td I.lt hb),I.nofs hb,.inr (RW I.sz hb),λx c e z=>?_,λp hp z=>?_⟩
 .obtain⟨v,q⟩:=I.cell x c e
  exact absurd (Td q.lt (by rw[z];exact hb)) (VV _)
 .exact absurd (Td (RB (I.pin p hp).1) (by rw[z];exact hb)) (VV _)
structure Turn(P:Sx)(w:Th)(K:Rw)(tg:Expr)(J:It)(fp:List Addr)(it:Addr)(tn:Nat->Rz->Prop):Prop where
 mem:it∈fp
 obj:∀i h,tn i h->∀b∈fp,∃o,h.get? b=Z_ o/\∀v,o.data≠.cell v
 keep:∀i h h',tn i h->(∀b∈fp,∀o,h.get? b=Z_ o->h'.get? b=Z_ o)->tn i h'
 item:∀(X:Cx),X.prog=P->X.w=w->X.K=K->X.calm=Y_->∀(i:Nat) (pins:List (Addr×Obj)) (s:Rr) (σ:St) (H:Hp) (E:Rm->Rr->Prop),Inv X pins σ H s->(∀b∈fp,FpOk X pins H b)->tn i s.heap->J.go i H ->
  RG (RQ P w) X.A (Xw (.ref it)) (λr s1=>∃u,r=Z_ u /\
   RG (RQ P w) X.A (YS tg (.ref it) u) (λ_ s2=>∃x H',Inv X pins σ H' s2/\RelV x u/\J.yld i H x H'/\tn (i+1) s2.heap/\∀b∈fp,H' b=Yt) E s1) E s
 done:∀(X:Cx),X.prog=P->X.w=w->X.K=K->X.calm=Y_->∀(i:Nat) (pins:List (Addr×Obj)) (s:Rr) (σ:St) (H:Hp) (E:Rm->Rr->Prop),Inv X pins σ H s->(∀b∈fp,FpOk X pins H b)->tn i s.heap->J.stop i H ->
  RG (RQ P w) X.A (Xw (.ref it)) (λr s1=>r=Yt/\Inv X pins σ H s1) E s
 self:∀(A:Tu)(i:Nat)(s:Rr)(Q:Rm->Rr->Prop)(E:Rm->Rr->Prop),tn i s.heap->Q (.ref it) s->RG (RQ P w) A (ZX (.ref it)) Q E s
abbrev TI:=St->Hp->(It->Hp->Prop)->Prop
def PIE(X:Cx)(pins:List (Addr×Obj))(σ:St)(tg:Expr)(R:It->Hp->Prop)(itv:Rm)(s2:Rr):Prop :=
 ∃(it:Addr)(fp:List Addr)(tn:Nat->Rz->Prop)(J:It)(H':Hp),itv=.ref it/\Inv X pins σ H' s2/\Turn X.prog X.w X.K tg J fp it tn/\tn 0 s2.heap/\(∀b∈fp,FpOk X pins H' b)/\R J H'
def PI(X:Cx)(tg iter:Expr)(wi:TI):Prop :=
 ∀(pins:List (Addr×Obj)) (s:Rr) (σ:St) (H:Hp) (R:It->Hp->Prop),Inv X pins σ H s->wi σ H R ->
  RG (RQ X.prog X.w) X.A (Vl iter X.env) (λv s1=>RG (RQ X.prog X.w) X.A (ZX v) (PIE X pins σ tg R) X.xe s1) X.xe s
def vD(ho:s.heap.get? it=Z_ o)(hc:o.cls=.type n)(hd:o.data=.fields vs)
 (hn:["enumerate","zip","dict_itemiterator","dict_reverseitemiterator","odict_iterator","itertools.zip_longest","itertools.pairwise"].contains n=Zd)(hQ:Q () s):RG M A (YS tg (.ref it) u) Q E s:=by
 unfold YS
 cases tg<;>first
  | exact Rn hQ
  | (cases u<;>first
   | exact Rn hQ
   | (refine Rj (wpAny_load ho ?_)
      rw[hc,hd];show RG M A (if(["enumerate","zip","dict_itemiterator","dict_reverseitemiterator","odict_iterator","itertools.zip_longest","itertools.pairwise"].contains n&&vs[0]?==Z_ (Uy _))=Y_ then _ else _) Q E s;rw[if_neg (by intro h;rw[hn,Bool.false_and]at h;cases h)]
      exact Rn hQ))
noncomputable def Itl(K:Rw)(a:Addr):It :=
 ⟨λi H=>∃xs x,SqL K H a xs/\xs[i]?=Z_ x,λi H x H'=>H'=H/\∀xs,SqL K H a xs->xs[i]?=Z_ x,λi H=>∃xs,SqL K H a xs/\xs.length<=i⟩
noncomputable def Itt(K:Rw)(a:Addr):It :=
 ⟨λi H=>∃xs x,SqT K H a xs/\xs[i]?=Z_ x,λi H x H'=>H'=H/\∀xs,SqT K H a xs->xs[i]?=Z_ x,λi H=>∃xs,SqT K H a xs/\xs.length<=i⟩
noncomputable def Itr(lo:Int)(n:Nat):It:=⟨λi _=>i<n,λi H x H'=>H'=H/\x=.int (lo+i),λi _=>n<=i⟩
theorem vG{P:Sx}{w:Th}{K:Rw}{tg:Expr}(a it:Addr):Turn P w K tg (Itl K a) [it] it (λi h=>h.IsListIter it a i)where
 mem:=by simp
 obj:=λi h st b hb=>by
  have e:b=it:=by simpa using hb
  subst e;obtain⟨o,e,c,d⟩:=st;exact⟨o,e,λv z=>by rw[d]at z;cases z⟩
 keep:=λi h h' st k=>st.at λo e=>k it (by simp) o e
 item:=by
  intro X hP hw hK hc i pins s σ H E I hf st hg;subst hP hw hK;obtain⟨xs,x,hq,hx⟩:=hg;obtain⟨its,rv,p,hz⟩:=I.list hq;obtain⟨u,hu,ru⟩:=rv.get hx;obtain⟨f0,f1,f2,f3,f4,f5⟩:=hf it (by simp)
  refine wpAny_pyNext_list_item st p.isList (x:=u) (by simpa using hu) λh' st' sb=>?_
  have I1:Inv X pins σ H { s with heap:=h' }:=I.turned (t':=s.toks) (λb o hb e=>(sb.2 b hb).trans e) f0 f1 f3 f4 f5;obtain⟨o,e,c,d⟩:=id st';exact⟨u,rfl,vD (s:={ s with heap:=h' }) e c d (by decide) ⟨x,H,I1,ru,⟨rfl,λys hy=>by rw[I.list_inj hy hq];exact hx⟩,st',λb hb=>(hf b hb).1⟩⟩
 done:=by
  intro X hP hw hK hc i pins s σ H E I hf st hg;subst hP hw hK;obtain⟨xs,hq,hx⟩:=hg;obtain⟨its,rv,p,hz⟩:=I.list hq;obtain⟨f0,f1,f2,f3,f4,f5⟩:=hf it (by simp);have hl:=rv.length
  exact wpAny_pyNext_list_end (I.ok.hd hc) st p.isList (by simp;omega) λh' eb=>⟨rfl,I.turned (t':=s.toks) (λb o hb e=>eb b o hb e) f0 f1 f3 f4 f5⟩
 self:=λ_ _ _ _ _ st h=>wpAny_pyIter_listiter st h
def sH{P:Sx}{w:Th}{K:Rw}{tg:Expr}(a it:Addr):Turn P w K tg (Itt K a) [it] it (λi h=>h.IsTupleIter it a i)where
 mem:=by simp
 obj:=λi h st b hb=>by
  have e:b=it:=by simpa using hb
  subst e;obtain⟨o,e,c,d⟩:=st;exact⟨o,e,λv z=>by rw[d]at z;cases z⟩
 keep:=λi h h' st k=>st.at λo e=>k it (by simp) o e
 item:=by
  intro X hP hw hK hc i pins s σ H E I hf st hg;subst hP hw hK;obtain⟨xs,x,hq,hx⟩:=hg;obtain⟨its,rv,p,hz⟩:=I.tuple hq;obtain⟨u,hu,ru⟩:=rv.get hx;obtain⟨f0,f1,f2,f3,f4,f5⟩:=hf it (by simp)
  refine wpAny_pyNext_tuple_item st (show s.heap.IsTuple a its.toArray from p) (x:=u) (by simpa using hu) λh' st' sb=>?_
  have I1:Inv X pins σ H { s with heap:=h' }:=I.turned (t':=s.toks) (λb o hb e=>(sb.2 b hb).trans e) f0 f1 f3 f4 f5;obtain⟨o,e,c,d⟩:=id st';exact⟨u,rfl,vD (s:={ s with heap:=h' }) e c d (by decide) ⟨x,H,I1,ru,⟨rfl,λys hy=>by rw[I.tuple_inj hy hq];exact hx⟩,st',λb hb=>(hf b hb).1⟩⟩
 done:=by
  intro X hP hw hK hc i pins s σ H E I hf st hg;subst hP hw hK;obtain⟨xs,hq,hx⟩:=hg;obtain⟨its,rv,p,hz⟩:=I.tuple hq;obtain⟨f0,f1,f2,f3,f4,f5⟩:=hf it (by simp);have hl:=rv.length
  exact wpAny_pyNext_tuple_end (I.ok.hd hc) st (show s.heap.IsTuple a its.toArray from p) (by simp;omega) λh' eb=>⟨rfl,I.turned (t':=s.toks) (λb o hb e=>eb b o hb e) f0 f1 f3 f4 f5⟩
 self:=λ_ _ _ _ _ st h=>wpAny_pyIter_tupleiter st h
def tX{P:Sx}{w:Th}{K:Rw}{tg:Expr}(it:Addr)(lo:Int)(n:Nat):Turn P w K tg (Itr lo n) [it] it (λi h=>IsRangeIter h it (lo+(i:Nat)*1) ((n:Int)-(i:Nat)) 1)where
 mem:=by simp
 obj:=λi h st b hb=>by
  have e:b=it:=by simpa using hb
  subst e
  exact⟨_,st,λv z=>by
   have z':Data.fields _=Data.cell v:=z
   cases z'⟩
 keep:=λi h h' st k=>k it (by simp) _ st
 item:=by
  intro X hP hw hK hc i pins s σ H E I hf st hg;subst hP hw hK;obtain⟨f0,f1,f2,f3,f4,f5⟩:=hf it (by simp);have W:=Walks.range (prog:=X.prog) (w:=X.w) (I.ok.hd hc) it lo 1 n
  refine W.item i s _ _ hg st λv h' tk hv st' kk=>?_
  obtain⟨t,rfl⟩:=hv;have I1:Inv X pins σ H { s with heap:=h',toks:=tk }:=I.turned (λb o hb e=>kk b o (by simpa using hb) e) f0 f1 f3 f4 f5;refine⟨_,rfl,vD (s:={ s with heap:=h',toks:=tk }) (n:="range_iterator") st' rfl rfl (by decide) ⟨.int (lo+i),H,I1,⟨t,?_⟩,⟨rfl,rfl⟩,st',λb hb=>(hf b hb).1⟩⟩;rw[Int.mul_one]
 done:=by
  intro X hP hw hK hc i pins s σ H E I hf st hg;subst hP hw hK;obtain⟨f0,f1,f2,f3,f4,f5⟩:=hf it (by simp)
  exact wpAny_pyNext_range_end (I.ok.hd hc) st (by have:n<=i:=hg;omega) λh' eb=>⟨rfl,I.turned (t':=s.toks) (λb o hb e=>eb b o hb e) f0 f1 f3 f4 f5⟩
 self:=λ_ _ _ _ _ st h=>wpAny_pyIter_rangeiter st h
section
variable{X:Cx}{tg:Expr}
def Pj(K:Rw)(tl:TE):TI:=fun σ H R=>tl σ H λx H1=>∃a,x=.ref a/\(∃xs,SqL K H1 a xs)/\R (Itl K a) H1
def iTup(K:Rw)(tl:TE):TI:=fun σ H R=>tl σ H λx H1=>∃a,x=.ref a/\(∃xs,SqT K H1 a xs)/\R (Itt K a) H1
def EY{l:Expr}{tl:TE}(hl:PE X l tl):PI X tg l (Pj X.K tl):=by
 intro pins s σ H R I h
 refine thn (hl pins s σ H _ I h) λv s1 ⟨x,H1,I1,r1,q1⟩=>?_
 obtain⟨a,e,⟨xs,hq⟩,q⟩:=q1;subst e;cases r1;obtain⟨its,rv,p,hz⟩:=I1.list hq;refine Yp p.isList ?_;refine⟨s1.heap.objs.size,[s1.heap.objs.size],_,_,H1,rfl,I1.kept (t':=s1.toks) λb o e=>Rk _ e,vG a _,⟨_,RD _ rfl,rfl,rfl⟩,λb hb=>?_,q⟩
 have e:b=s1.heap.objs.size:=by simpa using hb
 subst e;exact I1.fpOk (Rx _) (I1.hok.fresh (Rx _))
def Nh{l:Expr}{tl:TE}(hl:PE X l tl):PI X tg l (iTup X.K tl):=by
 intro pins s σ H R I h
 refine thn (hl pins s σ H _ I h) λv s1 ⟨x,H1,I1,r1,q1⟩=>?_
 obtain⟨a,e,⟨xs,hq⟩,q⟩:=q1;subst e;cases r1;obtain⟨its,rv,p,hz⟩:=I1.tuple hq;refine wpAny_pyIter_tuple (show s1.heap.IsTuple a its.toArray from p) ?_;refine⟨s1.heap.objs.size,[s1.heap.objs.size],_,_,H1,rfl,I1.kept (t':=s1.toks) λb o e=>Rk _ e,sH a _,⟨_,RD _ rfl,rfl,rfl⟩,λb hb=>?_,q⟩
 have e:b=s1.heap.objs.size:=by simpa using hb
 subst e;exact I1.fpOk (Rx _) (I1.hok.fresh (Rx _))
theorem BP{pins:List (Addr×Obj)}{σ:St}{H:Hp}{s:Rr}{R:It->Hp->Prop}{E:Rm->Rr->Prop}{lo hi:Int}{t u v:Tok}{tk:Nat}(I:Inv X pins σ H s)(h1:-(2 ^ 62)<=lo)(h2:lo<2 ^ 62)(h3:-(2 ^ 62)<=hi)(h4:hi<2 ^ 62)
 (q:R (Itr lo (hi-lo).toNat) H):RG (RQ X.prog X.w) X.A (ZX (.ref s.heap.objs.size)) (PIE X pins σ tg R) E { s with heap:=s.heap.push { cls:=.type "range",data:=.fields #[.int lo t,.int hi u,.int 1 v] },toks:=tk }:=by
 refine wpAny_pyIter_range (IsRange.new ..) (small_one h1 h2 h3 h4) ?_
 have I1:Inv X pins σ H { s with heap:=s.heap.push { cls:=.type "range",data:=.fields #[.int lo t,.int hi u,.int 1 v] },toks:=tk }:=I.kept λb o e=>Rk _ e
 refine⟨(s.heap.push { cls:=.type "range",data:=.fields #[.int lo t,.int hi u,.int 1 v] }).objs.size,[(s.heap.push { cls:=.type "range",data:=.fields #[.int lo t,.int hi u,.int 1 v] }).objs.size],_,_,H,rfl,
  I1.kept (t':=tk) λb o e=>Rk _ e,tX _ lo (hi-lo).toNat,?_,λb hb=>?_,q⟩
 .have e1:lo+((0:Nat):Int)*1=lo:=by simp
  have e2:(((hi-lo).toNat:Nat):Int)-((0:Nat):Int)=S8.Range.rangeSize lo hi 1:=by rw[rangeSize_one];split<;>omega
  show IsRangeIter _ _ (lo+((0:Nat):Int)*1) ((((hi-lo).toNat:Nat):Int)-((0:Nat):Int)) 1;rw[e1,e2];exact RD _ rfl
 .have e:b=(s.heap.push { cls:=.type "range",data:=.fields #[.int lo t,.int hi u,.int 1 v] }).objs.size:=by simpa using hb
  subst e;exact I1.fpOk (Rx _) (I1.hok.fresh (Rx _))
def Pk(ta:TA):TI:=fun σ H R=>ta σ H λvs H1=>∃j:Int,vs=[.int j]/\-(2 ^ 62)<=j/\j<2 ^ 62/\R (Itr 0 j.toNat) H1
def yc(hg:Gl X "range")(hm:X.mg "range"=Yt)(ha:PA X [a] ta)(hs:SJ [a] X.env=[(Zd,Vl a X.env)]:=by rfl):PI X tg (.Call (.Name "range" p) [a] [] pos) (Pk ta):=by
 intro pins s σ H R I h;refine Call_ (jc I hg hm boot_range (W7 (thn (ha pos pins s σ H _ I h) λus s1 ⟨vs,H1,I1,r1,q1⟩=>?_) hs rfl));obtain⟨j,e,q1,q2,q⟩:=q1;subst e
 cases r1 with
 | cons r rr=>
   cases rr;obtain⟨t,rfl⟩:=r;exact call_range_1 (BP I1 (by omega) (by omega) q1 q2 (by simpa using q))
def tFor(wi:TI)(g:TG)(tb:TS):TS:=λD σ H=>wi σ H λJ H1=>∃W:Nat->Nat->St->Hp->Prop,(∃m,W 0 m σ H1)/\∀i m σ H,W i m σ H ->
 (J.stop i H/\D.nx σ H)\/(J.go i H/\∃N:St->Hp->Prop,(∀σ' H',N σ' H'->∃m',m'<m/\W (i+1) m' σ' H')/\∀x H',J.yld i H x H'->g x σ H' fun σ2 H2=>tb { D with nx:=N,ct:=N,bk:=D.nx } σ2 H2)
noncomputable def lV(fp:List Addr)(h:Rz):List (Addr×Obj):=fp.filterMap λb=>(h.get? b).map λo=>(b,o)
def dJ(hb:b∈fp)(e:h.get? b=Z_ o):(b,o)∈lV fp h:=List.mem_filterMap.mpr ⟨b,hb,by rw[e];rfl⟩
def ye(hp:p∈lV fp h):p.1∈fp/\h.get? p.1=Z_ p.2:=by
 obtain⟨b,hb,e⟩:=List.mem_filterMap.mp hp
 cases q:h.get? b with
 | none=>rw[q]at e;cases e
 | some o=>
   rw[q]at e;have e':(b,o)=p:=U5 e;subst e';exact⟨hb,q⟩
def Inv.pinned(I:Inv X pins σ H s)(hf:∀b∈fp,FpOk X pins H b)(ho:∀b∈fp,∃o,s.heap.get? b=Z_ o/\∀v,o.data≠.cell v):Inv X (pins++lV fp s.heap) σ H s :=
 I.pins_of λp hp=>(Tf.mp hp).elim (λz=>I.pin p (T3 _ z)) λz=>by
  obtain⟨hb,e⟩:=ye z;obtain⟨f0,f1,f2,_⟩:=hf p.1 hb;obtain⟨o,e',d⟩:=ho p.1 hb;rw[e]at e';cases e';exact⟨e,f0,f1,f2,d⟩
def Inv.unpinned(I:Inv X (pins++pl) σ H s):Inv X pins σ H s:=I.pins_of λp hp=>I.pin p (T3 _ (Uo _ hp))
def Jo(hp:YB (RQ X.prog X.w) X.A X.env X.xe)(hc:X.calm=Y_)(hi:PI X tg iter wi)(hg:PG X tg g)(hb:PSs X body tb)
 (hs:∀x,Vg iter X.env x=pure x:=by intro _;rfl):PS X (.For tg iter body [] pos) (tFor wi g tb):=by
 intro pins s σ H D I h;refine wpAny_For (thn (hi pins s σ H _ I h) λv s1 h1=>thn h1 λitv s2 h2=>?_) hs;obtain⟨it,fp,tn,J,H2,e,I2,T,st2,f2,W,⟨m0,w0⟩,turn⟩:=h2;subst e
 have stat:∀{H':Hp},(∀b∈fp,H' b=Yt)->∀b∈fp,FpOk X pins H' b:=λhn b hb=>⟨hn b hb,(f2 b hb).2⟩
 refine codeAny_forLoop_any (λn s'=>∃i σ' H',Inv X pins σ' H' s'/\tn i s'.heap/\(∀b∈fp,H' b=Yt)/\W i n σ' H') ?_ m0 ⟨0,σ,H2,I2,st2,λb hb=>(f2 b hb).1,w0⟩
 rintro n s3 ⟨i,σ3,H3,I3,st3,fr3,w3⟩
 rcases turn i n σ3 H3 w3 with⟨stop,qn⟩ | ⟨go,N,hN,step⟩
 .refine Wo hp (thn (T.done X rfl rfl rfl hc i pins s3 σ3 H3 X.xe I3 (stat fr3) st3 stop) λr s4 ⟨hr,I4⟩=>?_)
  subst hr;exact wpAny_execs_nil ⟨σ3,H3,I4,qn⟩
 .refine Wo hp (thn (T.item X rfl rfl rfl hc i pins s3 σ3 H3 X.xe I3 (stat fr3) st3 go) λr s4 ⟨u,hr,h4⟩=>?_)
  subst hr;refine Wo hp (thn h4 λ_ s5 ⟨x,H5,I5,r5,y5,st5,fr5⟩=>?_);have I5':=I5.pinned (stat fr5) (T.obj _ _ st5);refine Wo hp (thn (hg _ s5 σ3 H5 x u _ I5' r5 (step x H5 y5)) λ_ s6 ⟨σ6,H6,I6,q6⟩=>?_);refine Wo hp (thn (hb _ s6 σ6 H6 _ I6 q6) λf s7 q7=>?_)
  have again:∀{σ7:St} {H7:Hp},Inv X (pins++lV fp s5.heap) σ7 H7 s7->N σ7 H7->∃m,m<n/\∃i σ' H',Inv X pins σ' H' s7/\tn i s7.heap/\(∀b∈fp,H' b=Yt)/\W i m σ' H':=λ{σ7 H7} I7 n7=>by
   obtain⟨m',hm,w7⟩:=hN σ7 H7 n7;refine⟨m',hm,i+1,σ7,H7,I7.unpinned,T.keep _ _ _ st5 λb hb o e=>(I7.pin (b,o) (T3 _ (T3 _ (dJ hb e)))).1,λb hb=>?_,w7⟩;obtain⟨o,e,d⟩:=T.obj _ _ st5 b hb;exact(I7.pin (b,o) (T3 _ (T3 _ (dJ hb e)))).2.1
  cases f with
  | next=>obtain⟨σ7,H7,I7,n7⟩:=q7;exact again I7 n7
  | cont=>obtain⟨σ7,H7,I7,n7⟩:=q7;exact again I7 n7
  | brk=>obtain⟨σ7,H7,I7,q7⟩:=q7;exact⟨σ7,H7,I7.unpinned,q7⟩
  | ret v=>obtain⟨x7,σ7,H7,I7,r7,q7⟩:=q7;exact⟨x7,σ7,H7,I7.unpinned,r7,q7⟩
end
abbrev R2:=V->V->Hp->VK->Prop
def OpR(X:Cx)(f:Rm->Rm->Sem Rm)(r:R2):Prop :=
 ∀(pins:List (Addr×Obj)) (s:Rr) (σ:St) (H:Hp) (x y:V) (v u:Rm) (Q:VK),Inv X pins σ H s->RelV x v->RelV y u->r x y H Q ->
  RG (RQ X.prog X.w) X.A (f v u) (EP X pins σ Q) X.xe s
def UnR(X:Cx)(f:Rm->Sem Rm)(r:V->Hp->VK->Prop):Prop :=
 ∀(pins:List (Addr×Obj)) (s:Rr) (σ:St) (H:Hp) (x:V) (v:Rm) (Q:VK),Inv X pins σ H s->RelV x v->r x H Q ->
  RG (RQ X.prog X.w) X.A (f v) (EP X pins σ Q) X.xe s
def CallR(X:Cx)(f:Rm)(r:List V->Hp->VK->Prop):Prop :=
 ∀(pins:List (Addr×Obj)) (s:Rr) (σ:St) (H:Hp) (xs:List V) (us:List Rm) (Q:VK),Inv X pins σ H s->Vals xs us->r xs H Q ->
  RG (RQ X.prog X.w) X.A (call f us) (EP X pins σ Q) X.xe s
def TruR(X:Cx)(r:V->Hp->(Bool->Hp->Prop)->Prop):Prop :=
 ∀(pins:List (Addr×Obj)) (s:Rr) (σ:St) (H:Hp) (x:V) (v:Rm) (Q:Bool->Hp->Prop),Inv X pins σ H s->RelV x v->r x H Q ->
  RG (RQ X.prog X.w) X.A (truthy v) (TP X pins σ Q) X.xe s
def tOp(r:R2)(ta tb:TE):TE:=fun σ H Q=>ta σ H λx H1=>tb σ H1 λy H2=>r x y H2 Q
def tUn(r:V->Hp->VK->Prop)(ta:TE):TE:=fun σ H Q=>ta σ H λx H1=>r x H1 Q
def rI(C:Int->Int->Prop)(g:Int->Int->V):R2:=λx y H Q=>∃i j,x=.int i/\y=.int j/\C i j/\Q (g i j) H
def rI0(g:Int->Int->V):R2:=λx y H Q=>∃i j,x=.int i/\y=.int j/\Q (g i j) H
def rU(g:Int->V):V->Hp->VK->Prop:=λx H Q=>∃i,x=.int i/\Q (g i) H
section
variable{X:Cx}{a b c:Expr}{ta tb tc:TE}{pos:Pos}
def binT(ha:PE X a ta)(hb:PE X b tb){pins:List (Addr×Obj)}{s:Rr}{σ:St}{H:Hp}{R:V->V->Hp->Prop}(I:Inv X pins σ H s)
 (h:ta σ H λx H1=>tb σ H1 λy H2=>R x y H2){Q:Rm->Rr->Prop}{f:Rm->Rm->Sem Rm}
 (hf:∀v u s2 x y H2,Inv X pins σ H2 s2->RelV x v->RelV y u->R x y H2->RG (RQ X.prog X.w) X.A (f v u) Q X.xe s2) :
 RG (RQ X.prog X.w) X.A (Vl a X.env) (λv s₁=>RG (RQ X.prog X.w) X.A (Vl b X.env) (λu s₂=>RG (RQ X.prog X.w) X.A (f v u) Q X.xe s₂) X.xe s₁) X.xe s:=by
 refine thn (ha pins s σ H _ I h) λv s1 ⟨x,H1,I1,r1,q1⟩=>?_
 refine thn (hb pins s1 σ H1 _ I1 q1) λu s2 ⟨y,H2,I2,r2,q2⟩=>?_
 exact hf v u s2 x y H2 I2 r1 r2 q2
def Qa(ho:OpR X (We op) r)(ha:PE X a ta)(hb:PE X b tb):PE X (.BinOp a op b pos) (tOp r ta tb):=by
 intro pins s σ H Q I h;exact wpAny_BinOp (binT ha hb I h λv u s2 x y H2 I2 rx ry q=>ho pins s2 σ H2 x y v u Q I2 rx ry q)
def Qm(ho:UnR X (unaryOp op) r)(ha:PE X a ta):PE X (.UnaryOp op a pos) (tUn r ta):=by
 intro pins s σ H Q I h;exact UnaryOp_ (thn (ha pins s σ H _ I h) λv s1 ⟨x,H1,I1,r1,q1⟩=>ho pins s1 σ H1 x v Q I1 r1 q1)
def opI{f:Rm->Rm->Sem Rm}{C:Int->Int->Prop}{g:Int->Int->Int}
 (rule:∀(i j:Int)(t u:Tok)(s:Rr)(Q:Rm->Rr->Prop)(E:Rm->Rr->Prop),C i j->Q (.int (g i j) s.toks) { s with toks:=s.toks+1 }->RG (RQ X.prog X.w) X.A (f (.int i t) (.int j u)) Q E s) :
 OpR X f (rI C λi j=>.int (g i j)):=by
 intro pins s σ H x y v u Q I rx ry h;obtain⟨i,j,rfl,rfl,hc,q⟩:=h;obtain⟨t,rfl⟩:=rx;obtain⟨t',rfl⟩:=ry;exact rule i j t t' s _ _ hc ⟨.int (g i j),H,I.tok _,⟨_,rfl⟩,q⟩
def opI0{f:Rm->Rm->Sem Rm}{g:Int->Int->Int}
 (rule:∀(i j:Int)(t u:Tok)(s:Rr)(Q:Rm->Rr->Prop)(E:Rm->Rr->Prop),Q (.int (g i j) s.toks) { s with toks:=s.toks+1 }->RG (RQ X.prog X.w) X.A (f (.int i t) (.int j u)) Q E s) :
 OpR X f (rI0 λi j=>.int (g i j)):=by
 intro pins s σ H x y v u Q I rx ry h;obtain⟨i,j,rfl,rfl,q⟩:=h;obtain⟨t,rfl⟩:=rx;obtain⟨t',rfl⟩:=ry;exact rule i j t t' s _ _ ⟨.int (g i j),H,I.tok _,⟨_,rfl⟩,q⟩
def opB0{f:Rm->Rm->Sem Rm}{g:Int->Int->Bool}
 (rule:∀(i j:Int)(t u:Tok)(s:Rr)(Q:Rm->Rr->Prop)(E:Rm->Rr->Prop),Q (.bool (g i j)) s->RG (RQ X.prog X.w) X.A (f (.int i t) (.int j u)) Q E s) :
 OpR X f (rI0 λi j=>.bl (g i j)):=by
 intro pins s σ H x y v u Q I rx ry h;obtain⟨i,j,rfl,rfl,q⟩:=h;obtain⟨t,rfl⟩:=rx;obtain⟨t',rfl⟩:=ry;exact rule i j t t' s _ _ ⟨.bl (g i j),H,I,rfl,q⟩
def CPow(i j:Int):Prop:=0<=j/\j<=1000000/\i.natAbs<2 ^ 64
def Ka:OpR X (We .Add) (rI0 λi j=>.int (i+j)):=opI0 λ_ _ _ _ _ _ _ q=>add_int q
def Nj:OpR X (We .Sub) (rI0 λi j=>.int (i-j)):=opI0 λ_ _ _ _ _ _ _ q=>sub_int q
def Ij:OpR X (We .Mod) (rI (λ_ j=>j≠0) λi j=>.int (i.fmod j)):=opI λ_ _ _ _ _ _ _ hc q=>mod_int' hc q
def K9:OpR X (We .Pow) (rI CPow λi j=>.int (i ^ j.toNat)):=opI λ_ _ _ _ _ _ _ hc q=>pow_int_small hc.1 hc.2.1 hc.2.2 q
def unI{f:Rm->Sem Rm}{g:Int->Int}
 (rule:∀(i:Int)(t:Tok)(s:Rr)(Q:Rm->Rr->Prop)(E:Rm->Rr->Prop),Q (.int (g i) s.toks) { s with toks:=s.toks+1 }->RG (RQ X.prog X.w) X.A (f (.int i t)) Q E s) :
 UnR X f (rU λi=>.int (g i)):=by
 intro pins s σ H x v Q I rx h;obtain⟨i,rfl,q⟩:=h;obtain⟨t,rfl⟩:=rx;exact rule i t s _ _ ⟨.int (g i),H,I.tok _,⟨_,rfl⟩,q⟩
def Ls:UnR X (unaryOp .USub) (rU λi=>.int (-i)):=unI λ_ _ _ _ _ q=>neg_int q
end
noncomputable def scal:V->V->Bool
 | .non,.non=>true | .non,.int _=>true | .int _,.non=>true | .non,.bl _=>true | .bl _,.non=>true | .non,.str _=>true | .str _,.non=>true
 | .int _,.int _=>true | .bl _,.bl _=>true | .str _,.str _=>true | .byt _,.byt _=>true
 | .int _,.str _=>true | .str _,.int _=>true | .bl _,.str _=>true | .str _,.bl _=>true
 | _,_=>false
def rEq:R2:=λx y H Q=>scal x y=Y_/\Q (.bl (decide (x=y))) H
def rNe:R2:=λx y H Q=>scal x y=Y_/\Q (.bl (!decide (x=y))) H
def uh:decide (V.int i=V.int j)=(i==j):=by
 rw[X5];simp
def Cq:decide (V.bl i=V.bl j)=(i==j):=by
 rw[X5];simp
def vJ:decide (V.str i=V.str j)=(i==j):=by
 rw[X5];simp
def wJ:decide (V.byt i=V.byt j)=(i.toList==j.toList):=by
 rw[X5];cases i;cases j;simp
section
variable{X:Cx}{a b c:Expr}{ta tb tc:TE}{pos:Pos}
def aU(I:Inv X pins σ H s)(q:Q (.bl k) H)(e:k=k'):EP X pins σ Q (.bool k') s:=by
 subst e;exact⟨.bl k,H,I,rfl,q⟩
def QJ:OpR X (Vj .Eq) rEq:=by
 intro pins s σ H x y v u Q I rx ry h;obtain⟨hs,q⟩:=h
 cases x with
 | non=>
   cases rx
   cases y with
   | non=>cases ry;exact PySem.EqNone.eq_none_none (aU I q (by simp))
   | bl j=>cases ry;exact PySem.EqNone.eq_none_bool (aU I q (by simp))
   | int j=>obtain⟨t',rfl⟩:=ry;exact PySem.EqNone.eq_none_int (aU I q (by simp))
   | str j=>obtain⟨t',rfl⟩:=ry;exact PySem.EqNone.eq_none_str (aU I q (by simp))
   | _=>exact absurd (show Zd=Y_ from hs) S9
 | bl i=>
   cases rx
   cases y with
   | non=>cases ry;exact PySem.EqNone.eq_bool_none (aU I q (by simp))
   | bl j=>cases ry;exact eq_bool (aU I q Cq)
   | str j=>obtain⟨t',rfl⟩:=ry;exact PySem.EqMixed.eq_bool_str (aU I q (by simp))
   | _=>exact absurd (show Zd=Y_ from hs) S9
 | int i=>
   obtain⟨t,rfl⟩:=rx
   cases y with
   | non=>cases ry;exact PySem.EqNone.eq_int_none (aU I q (by simp))
   | int j=>obtain⟨t',rfl⟩:=ry;exact eq_int (aU I q uh)
   | str j=>obtain⟨t',rfl⟩:=ry;exact PySem.EqMixed.eq_int_str (aU I q (by simp))
   | _=>exact absurd (show Zd=Y_ from hs) S9
 | str i=>
   obtain⟨t,rfl⟩:=rx
   cases y with
   | non=>cases ry;exact PySem.EqNone.eq_str_none (aU I q (by simp))
   | bl j=>cases ry;exact PySem.EqMixed.eq_str_bool (aU I q (by simp))
   | int j=>obtain⟨t',rfl⟩:=ry;exact PySem.EqMixed.eq_str_int (aU I q (by simp))
   | str j=>obtain⟨t',rfl⟩:=ry;exact eq_str (aU I q vJ)
   | _=>exact absurd (show Zd=Y_ from hs) S9
 | byt i=>
   obtain⟨t,rfl⟩:=rx
   cases y with
   | byt j=>obtain⟨t',rfl⟩:=ry;exact PySem.W.eq_bytes (aU I q wJ)
   | _=>exact absurd (show Zd=Y_ from hs) S9
 | _=>cases y<;>exact absurd (show Zd=Y_ from hs) S9
def Q4:OpR X (Vj .NotEq) rNe:=by
 intro pins s σ H x y v u Q I rx ry h;obtain⟨hs,q⟩:=h
 cases x with
 | non=>
   cases rx
   cases y with
   | non=>cases ry;exact PySem.EqNone.ne_none_none (aU I q (by simp))
   | bl j=>cases ry;exact PySem.EqNone.ne_none_bool (aU I q (by simp))
   | int j=>obtain⟨t',rfl⟩:=ry;exact PySem.EqNone.ne_none_int (aU I q (by simp))
   | str j=>obtain⟨t',rfl⟩:=ry;exact PySem.EqNone.ne_none_str (aU I q (by simp))
   | _=>exact absurd (show Zd=Y_ from hs) S9
 | bl i=>
   cases rx
   cases y with
   | non=>cases ry;exact PySem.EqNone.ne_bool_none (aU I q (by simp))
   | bl j=>cases ry;exact ne_bool (aU I q (congrArg not Cq))
   | str j=>obtain⟨t',rfl⟩:=ry;exact PySem.EqMixed.ne_bool_str (aU I q (by simp))
   | _=>exact absurd (show Zd=Y_ from hs) S9
 | int i=>
   obtain⟨t,rfl⟩:=rx
   cases y with
   | non=>cases ry;exact PySem.EqNone.ne_int_none (aU I q (by simp))
   | int j=>obtain⟨t',rfl⟩:=ry;exact ne_int (aU I q (congrArg not uh))
   | str j=>obtain⟨t',rfl⟩:=ry;exact PySem.EqMixed.ne_int_str (aU I q (by simp))
   | _=>exact absurd (show Zd=Y_ from hs) S9
 | str i=>
   obtain⟨t,rfl⟩:=rx
   cases y with
   | non=>cases ry;exact PySem.EqNone.ne_str_none (aU I q (by simp))
   | bl j=>cases ry;exact PySem.EqMixed.ne_str_bool (aU I q (by simp))
   | int j=>obtain⟨t',rfl⟩:=ry;exact PySem.EqMixed.ne_str_int (aU I q (by simp))
   | str j=>obtain⟨t',rfl⟩:=ry;exact ne_str (aU I q (congrArg not vJ))
   | _=>exact absurd (show Zd=Y_ from hs) S9
 | byt i=>
   obtain⟨t,rfl⟩:=rx
   cases y with
   | byt j=>obtain⟨t',rfl⟩:=ry;exact PySem.W.ne_bytes (aU I q (congrArg not wJ))
   | _=>exact absurd (show Zd=Y_ from hs) S9
 | _=>cases y<;>exact absurd (show Zd=Y_ from hs) S9
def Q6:OpR X (Vj .Lt) (rI0 λi j=>.bl (decide (i<j))):=opB0 λ_ _ _ _ _ _ _ q=>lt_int q
def R5:OpR X (Vj .Gt) (rI0 λi j=>.bl (decide (j<i))):=opB0 λ_ _ _ _ _ _ _ q=>gt_int q
def w5:OpR X (Vj .Lt) (λx y H Q=>∃i j,x=.str i/\y=.str j/\Q (.bl (decide (i.cps.toList<j.cps.toList))) H):=by
 intro pins s σ H x y v u Q I rx ry h;obtain⟨i,j,rfl,rfl,q⟩:=h;obtain⟨t,rfl⟩:=rx;obtain⟨t',rfl⟩:=ry;exact lt_str (aU I q rfl)
def lZ:OpR X (Vj .In) (λx y H Q=>∃i j,x=.str i/\y=.str j/\Q (.bl (!(VJ j i 0 j.length 1).isEmpty)) H):=by
 intro pins s σ H x y v u Q I rx ry h;obtain⟨i,j,rfl,rfl,q⟩:=h;obtain⟨t,rfl⟩:=rx;obtain⟨t',rfl⟩:=ry;exact in_str (aU I q rfl)
def gn:OpR X (Vj .NotIn) (λx y H Q=>∃i j,x=.str i/\y=.str j/\Q (.bl (!(!(VJ j i 0 j.length 1).isEmpty))) H):=by
 intro pins s σ H x y v u Q I rx ry h;obtain⟨i,j,rfl,rfl,q⟩:=h;obtain⟨t,rfl⟩:=rx;obtain⟨t',rfl⟩:=ry;exact notIn_str (aU I q rfl)
def OpR.or(h:OpR X f r)(h':OpR X f r'):OpR X f (λx y H Q=>r x y H Q\/r' x y H Q):=by
 intro pins s σ H x y v u Q I rx ry q;rcases q with q | q
 .exact h pins s σ H x y v u Q I rx ry q
 .exact h' pins s σ H x y v u Q I rx ry q
def iD(ho:OpR X (Vj op) r)(ha:PE X a ta)(hb:PE X b tb)(hm:V2 op b=Zd):PE X (.Compare a [op] [b] pos) (tOp r ta tb):=by
 intro pins s σ H Q I h;exact wpAny_Compare1 (binT ha hb I h λv u s2 x y H2 I2 rx ry q=>ho pins s2 σ H2 x y v u Q I2 rx ry q) hm
def Rg(t:TE):TT:=fun σ H Q=>t σ H λx H'=>∃k,x=.bl k/\Q k H'
def iM(ho:OpR X (Vj op) r)(ha:PE X a ta)(hb:PE X b tb)(hm:V2 op b=Zd):PT X (.Compare a [op] [b] pos) (Rg (tOp r ta tb)):=by
 intro pins s σ H Q I h
 refine wpAny_isTrue_Compare1 (thn (ha pins s σ H _ I h) λv s1 ⟨x,H1,I1,r1,q1⟩=>thn (hb pins s1 σ H1 _ I1 q1) λu s2 ⟨y,H2,I2,r2,q2⟩=>
  thn (ho pins s2 σ H2 x y v u _ I2 r1 r2 q2) λc s3 ⟨z,H3,I3,r3,k,e,q3⟩=>?_) hm
 subst e;cases r3;exact W2 ⟨H3,I3,q3⟩
def TruV(K:Rw)(x:V)(H:Hp)(k:Bool):Prop :=
 match x with
 | .non=>k=Zd
 | .bl b=>k=b
 | .int i=>k=(i !=0)
 | .str y=>y.length<=sizeLine/\k=((y.length:Int) !=0)
 | .byt y=>y.size<=sizeLine/\k=((y.size:Int) !=0)
 | .ref p=>(∃xs,SqL K H p xs/\k=!xs.isEmpty)\/(∃xs,SqT K H p xs/\k=!xs.isEmpty)\/∃kvs ep,H p=Z_ (.dK kvs ep)/\k=!kvs.isEmpty
 | _=>False
def sV(r:KV kvs vs):(!vs.isEmpty)=!kvs.isEmpty:=by
 cases r<;>rfl
def ju(r:Vals xs its):(!its.toArray.isEmpty)=!xs.isEmpty:=by
 cases r<;>simp
def jb:(sizeLine:Nat)<2 ^ 63:=by rw[Ut];decide
theorem CQ:TruR X (λx H Q=>∃k,TruV X.K x H k/\Q k H):=by
 intro pins s σ H x v Q I rx h;obtain⟨k,e,q⟩:=h;have hl:=jb;have hs:sizeLine=16777216:=Ut
 cases x with
 | non=>
   cases rx;have e':k=Zd:=e;subst e';exact truthy_none ⟨H,I,q⟩
 | bl b=>
   cases rx;have e':k=b:=e;subst e';exact W2 ⟨H,I,q⟩
 | int i=>
   obtain⟨t,rfl⟩:=rx;have e':k=(i !=0):=e;subst e';exact PySem.P.truthy_int ⟨H,I,q⟩
 | str y=>
   obtain⟨t,rfl⟩:=rx;obtain⟨hy,e'⟩:y.length<=sizeLine/\k=((y.length:Int) !=0):=e;subst e';exact PySem.P.truthy_str (by omega) ⟨H,I.tok _,q⟩
 | byt y=>
   obtain⟨t,rfl⟩:=rx;obtain⟨hy,e'⟩:y.size<=sizeLine/\k=((y.size:Int) !=0):=e;subst e';exact PySem.W.truthy_bytes (by omega) ⟨H,I.tok _,q⟩
 | ref p=>
   cases rx;have e':(∃xs,SqL X.K H p xs/\k=!xs.isEmpty)\/(∃xs,SqT X.K H p xs/\k=!xs.isEmpty)\/∃kvs ep,H p=Z_ (.dK kvs ep)/\k=!kvs.isEmpty:=e;rcases e' with⟨xs,hx,e'⟩ | ⟨xs,hx,e'⟩ | ⟨kvs,ep,hx,e'⟩
   .subst e'
    obtain⟨its,r,pl,hz⟩:=I.list hx;have hlen:=r.length;exact wpAny_truthy_list pl.isList (by simp only[RM];omega) ⟨H,I.tok _,by rw[ju r];exact q⟩
   .subst e'
    obtain⟨its,r,pl,hz⟩:=I.tuple hx;have hlen:=r.length;exact truthy_tuple pl (by simp only[RM];omega) ⟨H,I.tok _,by rw[ju r];exact q⟩
   .subst e'
    obtain⟨hz,hS,vs,r,m⟩:kvs.length<=sizeLine/\(p==Vx)=Zd/\∃vs,KV kvs vs/\s.heap.DictAt (aV X.prog X.w) p vs ep:=I.hok p _ hx;have m:=m.dictOf;have hlen:kvs.length=vs.length:=YH r;exact wpAny_truthy_dict hS m (by omega) ⟨H,I.tok _,by rw[sV r];exact q⟩
 | _=>exact(show False from e).elim
def Ah(ha:PE X a ta)(he:∀whole,isTrue a X.env whole=(do let v <-whole;ZF a.pos;Xy [v] (truthy v))) :
 PT X a (fun σ H Q=>ta σ H λx H'=>∃k,TruV X.K x H' k/\Q k H'):=by
 intro pins s σ H Q I h;exact isTrue_plain (thn (ha pins s σ H _ I h) λv s1 ⟨x,H1,I1,r1,q1⟩=>CQ pins s1 σ H1 x v Q I1 r1 q1) (he _)
def sW:OpR X (We .Add) (λx y H Q=>∃i j,x=.str i/\y=.str j/\i.length+j.length<=sizeLine/\Q (.str (i++j)) H):=by
 intro pins s σ H x y v u Q I rx ry h;obtain⟨i,j,rfl,rfl,hz,q⟩:=h;obtain⟨t,rfl⟩:=rx;obtain⟨t',rfl⟩:=ry;exact add_str (λt' tk=>⟨.str (i++j),H,I.tok _,⟨_,rfl⟩,q⟩) hz
def vals1(r:Vals [x] us):∃u,us=[u]/\RelV x u:=by
 cases r with
 | cons r1 r2=>cases r2;exact⟨_,rfl,r1⟩
def vals2(r:Vals [x,y] us):∃u w',us=[u,w']/\RelV x u/\RelV y w':=by
 cases r with
 | cons r1 r2=>
   cases r2 with
   | cons r3 r4=>cases r4;exact⟨_,_,rfl,r1,r3⟩
def z6:CallR X (.builtin "abs") (λxs H Q=>∃i,xs=[.int i]/\Q (.int (if i<0 then -i else i)) H):=by
 intro pins s σ H xs us Q I r h;obtain⟨i,rfl,q⟩:=h;obtain⟨u,rfl,t,rfl⟩:=vals1 r
 exact call_abs_int λu tk=>⟨.int (if i<0 then -i else i),H,I.tok _,⟨_,rfl⟩,q⟩
def v7(hc:X.calm=Y_):CallR X (.builtin "max") (λxs H Q=>∃i j,xs=[.int i,.int j]/\Q (.int (if j>i then j else i)) H):=by
 intro pins s σ H xs us Q I r h;obtain⟨i,j,rfl,q⟩:=h;obtain⟨u,w',rfl,⟨t,rfl⟩,⟨t',rfl⟩⟩:=vals2 r
 refine max_two_ints (I.ok.hd hc) λh' tk k=>⟨_,H,I.kept k,?_,q⟩
 by_cases hj:j>i
 .rw[if_pos hj,if_pos hj];exact⟨_,rfl⟩
 .rw[if_neg hj,if_neg hj];exact⟨_,rfl⟩
def xR:CallR X (.type "int") (λxs H Q=>(∃i,xs=[.int i]/\Q (.int i) H)\/∃k,xs=[.bl k]/\Q (.int (if k then 1 else 0)) H):=by
 intro pins s σ H xs us Q I r h;rcases h with⟨i,rfl,q⟩ | ⟨k,rfl,q⟩
 .obtain⟨u,rfl,t,rfl⟩:=vals1 r
  exact call_int_int ⟨.int i,H,I,⟨_,rfl⟩,q⟩
 .obtain⟨u,rfl,r1⟩:=vals1 r
  cases r1;exact call_int_bool ⟨.int (if k then 1 else 0),H,I.tok _,⟨_,rfl⟩,q⟩
end
structure ObjM(h:Rz)(x dx C:Addr)(mA:Str->Option Rm):Prop where
 obj:h.get? x=Z_ (PySem.W.instObj C dx)
 ns:h.Ns1 dx mA
 ne:dx≠x
def RelO.some_of(r:RelO (Z_ v) o):∃u,o=Z_ u/\RelV v u:=by
 cases o with
 | none=>exact(show False from r).elim
 | some u=>exact⟨u,rfl,r⟩
structure Cls(K:Rw)(C:Addr):Prop where
 pg:PySem.W.plainGet K C Str.empty=Y_
 hd:PySem.W.hasDictIn K C=Y_
 po:PySem.W.plainOver K C=Y_
 sa:XJ K (.ref C) "__setattr__"=Z_ (Z_ (.builtin "object.__setattr__"))
structure Con(K:Rw)(C:Addr)(f:Str)(v:V)(u:Rm):Prop where
 at_:XJ K (.ref C) f=Z_ (Z_ u)
 rel:RelV v u
 get:PySem.W.specialIn K u "__get__"=Z_ none
 cp:PySem.W.copiedNames.contains f=Zd
structure Meth(K:Rw)(C:Addr)(m:Str)(f:Addr):Prop where
 at_:XJ K (.ref C) m=Z_ (Z_ (.ref f))
 fn:PySem.W.isFn K (.ref f)=Y_
 kp:Uz K (.ref f)=Y_
section
variable{X:Cx}{pins:List (Addr×Obj)}{σ:St}{H:Hp}{s:Rr}{A:Tu}{E:Rm->Rr->Prop}{Q:Rm->Rr->Prop}{c:Rm}{b:Bool}
inductive TyOf(K:Rw)(H:Hp):V->Rm->Prop where
 | non:TyOf K H .non (.type "NoneType")
 | bl (x:Bool):TyOf K H (.bl x) (.type "bool")
 | int (i:Int):TyOf K H (.int i) (.type "int")
 | str (x:Str):TyOf K H (.str x) (.type "str")
 | flt (x:UInt64):TyOf K H (.flt x) (.type "float")
 | lst {a:Addr} {xs:List V} (e:H a=Z_ (.lst xs)):TyOf K H (.ref a) (.type "list")
 | frz {a:Addr} {o:Obj} {xs:List V} (e:H a=Z_ (.frz o (.lst xs))):TyOf K H (.ref a) (.type "list")
 | tup {a:Addr} {xs:List V} (e:H a=Z_ (.tup xs)):TyOf K H (.ref a) (.type "tuple")
 | dK {a:Addr} {kvs:List (Key×V)} {ep:Nat} (e:H a=Z_ (.dK kvs ep)):TyOf K H (.ref a) (.type "dict")
 | dT {a:Addr} {kvs:List (List Key×V)} (e:H a=Z_ (.dT kvs)):TyOf K H (.ref a) (.type "dict")
 | ins {a C dx:Addr} {fs:List (Str×V)} (e:H a=Z_ (.ins C dx fs)) (cl:Cls K C) (ha:XJ K (.ref C) "__class__"=Z_ (Z_ (.builtin "object.__class__")))
  (hn:PySem.W.specialIn K (.builtin "object.__class__") "__get__"=Z_ (Z_ (.builtin "getset_descriptor.__get__"))) (htk:PySem.W.takesIn K (.builtin "object.__class__")=Z_ Y_)
  (hm:PySem.W.mroIn K C (.type "object")=Z_ Y_):TyOf K H (.ref a) (.ref C)
end
structure Room(k:Nat)(A:Tu):Prop where
 hd:A.handled=Yt
 dp:A.depth+3*k+5<recursionLimit
 un:A.units+16*k+200<Y8
theorem Room.deeper(r:Room (k+1) A)(env:Env):Room k (A.deeper env) :=
 ⟨r.hd,by have:=r.dp;show A.depth+1+3*k+5<_;omega,by have:=r.un;show A.units+3+16*k+200<_;omega⟩
theorem Room.depth(r:Room k A):A.depth<recursionLimit:=by have:=r.dp;omega
theorem Room.units(r:Room k A):A.units+64<Y8:=by have:=r.un;omega
def tNil:TA:=λ_ H Q=>Q [] H
def Np(ta:TE)(tr:TA):TA:=fun σ H Q=>ta σ H λx H1=>tr σ H1 λxs H2=>Q (x::xs) H2
section
variable{X:Cx}{e:Expr}{es:List Expr}{te:TE}{t:TA}{pos:Pos}
def cT:PA X [] tNil:=λ_ _ _ _ H Q I h=>Calls.spliced_nil ⟨[],H,I,.nil,h⟩
def bJ(ha:PE X e te)(hr:PA X es t)(hs:SJ (e::es) X.env=(Zd,Vl e X.env)::SJ es X.env:=by rfl):PA X (e::es) (Np te t):=by
 intro pos pins s σ H Q I h;rw[hs];show RG _ _ (spliced ((Zd,Vl e X.env)::Xg pos (SJ es X.env))) _ _ s;refine Calls.spliced_cons (thn (ha pins s σ H _ I h) λu s1 ⟨x,H1,I1,r1,q1⟩=>?_)
 exact thn (hr pos pins s1 σ H1 _ I1 q1) λus s2 ⟨xs,H2,I2,r2,q2⟩=>⟨x::xs,H2,I2,.cons r1 r2,q2⟩
def tTup(t:TA):TE:=fun σ H Q=>t σ H λxs H1=>xs.length<=sizeLine/\∀p,H1 p=Yt->Q (.ref p) (upd H1 p (.tup xs))
def tLst(t:TA):TE:=fun σ H Q=>t σ H λxs H1=>xs.length<=sizeLine/\∀p,H1 p=Yt->Q (.ref p) (upd H1 p (.lst xs))
def JZ(h:PA X es t):PE X (.Tuple es x1 pos) (tTup t):=by
 intro pins s σ H Q I hq;refine wpAny_Tuple_spliced (thn (h pos pins s σ H _ I hq) λus s1 ⟨xs,H1,I1,r,z,q⟩=>⟨by rw[<-r.length];exact z,?_⟩);have hf:H1 s1.heap.objs.size=Yt:=I1.hok.fresh (Rx _);refine⟨.ref s1.heap.objs.size,upd H1 s1.heap.objs.size (.tup xs),I1.laid (t':=s1.toks) (λb u e=>Rk _ e) (Rx _) ?_,rfl,q _ hf⟩;exact⟨z,us,r,⟨_,RD _ rfl,rfl,_,rfl⟩⟩
def N6(h:PA X es t):PE X (.List es pos) (tLst t):=by
 intro pins s σ H Q I hq;refine wpAny_List_spliced (thn (h pos pins s σ H _ I hq) λus s1 ⟨xs,H1,I1,r,z,q⟩=>⟨by rw[<-r.length];exact z,?_⟩);have hf:H1 s1.heap.objs.size=Yt:=I1.hok.fresh (Rx _);refine⟨.ref s1.heap.objs.size,upd H1 s1.heap.objs.size (.lst xs),I1.laid (t':=s1.toks) (λb u e=>Rk _ e) (Rx _) ?_,rfl,q _ hf⟩;exact⟨z,us,0,r,RD _ rfl⟩
end
abbrev Sp:=List V->Hp->VK->XK->Prop
abbrev CXT:=List Env->Hp->Rr->XK->Rm->Rr->Prop
structure Env0(P:Sx)(w:Th)(K:Rw)(mg:Str->Option Rm)(base:Rz)(A:Tu)(outer:List Env)(s:Rr)(H:Hp):Prop where
 frames:A.frames=Z_ outer
 mod:Mod K mg base
 bs:∀b o,base.get? b=Z_ o->s.heap.get? b=Z_ o/\H b=Yt
 bsz:base.objs.size<=s.heap.objs.size
 funs:s.heap.FunFrames base outer
 frf:∀b∈frs outer,H b=Yt
 hok:HOk P w H s.heap
 bare:YL s.gens
def CE(outer:List Env)(P:Sx)(w:Th)(H:Hp)(s:Rr)(Q:VK)(u:Rm)(s':Rr):Prop :=
 ∃v H',s'.os=s.os/\YL s'.gens/\Un (frs outer) [] H H' s.heap s'.heap/\HOk P w H' s'.heap/\RelV v u/\Q v H'
noncomputable def CR(CX:CXT)(outer:List Env)(P:Sx)(w:Th)(H:Hp)(s:Rr)(Q:VK)(E:XK)(r:a0e)(s':Rr):Prop :=
 match r with
 | .ok (.ret u)=>CE outer P w H s Q u s'
 | .ok _=>False
 | .error e=>CX outer H s E e s'
structure FnOk(P:Sx)(w:Th)(K:Rw)(mg:Str->Option Rm)(base:Rz)(CX:CXT)(k:Nat)(f:Addr)(fd:Wr)(ps:List Str)(sp:Sp):Prop where
 len:∀vs H Q E,sp vs H Q E->vs.length=ps.length
 run:∀(A:Tu)(outer:List Env)(s:Rr)(H:Hp)(args:Args)(us:List Rm)(vs:List V)(Q:VK)(E:XK),Room k A->Env0 P w K mg base A outer s H->Zr s fd args (ps.zip us)->Vals vs us->sp vs H Q E ->
  Yc (RQ P w) A (.call (.ref f) args) (CR CX outer P w H s Q E) s
section
variable{X:Cx}{pins:List (Addr×Obj)}{σ:St}{H:Hp}{s s':Rr}
def Inv.env0(I:Inv X pins σ H s):Env0 X.prog X.w X.K X.mg X.base X.A X.stack s H :=
 ⟨I.ok.frames,I.ok.mod,I.bs,RW I.ok.bsz I.sz,I.stack,I.stkFree,I.hok,I.bare⟩
def Inv.after(I:Inv X pins σ H s)(h:CE X.stack X.prog X.w H s Q u s'):EP X pins σ Q u s':=by
 obtain⟨v,H',os,bare,un,hok,r,q⟩:=h;obtain⟨hh,g,d,t,os'⟩:=s';obtain rfl:os'=s.os:=os;exact⟨v,H',I.call (h':=hh) (g':=g) (d':=d) (t':=t) (ch:=[]) un hok bare (λb z=>absurd z (by simp)),r,q⟩
end
def Pa(sp:Sp)(dvs:List V)(E:XK)(t:TA):TE:=fun σ H Q=>t σ H λvs H1=>sp (vs++dvs) H1 Q E
def Binds(K:Rw)(fd:Wr)(ps:List Str)(ds:List Rm):Prop :=
 ∀(s:Rr)(us:List Rm),K.In s.heap->(us++ds).length=ps.length->Zr s fd ⟨us,[]⟩ (ps.zip (us++ds))
def Binds.all{K:Rw}{fd:Wr}{ps:List Str}(h:∀us:List Rm,us.length=ps.length->XR fd ⟨us,[]⟩=pure (ps.zip us)):Binds K fd ps []:=λs us _ hl=>by
 rw[Ur]at hl ⊢;exact .of_eq (h us hl)
def tZ(CX:CXT)(X:Cx)(E:XK):Prop:=∀(pins:List (Addr×Obj)) (σ:St) (H:Hp) (s:Rr) (e:Rm) (s':Rr),Inv X pins σ H s->CX X.stack H s E e s'->X.xe e s'
section
variable{X:Cx}{CX:CXT}{k:Nat}{f C:Addr}{fd:Wr}{ps:List Str}{sp:Sp}{dvs:List V}{ds:List Rm}{E:XK}{x m:Str}{p pos apos:Pos}{e o:Expr}{es:List Expr}{ta:TE}{t:TA}
def M7(F:FnOk X.prog X.w X.K X.mg X.base CX k f fd ps sp)(hr:Room k X.A)(hb:Binds X.K fd ps ds)(hd:Vals dvs ds)(hx:tZ CX X E)
 (I:Inv X pins σ H s)(r:Vals vs us)(h:sp (vs++dvs) H Q E):RG (RQ X.prog X.w) X.A (call (.ref f) us) (EP X pins σ Q) X.xe s:=by
 have r2:Vals (vs++dvs) (us++ds):=r.append hd
 have hl:(us++ds).length=ps.length:=by rw[<-r2.length];exact F.len _ _ _ _ h
 refine wpAny_call (Yb (F.run X.A X.stack s H ⟨us,[]⟩ (us++ds) (vs++dvs) Q E hr I.env0 (hb s us I.kIn hl) r2 h) λr s' hq=>?_)
 cases r with
 | error e=>exact hx pins σ H s e s' I hq
 | ok fl=>
   cases fl with
   | ret u=>exact I.after hq
   | next=>exact SX hq
   | brk=>exact SX hq
   | cont=>exact SX hq
noncomputable def uT(F:FnOk X.prog X.w X.K X.mg X.base CX k f fd ps sp)(hr:Room k X.A)(hg:Gl X x)(hm:X.mg x=Z_ (.ref f))(hk:Uz X.K (.ref f)=Y_)(hb:Binds X.K fd ps ds)(hd:Vals dvs ds)(hx:tZ CX X E)
 (ha:PA X (e::es) t)(hdb:(x==("__debug__":Str))=Zd:=by decide)(he:SJ (e::es) X.env=(Zd,Vl e X.env)::SJ es X.env:=by rfl)(hpl:(Xg pos (SJ es X.env)).any (·.1)=Zd:=by rfl) :
 PE X (.Call (.Name x p) (e::es) [] pos) (Pa sp dvs E t):=by
 intro pins s σ H Q I h;refine Yi (jQ I hg hm ?_ hdb);refine PySem.W.callWith_K (h₀:=X.base) I.ok.mod.kin hk (thn (ha pos pins s σ H _ I h) λus s1 ⟨vs,H1,I1,r,q⟩=>⟨I1.kIn,?_⟩) he hpl;exact M7 F hr hb hd hx I1 r q
structure Mk(K:Rw)(C f:Addr):Prop where
 makes:PySem.W.makesIn K C=Y_
 init:XJ K (.ref C) "__init__"=Z_ (Z_ (.ref f))
 fn:PySem.W.isFn K (.ref f)=Y_
 kp:Uz K (.ref C)=Y_
end
section
variable{X:Cx}{CX:CXT}{k:Nat}{f C:Addr}{fd:Wr}{ps ks:List Str}{sp:Sp}{E:XK}{x m:Str}{p pos apos kpos:Pos}{e o:Expr}{es:List Expr}{kws:List YJ}{te ta:TE}{t tk:TA}{nm:Option Str}
structure KBinds(K:Rw)(fd:Wr)(ps ks:List Str)(g:List Rm->List Rm->List Rm)(gV:List V->List V->List V):Prop where
 to:∀(s:Rr)(us ws:List Rm),K.In s.heap->(g us ws).length=ps.length->Zr s fd ⟨us,ks.zip ws⟩ (ps.zip (g us ws))
 rel:∀{vs:List V}{us:List Rm}{zs:List V}{ws:List Rm},Vals vs us->Vals zs ws->Vals (gV vs zs) (g us ws)
variable{g:List Rm->List Rm->List Rm}{gV:List V->List V->List V}
end
structure FnScope(N P:List Str)(sc:Scope):Prop where
 kind:sc.kind=.function
 co:sc.isCoroutine=Zd
 gen:sc.isGenerator=Zd
 nd:N.Nodup
 pre:N.take P.length=P
 par:∀x∈P,sc.names.lookup x=Z_ .local\/sc.names.lookup x=Z_ .cell
 nofree:∀y∈sc.names,y.2≠.free
theorem mU{kindOf:Str->Option UL}{x:Str}:∀{binds:List (Str×Rm)}{m:Str->Option Rm},(∀v,(x,v)∉binds)->ZQ kindOf binds m x=m x
 | [],_,_=>rfl
 | (n,v)::r,m,h=>by
   unfold ZQ;rw[mU λw hw=>h w (Rt _ hw)];split
   .have:x≠n:=by rintro rfl;exact h v Ru
    simp[this]
   .rfl
theorem mO{kindOf:Str->Option UL}{x:Str}:∀{binds:List (Str×Rm)}{m:Str->Option Rm},(∀v,(x,v)∉binds)->ZR kindOf binds m x=m x
 | [],_,_=>rfl
 | (n,v)::r,m,h=>by
   unfold ZR;rw[mO λw hw=>h w (Rt _ hw)];split
   .rfl
   .have:x≠n:=by rintro rfl;exact h v Ru
    simp[this]
theorem mW{kindOf:Str->Option UL}{x:Str}{v:Rm}:∀{P:List Str}{vs:List Rm}{i:Nat}{m:Str->Option Rm},P.Nodup->P[i]?=Z_ x->vs[i]?=Z_ v->kindOf x=Z_ .local ->
 ZQ kindOf (P.zip vs) m x=Z_ v
 | [],_,_,_,_,h,_,_=>by simp at h
 | _::_,[],_,_,_,_,h,_=>by simp at h
 | p::P,w::vs,0,m,nd,h1,h2,hk=>by
   simp at h1 h2;subst h1;subst h2;show ZQ kindOf ((p,w)::P.zip vs) m p=_;unfold ZQ;rw[mU λv hv=>(Tg.mp nd).1 (List.of_mem_zip hv).1,if_pos hk];simp
 | p::P,w::vs,i+1,m,nd,h1,h2,hk=>by
   show ZQ kindOf ((p,w)::P.zip vs) m x=_;unfold ZQ;exact mW (i:=i) (Tg.mp nd).2 (by simpa using h1) (by simpa using h2) hk
theorem lX{kindOf:Str->Option UL}{x:Str}{v:Rm}:∀{P:List Str}{vs:List Rm}{i:Nat}{m:Str->Option Rm},P.Nodup->P[i]?=Z_ x->vs[i]?=Z_ v->kindOf x≠some .local ->
 ZR kindOf (P.zip vs) m x=Z_ v
 | [],_,_,_,_,h,_,_=>by simp at h
 | _::_,[],_,_,_,_,h,_=>by simp at h
 | p::P,w::vs,0,m,nd,h1,h2,hk=>by
   simp at h1 h2;subst h1;subst h2;show ZR kindOf ((p,w)::P.zip vs) m p=_;unfold ZR;rw[mO λv hv=>(Tg.mp nd).1 (List.of_mem_zip hv).1,if_neg hk];simp
 | p::P,w::vs,i+1,m,nd,h1,h2,hk=>by
   show ZR kindOf ((p,w)::P.zip vs) m x=_;unfold ZR;exact lX (i:=i) (Tg.mp nd).2 (by simpa using h1) (by simpa using h2) hk
noncomputable def start(N:List Str)(vs:List V):St:=vs.map some++Uc (N.length-vs.length) none
noncomputable def cxOf(CX:CXT)(P:Sx)(w:Th)(K:Rw)(mg:Str->Option Rm)(base:Rz)(N:List Str)(qual:Str)(scope:Scope)(f:Addr)(cd:Rm)(A:Tu)(outer:List Env)(s:Rr)(H:Hp)(E:XK):Cx where
 prog:=P
 w:=w
 K:=K
 mg:=mg
 base:=base
 A:=A.deeper (YG qual scope s.heap.objs.size f cd)
 N:=N
 s₀:=s
 H₀:=H
 env:=YG qual scope s.heap.objs.size f cd
 outer:=outer
 stack:=YG qual scope s.heap.objs.size f cd::outer
 ex:=[]
 calm:=Y_
 fn:=λ_=>true
 pn:=[]
 xe:=λe s'=>RG (RQ P w) (A.deeper (YG qual scope s.heap.objs.size f cd)) (leaving (YG qual scope s.heap.objs.size f cd) e) (λ_ s''=>CX outer H s E e s'') (λe' s''=>CX outer H s E e' s'') s'
def qW{sc:Scope}{n:Nat}{x:Str}(h:sc.names.lookup x=Z_ .cell):∃c,(cellsFrom n sc.names []).lookup x=Z_ c:=by
 have q:=PySem.W.cellsFrom_some sc.names n [] (.inl h);exact Option.isSome_iff_exists.mp q
theorem v9{CX:CXT}{P:Sx}{w:Th}{K:Rw}{mg:Str->Option Rm}{base:Rz}{N ps:List Str}{qual:Str}{scope:Scope}{f:Addr}{cd:Rm}{A:Tu}{outer:List Env}{s s1:Rr}{H:Hp}{E:XK}{us:List Rm}{vs:List V}
 (S:FnScope N ps scope)(hd:A.handled=Yt)(e0:Env0 P w K mg base A outer s H)(hl:vs.length=ps.length)(r:Vals vs us)
 (x:InCallC s s.heap.objs.size (ZQ (YG qual scope s.heap.objs.size f cd).kindOf (ps.zip us) λ_=>none) (cellsFrom (s.heap.objs.size+1) scope.names []) (ZR (YG qual scope s.heap.objs.size f cd).kindOf (ps.zip us) λ_=>none) s1) :
 Inv (cxOf CX P w K mg base N qual scope f cd A outer s H E) [] (start N vs) H s1:=by
 have hpl:ps.length<=N.length:=by have:=congrArg VM S.pre;rw[Vp]at this;omega
 obtain⟨h1,tk,rfl,hk⟩:=x.done
 have noA:∀b:Addr,b∉(cxOf CX P w K mg base N qual scope f cd A outer s H E).ex:=λb z=>absurd (show b∈([]:List Addr)from z) (by simp)
 refine⟨⟨e0.mod,S.kind,rfl,rfl,Rx _,λy z c h1 h2=>?_,λy hy=>?_,λy c _ h=>?_,λ_=>hd,Tu.frames_deeper e0.frames,.inr ⟨rfl,rfl⟩,λb z=>absurd z (noA b),e0.bs,e0.bsz,λb _ _=>noA b,λb z=>absurd z (noA b),e0.funs,e0.frf⟩,
  rfl,e0.bare,Un.kept hk,⟨_,x.toInCall.ns,λi y v h1 h2 h3=>?_⟩,λy c h=>⟨_,x.cell y c h⟩,e0.hok.fresh (Rx _),λy c h=>?_,λp hp=>absurd (show p∈([]:List (Addr×Obj))from hp) (by simp),e0.hok.kept hk,?_⟩
 .exact name_of_addr x.apart (Vc h1) (Vc h2)
 .have hy:scope.names.lookup y=Z_ .cell\/scope.names.lookup y=Z_ .free:=hy
  rcases hy with hy | hy
  .exact qW hy
  .exact absurd rfl (S.nofree _ (Vc hy))
 .exact XS (x.above y c (Vc h))
 .have hi:i<vs.length:=by
   unfold start at h2
   by_cases hi:i<vs.length
   .exact hi
   .rw[Uq (by simpa using hi)]at h2
    rw[X7]at h2;split at h2<;>cases h2
  have ha:vs[i]?=Z_ v:=by
   unfold start at h2;rw[Vi (by simpa using hi),T8]at h2
   cases e:vs[i]? with
   | none=>rw[e]at h2;cases h2
   | some a=>rw[e]at h2;cases h2;rfl
  obtain⟨u,hu,rv⟩:=r.get ha
  have hp:ps[i]?=Z_ y:=by
   rw[<-S.pre,List.getElem?_take_of_lt (by omega)];exact h1
  have ndP:ps.Nodup:=by rw[<-S.pre];exact S.nd.sublist (List.take_sublist _ _)
  refine⟨u,rv,?_⟩;rcases S.par y (S5 hp)with k | k
  .exact .inl ⟨k,mW ndP hp hu k⟩
  .obtain⟨c,e⟩:=qW (n:=s.heap.objs.size+1) k
   refine .inr ⟨.inl k,c,e,?_⟩;have q:=x.cell y c e;rw[lX ndP hp hu (by show scope.names.lookup y≠_;rw[k];decide)]at q;exact q
 .exact e0.hok.fresh (XS (x.above y c (Vc h)))
 .unfold start
  show _=N.length;rw[RJ,Rq,VD];omega
def PP{CX:CXT}{P:Sx}{w:Th}{K:Rw}{mg:Str->Option Rm}{base:Rz}{k:Nat}{f:Addr}{name qual:Str}{params:Arguments}{body:List Stmt}{scope:Scope}{dV kV doc pm cdv ct oc:Rm}{an od:Option Addr}
 {osl:Array (Option Rm)}{N ps:List Str}{sp:Sp}(lk:K.lookup f=Z_ ⟨oc,od,.func (Ui name qual params body scope dV kV doc pm an cdv ct),osl⟩)(hcd:Yv K cdv qual=Y_)(S:FnScope N ps scope)
 (len:∀vs H Q E,sp vs H Q E->vs.length=ps.length)
 (hbody:∀(A:Tu)(outer:List Env)(s:Rr)(H:Hp)(vs:List V)(Q:VK)(E:XK),Room k (A.deeper (YG qual scope s.heap.objs.size f cdv))->sp vs H Q E ->
  ∃t,PSs (cxOf CX P w K mg base N qual scope f cdv A outer s H E) body t/\t { nx:=λ_ H'=>Q .non H',rt:=Q } (start N vs) H) :
 FnOk P w K mg base CX (k+1) f (Ui name qual params body scope dV kV doc pm an cdv ct) ps sp:=by
 refine⟨len,λA outer s H args us vs Q E hr e0 hb r hsp=>?_⟩;have hl:=len _ _ _ _ hsp
 have KX:K.In s.heap:=e0.mod.kin.keeps λb o e=>(e0.bs b o e).1
 have lim:s.heap.NoLimit:=e0.mod.nolimit.keeps λb o e=>(e0.bs b o e).1
 have hkind:∀y∈ps.zip us,scope.names.lookup y.1=Z_ .local\/(scope.names.lookup y.1=Z_ .cell/\((cellsFrom (s.heap.objs.size+1) scope.names []).lookup y.1).isSome=Y_):=λ⟨n,v⟩ hy=>by
  rcases S.par n (List.of_mem_zip hy).1 with q | q
  .exact .inl q
  .exact .inr ⟨q,PySem.W.cellsFrom_some _ _ _ (.inl q)⟩
 refine codeAny_call_function hr.depth (KX _ _ lk) rfl S.co S.gen rfl (PySem.W.codeRec_of KX hcd) (hb _ _ _ _ ?_)
 refine wpAny_newFunctionEnv_cells S.kind hkind λenv he s1 x=>?_
 subst he;refine⟨lim.keeps x.toInCall.keep,codeAny_func ?_⟩;obtain⟨t,ht,hq⟩:=hbody A outer s H vs Q E (hr.deeper _) hsp;have I:Inv (cxOf CX P w K mg base N qual scope f cdv A outer s H E) [] (start N vs) H s1:=v9 S hr.hd e0 hl r x
 refine V6 (ht [] s1 (start N vs) H _ I hq) (λfl s' hs=>?_) λe s' hs=>hs
 have fin:∀{σ':St} {H':Hp} {v:V} {u:Rm},Inv (cxOf CX P w K mg base N qual scope f cdv A outer s H E) [] σ' H' s'->RelV v u->Q v H'->CE outer P w H s Q u s' :=
  λ{σ' H' v u} J rv q=>⟨v,H',J.os,J.bare,J.base,J.hok,rv,q⟩
 cases fl with
 | ret u=>
   obtain⟨v,σ',H',J,rv,q⟩:=hs;exact fin J rv q
 | next=>
   obtain⟨σ',H',J,q⟩:=hs;exact fin (v:=V.non) (u:=Wq) J rfl q
 | brk=>
   obtain⟨_,_,_,q⟩:=hs;exact SX q
 | cont=>
   obtain⟨_,_,_,q⟩:=hs;exact SX q
section
variable{X:Cx}{x:Str}{p pos:Pos}{e:Expr}{es:List Expr}{t:TA}{id T:String}{r:List V->Hp->VK->Prop}
def tCB(r:List V->Hp->VK->Prop)(t:TA):TE:=fun σ H Q=>t σ H λvs H1=>r vs H1 Q
noncomputable def gH(hc:CallR X (.builtin id) r)(hg:Gl X x)(hm:X.mg x=Yt)(hv:Vu x=Z_ (.builtin id))(ha:PA X (e::es) t)(hn:x≠"__name__":=by decide)(hdb:(x==("__debug__":Str))=Zd:=by decide)
 (he:SJ (e::es) X.env=(Zd,Vl e X.env)::SJ es X.env:=by rfl)(hpl:(Xg pos (SJ es X.env)).any (·.1)=Zd:=by rfl):PE X (.Call (.Name x p) (e::es) [] pos) (tCB r t):=by
 intro pins s σ H Q I h;refine Yi (jc I hg hm hv ?_ hn hdb);exact PyProof.Rows.callWith_builtin1 (thn (ha pos pins s σ H _ I h) λus s1 ⟨vs,H1,I1,r1,q1⟩=>hc pins s1 σ H1 vs us Q I1 r1 q1) he hpl
noncomputable def lM(hc:CallR X (.type T) r)(hg:Gl X x)(hm:X.mg x=Yt)(hv:Vu x=Z_ (.type T))(ha:PA X (e::es) t)(hn:x≠"__name__":=by decide)(hdb:(x==("__debug__":Str))=Zd:=by decide)
 (he:SJ (e::es) X.env=(Zd,Vl e X.env)::SJ es X.env:=by rfl)(hpl:(Xg pos (SJ es X.env)).any (·.1)=Zd:=by rfl):PE X (.Call (.Name x p) (e::es) [] pos) (tCB r t):=by
 intro pins s σ H Q I h;refine Yi (jc I hg hm hv ?_ hn hdb);exact W7 (thn (ha pos pins s σ H _ I h) λus s1 ⟨vs,H1,I1,r1,q1⟩=>hc pins s1 σ H1 vs us Q I1 r1 q1) he hpl
end
section
variable{κ:Type} [DecidableEq κ]
noncomputable def valV(kvs:List (κ×V))(k:κ):Option V:=(kvs.find? λkv=>decide (kv.1=k)).map (·.2)
noncomputable def putK(kvs:List (κ×V))(k:κ)(v:V):List (κ×V) :=
 if(kvs.any λkv=>decide (kv.1=k))=Y_ then kvs.map (λkv=>if kv.1=k then(kv.1,v)else kv)else kvs++[(k,v)]
def lF{p:κ×V}{r:List (κ×V)}{k:κ}(e:p.1=k):valV (p::r) k=Z_ p.2:=by simp[valV,VH,e]
def lq{p:κ×V}{r:List (κ×V)}{k:κ}(e:¬p.1=k):valV (p::r) k=valV r k:=by simp[valV,VH,e]
theorem qH(k:κ):∀kvs:List (κ×V),(kvs.any λkv=>decide (kv.1=k))=(valV kvs k).isSome
 | []=>rfl
 | p::r=>by
   rw[Ue]
   by_cases e:p.1=k
   .simp only[lF e,decide_eq_true e,Z8,Option.isSome_some]
   .rw[lq e,decide_eq_false e,YZ];exact qH k r
theorem j7(kvs:List (κ×V))(k:κ)(v:V):(putK kvs k v).length<=kvs.length+1:=by
 unfold putK;split
 .rw[Rq];omega
 .rw[RJ,RK,V0];omega
def RelO.isSome_eq(r:RelO o u):o.isSome=u.isSome:=by
 cases o with
 | none=>cases u with
   | none=>rfl
   | some _=>exact(show False from r).elim
 | some _=>cases u with
   | none=>exact(show False from r).elim
   | some _=>rfl
def RelO.getD(r:RelO o u)(rd:RelV d d'):RelV (o.getD d) (u.getD d'):=by
 cases o with
 | none=>cases u with
   | none=>exact rd
   | some _=>exact(show False from r).elim
 | some _=>cases u with
   | none=>exact(show False from r).elim
   | some _=>exact r
def KV.val(r:KV kvs vs)(k:κ):RelO (valV kvs k) (Xv vs k):=by
 unfold KV at r
 induction r with
 | nil=>exact Xq
 | @cons p q ps qs h t ih=>
   obtain⟨h1,h2⟩:=h
   by_cases e:p.1=k
   .have e':q.1=k:=h1.symm.trans e
    have b:Xv (q::qs) k=Z_ q.2:=by simp[Xv,VH,e']
    rw[lF e,b];exact h2
   .have e':¬q.1=k:=λz=>e (h1.trans z)
    have b:Xv (q::qs) k=Xv qs k:=by simp[Xv,VH,e']
    rw[lq e,b];exact ih
def KV.any(r:KV kvs vs)(k:κ):(kvs.any λkv=>decide (kv.1=k))=vs.any λkv=>decide (kv.1=k):=by
 unfold KV at r
 induction r with
 | nil=>rfl
 | cons h t ih=>rw[Ue,Ue,ih,h.1]
def KV.repl(r:KV kvs vs)(k:κ)(ry:RelV y u) :
 KV (kvs.map λkv=>if kv.1=k then(kv.1,y)else kv) (vs.map λkv=>if kv.1=k then(kv.1,u)else kv):=by
 unfold KV at r ⊢
 induction r with
 | nil=>exact .nil
 | @cons p q ps qs h t ih=>
   rw[Ro,Ro];refine .cons ?_ ih;obtain⟨h1,h2⟩:=h
   by_cases e:p.1=k
   .rw[if_pos e,if_pos (h1.symm.trans e)];exact⟨h1,ry⟩
   .rw[if_neg e,if_neg (λz=>e (h1.trans z))];exact⟨h1,h2⟩
def KV.put(r:KV kvs vs)(k:κ)(ry:RelV y u):KV (putK kvs k y) (stored vs k u):=by
 unfold putK stored;rw[r.any k]
 by_cases e:(vs.any λkv=>decide (kv.1=k))=Y_
 .rw[if_pos e,if_pos e];exact r.repl k ry
 .rw[if_neg e,if_neg e];exact XC.snoc r ⟨rfl,ry⟩
def KV.keys{kvs:List (κ×V)}{vs:List (κ×Rm)}(r:KV kvs vs):kvs.map (·.1)=vs.map (·.1):=by
 unfold KV at r
 induction r with
 | nil=>rfl
 | cons h t ih=>rw[Ro,Ro,ih,h.1]
def KV.length(r:KV kvs vs):kvs.length=vs.length:=YH r
end
def jZ(r:RelV (kV k) u):(aV P w).is k u=Y_:=by
 cases k with
 | inl i=>obtain⟨t,e⟩:=(show ∃t,u=Z9 i t from r);subst e;exact pJ P w i t
 | inr x=>obtain⟨t,e⟩:=(show ∃t,u=ZC x t from r);subst e;exact oJ P w x t
theorem mH:∀{ks:List Key}{us:List Rm},Vals (ks.map kV) us->ItemsAre (aV P w) ks us
 | [],_,r=>by rw[Ti]at r;cases r;exact .nil
 | k::ks,_,r=>by
   rw[Ro]at r
   cases r with
   | cons h t=>exact .cons (jZ h) (mH t)
abbrev KT(H:Hp):List (List Key×V)->List (List Key×Addr×Rm)->Prop:=XC λp q=>p.1=q.1/\H q.2.1=Z_ (.tup (p.1.map kV))/\RelV p.2 q.2.2
def KT.val(r:KT H kvs xs)(k:List Key):RelO (valV kvs k) ((ZK xs k).map (·.2)):=by
 induction r with
 | nil=>exact Xq
 | @cons p q ps qs h t ih=>
   obtain⟨h1,_,h2⟩:=h
   by_cases e:p.1=k
   .have e':q.1=k:=h1.symm.trans e
    have b:ZK (q::qs) k=Z_ q.2:=by simp[ZK,VH,e']
    rw[lF e,b];exact h2
   .have e':¬q.1=k:=λz=>e (h1.trans z)
    have b:ZK (q::qs) k=ZK qs k:=by simp[ZK,VH,e']
    rw[lq e,b];exact ih
def KT.repl(r:KT H kvs xs)(k:List Key)(ry:RelV y u) :
 KT H (kvs.map λkv=>if kv.1=k then(kv.1,y)else kv) (xs.map (putAt k u)):=by
 induction r with
 | nil=>exact .nil
 | @cons p q ps qs h t ih=>
   rw[Ro,Ro];refine .cons ?_ ih;obtain⟨h1,h2,h3⟩:=h;unfold putAt
   by_cases e:p.1=k
   .rw[if_pos e,if_pos (h1.symm.trans e)];exact⟨h1,h2,ry⟩
   .rw[if_neg e,if_neg (λz=>e (h1.trans z))];exact⟨h1,h2,h3⟩
def KT.put(r:KT H kvs xs)(k:List Key)(hb:H b=Z_ (.tup (k.map kV)))(ry:RelV y u) :
 KT H (putK kvs k y) (storedH xs k b u):=by
 have e:(kvs.any λkv=>decide (kv.1=k))=(ZK xs k).isSome:=by
  rw[qH,(r.val k).isSome_eq,Option.isSome_map]
 unfold putK storedH;rw[e]
 by_cases q:(ZK xs k).isSome=Y_
 .rw[if_pos q,if_pos q];exact r.repl k ry
 .rw[if_neg q,if_neg q];exact XC.snoc r ⟨rfl,hb,ry⟩
def KT.keeps(r:KT H kvs xs)(ht:∀b ys,H b=Z_ (.tup ys)->H' b=Z_ (.tup ys)):KT H' kvs xs :=
 Paired.mapP r λ_ _ z=>⟨z.1,ht _ _ z.2.1,z.2.2⟩
section
variable{P:Sx}{w:Th}{H:Hp}{h:Rz}{a:Addr}
def KC(ok:HOk P w H h)(e:Rd H a u):ObjOk P w H h a u:=e.ok ok
abbrev RdK(H:Hp)(a:Addr)(kvs:List (Key×V)):Prop:=∃ep,Rd H a (.dK kvs ep)
def jT(ok:HOk P w H h)(e:RdK H a kvs):kvs.length<=sizeLine/\(a==Vx)=Zd/\∃vs,KV kvs vs/\h.DictOf (aV P w) a vs:=by
 obtain⟨ep,e⟩:=e
 obtain⟨h1,h2,vs,h3,h4⟩:=(show ObjOk P w H h a (.dK kvs ep)from KC ok e)
 exact⟨h1,h2,vs,h3,h4.dictOf⟩
def QK(ok:HOk P w H h)(e:H a=Z_ (.dK kvs ep)):kvs.length<=sizeLine/\(a==Vx)=Zd/\∃vs,KV kvs vs/\h.DictOf (aV P w) a vs:=jT ok ⟨ep,.inl e⟩
def jF(ok:HOk P w H h)(e:H a=Z_ (.tup (ks.map kV))):(Z3 (aV P w)).is h ks a:=by
 obtain⟨_,its,r,o,h1,h2,n,h3⟩:=(show ObjOk P w H h a (.tup (ks.map kV))from ok a _ e)
 exact⟨o,its.toArray,n,h1,h2,h3,by simpa using mH r⟩
def pq(ok:HOk P w H h)(e:Rd H a (.dT kvs)):kvs.length<=sizeLine/\(a==Vx)=Zd /\
 ∃xs,KT H kvs xs/\h.DictOfH (Z3 (aV P w)) a xs:=by
 obtain⟨z,y,xs,r,o,es,ep,h1,h2,h3,h4,h5⟩:=(show ObjOk P w H h a (.dT kvs)from KC ok e)
 refine⟨z,y,xs,r,o,es,ep,h1,h2,h3,h4,λx hx=>?_,h5⟩
 have all:∀{l:List (List Key×V)}{m:List (List Key×Addr×Rm)},KT H l m->∀x∈m,(Z3 (aV P w)).is h x.1 x.2.1:=by
  intro l m q
  induction q with
  | nil=>intro x hx;exact nomatch hx
  | @cons p q ps qs hq t ih=>
    intro x hx;rcases Rp.mp hx with e | hx
    .subst e
     exact jF ok (by rw[<-hq.1];exact hq.2.1)
    .exact ih x hx
 exact all r x hx
def R6(ok:HOk P w H h)(e:H a=Z_ (.dT kvs)):kvs.length<=sizeLine/\(a==Vx)=Zd /\
 ∃xs,KT H kvs xs/\h.DictOfH (Z3 (aV P w)) a xs:=pq ok (.inl e)
end
def DGet(H:Hp)(a:Addr)(y:V)(r:Option V):Prop :=
 (∃kvs k,RdK H a kvs/\y=kV k/\r=valV kvs k)\/∃kvs k b,Rd H a (.dT kvs)/\y=.ref b/\H b=Z_ (.tup (k.map kV))/\r=valV kvs k
def DPut(H:Hp)(a:Addr)(y v:V)(H':Hp):Prop :=
 (∃kvs k ep ep',H a=Z_ (.dK kvs ep)/\y=kV k/\kvs.length<sizeLine/\H'=upd H a (.dK (putK kvs k v) ep')) \/
 ∃kvs k b,H a=Z_ (.dT kvs)/\y=.ref b/\H b=Z_ (.tup (k.map kV))/\kvs.length<sizeLine/\H'=upd H a (.dT (putK kvs k v))
def DGet.k{H:Hp}{a:Addr}{kvs:List (Key×V)}{k:Key}{ep:Nat}(e:H a=Z_ (.dK kvs ep)):DGet H a (kV k) (valV kvs k):=.inl ⟨kvs,k,⟨ep,.inl e⟩,rfl,rfl⟩
def DPut.k{H:Hp}{a:Addr}{kvs:List (Key×V)}{k:Key}{v:V}{ep ep':Nat}(e:H a=Z_ (.dK kvs ep))(hl:kvs.length<sizeLine):DPut H a (kV k) v (upd H a (.dK (putK kvs k v) ep')):=.inl ⟨kvs,k,ep,ep',e,rfl,hl,rfl⟩
section
variable{X:Cx}{pins:List (Addr×Obj)}{σ:St}{H:Hp}{s:Rr}{a:Addr}{y v:V}{u r:Rm}{o:Option V}{A:Tu}{E:Rm->Rr->Prop}
def Inv.big(I:Inv X pins σ H s):Vx<s.heap.objs.size:=by
 have h:Vb<s.heap.objs.size:=(I.mod.glob.keeps I.bk).lt;exact VR (by decide) h
def yM(hu:A.units+1<Y8)(I:Inv X pins σ H s)(g:DGet H a y (Z_ v))(ry:RelV y u)(h:∀w' s',Inv X pins σ H s'->RelV v w'->Q w' s') :
 RG (RQ X.prog X.w) A (Z5 (.ref a) u) Q E s:=by
 rcases g with⟨kvs,k,e,ey,l⟩ | ⟨kvs,k,b,e,ey,eb,l⟩
 .subst ey
  obtain⟨z,hd,vs,rel,dd⟩:=jT I.hok e;obtain⟨w',hw,rw'⟩:=RelO.some_of (v:=v) (o:=Xv vs k) (by rw[l];exact rel.val k);exact wpAny_getItem_of (jZ ry) dd.mapOf hw (h w' _ (I.tok _) rw')
 .subst ey
  cases (show u=Us b from ry);obtain⟨z,hd,xs,rel,dd⟩:=pq I.hok e;obtain⟨w',hw,rw'⟩:=RelO.some_of (v:=v) (o:=(ZK xs k).map (·.2)) (by rw[l];exact rel.val k);obtain⟨p,hp,hp2⟩:=U8.mp hw;refine wpAny_getItem_heap (Xf hu) (jF I.hok eb) dd hp ?_;rw[hp2];exact h w' _ (I.tok _) rw'
def d_in(hu:A.units+1<Y8)(I:Inv X pins σ H s)(g:DGet H a y o)(ry:RelV y u)(h:∀s',Inv X pins σ H s'->Q (.bool o.isSome) s') :
 RG (RQ X.prog X.w) A (Vj .In u (.ref a)) Q E s:=by
 rcases g with⟨kvs,k,e,ey,l⟩ | ⟨kvs,k,b,e,ey,eb,l⟩
 .subst ey
  obtain⟨z,hd,vs,rel,dd⟩:=jT I.hok e;refine wpAny_in_of (jZ ry) hd dd.mapOf ?_;rw[<-(rel.val k).isSome_eq,<-l];exact h _ (I.tok _)
 .subst ey
  cases (show u=Us b from ry);obtain⟨z,hd,xs,rel,dd⟩:=pq I.hok e;refine wpAny_in_heap (Xf hu) (jF I.hok eb) hd dd ?_;have q:=(rel.val k).isSome_eq;rw[Option.isSome_map]at q;rw[<-q,<-l];exact h _ (I.tok _)
def Iz(hu:A.units+1<Y8)(I:Inv X pins σ H s)(g:DGet H a y o)(ry:RelV y u)(h:∀s',Inv X pins σ H s'->Q (.bool (!o.isSome)) s') :
 RG (RQ X.prog X.w) A (Vj .NotIn u (.ref a)) Q E s:=by
 rcases g with⟨kvs,k,e,ey,l⟩ | ⟨kvs,k,b,e,ey,eb,l⟩
 .subst ey
  obtain⟨z,hd,vs,rel,dd⟩:=jT I.hok e;refine wpAny_notIn_of (jZ ry) hd dd.mapOf ?_;rw[<-(rel.val k).isSome_eq,<-l];exact h _ (I.tok _)
 .subst ey
  cases (show u=Us b from ry);obtain⟨z,hd,xs,rel,dd⟩:=pq I.hok e;refine wpAny_notIn_heap (Xf hu) (jF I.hok eb) hd dd ?_;have q:=(rel.val k).isSome_eq;rw[Option.isSome_map]at q;rw[<-q,<-l];exact h _ (I.tok _)
def wG(I:Inv X pins σ H s)(mu:Mut (H a))(hs:Ub a s.heap h')(he:∃q,h'.get? a=Z_ q)(new:ObjOk X.prog X.w (upd H a ob) h' a ob) :
 Inv X pins σ (upd H a ob) { s with heap:=h',toks:=t' } :=
 I.write (x:=a) (e:=a) mu (.inl rfl) (λb q hb z=>(hs.2 b hb).trans z) he new
def Oq(z:kvs.length<=sizeLine)(hd:(a==Vx)=Zd)(rel:KV kvs vs)(dd:h'.DictAt (aV P w) a vs ep) :
 ObjOk P w H' h' a (.dK kvs ep):=⟨z,hd,vs,rel,dd⟩
theorem yC(hu:A.units+1<Y8)(I:Inv X pins σ H s)(g:∃H',DPut H a y v H')(ry:RelV y u)(rv:RelV v r)(h:∀H' s',DPut H a y v H'->Inv X pins σ H' s'->Q () s') :
 RG (RQ X.prog X.w) A (ZV (.ref a) u r) Q E s:=by
 obtain⟨H',g⟩:=g;have gg:=g;rcases g with⟨kvs,k,ep,ep',e,ey,l,eH⟩ | ⟨kvs,k,b,e,ey,eb,l,eH⟩
 .subst ey eH
  obtain⟨z,hd,vs,rel,dd⟩:=QK I.hok e
  have hz:vs.length<=sizeLine:=by rw[<-rel.length];exact z
  have hl:(putK kvs k v).length<=sizeLine:=by have:=j7 kvs k v;omega
  refine wpAny_setItem_pairs (hsz:=hz) (jZ ry) dd λh' dd' hs=>?_
  have he:∃q,h'.get? a=Z_ q:=let⟨q,_,_,hq,_⟩:=dd';⟨q,hq⟩
  obtain⟨ep2,dd'⟩:=dd'.dictAt;exact h _ _ (.inl ⟨kvs,k,ep,ep2,e,rfl,l,rfl⟩) (wG I (by rw[e];exact Xq) hs he (Oq hl hd (rel.put k rv) dd'))
 .subst ey eH
  cases (show u=Us b from ry);obtain⟨z,hd,xs,rel,dd⟩:=R6 I.hok e
  have hz:xs.length<=sizeLine:=by rw[<-YH rel];exact z
  have hl:(putK kvs k v).length<=sizeLine:=by have:=j7 kvs k v;omega
  refine wpAny_setItem_heap (hsz:=hz) (Xf hu) (jF I.hok eb) dd λh' dd' hs=>h _ _ gg ?_
  obtain⟨q,es,ep,hq,h2,h3,h4,_,h5⟩:=dd';refine wG I (by rw[e];exact Xq) hs ⟨q,hq⟩ ⟨hl,hd,_,(rel.put k eb rv).keeps λc ys ec=>?_,q,es,ep,hq,h2,h3,h4,h5⟩;rw[aP (PQ ec e (λz=>nomatch z))];exact ec
end
section
variable{X:Cx}{pins:List (Addr×Obj)}{σ:St}{H:Hp}{s:Rr}{a:Addr}{kvs:List (Key×V)}{k:Key}{u:Rm}{A:Tu}{E:Rm->Rr->Prop}
theorem QD(I:Inv X pins σ H s)(e:RdK H a kvs)(h:∀t s',Inv X pins σ H s'->Q (.int kvs.length t) s'):RG (RQ X.prog X.w) A (call (.builtin "len") [.ref a]) Q E s:=by
 obtain⟨z,hd,vs,rel,dd⟩:=jT I.hok e;refine call_len_dict hd dd (by rw[<-rel.length];rw[Ut]at z;omega) ?_;rw[<-rel.length];exact h _ _ (I.tok _)
end
def NoSl(i:Expr):Prop:=∀ov iv,Zx i Zd ov iv=operate [ov,iv] (Z5 ov iv)
def uy{prog:Sx}{w:Th}{A:Tu}{E:Rm->Rr->Prop}{s:Rr}{env:Env}{value slice:Expr}{pos:Pos}{T id:String}{Q:Rm->Rr->Prop}
 (hl:typeLookup (.type T) "__getitem__"=pure (Z_ (.builtin id)))(hs:NoSl slice)
 (h:RG (RQ prog w) A (Vl value env) (λo s₁=>RG (RQ prog w) A (Vl slice env) (λi s₂=>s₂.TypeIs o T/\RG (RQ prog w) A (Z5 o i) Q E s₂) E s₁) E s) :
 RG (RQ prog w) A (Vl (.Subscript value slice pos) env) Q E s:=by
 refine Subscript_ (V6 h (λo s₁ h₁=>V6 h₁ (λi s₂ h₂=>?_) λ_ _ x=>x) λ_ _ x=>x);obtain⟨hT,h₂⟩:=h₂;unfold subscriptTail;refine Rj ?_;rw[getitemInPython_of_ne hT.not_modules];refine Rj (wpAny_specialOf hT hl ?_)
 have fin:RG (RQ prog w) A (Zx slice Zd o i) (λr s₃=>RG (RQ prog w) A (letTemporaryGo value o r >>= λ_=>pure r) Q E s₃) E s₂:=by
  rw[hs o i];exact wpAny_operating (V6 h₂ (λr s₃ h₃=>Rj (wpAny_letTemporaryGo (Rn h₃))) λ_ _ x=>x)
 first
  | exact Rn (Rj fin)
  | exact Rj (Rn (Rj fin))
  | exact Rj fin
def pA(I:Inv X pins σ H s)(g:DGet H a y o):s.TypeIs (.ref a) "dict":=by
 rcases g with⟨kvs,k,e,_,_⟩ | ⟨kvs,k,b,e,_,_,_⟩
 .obtain⟨_,_,vs,_,dd⟩:=jT I.hok e
  exact dd.typeIs
 .obtain⟨_,_,xs,_,dd⟩:=pq I.hok e
  exact dd.typeIs
def PB(td ty:TE):TE:=fun σ H Q=>td σ H λx H1=>ty σ H1 λy H2=>∃a v,x=.ref a/\DGet H2 a y (Z_ v)/\Q v H2
def tDIn(ty td:TE):TE:=fun σ H Q=>ty σ H λy H1=>td σ H1 λx H2=>∃a o,x=.ref a/\DGet H2 a y o/\Q (.bl o.isSome) H2
def Fy(ty td:TE):TE:=fun σ H Q=>ty σ H λy H1=>td σ H1 λx H2=>∃a o,x=.ref a/\DGet H2 a y o/\Q (.bl (!o.isSome)) H2
def QL(td ty tv:TE):TS:=λD σ H=>tv σ H λv H1=>td σ H1 λx H2=>ty σ H2 λy H3=>∃a,x=.ref a/\(∃H4,DPut H3 a y v H4)/\∀H4,DPut H3 a y v H4->D.nx σ H4
section
variable{X:Cx}{o i e value:Expr}{pos pos' tpos:Pos}{td ty tv:TE}
def Ie(hu:X.A.units+1<Y8)(ho:PE X o td)(hi:PE X i ty)(hs:NoSl i):PE X (.Subscript o i pos) (PB td ty):=by
 intro pins s σ H Q I h;refine uy PySem.F.slot_dict_getitem.lookup hs (thn (ho pins s σ H _ I h) λu s1 ⟨x,H1,I1,rx,q1⟩=>thn (hi pins s1 σ H1 _ I1 q1) λiv s2 ⟨y,H2,I2,ry,a,v,ex,g,q2⟩=>?_);subst ex;obtain rfl:u=Us a:=rx;exact⟨pA I2 g,yM hu I2 g ry λw' s3 I3 rw'=>⟨v,H2,I3,rw',q2⟩⟩
def Ci(hu:X.A.units+1<Y8)(hi:PE X i ty)(ho:PE X o td):PC X .In i o (tDIn ty td):=by
 intro pins s σ H Q I h
 refine thn (hi pins s σ H _ I h) λiv s1 ⟨y,H1,I1,ry,q1⟩=>thn (ho pins s1 σ H1 _ I1 q1) λu s2 ⟨x,H2,I2,rx,a,ov,ex,g,q2⟩=>?_
 subst ex;obtain rfl:u=Us a:=rx
 exact d_in hu I2 g ry λs3 I3=>⟨.bl ov.isSome,H2,I3,rfl,q2⟩
def mz(hu:X.A.units+1<Y8)(hi:PE X i ty)(ho:PE X o td):PC X .NotIn i o (Fy ty td):=by
 intro pins s σ H Q I h
 refine thn (hi pins s σ H _ I h) λiv s1 ⟨y,H1,I1,ry,q1⟩=>thn (ho pins s1 σ H1 _ I1 q1) λu s2 ⟨x,H2,I2,rx,a,ov,ex,g,q2⟩=>?_
 subst ex;obtain rfl:u=Us a:=rx
 exact Iz hu I2 g ry λs3 I3=>⟨.bl (!ov.isSome),H2,I3,rfl,q2⟩
def GR(hu:X.A.units+1<Y8)(ho:PE X o td)(hi:PE X i ty)(hv:PE X value tv)(hs:XH value (Z_ (.Subscript o i pos')) pos.line X.env=pure Zd) :
 PS X (.Assign [.Subscript o i pos'] value pos) (QL td ty tv):=by
 intro pins s σ H D I h;refine wpAny_Assign_Subscript (thn (hv pins s σ H _ I h) λr s1 ⟨v,H1,I1,rv,q1⟩=>thn (ho pins s1 σ H1 _ I1 q1) λu s2 ⟨x,H2,I2,rx,q2⟩=>thn (hi pins s2 σ H2 _ I2 q2) λiv s3 ⟨y,H3,I3,ry,a,ex,g,q3⟩=>?_) hs;subst ex;obtain rfl:u=Us a:=rx
 exact yC hu I3 g ry rv λH4 s4 g4 I4=>⟨σ,H4,I4,q3 H4 g4⟩
end
def yO(h:Rz)(hb:Vx<h.objs.size):∃ep,ObjOk P w H (h.push { cls:=.type "dict",data:=.dict #[] }) h.objs.size (.dK [] ep):=by
 obtain⟨ep,x⟩:=(Rz.DictOf.new (knd:=aV P w) h).dictAt;exact⟨ep,Uj _,beq_eq_false_iff_ne.mpr (Vr (RX hb)),[],.nil,x⟩
def Nr:TE:=λ_ H Q=>∀p ep,H p=Yt->Q (.ref p) (upd H p (.dK [] ep))
section
variable{X:Cx}{pos:Pos}
def zF:PE X (.Dict [] [] pos) Nr:=λpins s σ H Q I h=>by
 obtain⟨ep,ok⟩:=yO (P:=X.prog) (w:=X.w) (H:=upd H s.heap.objs.size (.dK [] 0)) s.heap I.big;have ok:ObjOk X.prog X.w (upd H s.heap.objs.size (.dK [] ep)) (s.heap.push { cls:=.type "dict",data:=.dict #[] }) s.heap.objs.size (.dK [] ep):=ok;exact wpAny_Dict_empty ⟨.ref s.heap.objs.size,_,I.laid (a:=s.heap.objs.size) (o:=.dK [] ep) (t':=s.toks) (λ_ _ q=>Rk _ q) (Rx _) ok,rfl,h _ _ (I.hok.fresh (Rx _))⟩
end
structure M1(X:Cx)(o:Expr)(m:Str)(apos:Pos)(e:Expr)(cpos:Pos):Prop where
 base:Yu o m X.env (Vl o X.env)=Vl o X.env
 few:((Xg cpos (SJ [e] X.env)).all (λx=>!x.1)&&(a0k cpos (Zy [] X.env)).all (λx=>x.1.isSome)
  && decide (([e]:List Expr).length+([]:List YJ).length+(if([]:List YJ).isEmpty then 0 else 1)<30))=Y_
 line:(apos.endLine==cpos.line)=Y_
 trees:Xg cpos (SJ [e] X.env)=[(Zd,Vl e X.env)]
structure M2(X:Cx)(o:Expr)(m:Str)(apos:Pos)(e f:Expr)(cpos:Pos):Prop where
 base:Yu o m X.env (Vl o X.env)=Vl o X.env
 few:((Xg cpos (SJ [e,f] X.env)).all (λx=>!x.1)&&(a0k cpos (Zy [] X.env)).all (λx=>x.1.isSome)
  && decide (([e,f]:List Expr).length+([]:List YJ).length+(if([]:List YJ).isEmpty then 0 else 1)<30))=Y_
 line:(apos.endLine==cpos.line)=Y_
 trees:Xg cpos (SJ [e,f] X.env)=[(Zd,Vl e X.env),(Zd,Vl f X.env)]
def IsD(H:Hp)(a:Addr):Prop:=(∃kvs,RdK H a kvs)\/∃kvs,Rd H a (.dT kvs)
def Jr(I:Inv X pins σ H s)(d:IsD H a) :
 s.TypeIs (.ref a) "dict"/\(∀b,Us a=.ref b->∃ob,s.heap.get? b=Z_ ob/\ob.dict=Yt)/\(a==Vx)=Zd:=by
 rcases d with⟨kvs,e⟩ | ⟨kvs,e⟩
 .obtain⟨_,hd,vs,_,dd⟩:=jT I.hok e
  refine⟨dd.typeIs,λb q=>?_,hd⟩;cases q;obtain⟨ob,_,_,h1,h2,_⟩:=dd;exact⟨ob,h1,h2.2.1⟩
 .obtain⟨_,hd,xs,_,dd⟩:=pq I.hok e
  refine⟨dd.typeIs,λb q=>?_,hd⟩;cases q;obtain⟨ob,_,_,h1,h2,_⟩:=dd;exact⟨ob,h1,h2.2.1⟩
section
variable{X:Cx}{pins:List (Addr×Obj)}{σ:St}{H:Hp}{s:Rr}{a:Addr}{y d:V}{u r:Rm}{o:Option V}{A:Tu}{E:Rm->Rr->Prop}
def uA(hu:A.units+1<Y8)(I:Inv X pins σ H s)(g:DGet H a y o)(ry:RelV y u)(rd:RelV d r)(h:∀w' s',Inv X pins σ H s'->RelV (o.getD d) w'->Q w' s') :
 RG (RQ X.prog X.w) A (call (.builtin "dict.get") [.ref a,u,r]) Q E s:=by
 rcases g with⟨kvs,k,e,ey,l⟩ | ⟨kvs,k,b,e,ey,eb,l⟩
 .subst ey
  obtain⟨z,hd,vs,rel,dd⟩:=jT I.hok e;refine call_meetsIn PySem.F.slot_dict_get dd.typeIs PySem.F.entry_dict_get (PySem.F.args_dict_get_3 _ _ _) (meets_dict_get_default (aV X.prog X.w) a (jZ ry) hd r) ⟨_,dd.mapOf,h _ _ (I.tok _) ?_⟩;rw[l];exact(rel.val k).getD rd
 .subst ey
  cases (show u=Us b from ry);obtain⟨z,hd,xs,rel,dd⟩:=pq I.hok e;refine call_meetsIn PySem.F.slot_dict_get dd.typeIs PySem.F.entry_dict_get (PySem.F.args_dict_get_3 _ _ _) (meetsH_dict_get_default (Z3 (aV X.prog X.w)) a b hd r) ⟨Xf hu,k,xs,jF I.hok eb,dd,h _ _ (I.tok _) ?_⟩;rw[l];exact(rel.val k).getD rd
end
def KN(td ty tx:TE):TE:=fun σ H Q=>td σ H λx H1=>∃a,x=.ref a/\IsD H1 a/\ty σ H1 λy H2=>tx σ H2 λz H3=>∃o,DGet H3 a y o/\Q (o.getD z) H3
section
variable{X:Cx}{o e f:Expr}{apos cpos:Pos}{td ty tx:TE}
def Ak(hu:X.A.units+1<Y8)(ho:PE X o td)(he:PE X e ty)(hf:PE X f tx)(m:M2 X o "get" apos e f cpos):PE X (.Call (.Attribute o "get" apos) [e,f] [] cpos) (KN td ty tx):=by
 intro pins s σ H Q I h;refine wpAny_Call_method m.base m.few m.line PySem.F.plainAttrs_dict PySem.F.slot_dict_get PySem.F.type_dict_get (thn (ho pins s σ H _ I h) λu s1 ⟨x,H1,I1,rx,a,ex,d,q1⟩=>?_);subst ex;obtain rfl:u=Us a:=rx;obtain⟨t1,t2,_⟩:=Jr I1 d;refine⟨t1,t2,?_⟩;rw[m.trees]
 refine Calls.callWith_builtin rfl (Calls.evalArgs_plain (Calls.spliced_cons (thn (he pins s1 σ H1 _ I1 q1) λiv s2 ⟨y,H2,I2,ry,q2⟩=>
  Calls.spliced_cons (thn (hf pins s2 σ H2 _ I2 q2) λfv s3 ⟨z,H3,I3,rz,ov,g,q3⟩=>Calls.spliced_nil ?_))))
 exact uA hu I3 g ry rz λw' s4 I4 rw'=>⟨_,H3,I4,rw',q3⟩
end
end L2
namespace HT
open PySem PyProof.Rows
section
open PySem.SeqAt
open PySem.AutoSeq1 (wpAny_loadPart')
open PySem.MeetsSeq PySem.MeetsSeq2 PySem.MeetsSeq3
end
section
variable{prog:Sx}{w:Th}{A:Tu}{E:Rm->Rr->Prop}{s:Rr}
def cat_tup(ht:ZS s.heap t vs.toArray)(hb:ZS s.heap b ws.toArray)(hv:vs≠[])
 (h1:ws=[]->Q (.ref t) s)(h2:ws≠[]->Q (.ref s.heap.objs.size) { s with heap:=s.heap.push { cls:=.type "tuple",data:=.seq (vs++ws).toArray } })
 (hsz:vs.length+ws.length<=sizeLine):RG (RQ prog w) A (We .Add (.ref t) (.ref b)) Q E s:=by
 obtain⟨⟨cls,dd,data,sl⟩,ho,hc,n,hd⟩:=id ht;obtain⟨⟨cls2,dd2,data2,sl2⟩,ho2,hc2,n2,hd2⟩:=id hb;simp only at hc hd hc2 hd2;subst hc hd hc2 hd2
 have e:vs.toArray++ws.toArray=(vs++ws).toArray:=by simp
 by_cases hw:ws=[]
 .exact Zq ⟨_,ho,rfl⟩ ⟨_,ho2,rfl⟩ noFill_tuple_add seq_tuple_add PySem.F.slot_tuple_add PySem.F.entry_tuple_add (PySem.F.args_tuple_add_2 _ _)
   (tuple_addW1 t b vs.toArray ws.toArray n n2 dd dd2 sl sl2 (by simpa using hv) (by simp[hw])) ⟨ho,ho2,h1 hw⟩
 .refine Zq ⟨_,ho,rfl⟩ ⟨_,ho2,rfl⟩ noFill_tuple_add seq_tuple_add PySem.F.slot_tuple_add PySem.F.entry_tuple_add (PySem.F.args_tuple_add_2 _ _)
   (tuple_addW2 t b vs.toArray ws.toArray n n2 dd dd2 sl sl2 (by simpa using hv) (by simpa using hw) (by rw[RM,RM];exact hsz)) ⟨ho,ho2,?_⟩
  rw[e];exact h2 hw
noncomputable def sIx(n d:Nat):Option Int->Nat
 | none=>d
 | some v=>if v<0 then(v+(n:Int)).toNat else min v.toNat n
theorem NK(n d:Nat)(hd:d<=n)(o:Option Int):sIx n d o<=n:=by
 cases o with
 | none=>exact hd
 | some v=>
   show(if v<0 then(v+(n:Int)).toNat else min v.toNat n)<=n
   by_cases hv:v<0
   .rw[if_pos hv];omega
   .rw[if_neg hv];exact Nat.min_le_right _ _
theorem xY(v:Int)(n d:Nat):(if v<0 then max (v+(n:Int)) 0 else min v (n:Int))=((sIx n d (Z_ v):Nat):Int):=by
 show(if v<0 then max (v+(n:Int)) 0 else min v (n:Int))=(((if v<0 then(v+(n:Int)).toNat else min v.toNat n):Nat):Int)
 by_cases hv:v<0
 .simp only[if_pos hv];omega
 .simp only[if_neg hv];omega
def sO(lo hi:Option Int)(n:Nat):S8.Slice.sliceAdjust lo hi 1 (n:Int)=(((sIx n 0 lo:Nat):Int),((sIx n n hi:Nat):Int)):=by
 have h1:¬((1:Int)<0):=by omega
 unfold S8.Slice.sliceAdjust;simp only[h1,if_false];refine Prod.ext ?_ ?_
 .cases lo with
  | none=>rfl
  | some v=>exact xY v n 0
 .cases hi with
  | none=>rfl
  | some v=>exact xY v n n
theorem tM(i j:Nat):Wg (i:Int) (j:Int) 1=j-i:=by
 unfold Wg
 have h1:(1:Int)>0:=by omega
 simp only[h1,if_true,Int.ediv_one];split<;>omega
def jC(p:Zv v o)(h:Q o s):RG (RQ prog w) A (S8.Slice.slicePartIndex v) Q E s:=by
 cases p with
 | none=>exact slicePart_none h
 | int i t=>exact slicePart_int h
def gG{sl:Addr}{vl vu:Rm}{lo hi:Option Int}{n:Nat}{Q:Int×Int×Nat->Rr->Prop}(hs:s.heap.IsSliceOf sl vl vu .none)(pl:Zv vl lo)(pu:Zv vu hi)
 (h:Q (((sIx n 0 lo:Nat):Int),1,sIx n n hi-sIx n 0 lo) s):RG (RQ prog w) A (S8.Slice.sliceApplied (.ref sl) (pure (n:Int))) Q E s:=by
 obtain⟨os,hos,hcs,hds⟩:=id hs;unfold S8.Slice.sliceApplied S8.Slice.sliceFields;refine Rj (Rj (V9 hos hds (x:=vl) rfl (Rj (V9 hos hds (x:=vu) rfl (Rj (V9 hos hds (x:=.none) rfl (Rn ?_)))))));refine Rj (slicePart_none ?_);show RG _ _ (if((1:Int)==0)=Y_ then _ else _) _ _ s;rw[if_neg (by decide)];refine Rj (jC pl (Rj (jC pu (Rj (Rn ?_)))));show RG _ _ (match S8.Slice.sliceAdjust lo hi 1 (n:Int)with | (lo,hi)=>pure (lo,(1:Int),Wg lo hi 1)) _ _ s;rw[sO lo hi n];show RG _ _ (pure (((sIx n 0 lo:Nat):Int),(1:Int),Wg ((sIx n 0 lo:Nat):Int) ((sIx n n hi:Nat):Int) 1)) _ _ s;rw[tM];exact Rn h
theorem yP(xs:Array Rm)(i k:Nat):((TQ k).filterMap λ(m:Nat)=>xs[((i:Int)+(m:Int)*1).toNat]?).toArray=((xs.toList.drop i).take k).toArray:=by
 have e:(λ(m:Nat)=>xs[((i:Int)+(m:Int)*1).toNat]?)=λm=>xs[i+m]?:=by
  funext m
  have:((i:Int)+(m:Int)*1).toNat=i+m:=by omega
  rw[this]
 rw[e];have:=pick_run xs i k;rw[List.filterMap_map]at this
 have e2:((λx=>xs[x]?)∘λx=>i+x)=λm=>xs[i+m]?:=rfl
 rw[e2]at this;rw[this]
theorem getItem_tuple_cut{t sl:Addr}{items:Array Rm}{vl vu:Rm}{lo hi:Option Int}{Q:Rm->Rr->Prop}(ht:ZS s.heap t items)(hs:s.heap.IsSliceOf sl vl vu .none)(pl:Zv vl lo)(pu:Zv vu hi)
 (hw:¬(sIx items.size 0 lo=0/\sIx items.size items.size hi=items.size))
 (h:Q (.ref s.heap.objs.size) { s with heap:=s.heap.push { cls:=.type "tuple",data:=.seq ((items.toList.drop (sIx items.size 0 lo)).take (sIx items.size items.size hi-sIx items.size 0 lo)).toArray } })
 (hsz:items.size<=sizeLine):RG (RQ prog w) A (Z5 (.ref t) (.ref sl)) Q E s:=by
 have htake:sizeOk (.seq ((items.toList.drop (sIx items.size 0 lo)).take (sIx items.size items.size hi-sIx items.size 0 lo)).toArray):=by
  show((items.toList.drop (sIx items.size 0 lo)).take (sIx items.size items.size hi-sIx items.size 0 lo)).toArray.size<=sizeLine;rw[RM,Vp,W4,Uv];omega
 have hj:sIx items.size items.size hi<=items.size:=NK _ _ (Rx _) hi;obtain⟨os,hos,hcs,hds⟩:=id hs
 have hTs:s.TypeIs (.ref sl) "slice":=⟨os,hos,hcs⟩
 unfold Z5
 try with_reducible refine Uu ?_
 first | refine Rj (Rn ?_) | skip
 refine Rj (wpAny_sequenceKey ht.typeIs (by decide) ?_)
 refine Rj (Va (name:=Str.ofString "__getitem__") ht.typeIs PyProof.Rows.slot_tuple_getitem
  (Ux PyProof.Rows.slot_tuple_getitem ht.typeIs entry_tuple_getitem ?_ (args_tuple_getitem _ _)))
 show RG _ _ (S8.Tuple.tupleItemsOf (.ref t) >>= _) _ _ s;refine Rj (tupleItemsOf_ ht ?_);refine Rj (wpAny_typeOf hTs ?_);rw[if_pos (by decide)];refine Rj (gG hs pl pu ?_)
 have hno:¬((((sIx items.size 0 lo:Nat):Int)==0&&(1:Int)==1&&(sIx items.size items.size hi-sIx items.size 0 lo)==items.size)=Y_):=by
  intro q;rw[RT,RT]at q;have q1:((sIx items.size 0 lo:Nat):Int)=0:=ZP q.1.1;have q2:sIx items.size items.size hi-sIx items.size 0 lo=items.size:=ZP q.2;exact hw ⟨by omega,by omega⟩
 show RG _ _ (if(((sIx items.size 0 lo:Nat):Int)==0&&(1:Int)==1&&(sIx items.size items.size hi-sIx items.size 0 lo)==items.size)=Y_ then _ else _) _ _ s;rw[if_neg hno,yP]
 first
  | exact Rj (m:=Wm _) (U9 (Rn ⟨_,rfl,Rn h⟩) htake)
  | exact Rj (m:=Wm _) (U9 (Rj (Rn (Rn ⟨_,rfl,Rn h⟩))) htake)
  | exact Rj (Rj (m:=Wm _) (U9 (Rn (Rn ⟨_,rfl,Rn h⟩)) htake))
  | exact Rj (Rj (m:=Wm _) (U9 (Rn ⟨_,rfl,Rn h⟩) htake))
end
end HT
namespace L2
open PySem PySem.Spec PyProof.Rows
abbrev TO:=St->Hp->(Option Int->Hp->Prop)->Prop
def PO(X:Cx)(e:Option Expr)(t:TO):Prop :=
 ∀(pins:List (Addr×Obj)) (s:Rr) (σ:St) (H:Hp) (Q:Option Int->Hp->Prop),Inv X pins σ H s->t σ H Q ->
  RG (RQ X.prog X.w) X.A (evalPart e X.env) (λu s'=>∃o H',Inv X pins σ H' s'/\Zv u o/\Q o H') X.xe s
def J2:TO:=λ_ H Q=>Q none H
def Pn(t:TE):TO:=fun σ H Q=>t σ H λx H1=>∃i,x=.int i/\Q (Z_ i) H1
def intsAre_of:∀{us:List Rm},Vals (ns.map V.int) us->Wz us ns:=by
 induction ns with
 | nil=>intro us r;rw[Ti]at r;cases r;exact .nil
 | cons n ns ih=>
   intro us r;rw[Ro]at r
   cases r with
   | cons r1 r2=>
     obtain⟨t,e⟩:=r1;subst e;exact .cons n t (ih r2)
section
variable{X:Cx}{e:Expr}{te:TE}{lo hi:Option Expr}{tl th:TO}{pos p2:Pos}
def Ht:PO X none J2:=by
 intro pins s σ H Q I h;rw[evalPart_none];exact Rn ⟨none,H,I,.none,h⟩
def J8(h:PE X e te):PO X (Z_ e) (Pn te):=by
 intro pins s σ H Q I hw;rw[evalPart_some]
 refine thn (h pins s σ H _ I hw) λu s1 ⟨x,H1,I1,r1,q1⟩=>?_
 obtain⟨i,rfl,q⟩:=q1;obtain⟨t,rfl⟩:=r1;exact⟨some i,H1,I1,.int i t,q⟩
def SlR(X:Cx)(r:V->Option Int->Option Int->Hp->VK->Prop):Prop :=
 ∀(pins:List (Addr×Obj)) (s:Rr) (σ:St) (H:Hp) (x:V) (v vl vu:Rm) (lo hi:Option Int) (sl:Addr) (Q:VK),Inv X pins σ H s->RelV x v->s.heap.IsSliceOf sl vl vu .none->Zv vl lo->Zv vu hi->r x lo hi H Q ->
  ∃T id,typeLookup (.type T) "__getitem__"=pure (Z_ (.builtin id))/\s.TypeIs v T/\RG (RQ X.prog X.w) X.A (Z5 v (.ref sl)) (EP X pins σ Q) X.xe s
def SlR.or(h:SlR X r)(h':SlR X r'):SlR X (λx lo hi H Q=>r x lo hi H Q\/r' x lo hi H Q):=by
 intro pins s σ H x v vl vu lo hi sl Q I rx hs pl pu q;rcases q with q | q
 .exact h pins s σ H x v vl vu lo hi sl Q I rx hs pl pu q
 .exact h' pins s σ H x v vl vu lo hi sl Q I rx hs pl pu q
def tSl(r:V->Option Int->Option Int->Hp->VK->Prop)(te:TE)(tl th:TO):TE:=fun σ H Q=>te σ H λx H1=>tl σ H1 λl H2=>th σ H2 λu H3=>r x l u H3 Q
def yV(hr:SlR X r)(he:PE X e te)(hl:PO X lo tl)(hu:PO X hi th):PE X (.Subscript e (.Slice lo hi none p2) pos) (tSl r te tl th):=by
 intro pins s σ H Q I h;refine Subscript_ (thn (he pins s σ H _ I h) λv s1 ⟨x,H1,I1,r1,q1⟩=>?_);refine wpAny_Slice (thn (hl pins s1 σ H1 _ I1 q1) λvl s2 ⟨l,H2,I2,pl,q2⟩=>thn (hu pins s2 σ H2 _ I2 q2) λvu s3 ⟨u,H3,I3,pu,q3⟩=>?_);rw[evalPart_none];refine Rn ?_
 have I4:Inv X pins σ H3 { s3 with heap:=s3.heap.push { cls:=.type "slice",data:=.fields #[vl,vu,.none] } }:=I3.kept (t':=s3.toks) λb ob q=>Rk _ q
 obtain⟨T,id,hT,ht,hg⟩:=hr pins { s3 with heap:=s3.heap.push { cls:=.type "slice",data:=.fields #[vl,vu,.none] } } σ H3 x v vl vu l u s3.heap.objs.size Q I4 r1 (Rz.IsSliceOf.new ..) pl pu q3;show RG (RQ X.prog X.w) X.A (subscriptTail e (.Slice lo hi none p2) v (.ref s3.heap.objs.size)) (EP X pins σ Q) X.xe { s3 with heap:=s3.heap.push { cls:=.type "slice",data:=.fields #[vl,vu,.none] } };exact tail_any (ops:=[.ref s3.heap.objs.size,v]) ht hT hg (by with_unfolding_all rfl)
noncomputable def cutV(xs:List V)(lo hi:Option Int):List V:=(xs.drop (HT.sIx xs.length 0 lo)).take (HT.sIx xs.length xs.length hi-HT.sIx xs.length 0 lo)
theorem iW(xs:List V)(lo hi:Option Int):(cutV xs lo hi).length<=xs.length:=by
 unfold cutV;rw[Vp,W4];omega
def rSlT(K:Rw):V->Option Int->Option Int->Hp->VK->Prop:=λx lo hi H Q=>∃a xs,x=.ref a/\SqT K H a xs /\
 ¬(HT.sIx xs.length 0 lo=0/\HT.sIx xs.length xs.length hi=xs.length)/\∀p,H p=Yt->Q (.ref p) (upd H p (.tup (cutV xs lo hi)))
def MT:SlR X (rSlT X.K):=by
 intro pins s σ H x v vl vu lo hi sl Q I rx hs pl pu h;obtain⟨a,xs,rfl,hx,hw,q⟩:=h;cases rx;obtain⟨its,r,ht,hz⟩:=I.tuple hx
 have hlen:its.toArray.size=xs.length:=by rw[RM];exact r.length.symm
 refine⟨"tuple",_,PyProof.Rows.slot_tuple_getitem.lookup,ht.typeIs,?_⟩;refine HT.getItem_tuple_cut ht hs pl pu (by rw[hlen];exact hw) ?_ (by rw[hlen];exact hz);rw[hlen];refine⟨.ref s.heap.objs.size,_,I.laid (t':=s.toks) (o:=.tup (cutV xs lo hi)) (λb ob q=>Rk _ q) (Rx _) ?_,rfl,q _ (I.hok.fresh (Rx _))⟩;exact⟨RW (iW xs lo hi) hz,_,(r.drop (HT.sIx xs.length 0 lo)).take (HT.sIx xs.length xs.length hi-HT.sIx xs.length 0 lo),ZS.new _ _⟩
def O4(K:Rw):R2:=λx y H Q=>∃a b xs ys,x=.ref a/\y=.ref b/\SqT K H a xs/\SqT K H b ys/\xs≠[]/\xs.length+ys.length<=sizeLine /\
 (ys=[]->Q (.ref a) H)/\(ys≠[]->∀p,H p=Yt->Q (.ref p) (upd H p (.tup (xs++ys))))
def Vals.nil_iff(r:Vals xs us):us=[]↔xs=[]:=by
 cases r with
 | nil=>simp
 | cons _ _=>simp
def Hk:OpR X (We .Add) (O4 X.K):=by
 intro pins s σ H x y v u Q I rx ry h;obtain⟨a,b,xs,ys,rfl,rfl,ha,hb,hx,hz,q1,q2⟩:=h;cases rx;cases ry;obtain⟨its,r1,p1,_⟩:=I.tuple ha;obtain⟨its2,r2,p2,_⟩:=I.tuple hb;refine HT.cat_tup p1 p2 (λz=>hx (r1.nil_iff.mp z)) (λz=>⟨.ref a,H,I,rfl,q1 (r2.nil_iff.mp z)⟩) (λz=>?_) (by rw[<-r1.length,<-r2.length];exact hz);refine⟨.ref s.heap.objs.size,_,I.laid (t':=s.toks) (o:=.tup (xs++ys)) (λb ob q=>Rk _ q) (Rx _) ?_,rfl,q2 (λw=>z (r2.nil_iff.mpr w)) _ (I.hok.fresh (Rx _))⟩;exact⟨by rw[RJ];exact hz,_,r1.append r2,ZS.new _ _⟩
end
noncomputable def ixN(n:Nat)(i:Int):Option Nat:=if 0<=i then(if i<n then some i.toNat else none)else if -(n:Int)<=i then some (i+n).toNat else none
noncomputable def atI{α:Type}(xs:List α)(i:Int):Option α:=(ixN xs.length i).bind λj=>xs[j]?
theorem wZ(h:ixN n i=Z_ j):seqIndex? i n=Z_ j/\j<n/\-(n:Int)<=i/\i<n:=by
 unfold ixN at h
 by_cases h0:0<=i
 .rw[if_pos h0]at h
  by_cases h1:i<n
  .rw[if_pos h1]at h
   have e:i.toNat=j:=U5 h;exact⟨by rw[seqIndex_of h0 h1,e],by omega,by omega,h1⟩
  .rw[if_neg h1]at h;cases h
 .rw[if_neg h0]at h
  by_cases h1:-(n:Int)<=i
  .rw[if_pos h1]at h
   have e:(i+n).toNat=j:=U5 h;exact⟨by rw[seqIndex_neg (by omega) h1,e],by omega,h1,by omega⟩
  .rw[if_neg h1]at h;cases h
def oU(h:atI xs i=Z_ v):∃j,seqIndex? i xs.length=Z_ j/\xs[j]?=Z_ v/\j<xs.length/\-(xs.length:Int)<=i/\i<xs.length:=by
 unfold atI at h
 cases e:ixN xs.length i with
 | none=>rw[e]at h;cases h
 | some j=>
   rw[e]at h;obtain⟨h1,h2,h3,h4⟩:=wZ e;exact⟨j,h1,h,h2,h3,h4⟩
def yH(b:Expr):Prop:=∀o i,Zx b Zd o i=operate [o,i] (Z5 o i)
def IxR(X:Cx)(r:R2):Prop :=
 ∀(value slice:Expr) (pins:List (Addr×Obj)) (s:Rr) (σ:St) (H:Hp) (x y:V) (v u:Rm) (Q:VK),Inv X pins σ H s->RelV x v->RelV y u->r x y H Q ->
  Zx slice Zd v u=operate [v,u] (Z5 v u)->RG (RQ X.prog X.w) X.A (subscriptTail value slice v u) (EP X pins σ Q) X.xe s
def MtR(X:Cx)(id:String)(r:V->List V->Hp->VK->Prop):Prop :=
 ∀(pins:List (Addr×Obj)) (s:Rr) (σ:St) (H:Hp) (x:V) (xs:List V) (v:Rm) (us:List Rm) (Q:VK),Inv X pins σ H s->RelV x v->Vals xs us->r x xs H Q ->
  RG (RQ X.prog X.w) X.A (call (.builtin id) (v::us)) (EP X pins σ Q) X.xe s
section
variable{X:Cx}{a b:Expr}{ta tb:TE}{pos:Pos}
def IxR.or(h:IxR X r)(h':IxR X r'):IxR X (λx y H Q=>r x y H Q\/r' x y H Q):=by
 intro value slice pins s σ H x y v u Q I rx ry q hs;rcases q with q | q
 .exact h value slice pins s σ H x y v u Q I rx ry q hs
 .exact h' value slice pins s σ H x y v u Q I rx ry q hs
def Qt(hr:IxR X r)(ha:PE X a ta)(hb:PE X b tb)(hs:yH b):PE X (.Subscript a b pos) (tOp r ta tb):=by
 intro pins s σ H Q I h;exact Subscript_ (binT ha hb I h λv u s2 x y H2 I2 rx ry q=>hr a b pins s2 σ H2 x y v u Q I2 rx ry q (hs _ _))
def rIxL(K:Rw):R2:=λx y H Q=>∃p xs i v,x=.ref p/\y=.int i/\SqL K H p xs/\atI xs i=Z_ v/\Q v H
def rIxT(K:Rw):R2:=λx y H Q=>∃p xs i v,x=.ref p/\y=.int i/\SqT K H p xs/\atI xs i=Z_ v/\Q v H
def rIxS:R2:=λx y H Q=>∃z i c,x=.str z/\y=.int i/\z.length<=sizeLine/\atI z.cps.toList i=Z_ c/\Q (.str ⟨#[c]⟩) H
theorem Gp:IxR X (rIxL X.K):=by
 intro value slice pins s σ H x y v u Q I rx ry h hs;obtain⟨p,xs,i,z,rfl,rfl,hq,he,q⟩:=h;cases rx;obtain⟨t,rfl⟩:=ry;obtain⟨its,r,pl,hz⟩:=I.list hq;obtain⟨j,h1,h2,h3,h4,h5⟩:=oU he;obtain⟨w,ew,rw'⟩:=r.get h2;have hl:=r.length;have hn:=jb
 have fin:EP X pins σ Q w s:=⟨z,H,I,rw',q⟩
 by_cases h0:0<=i
 .have hj:i.toNat=j:=by
   rw[seqIndex_of h0 h5]at h1;exact U5 h1
  exact item_listR pl.isList h0 (by omega) (by rw[hj];simpa using ew) fin hs
 .have hj:(i+(its.toArray.size:Int)).toNat=j:=by
   rw[seqIndex_neg (by omega) h4]at h1;rw[RM,<-hl];exact U5 h1
  exact subscriptTail_builtinR (x:=w) pl.isList.typeIs slot_list_getitem.lookup
   (wpAny_getItem_list_neg (Q:=λr s'=>r=w/\EP X pins σ Q r s') pl.isList (by omega) (by rw[RM]<;>omega) (by omega) (by rw[hj];simpa using ew) ⟨rfl,fin⟩) hs
theorem N5:IxR X (rIxT X.K):=by
 intro value slice pins s σ H x y v u Q I rx ry h hs;obtain⟨p,xs,i,z,rfl,rfl,hq,he,q⟩:=h;cases rx;obtain⟨t,rfl⟩:=ry;obtain⟨its,r,pl,hz⟩:=I.tuple hq;obtain⟨j,h1,h2,h3,h4,h5⟩:=oU he;obtain⟨w,ew,rw'⟩:=r.get h2;have hl:=r.length;have hn:=jb
 have fin:EP X pins σ Q w s:=⟨z,H,I,rw',q⟩
 exact subscriptTail_builtinR (x:=w) pl.typeIs slot_tuple_getitem.lookup
  (getItem_tuple (j:=j) (Q:=λr s'=>r=w/\EP X pins σ Q r s') pl (by omega) (by omega) (by rw[RM,<-hl];exact h1) (by simpa using ew) ⟨rfl,fin⟩) hs
theorem yD:IxR X rIxS:=by
 intro value slice pins s σ H x y v u Q I rx ry h hs;obtain⟨z,i,c,rfl,rfl,hz,he,q⟩:=h;obtain⟨t,rfl⟩:=rx;obtain⟨t',rfl⟩:=ry;obtain⟨j,h1,h2,h3,h4,h5⟩:=oU he
 have hl:z.cps.toList.length=z.length:=by simp[Str.length]
 rw[hl]at h1 h4 h5;have hn:=jb
 exact tail_any (typeIs_str s z t) slot_str_getitem.lookup (getItem_str (c:=c) (by
  have e1:decide (i < -(2 ^ 63:Int))=Zd:=decide_eq_false (by omega);have e2:decide (i≥2 ^ 63)=Zd:=decide_eq_false (by omega)
  rw[e1,e2,WX]) (by rw[h1];simpa using h2) ⟨.str ⟨#[c]⟩,H,I.tok _,⟨_,rfl⟩,q⟩) hs
def tV(its:List Rm)(n j:Nat)(u:Rm):Vz (·.setIfInBounds j u) { cls:=.type "list",data:=.seq its.toArray n }={ cls:=.type "list",data:=.seq (its.set j u).toArray n }:=by
 simp[Vz]
def Inv.lst(I:Inv X pins σ H s)(h:H p=Z_ (.lst xs)) :
 ∃(its:List Rm)(n:Nat),Vals xs its/\s.heap.get? p=Z_ { cls:=.type "list",data:=.seq its.toArray n }/\xs.length<=sizeLine:=by
 obtain⟨z,its,n,r,e⟩:=I.hok p _ h;exact⟨its,n,r,e,z⟩
def Inv.lstUpd{pins:List (Addr×Obj)}{σ:St}{H:Hp}{s:Rr}{p:Addr}{xs ys:List V}{its its':List Rm}{n n':Nat}{f:Obj->Obj}(I:Inv X pins σ H s)(h:H p=Z_ (.lst xs))
 (ho:s.heap.get? p=Z_ { cls:=.type "list",data:=.seq its.toArray n })(hf:f { cls:=.type "list",data:=.seq its.toArray n }={ cls:=.type "list",data:=.seq its'.toArray n' })(r:Vals ys its')(hz:ys.length<=sizeLine)(t:Nat) :
 Inv X pins σ (upd H p (.lst ys)) { s with heap:=s.heap.update p f,toks:=t }:=by
 have e:(s.heap.update p f).get? p=Z_ { cls:=.type "list",data:=.seq its'.toArray n' }:=by
  rw[TJ f ho (by rw[hf]<;>rfl),hf]
 refine I.write (x:=p) (e:=p) (by rw[h];trivial) (.inl rfl) (λb u hb q=>(Ua _ _ (Vr hb)).trans q) ⟨_,e⟩ ?_;exact⟨hz,its',n',r,e⟩
def Qp:V->V->V->Hp->(Hp->Prop)->Prop:=λo i v H Q=>∃p xs k j,o=.ref p/\i=.int k/\H p=Z_ (.lst xs)/\ixN xs.length k=Z_ j/\Q (upd H p (.lst (xs.set j v)))
theorem set_list:PSet X Qp:=by
 intro pins s σ H o i v ov iv u Q I ro ri rv h;obtain⟨p,xs,k,j,rfl,rfl,hp,hj,q⟩:=h;cases ro;obtain⟨t,rfl⟩:=ri;obtain⟨its,n,r,ho,hz⟩:=I.lst hp;obtain⟨h1,h2,h3,h4⟩:=wZ hj;have hl:=r.length;have hn:=jb
 have I':Inv X pins σ (upd H p (.lst (xs.set j v))) { s with heap:=s.heap.update p (Vz (·.setIfInBounds j u)) } :=
  I.lstUpd hp ho (tV its n j u) (r.set rv j) (by rw[List.length_set];exact hz) s.toks
 by_cases h0:0<=k
 .have hk:k.toNat=j:=by
   rw[seqIndex_of h0 h4]at h1;exact U5 h1
  exact PySem.W.ki_setAt ho h0 (by omega) (by rw[RM,<-hl];exact h4) (by rw[hk];exact⟨_,I',q⟩)
 .have hk:(k+(its.toArray.size:Int)).toNat=j:=by
   rw[seqIndex_neg (by omega) h3]at h1;rw[RM,<-hl];exact U5 h1
  exact PySem.W.ki_setBack ho (by omega) (by rw[RM,<-hl];exact h3) (by omega) (by rw[hk];exact⟨_,I',q⟩)
theorem nu(lo hi:Option Int)(n:Nat):(XQ lo hi none n).1=((HT.sIx n 0 lo:Nat):Int)/\(XQ lo hi none n).2.1=((HT.sIx n n hi:Nat):Int)/\(XQ lo hi none n).2.2=1:=by
 refine⟨?_,?_,rfl⟩
 .cases lo with
  | none=>simp[XQ,HT.sIx]
  | some i=>
    simp only[XQ,HT.sIx,Option.getD_none,show(1:Int)>0 by decide,if_true]
    by_cases h:i<0
    .simp only[h,if_true]<;>omega
    .simp only[h,if_false]<;>omega
 .cases hi with
  | none=>simp[XQ,HT.sIx]
  | some i=>
    simp only[XQ,HT.sIx,Option.getD_none,show(1:Int)>0 by decide,if_true]
    by_cases h:i<0
    .simp only[h,if_true]<;>omega
    .simp only[h,if_false]<;>omega
def kJ(its:List Rm)(lo hi:Option Int):slicePick its.toArray lo hi none=((its.drop (HT.sIx its.length 0 lo)).take (HT.sIx its.length its.length hi-HT.sIx its.length 0 lo)).toArray:=by
 obtain⟨h1,h2,h3⟩:=nu lo hi its.toArray.size;unfold slicePick;rw[h1,h2,h3];simp only[sliceRange_one,pick_run,RM]<;>rfl
def rSlL(K:Rw):V->Option Int->Option Int->Hp->VK->Prop:=λx lo hi H Q=>∃a xs,x=.ref a/\SqL K H a xs/\∀p,H p=Yt->Q (.ref p) (upd H p (.lst (cutV xs lo hi)))
def Fz:SlR X (rSlL X.K):=by
 intro pins s σ H x v vl vu lo hi sl Q I rx hs pl pu h;obtain⟨a,xs,rfl,hx,q⟩:=h;cases rx;obtain⟨its,r,ht,hz⟩:=I.list hx;have hlen:=r.length;refine⟨"list",_,slot_list_getitem.lookup,ht.isList.typeIs,?_⟩;refine wpAny_getItem_list_slice ht.isList hs pl pu .none (by simp) ?_ (by rw[RM]<;>omega);rw[kJ,<-hlen];refine⟨.ref s.heap.objs.size,_,I.laid (t':=s.toks) (o:=.lst (cutV xs lo hi)) (λb ob q=>Rk _ q) (Rx _) ?_,rfl,q _ (I.hok.fresh (Rx _))⟩;exact⟨RW (iW xs lo hi) hz,_,0,(r.drop (HT.sIx xs.length 0 lo)).take (HT.sIx xs.length xs.length hi-HT.sIx xs.length 0 lo),RD _ rfl⟩
noncomputable def jm:V->Bool
 | .non=>true
 | .bl _=>true
 | .int _=>true
 | .str _=>true
 | _=>false
noncomputable def eqV:V->V->Bool
 | .non,.non=>true
 | .bl a,.bl b=>a==b
 | .bl a,.int b=>(if a then 1 else 0)==b
 | .int a,.bl b=>a==(if b then 1 else 0)
 | .int a,.int b=>a==b
 | .str a,.str b=>a==b
 | _,_=>false
def Kf(ry:RelV y u)(rx:RelV x v)(fy:jm y=Y_)(fx:jm x=Y_):Uh A s u v (eqV y x):=by
 cases y with
 | non=>
   cases ry
   cases x with
   | non=>cases rx;exact Uh.same _
   | bl b=>cases rx;exact Uh.none_bool b
   | int b=>obtain⟨t,rfl⟩:=rx;exact Uh.none_int b t
   | str b=>obtain⟨t,rfl⟩:=rx;exact Uh.none_str b t
   | _=>exact absurd (show Zd=Y_ from fx) S9
 | bl a=>
   cases ry
   cases x with
   | non=>cases rx;exact Uh.bool_none a
   | bl b=>cases rx;exact Uh.bool_bool a b
   | int b=>obtain⟨t,rfl⟩:=rx;exact Uh.bool_int a b t
   | str b=>obtain⟨t,rfl⟩:=rx;exact Uh.bool_str a b t
   | _=>exact absurd (show Zd=Y_ from fx) S9
 | int a=>
   obtain⟨t',rfl⟩:=ry
   cases x with
   | non=>cases rx;exact Uh.int_none a t'
   | bl b=>cases rx;exact Uh.int_bool a t' b
   | int b=>obtain⟨t,rfl⟩:=rx;exact Uh.int_int a t' b t
   | str b=>obtain⟨t,rfl⟩:=rx;exact Uh.int_str a t' b t
   | _=>exact absurd (show Zd=Y_ from fx) S9
 | str a=>
   obtain⟨t',rfl⟩:=ry
   cases x with
   | non=>cases rx;exact Uh.str_none a t'
   | bl b=>cases rx;exact Uh.str_bool a t' b
   | int b=>obtain⟨t,rfl⟩:=rx;exact Uh.str_int a t' b t
   | str b=>obtain⟨t,rfl⟩:=rx;exact Uh.str_str a t' b t
   | _=>exact absurd (show Zd=Y_ from fx) S9
 | _=>exact absurd (show Zd=Y_ from fy) S9
noncomputable def eqU(x:V)(u:Rm):Bool:=match u with
 | .none=>eqV .non x
 | .bool b=>eqV (.bl b) x
 | .int i _=>eqV (.int i) x
 | .str z _=>eqV (.str z) x
 | _=>false
def Dp(r:RelV y u)(f:jm y=Y_):eqU x u=eqV y x:=by
 cases y with
 | non=>cases r;rfl
 | bl b=>cases r;rfl
 | int i=>obtain⟨t,rfl⟩:=r;rfl
 | str z=>obtain⟨t,rfl⟩:=r;rfl
 | _=>exact absurd (show Zd=Y_ from f) S9
theorem jk:∀{xs:List V}{us:List Rm},Vals xs us->xs.all jm=Y_->us.any (eqU x)=xs.any λy=>eqV y x
 | _,_,.nil,_=>rfl
 | y::xs,u::us,.cons r t,f=>by
   rw[YX,RT]at f;rw[Ue,Ue,Dp r f.1,jk t f.2]
theorem fj(rx:RelV x v)(fx:jm x=Y_):∀{xs:List V}{us:List Rm},Vals xs us->xs.all jm=Y_->∀u∈us,Uh A s u v (eqU x u)
 | _,_,.nil,_=>λu hu=>by cases hu
 | y::xs,u::us,.cons r t,f=>λu' hu=>by
   rw[YX,RT]at f;rcases Rp.mp hu with rfl | hu
   .rw[Dp r f.1];exact Kf r rx f.1 fx
   .exact fj rx fx t f.2 u' hu
def inV(x:V)(xs:List V):Bool:=xs.any λy=>eqV y x
def rIn(K:Rw)(neg:Bool):R2:=λx y H Q=>∃p xs,y=.ref p/\(SqL K H p xs\/SqT K H p xs)/\jm x=Y_/\xs.all jm=Y_/\Q (.bl (if neg then !inV x xs else inV x xs)) H
def ni:OpR X (Vj .In) (rIn X.K Zd):=by
 intro pins s σ H x y v u Q I rx ry h;obtain⟨p,xs,rfl,hq,fx,fs,q⟩:=h;cases ry;rcases hq with hq | hq
 .obtain⟨its,r,pl,hz⟩:=I.list hq
  refine SeqAt.in_listAt (eqU x) pl.isList (λw hw=>fj rx fx r fs w (by simpa using hw)) ⟨.bl _,H,I,rfl,?_⟩;rw[show its.toArray.any (eqU x)=its.any (eqU x) by simp,jk r fs];exact q
 .obtain⟨its,r,pl,hz⟩:=I.tuple hq
  refine SeqAt.in_tupleAt (eqU x) pl (λw hw=>fj rx fx r fs w (by simpa using hw)) ⟨.bl _,H,I,rfl,?_⟩;rw[show its.toArray.any (eqU x)=its.any (eqU x) by simp,jk r fs];exact q
def gD:OpR X (Vj .NotIn) (rIn X.K Y_):=by
 intro pins s σ H x y v u Q I rx ry h;obtain⟨p,xs,rfl,hq,fx,fs,q⟩:=h;cases ry;rcases hq with hq | hq
 .obtain⟨its,r,pl,hz⟩:=I.list hq
  refine SeqAt.notIn_listAt (eqU x) pl.isList (λw hw=>fj rx fx r fs w (by simpa using hw)) ⟨.bl _,H,I,rfl,?_⟩;rw[show its.toArray.any (eqU x)=its.any (eqU x) by simp,jk r fs];exact q
 .obtain⟨its,r,pl,hz⟩:=I.tuple hq
  refine SeqAt.notIn_tupleAt (eqU x) pl (λw hw=>fj rx fx r fs w (by simpa using hw)) ⟨.bl _,H,I,rfl,?_⟩;rw[show its.toArray.any (eqU x)=its.any (eqU x) by simp,jk r fs];exact q
theorem lQ:CallR X (.builtin "len") (λxs H Q=>∃p ys,xs=[.ref p]/\(SqL X.K H p ys\/SqT X.K H p ys)/\Q (.int ys.length) H):=by
 intro pins s σ H xs us Q I r h;obtain⟨p,ys,rfl,hq,q⟩:=h;obtain⟨u,rfl,rx⟩:=vals1 r;cases rx;have hn:=jb;rcases hq with hq | hq
 .obtain⟨its,r',pl,hz⟩:=I.list hq
  have hlen:=r'.length;exact Calls.call_len_list pl.isList (by simp only[RM]<;>omega) ⟨.int ys.length,H,I.tok _,⟨s.toks+1,by rw[RM,hlen]⟩,q⟩
 .obtain⟨its,r',pl,hz⟩:=I.tuple hq
  have hlen:=r'.length;exact len_tuple pl (by simp only[RM]<;>omega) ⟨.int ys.length,H,I.tok _,⟨s.toks+1,by rw[RM,hlen]⟩,q⟩
theorem nF:CallR X (.builtin "len") (λxs H Q=>∃z,xs=[.str z]/\z.length<=sizeLine/\Q (.int z.length) H):=by
 intro pins s σ H xs us Q I r h;obtain⟨z,rfl,hz,q⟩:=h;obtain⟨u,rfl,t,rfl⟩:=vals1 r;have hn:=jb;exact len_str (by omega) ⟨.int z.length,H,I.tok _,⟨_,rfl⟩,q⟩
def CallR.or(h:CallR X f r)(h':CallR X f r'):CallR X f (λxs H Q=>r xs H Q\/r' xs H Q):=by
 intro pins s σ H xs us Q I rs q;rcases q with q | q
 .exact h pins s σ H xs us Q I rs q
 .exact h' pins s σ H xs us Q I rs q
def mG:CallR X (.type "list") (λxs H Q=>∃p ys,xs=[.ref p]/\(SqL X.K H p ys\/SqT X.K H p ys)/\∀l,H l=Yt->Q (.ref l) (upd H l (.lst ys))):=by
 intro pins s σ H xs us Q I r h;obtain⟨p,ys,rfl,hq,q⟩:=h;obtain⟨u,rfl,rx⟩:=vals1 r;cases rx
 have fin:∀(its:List Rm),Vals ys its->ys.length<=sizeLine->∀(h':Rz)(c':Nat),(∀b o',s.heap.get? b=Z_ o'->h'.get? b=Z_ o') ->
  h'.get? s.heap.objs.size=Z_ { cls:=.type "list",dict:=Yt,data:=.seq its.toArray c',slots:=#[] }->EP X pins σ Q (.ref s.heap.objs.size) { s with heap:=h' }:=λits r' hz h' c' kp e=>
  ⟨.ref s.heap.objs.size,_,I.laid (t':=s.toks) kp (Rx _) (show ObjOk X.prog X.w _ h' _ (.lst ys)from⟨hz,its,c',r',e⟩),rfl,q _ (I.hok.fresh (Rx _))⟩
 rcases hq with hq | hq
 .obtain⟨its,r',pl,hz⟩:=I.list hq
  have hlen:=r'.length;obtain⟨o,ho,hc,n,hd⟩:=pl.isList;exact call_list_seq p (.inl rfl) ho hc hd (λh' c' kp e=>fin its r' hz h' c' kp e) (by simp only[RM]<;>omega)
 .obtain⟨its,r',pl,hz⟩:=I.tuple hq
  have hlen:=r'.length;obtain⟨o,ho,hc,n,hd⟩:=pl;exact call_list_seq p (.inr rfl) ho hc hd (λh' c' kp e=>fin its r' hz h' c' kp e) (by simp only[RM]<;>omega)
def lA:CallR X (.type "tuple") (λxs H Q=>∃p ys,xs=[.ref p]/\((SqL X.K H p ys/\∀l,H l=Yt->Q (.ref l) (upd H l (.tup ys)))\/(SqT X.K H p ys/\Q (.ref p) H))):=by
 intro pins s σ H xs us Q I r h;obtain⟨p,ys,rfl,h⟩:=h;obtain⟨u,rfl,rx⟩:=vals1 r;cases rx;rcases h with⟨hq,q⟩ | ⟨hq,q⟩
 .obtain⟨its,r',pl,hz⟩:=I.list hq
  have hlen:=r'.length;refine call_tuple_list pl.isList (λh' kp=>?_) (by simp only[RM]<;>omega);have I1:Inv X pins σ H { s with heap:=h' }:=I.kept (t':=s.toks) kp
  have I2:Inv X pins σ (upd H h'.objs.size (.tup ys)) { s with heap:=h'.push { cls:=.type "tuple",data:=.seq its.toArray } } :=
   I1.laid (t':=s.toks) (λb o e=>Rk _ e) (Rx _) (show ObjOk X.prog X.w _ _ _ (.tup ys)from⟨hz,its,r',ZS.new _ _⟩)
  exact⟨.ref h'.objs.size,_,I2,rfl,q _ (I1.hok.fresh (Rx _))⟩
 .obtain⟨its,r',pl,hz⟩:=I.tuple hq
  exact call_tuple_same pl ⟨.ref p,H,I,rfl,q⟩
def tyV(K:Rw)(T:String)(x:V)(H:Hp):Prop:=match x with
 | .str _=>T="str"
 | .int _=>T="int"
 | .ref p=>(T="list"/\∃xs,SqL K H p xs)\/(T="tuple"/\∃o,K.lookup p=Z_ o/\o.cls=.type "tuple"/\o.dict=Yt) \/
  (T="dict"/\((∃kvs ep,H p=Z_ (.dK kvs ep))\/∃kvs,H p=Z_ (.dT kvs)))\/(T="set"/\∃S n,H p=Z_ (.set S n))
 | _=>False
def Jm{pins:List (Addr×Obj)}{σ:St}{H:Hp}{s:Rr}{T:String}{x:V}{v:Rm}(I:Inv X pins σ H s)(r:RelV x v)(ty:tyV X.K T x H) :
 s.TypeIs v T/\∀a,v=.ref a->∃ob,s.heap.get? a=Z_ ob/\ob.dict=Yt:=by
 cases x with
 | str z=>
   obtain⟨t,rfl⟩:=r;cases (show T="str" from ty);exact⟨typeIs_str s z t,λ_ e=>nomatch e⟩
 | int i=>
   obtain⟨t,rfl⟩:=r;cases (show T="int" from ty);exact⟨typeIs_int s i t,λ_ e=>nomatch e⟩
 | ref p=>
   cases r;rcases ty with⟨rfl,xs,hq⟩ | ⟨rfl,o,hk,hc,hd⟩ | ⟨rfl,hk⟩ | ⟨rfl,S,n,hk⟩
   .obtain⟨its,_,pl,_⟩:=I.list hq
    refine⟨pl.isList.typeIs,λa e=>?_⟩;cases e;obtain⟨o,n,e,c,hd,_⟩:=pl;exact⟨o,e,hd⟩
   .refine⟨⟨o,I.kIn p o hk,hc⟩,λa e=>?_⟩
    cases e;exact⟨o,I.kIn _ o hk,hd⟩
   .have z:∃o,s.heap.get? p=Z_ o/\o.ExactDict:=by
     rcases hk with⟨kvs,ep,hk⟩ | ⟨kvs,hk⟩
     .obtain⟨_,_,_,_,o,_,e,ex,_⟩:=I.hok p _ hk
      exact⟨o,e,ex⟩
     .obtain⟨_,_,_,_,o,_,_,e,ex,_⟩:=I.hok p _ hk
      exact⟨o,e,ex⟩
    obtain⟨o,e,ex⟩:=z;refine⟨⟨o,e,ex.1⟩,λa e2=>?_⟩;cases e2;exact⟨o,e,ex.2.1⟩
   .obtain⟨o,_,_,_,e,ex,_⟩:=I.hok p _ hk
    refine⟨⟨o,e,ex.1⟩,λa e2=>?_⟩;cases e2;exact⟨o,e,ex.2.1⟩
 | _=>exact SX ty
def tBM(K:Rw)(T:String)(r:V->List V->Hp->VK->Prop)(to:TE)(t:TA):TE:=fun σ H Q=>to σ H λx H1=>tyV K T x H1/\t σ H1 λxs H2=>r x xs H2 Q
variable{o e:Expr}{es:List Expr}{to:TE}{t:TA}{name:Str}{apos cpos:Pos}{T id:String}{r:V->List V->Hp->VK->Prop}
noncomputable def O5(pa:PlainAttrs T)(slot:Slot T name id)(hty:typeOf (.builtin id)=pure (.type "method_descriptor"))(hm:MtR X id r)(ho:PE X o to)(ha:PA X (e::es) t)
 (hbase:Yu o name X.env (Vl o X.env)=Vl o X.env:=by rfl)
 (hfew:((Xg cpos (SJ (e::es) X.env)).all (λx=>!x.1)&&(a0k cpos (Zy [] X.env)).all (λx=>x.1.isSome)
  && decide ((e::es).length+([]:List YJ).length+(if([]:List YJ).isEmpty then 0 else 1)<30))=Y_:=by rfl)
 (hline:(apos.endLine==cpos.line)=Y_:=by rfl) (hs:SJ (e::es) X.env=(Zd,Vl e X.env)::SJ es X.env:=by rfl) (hplain:(Xg cpos (SJ es X.env)).any (·.1)=Zd:=by rfl) :
 PE X (.Call (.Attribute o name apos) (e::es) [] cpos) (tBM X.K T r to t):=by
 intro pins s σ H Q I h;refine wpAny_Call_method_late hbase hfew hline rfl (thn (ho pins s σ H _ I h) λv s1 ⟨x,H1,I1,r1,ty,q1⟩=>?_);obtain⟨h1,h2⟩:=Jm I1 r1 ty;refine⟨T,id,pa,slot,hty,h1,h2,?_⟩;have hA:=ha cpos pins s1 σ H1 _ I1 q1;rw[hs]at hA ⊢;refine Calls.callWith_builtin (by show(Zd||(Xg cpos (SJ es X.env)).any (·.1))=Zd;rw[hplain]<;>rfl) (Calls.evalArgs_plain ?_)
 exact thn hA λus s2 ⟨vs,H2,I2,r2,q2⟩=>hm pins s2 σ H2 x vs v us Q I2 r1 r2 q2
end
def MtM(X:Cx)(id:String)(r:V->List V->Hp->VK->Prop):Prop :=
 ∀(pins:List (Addr×Obj)) (s:Rr) (σ:St) (H:Hp) (x:V) (xs:List V) (v:Rm) (us:List Rm) (Q:VK),Inv X pins σ H s->RelV x v->Vals xs us->r x xs H Q ->
  RG (RQ X.prog X.w) X.A (call (.builtin id) (v::us)) (EP X pins σ Q) X.xe s
def Vals.one:∀{x:V}{us:List Rm},Vals [x] us->∃u,us=[u]/\RelV x u
 | _,_,.cons r .nil=>⟨_,rfl,r⟩
section
variable{X:Cx}{pins:List (Addr×Obj)}{σ:St}{H:Hp}{s:Rr}{l b:Addr}{xs ys zs:List V}
def Inv.lset{its its':List Rm}{n:Nat}{f:Array Rm->Array Rm}{t':Nat}(I:Inv X pins σ H s)(hH:H l=Z_ (.lst xs))
 (e:s.heap.get? l=Z_ { cls:=.type "list",data:=.seq its.toArray n })(hf:f its.toArray=its'.toArray)(hv:Vals ys its')(hz:ys.length<=sizeLine) :
 Inv X pins σ (upd H l (.lst ys)) { s with heap:=s.heap.update l (Vz f),toks:=t' }:=by
 have q:=PySem.IsL.update e f;rw[hf]at q;refine I.write (x:=l) (e:=l) (by rw[hH];exact trivial) (.inl rfl) (λb' u hb hu=>(Ua s.heap (Vz f) (Vr hb)).trans hu) ⟨_,q⟩ ?_;exact⟨hz,its',_,hv,q⟩
def Inv.lnew(I:Inv X pins σ H s)(hv:Vals ys its)(hz:ys.length<=sizeLine) :
 Inv X pins σ (upd H s.heap.objs.size (.lst ys)) { s with heap:=s.heap.push { cls:=.type "list",data:=.seq its.toArray },toks:=t' } :=
 I.laid (λ_ _ q=>Rk _ q) (Rx _) ⟨hz,its,0,hv,RD _ rfl⟩
def Inv.fresh(I:Inv X pins σ H s):H s.heap.objs.size=Yt:=I.hok.fresh (Rx _)
def Inv.lstM(I:Inv X pins σ H s)(hH:H l=Z_ (.lst xs)):xs.length<=sizeLine/\∃(its:List Rm)(n:Nat),Vals xs its/\xs.length=its.length/\s.heap.get? l=Z_ { cls:=.type "list",data:=.seq its.toArray n }:=by
 obtain⟨z,its,n,r,e⟩:=I.hok l _ hH;exact⟨z,its,n,r,r.length,e⟩
def zM(h:n<=sizeLine):S8.List.listTooLong n=Zd:=by
 unfold S8.List.listTooLong;exact decide_eq_false (by omega)
end
section
variable{X:Cx}
def HD:V->List V->Hp->VK->Prop:=λx vs H Q=>∃l xs y,x=.ref l/\vs=[y]/\H l=Z_ (.lst xs)/\xs.length<sizeLine/\Q .non (upd H l (.lst (xs++[y])))
theorem nJ:MtM X "list.append" HD:=by
 intro pins s σ H x vs v us Q I rx rv h;obtain⟨l,xs,y,rfl,rfl,hH,hz,q⟩:=h;cases rx;obtain⟨u,rfl,ru⟩:=rv.one;obtain⟨z,its,n,r,hl,e⟩:=I.lstM hH;refine call_meets F.slot_list_append ⟨_,e,rfl⟩ F.entry_list_append (F.args_list_append_2 _ _) (PySem.list_append l its.toArray n u (by rw[RM];omega)) ⟨e,?_⟩;refine⟨.non,_,I.lset (its':=its++[u]) hH e (by simp) (r.append (.cons ru .nil)) ?_,rfl,q⟩;rw[RJ,Uk];omega
def Gv:V->List V->Hp->VK->Prop:=λx vs H Q=>∃l b xs zs,x=.ref l/\vs=[.ref b]/\H l=Z_ (.lst xs)/\H b=Z_ (.lst zs)/\xs.length+zs.length<=sizeLine/\Q .non (upd H l (.lst (xs++zs)))
theorem vf:MtM X "list.extend" Gv:=by
 intro pins s σ H x vs v us Q I rx rv h;obtain⟨l,b,xs,zs,rfl,rfl,hH,hB,hz,q⟩:=h;cases rx;obtain⟨u,rfl,ru⟩:=rv.one;cases ru;obtain⟨z,its,n,r,hl,e⟩:=I.lstM hH;obtain⟨z2,its2,n2,r2,hl2,e2⟩:=I.lstM hB
 have hsz:its.toArray.size+its2.toArray.size<=sizeLine:=by rw[RM,RM];omega
 have hlong:¬(!its.toArray.isEmpty&&S8.List.listTooLong (its.toArray.size+its2.toArray.size))=Y_:=by
  rw[zM hsz,Bool.and_false];exact S9
 refine call_meets F.slot_list_extend ⟨_,e,rfl⟩ F.entry_list_extend (F.args_list_extend_2 _ _)
  (AutoSeq1.list_extend_list_list_0 l its.toArray n b its2.toArray n2 hlong (by rw[RM];omega) (by omega)) ⟨e,e2,?_⟩
 refine⟨.non,_,I.lset (its':=its++its2) hH e (by simp) (r.append r2) ?_,rfl,q⟩;rw[RJ];omega
end
end L2
namespace Att
open PySem PySem.W PySem.Calls PyProof.Rows
def iV:∀(ns:List Int)(vs:List Rm),WellAll P h vs (ns.map WData.int)->Wz vs ns:=by
 intro ns
 induction ns with
 | nil=>
   intro vs w;rw[Ti]at w;cases w;exact .nil
 | cons n ns ih=>
   intro vs w;rw[Ro]at w
   cases w with
   | cons a b=>
     cases a;exact .cons _ _ (ih _ b)
def xx{l:OpenLaw}{n:Nat}(hn:l.most=Z_ n){P:Params}{h:Rz}{args:List WData}{vals:List Rm}
 (hpre:l.row.toRowW.claim.pre args=Y_)(hwl:WellAll P h vals args) :
 ∃a vs ns,vals=[Us a]/\args=[WData.list (ns.map WData.int)]/\h.get? a=Z_ { cls:=.type "list",data:=.seq vs.toArray }/\Wz vs ns/\ns.length<=n:=by
 have hsh:WShape.hasAll [] args [.list .int]=Y_:=(pre_splitW hpre).1;have hc:l.pre.holds [] { args:=args }=Y_:=(pre_splitW hpre).2;obtain⟨d,r,rfl,h1,h2⟩:=hasAllW_cons hsh;obtain rfl:=hasAllW_nil h2;obtain⟨xs,rfl,h3⟩:=hasW_list h1;obtain⟨ns,rfl⟩:=items_int h3
 have hlen:ns.length<=n:=by
  unfold OpenLaw.pre at hc
  have h4:(WTm.not (.lt (.lit (.int (n:Int))) (.len (.arg 0)))).holds [] { args:=[.list (ns.map .int)] }=Y_:=by
   have h4:=(holds_andW hc).1;rw[hn]at h4;exact h4
  have h5:=condW_of h4 (w_not (w_lt w_lit (w_len_list (w_arg rfl))));rw[Rq]at h5
  refine Nat.le_of_not_lt λq=>?_
  have q':(n:Int)<((ns.length:Nat):Int):=by omega
  first
   | (rw[decide_eq_true q']at h5;exact absurd h5 (by decide))
   | (simp at h5;omega)
 cases hwl with
 | cons w1 w2=>
   cases w2
   cases w1 with
   | list ho hall=>exact⟨_,_,ns,rfl,rfl,ho,iV ns _ hall,hlen⟩
def yr(l:OpenLaw)(args:List WData):l.row.toRowW.claim.post args (.bool Y_) args=Y_ :=
 postW_of (r:=l.row.toRowW) (X:=(Y_==Y_))
  (show WShape.has [] (.bool Y_) .bool=Y_ by first | rfl | decide | simp[WShape.has,WShape.arms,WShape.armsAll])
  (show(WTm.eq .res (.lit (.bool Y_))).value [] { args:=args,res:=Z_ (.bool Y_),after:=args }=Z_ (.bool (Y_==Y_))from w_eq_bool (w_res rfl) w_lit) rfl
def attach_call{l:OpenLaw}{n:Nat}{q:Sx}{loose:List Str}{XP:(Str->Option Rm)->Rz->Prop}{YP:Th->Rz->Prop}{d:DefRec}
 (hn:l.most=Z_ n)(hdf:d.params.defaults=[])
 (call:∀(w:Th)(s₀ s₁:Rr)(mg mb:Str->Option Rm)(fa:Addr)(o:Obj)(pm cd doc:Rm)(a:Addr)(vs:List Rm)(ns:List Int),
  Ground q loose [] XP w s₀ mg mb s₁.heap->YP w s₁.heap ->
  s₁.heap.get? fa=Z_ o->o.data=.func (docDef d.name d.params d.body d.scope pm cd doc)->s₁.heap.CodeRec cd d.name->mg d.name=Z_ (.ref fa) ->
  s₁.heap.get? a=Z_ { cls:=.type "list",data:=.seq vs.toArray }->Wz vs ns->ns.length<=n->s₁.gens=#[] ->
  Yc (RQ l.prog w) Z6 (.call (.ref fa) ⟨[.ref a],[]⟩) (λr s'=>r=.ok (.ret (.bool Y_))/\OldK s₁.heap s'.heap/\s'.os=s₁.os/\YL s'.gens) s₁) :
 WalkO q loose XP YP l.row.toRowW d [] (λf vs=>PySem.call f vs):=by
 intro w s₀ s₁ mg mb G Y fa o pm cd doc dV kV ho hd hcd hD hmg hg args vals as hpre hlay hrd hwl hlo;obtain rfl:dV=.none:=Dflts.none hD hdf;obtain rfl:kV=.none:=Dflts.noKw hD;obtain⟨a,vs,ns,rfl,rfl,hobj,hints,hlen⟩:=xx hn hpre hwl;refine enter_call (Yb (call w s₀ s₁ mg mb fa o pm cd doc a vs ns G Y ho (fd_plain hd) hcd hmg hobj hints hlen hg) λr s' hq=>?_);obtain⟨rfl,h2,h3,h4⟩:=hq;exact⟨.inl ⟨.bool Y_,.bool Y_,[],rfl,λ_=>rfl,.bool Y_,yr l _,λ_=>⟨List.Pairwise.nil,λ_ hm=>(nomatch hm)⟩⟩,h2,h3,h4⟩
end Att
namespace L2
open PySem PySem.Spec PyProof.Rows
theorem dI:∀{vs:List Rm}{ns:List Int},Wz vs ns->Vals (ns.map V.int) vs
 | _,_,.nil=>.nil
 | _,_,.cons n t h=>.cons ⟨t,rfl⟩ (dI h)
def Only(H:Hp):Prop:=∀b,H b=Yt\/∃o xs,H b=Z_ (.frz o (.lst xs))
def Bp{P:Sx}{w:Th}{K:Rw}{mg mb:Str->Option Rm}{CX:CXT}{k:Nat}{fa a:Addr}{fd:Wr}{x:Str}{sp:Sp}{s₁:Rr}{vs:List Rm}{ns:List Int}
 (KX:K.In s₁.heap)(hns:s₁.heap.Ns Vb mg)(hb:s₁.heap.Ns builtinsNs mb)(hbb:∀x:Str,x≠"__name__"->mb x=Vu x)(hlim:s₁.heap.NoLimit)(hg:s₁.gens=#[])
 (ha:s₁.heap.get? a=Z_ { cls:=.type "list",data:=.seq vs.toArray })(hi:Wz vs ns)(hl:ns.length<=sizeLine)(hr:Room k Z6)
 (F:∀base:Rz,K.In base->base.Ns Vb mg->FnOk P w K mg base CX k fa fd [x] sp)(hbind:∀(s:Rr)(u:Rm),Zr s fd ⟨[u],[]⟩ [(x,u)])
 (hsp:∀H:Hp,Only H->SqL K H a (ns.map V.int)->sp [.ref a] H (λv _=>v=.bl Y_) λ_ _ _=>False)
 (hCX:∀H e s',CX [] H s₁ (λ_ _ _=>False) e s'->False) :
 Yc (RQ P w) Z6 (.call (.ref fa) ⟨[.ref a],[]⟩) (λr s'=>r=.ok (.ret (.bool Y_))/\OldK s₁.heap s'.heap/\s'.os=s₁.os/\YL s'.gens) s₁:=by
 have rv:=dI hi;have lenV:=hi.length
 have core:∀H:Hp,Only H->SqL K H a (ns.map V.int)->HOk P w H s₁.heap->(∀b,H b≠none->b=a)->(H a≠none->K.lookup a=Yt) ->
  Yc (RQ P w) Z6 (.call (.ref fa) ⟨[.ref a],[]⟩) (λr s'=>r=.ok (.ret (.bool Y_))/\OldK s₁.heap s'.heap/\s'.os=s₁.os/\YL s'.gens) s₁:=by
  intro H hO hS hok hA hK
  have fX:∀{b:Addr}{o:Obj},s₁.heap.get? b=Z_ o->H b=Yt->(hidT s₁.heap H).get? b=Z_ o:=λe n=>zz e n
  have noA:∀{b:Addr}{o:Obj}{es:Array DictEntry}{ep:Nat},s₁.heap.get? b=Z_ o->o.data=.dict es ep->H b=Yt:=λ{b o es ep} e d=>by
   cases q:H b with
   | none=>rfl
   | some u=>
     have e':b=a:=hA b (by rw[q];simp);subst e';rw[ha]at e;cases e;have d':Data.seq vs.toArray _=Data.dict es ep:=d;cases d'
  have nsK:∀{b:Addr}{m:Str->Option Rm},s₁.heap.Ns b m->(hidT s₁.heap H).Ns b m:=λ{b m} ⟨o,es,ep,e,d,r⟩=>⟨o,es,ep,fX e (noA e d),d,r⟩
  have hKb:K.In (hidT s₁.heap H):=λb o e=>fX (KX b o e) (by
   cases q:H b with
   | none=>rfl
   | some u=>
     have e':b=a:=hA b (by rw[q];simp);subst e'
     rw[hK (by rw[q];simp)]at e;cases e)
  have hM:Mod K mg (hidT s₁.heap H):=⟨hKb,nsK hns,⟨mb,nsK hb,hbb⟩,let⟨mc,h1,h2⟩:=hlim;⟨mc,nsK h1,h2⟩⟩
  have e0:Env0 P w K mg (hidT s₁.heap H) Z6 [] s₁ H:=⟨rfl,hM,λb o e=>Gf e,Nat.le_of_eq (uv _ _),trivial,λb hb=>absurd (show b∈([]:List Addr)from hb) (by simp),hok,.of_eq hg⟩
  refine Yb ((F _ hKb (nsK hns)).run Z6 [] s₁ H ⟨[.ref a],[]⟩ [.ref a] [.ref a] _ _ hr e0 (hbind s₁ (.ref a)) (.cons rfl .nil) (hsp H hO hS)) λr s' h=>?_
  cases r with
  | error e=>exact(hCX H e s' h).elim
  | ok fl=>
    cases fl with
    | next=>exact SX h
    | brk=>exact SX h
    | cont=>exact SX h
    | ret u=>
      obtain⟨v,H',os,bare,un,hok',r',q⟩:=h;have q':v=.bl Y_:=q;subst q';obtain rfl:u=Xl Y_:=r';refine⟨rfl,OldK.of_keep λb o e=>?_,os,bare⟩
      cases q:H b with
      | none=>exact un.keep b o e q (by intro z;exact absurd (show b∈([]:List Addr)from z) (by simp)) (by simp)
      | some u=>
        rcases hO b with z | ⟨ob,xs,z⟩
        .rw[q]at z;cases z
        .have z2:=un.frzs b ob _ z
         obtain⟨e1,_⟩:=hok b _ z;obtain⟨e2,_⟩:=hok' b _ z2;rw[e]at e1;cases e1;exact e2
 cases hk:K.lookup a with
 | some o=>
   have e:=KX a o hk;rw[ha]at e;cases e
   refine core (λ_=>none) (λ_=>.inl rfl) (.inr ⟨_,vs.toArray,_,hk,rfl,rfl,rfl,by rw[RM,lenV];exact hl,by simpa using rv⟩) (λb u z=>by have z':(Yt:Option HO)=Z_ u:=z;cases z') (λb z=>absurd rfl z) λz=>absurd rfl z
 | none=>
   refine core (λb=>if b=a then some (.frz { cls:=.type "list",data:=.seq vs.toArray } (.lst (ns.map V.int)))else none) (λb=>?_) (.inl (.inr ⟨{ cls:=.type "list",data:=.seq vs.toArray },if_pos rfl⟩)) (λb u z=>?_) (λb z=>?_) λ_=>hk
   .by_cases hb:b=a
    .exact .inr ⟨_,_,if_pos hb⟩
    .exact .inl (if_neg hb)
   .by_cases hb:b=a
    .have z':=(if_pos hb).symm.trans z
     cases z';subst hb;exact⟨ha,by rw[Rq];exact hl,vs,_,rv,ha⟩
    .have z':=(if_neg hb).symm.trans z
     cases z'
   .by_cases hb:b=a
    .exact hb
    .exact absurd (if_neg hb) z
def walk_of{l:PySem.W.OpenLaw}{n k:Nat}{q:Sx}{loose:List Str}{XP:(Str->Option Rm)->Rz->Prop}{YP:Th->Rz->Prop}{d:DefRec}{K:Params->Rw}{CX:Th->CXT}{sp:Th->Sp}{x:Str}
 (hn:l.most=Z_ n)(hn2:n<=sizeLine)(hdf:d.params.defaults=[])(hr:Room k Z6)
 (hY:∀(w:Th)(h:Rz),YP w h->(K w.params).In h)
 (F:∀(w:Th)(mg:Str->Option Rm)(fa:Addr)(h:Rz),(K w.params).In h->h.Ns Vb mg->mg d.name=Z_ (.ref fa) ->
  ∃fd:Wr,(∀(s:Rr)(u:Rm),Zr s fd ⟨[u],[]⟩ [(x,u)]) /\
   ∀base:Rz,(K w.params).In base->base.Ns Vb mg->FnOk l.prog w (K w.params) mg base (CX w) k fa fd [x] (sp w))
 (hsp:∀(w:Th)(H:Hp)(a:Addr)(ns:List Int),ns.length<=n->Only H->SqL (K w.params) H a (ns.map V.int)->sp w [.ref a] H (λv _=>v=.bl Y_) λ_ _ _=>False)
 (hCX:∀(w:Th)(H:Hp)(s:Rr)(e:Rm)(s':Rr),CX w [] H s (λ_ _ _=>False) e s'->False) :
 PySem.W.WalkO q loose XP YP l.row.toRowW d [] (λf vs=>PySem.call f vs):=by
 refine Att.attach_call hn hdf λw s₀ s₁ mg mb fa o pm cd doc a vs ns G Y ho hd hcd hmg hobj hints hlen hg=>?_
 have KX:=hY w _ Y;obtain⟨fd,hb,hF⟩:=F w mg fa _ KX G.T.g hmg
 exact Bp KX G.T.g G.T.b G.T.builtins G.T.nolimit hg hobj hints (RW hlen hn2) hr hF hb (λH hO hS=>hsp w H a ns hlen hO hS) λH e s'=>hCX w H s₁ e s'
noncomputable def bH(s:Stmt):Arguments:=match s with
 | .FunctionDef _ a _ _ _ _ _ _ _ _=>a
 | _=>{ posonlyargs:=[],args:=[],vararg:=Yt,kwonlyargs:=[],kw_defaults:=[],kwarg:=Yt,defaults:=[] }
noncomputable def b8(s:Stmt):List Stmt:=match s with
 | .FunctionDef _ _ b _ _ _ _ _ _ _=>b
 | _=>[]
noncomputable def aD(s:Stmt):Scope:=match s with
 | .FunctionDef _ _ _ _ _ _ sc _ _ _=>sc
 | _=>{ kind:=.function,names:=[],isGenerator:=Zd,isCoroutine:=Zd }
abbrev CX0:CXT:=λ_ _ _ _ _ _=>False
abbrev E0:XK:=λ_ _ _=>False
def Jk:tZ CX0 X E0:=λ_ _ _ _ _ _ _ h=>h.elim
structure Fun(K:Rw)(x qual:Str)(st:Stmt)(f:Addr)(fd:Wr):Prop where
 ex:∃(oc:Rm)(od:Option Addr)(kV doc pm:Rm)(an:Option Addr)(cdv ct:Rm)(osl:Array (Option Rm))(dV:Rm),
  fd=Ui x qual (bH st) (b8 st) (aD st) dV kV doc pm an cdv ct/\K.lookup f=Z_ ⟨oc,od,.func fd,osl⟩/\Yv K cdv qual=Y_
 kp:Uz K (.ref f)=Y_
section
variable{P:Sx}{w:Th}{K:Rw}{mg:Str->Option Rm}{base:Rz}
def Fun.ok{x qual:Str}{st:Stmt}{f:Addr}{fd:Wr}{N ps:List Str}{k:Nat}{sp:Sp}(F:Fun K x qual st f fd)(S:FnScope N ps (aD st))(len:∀vs H Q E,sp vs H Q E->vs.length=ps.length)
 (hbody:∀(cdv:Rm)(A:Tu)(outer:List Env)(s:Rr)(H:Hp)(vs:List V)(Q:VK)(E:XK),Room k (A.deeper (YG qual (aD st) s.heap.objs.size f cdv))->sp vs H Q E ->
  ∃t,PSs (cxOf CX0 P w K mg base N qual (aD st) f cdv A outer s H E).nox (b8 st) t/\t { nx:=λ_ H'=>Q .non H',rt:=Q } (start N vs) H):FnOk P w K mg base CX0 (k+1) f fd ps sp:=by
 obtain⟨oc,od,kV,doc,pm,an,cdv,ct,osl,dV,rfl,lk,hcd⟩:=F.ex
 refine PP lk hcd S len λA outer s H vs Q E hr hsp=>?_
 obtain⟨t,h,q⟩:=hbody cdv A outer s H vs Q E hr hsp;exact⟨t,h.nox,q⟩
def Dl{x qual:Str}{st:Stmt}{f:Addr}{oc:Rm}{od an:Option Addr}{osl:Array (Option Rm)}{dV kV doc pm cdv ct:Rm}(l:K.lookup f=Z_ ⟨oc,od,.func (Ui x qual (bH st) (b8 st) (aD st) dV kV doc pm an cdv ct),osl⟩)
 (c:Yv K cdv qual=Y_)(k:Uz K (.ref f)=Y_):Fun K x qual st f (Ui x qual (bH st) (b8 st) (aD st) dV kV doc pm an cdv ct):=⟨⟨oc,od,kV,doc,pm,an,cdv,ct,osl,dV,rfl,l,c⟩,k⟩
end
def vL(hr:Room k A):A.units+1<Y8:=TX (Nat.add_le_add_left (by decide:1<=64) _) hr.units
section
variable{X:Cx}
def xV:CallR X (.builtin "len") (λxs H Q=>∃a kvs ep,xs=[V.ref a]/\H a=Z_ (.dK kvs ep)/\Q (.int kvs.length) H):=by
 intro pins s σ H xs us Q I r h;obtain⟨a,kvs,ep,rfl,ha,q⟩:=h;obtain⟨u,rfl,ru⟩:=vals1 r;cases ru
 exact QD I ⟨ep,.inl ha⟩ λt s' I'=>⟨.int kvs.length,H,I',⟨t,rfl⟩,q⟩
end
def Same(H H':Hp):Prop:=∀b o,H b=Z_ o->H' b=Z_ o
def Same.refl(H:Hp):Same H H:=λ_ _ h=>h
def Same.trans(a:Same H H1)(b:Same H1 H2):Same H H2:=λc o h=>b c o (a c o h)
def Same.free(e:Same H H')(h:H' l=Option.none):H l=Option.none:=by
 cases q:H l with
 | none=>rfl
 | some o=>
   rw[e l o q]at h;cases h
def Same.seq{K:Rw}{H H':Hp}{a:Addr}{xs:List V}(e:Same H H')(h:SqL K H a xs):SqL K H' a xs:=by
 rcases h with(h | ⟨o,h⟩) | h
 .exact .inl (.inl (e _ _ h))
 .exact .inl (.inr ⟨o,e _ _ h⟩)
 .exact .inr h
end L2
namespace TS
open PySem PyProof.Rows
def Up(xs:Array Keyed)(lo hi:Nat):Prop:=∀i j,lo<=i->i<j->j<hi->K xs i<K xs j
def Dif(a:Array Keyed):Prop:=(a.toList.map λp=>ZJ p.1).Nodup
structure FB(a:Array Keyed)(P:Array (Nat×Nat×Nat))(lo:Nat)(f:Nat->Int)(st:SortSt):Prop where
 perm:(Su st).Perm a
 kind:kindOf st=WT
 ok:W3 st=Yt
 pend:Tp st=P
 pre:∀i,i<lo->K (Su st) i=f i
section
variable{a:Array Keyed}{P:Array (Nat×Nat×Nat)}{lo:Nat}{f:Nat->Int}{st:SortSt}
def FB.size(h:FB a P lo f st):(Su st).size=a.size:=h.perm.size_eq
def FB.arr(h:FB a P lo f st)(hp:xs.Perm (Su st))(hk:∀i,i<lo->K xs i=K (Su st) i):FB a P lo f (ZW st xs) :=
 ⟨hp.trans h.perm,h.kind,h.ok,h.pend,λi hi=>(hk i hi).trans (h.pre i hi)⟩
def K_at(hi:i<xs.size):K xs i=ZJ xs[i].1:=by
 unfold K;rw[getElem?_pos xs i hi]
def K_ne(hp:xs.Perm a)(hd:Dif a)(hi:i<xs.size)(hj:j<xs.size)(hij:i≠j):K xs i≠K xs j:=by
 have hn:(xs.toList.map λp=>ZJ p.1).Nodup:=((Vy.mp hp).map _).nodup_iff.mpr hd;rw[K_at hi,K_at hj];intro e
 have h1:(xs.toList.map λp=>ZJ p.1)[i]?=(xs.toList.map λp=>ZJ p.1)[j]?:=by
  simp[hi,hj,e]
 exact hij ((List.getElem?_inj (by simp[hi]) hn).mp h1)
def int_at{xs:Array Keyed}(hp:xs.Perm a)(h0:IntKeys a){i:Nat}(hi:i<xs.size):∃t q,xs[i]?=Z_ (.int (K xs i) t,q):=by
 have hm:xs[i]∈a.toList:=(Vy.mp hp).mem_iff.mp (by simp);obtain⟨n,t,hn⟩:=h0 _ hm;refine⟨t,xs[i].2,?_⟩;rw[K_at hi,getElem?_pos xs i hi,hn];exact congrArg some (Prod.ext hn rfl)
end
section
variable{prog:Sx}{w:Th}{A:Tu}{E:Rm->Rr->Prop}{s:Rr}{a:Array Keyed}{P:Array (Nat×Nat×Nat)}{lo:Nat}{f:Nat->Int}{st:SortSt}
def w_lt{i j:Nat}{Q:Option Bool->SortSt->Prop}(hB:FB a P lo f st)(h0:IntKeys a)(hi:i<a.size)(hj:j<a.size)(h:Q (Z_ (decide (K (Su st) i<K (Su st) j))) st):wpS (RQ prog w) A E s (ltAt' i j) Q st:=by
 obtain⟨t,p,e1⟩:=int_at hB.perm h0 (i:=i) (by rw[hB.size];exact hi);obtain⟨u,q,e2⟩:=int_at hB.perm h0 (i:=j) (by rw[hB.size];exact hj);exact wpS_ltAt hB.kind e1 e2 h
theorem Up.one:Up xs lo (lo+1):=λi j h1 h2 h3=>by omega
theorem Up.snoc(h:Up xs lo (lo+n))(h1:1<=n)(hk:K xs (lo+n-1)<K xs (lo+n)):Up xs lo (lo+(n+1)):=λi j a1 a2 a3=>by
 by_cases hj:j=lo+n
 .subst hj
  by_cases hi:i=lo+n-1
  .subst hi;exact hk
  .exact WM (h i (lo+n-1) a1 (by omega) (by omega)) hk
 .exact h i j a1 a2 (by omega)
theorem Jw(h0:IntKeys a)(hd:Dif a)(hB:FB a P lo f st)(h1:1<=n0)(hn:n0<=nrem)(hl:lo+nrem<=a.size)(hu:Up (Su st) lo (lo+n0))
 (h:∀n,n0<=n->n<=nrem->Up (Su st) lo (lo+n)->(n<nrem->K (Su st) (lo+n)<K (Su st) (lo+n-1))->Q (Yt,n) st) :
 wpS (RQ prog w) A E s (Zz [n0:nrem] ((Yt,n0):Option (Option Nat)×Nat) λ_ r=>do
  let x <-ltAt' (lo+r.2) (lo+r.2-1)
  match x with
  | some smaller=>if smaller=Y_ then pure (Yo (Yt,r.2))else pure (WD (Yt,r.2+1))
  | _=>pure (Yo (Z_ none,r.2))) Q st:=by
 refine Ud (I:=λx c st'=>st'=st/\c=(Yt,x)/\Up (Su st) lo (lo+x)) ?_ ?_ ⟨rfl,rfl,hu⟩
 .rintro x c st' hx1 hx2 ⟨rfl,rfl,hux⟩
  refine RN (w_lt hB h0 (by omega) (by omega) ?_);dsimp only
  by_cases hk:K (Su st') (lo+x)<K (Su st') (lo+x-1)
  .simp only[decide_eq_true hk,if_true]
   exact RV (h x hx1 (by omega) hux λ_=>hk)
  .simp only[decide_eq_false hk,Rv,if_false]
   refine RV ⟨rfl,rfl,hux.snoc (by omega) ?_⟩;have hne:=K_ne hB.perm hd (i:=lo+x) (j:=lo+x-1) (by rw[hB.size];omega) (by rw[hB.size];omega) (by omega);omega
 .rintro c st' ⟨rfl,rfl,hux⟩
  rw[show max n0 nrem=nrem by omega]at hux ⊢
  exact h nrem hn (Rx _) hux λz=>by omega
end
section
variable{prog:Sx}{w:Th}{A:Tu}{E:Rm->Rr->Prop}{s:Rr}{a:Array Keyed}{P:Array (Nat×Nat×Nat)}{lo:Nat}{f:Nat->Int}{st:SortSt}
def Dn(xs:Array Keyed)(lo hi:Nat):Prop:=∀i j,lo<=i->i<j->j<hi->K xs j<K xs i
theorem w_count(h0:IntKeys a)(hd:Dif a)(hB:FB a P lo f st)(hn:1<=nrem)(hl:lo+nrem<=a.size)
 (h:∀m st',FB a P lo f st'->1<=m->m<=nrem->Up (Su st') lo (lo+m)->Q (Z_ m) st'):wpS (RQ prog w) A E s (countRun' lo nrem) Q st:=by
 rw[countRun'_eq];refine RN (Jw h0 hd hB (Rx 1) hn hl Up.one λn n1 n2 hu hk=>?_);dsimp only
 by_cases e1:n=nrem
 .rw[if_pos (by simp[e1])]
  exact RV (h n st hB n1 n2 hu)
 rw[if_neg (by simp[e1])];have hk:=hk (by omega)
 by_cases e2:n>1
 .rw[if_pos e2]
  refine RN (w_lt hB h0 (by omega) (by omega) ?_);dsimp only;have:K (Su st) lo<K (Su st) (lo+n-1):=hu lo (lo+n-1) (Rx _) (by omega) (by omega);rw[decide_eq_true this,if_pos rfl];exact RV (h n st hB n1 n2 hu)
 rw[if_neg e2]
 have en:n=1:=by omega
 subst en;refine RN (Yz (UV ⟨rfl,?_⟩));refine RN (Ul (Ud (I:=λx c st'=>st'=st/\c=(Yt,x,0)/\Dn (Su st) lo (lo+x)) (Q:=λc st'=>st'=st/\∃x,c=(Yt,x,0)/\2<=x/\x<=nrem/\Dn (Su st) lo (lo+x)) ?step ?fin ?init) ?post)
 case init=>
  refine⟨rfl,rfl,λi j a1 a2 a3=>?_⟩
  have:i=lo:=by omega
  have:j=lo+1:=by omega
  subst i j;exact hk
 case fin=>
  rintro c st' ⟨rfl,rfl,hux⟩
  exact⟨rfl,_,rfl,by omega,by omega,hux⟩
 case step=>
  rintro x c st' hx1 hx2 ⟨rfl,rfl,hux⟩
  dsimp only;refine RN (w_lt hB h0 (by omega) (by omega) ?_);dsimp only
  by_cases hk:K (Su st') (lo+x)<K (Su st') (lo+x-1)
  .simp only[decide_eq_true hk,if_true,VV,gt_iff_lt,if_false]
   refine RV ⟨rfl,rfl,λi j a1 a2 a3=>?_⟩
   by_cases hj:j=lo+x
   .subst hj
    by_cases hi:i=lo+x-1
    .subst hi;exact hk
    .exact WM hk (hux i (lo+x-1) a1 (by omega) (by omega))
   .exact hux i j a1 a2 (by omega)
  .simp only[decide_eq_false hk,Rv,if_false]
   have hne:=K_ne hB.perm hd (i:=lo+x) (j:=lo+x-1) (by rw[hB.size];omega) (by rw[hB.size];omega) (by omega);refine RN (w_lt hB h0 (by omega) (by omega) ?_)
   have hk2:K (Su st') (lo+x-1)<K (Su st') (lo+x):=by omega
   simp only[decide_eq_true hk2,if_true];exact RV ⟨rfl,x,rfl,by omega,by omega,hux⟩
 case post=>
  rintro c st' ⟨rfl,x,rfl,x1,x2,hdn⟩
  dsimp only;rw[if_neg (VV 0)]
  have hsz:lo+x<=(Su st').size:=by rw[hB.size];omega
  rw[reverseSlice'_eq];refine RN (WQ ?_)
  have hB2:FB a P lo f (ZW st' (mirror (Su st') lo (lo+x) ((lo+x-lo)/2))):=hB.arr (mirror_perm _ _ _ _) λi hi=>by rw[K_mirror hsz,if_neg (by omega)]
  have hup:Up (Su (ZW st' (mirror (Su st') lo (lo+x) ((lo+x-lo)/2)))) lo (lo+x):=λi j a1 a2 a3=>by
   show K (mirror (Su st') lo (lo+x) ((lo+x-lo)/2)) i<K (mirror (Su st') lo (lo+x) ((lo+x-lo)/2)) j;rw[K_mirror hsz,K_mirror hsz,if_pos (by omega),if_pos (by omega)];exact hdn _ _ (by omega) (by omega) (by omega)
  refine RN (Jw h0 hd hB2 (by omega) x2 hl hup λn n1 n2 hu hk=>?_);exact RV (h n _ hB2 (by omega) n2 hu)
theorem Kc(h0:IntKeys a)(hd:Dif a)(hB:FB a P lo f st)(hl:lo+n<=a.size)(h1:1<=ok)(hok:ok<=n)(hu:Up (Su st) lo (lo+ok))
 (h:∀st',FB a P lo f st'->Up (Su st') lo (lo+n)->Q Y_ st'):wpS (RQ prog w) A E s (binarySort' lo n ok) Q st:=by
 rw[binarySort'_eq];refine RN (Ul (Ud (I:=λk c st'=>c=(Yt,())/\FB a P lo f st'/\Up (Su st') lo (lo+min k n)) (Q:=λc st'=>c=(Yt,())/\FB a P lo f st'/\Up (Su st') lo (lo+n)) ?step ?fin ?init) ?post)
 case post=>
  rintro c st' ⟨rfl,hB',hs'⟩
  exact RV (h st' hB' hs')
 case init=>exact⟨rfl,hB,by rw[show min (max ok 1) n=ok by omega];exact hu⟩
 case fin=>
  rintro c st' ⟨hc,hB',hs'⟩
  exact⟨hc,hB',by rwa [show min (max (max ok 1) n) n=n by omega]at hs'⟩
 case step=>
  rintro k c st' hak hkn ⟨rfl,hB',hs'⟩
  rw[show min k n=k by omega]at hs';have hz:(Su st').size=a.size:=hB'.size
  refine RN (Ul (Ud (I:=λx c st2=>st2=st'/\∃l r,c=(Yt,l,r)/\l<=r/\r<=k/\r-l<=k-x/\(∀i,i<l->K (Su st') (lo+i)<K (Su st') (lo+k))/\(∀i,r<=i->i<k->K (Su st') (lo+k)<K (Su st') (lo+i)))
   (Q:=λc st2=>st2=st'/\∃l r,c=(Yt,l,r)/\l<=k/\(∀i,i<l->K (Su st') (lo+i)<K (Su st') (lo+k))/\(∀i,l<=i->i<k->K (Su st') (lo+k)<K (Su st') (lo+i))) ?istep ?ifin ?iinit) ?ipost)
  case iinit=>exact⟨rfl,0,k,rfl,by omega,by omega,by omega,λi hi=>by omega,λi h1 h2=>by omega⟩
  case ifin=>
   rintro c st2 ⟨rfl,l,r,rfl,hlr,hrk,hm,hlo,hhi⟩
   have:l=r:=by omega
   subst this;exact⟨rfl,l,l,rfl,hrk,hlo,hhi⟩
  case istep=>
   rintro x c st2 _ hxk ⟨rfl,l,r,rfl,hlr,hrk,hm,hlo,hhi⟩
   dsimp only
   by_cases hge:l≥r
   .rw[if_pos hge]
    have:l=r:=by omega
    subst this;exact RV ⟨rfl,l,l,rfl,hrk,hlo,hhi⟩
   .rw[if_neg hge]
    refine RN (w_lt hB' h0 (by omega) (by omega) ?_);have hne:=K_ne hB'.perm hd (i:=lo+k) (j:=lo+(l+r)/2) (by omega) (by omega) (by omega)
    by_cases hless:K (Su st2) (lo+k)<K (Su st2) (lo+(l+r)/2)
    .simp only[hless,decide_true,if_true]
     refine RV ⟨rfl,l,(l+r)/2,rfl,by omega,by omega,by omega,hlo,λi h1 h2=>?_⟩
     by_cases e:i=(l+r)/2
     .subst e;exact hless
     .exact WM hless (hs' _ _ (by omega) (by omega) (by omega))
    .simp only[hless,decide_false,Rv,if_false]
     refine RV ⟨rfl,(l+r)/2+1,r,rfl,by omega,by omega,by omega,λi h1=>?_,hhi⟩
     by_cases e:i=(l+r)/2
     .subst e;omega
     .have:=hs' (lo+i) (lo+(l+r)/2) (by omega) (by omega) (by omega)
      omega
  case ipost=>
   rintro c st2 ⟨rfl,l,r,rfl,hlk,hlo,hhi⟩
   show wpS _ _ _ _ (do moveDown' (lo+k) (lo+l);pure (WD (Yt,()))) _ _;rw[moveDown'_eq]
   have hks:lo+k<(Su st2).size:=by omega
   refine RN (WQ (RV ⟨rfl,hB'.arr (bubble_perm _ _ _) λi hi=>?_,?_⟩))
   .rw[K_bubble hks (by omega),if_neg (by omega),if_neg (by omega)]
   rw[show min (k+1) n=k+1 by omega];intro i j a1 a2 a3;show K (bubble (Su st2) (lo+k) (lo+k-(lo+l))) i<K (bubble (Su st2) (lo+k) (lo+k-(lo+l))) j;rw[K_bubble hks (by omega),K_bubble hks (by omega),show lo+k-(lo+k-(lo+l))=lo+l by omega]
   have g1:∀i,lo<=i->i<lo+l->K (Su st2) i<K (Su st2) (lo+k):=λi q1 q2=>by
    have:=hlo (i-lo) (by omega)
    rwa [show lo+(i-lo)=i by omega]at this
   have g2:∀i,lo+l<=i->i<lo+k->K (Su st2) (lo+k)<K (Su st2) i:=λi q1 q2=>by
    have:=hhi (i-lo) (by omega) (by omega)
    rwa [show lo+(i-lo)=i by omega]at this
   repeat' split
   all_goals first
    | (exfalso;omega)
    | exact g1 _ (by omega) (by omega)
    | exact g2 _ (by omega) (by omega)
    | exact hs' _ _ (by omega) (by omega) (by omega)
end
noncomputable def glp:Bool->Keyed->Array Keyed->Nat->Nat->Nat->StateT SortSt Sem (Option Nat):=sortPriv% PySem.Builtin.gallop
noncomputable def bey(left:Bool)(key:Keyed)(arr:Array Keyed)(base i:Nat):StateT SortSt Sem (Option Bool):=do
 let x <-Vn arr (base+i)
 if left then lt' x key else return (<-lt' key x).map (!·)
def Ld(left:Bool)(key:Keyed)(arr:Array Keyed)(base n hint:Nat):glp left key arr base n hint=(do
 let mut q:=0
 let mut o:=1
 let mut l:=0
 let mut h:=0
 let some r <-bey left key arr base hint | return none
 if r then
  let mx:=n-hint
  for _ in [0:n] do
   if o≥mx then break
   let some z <-bey left key arr base (hint+o) | return none
   if !z then break
   q:=o
   o:=2*o+1
  l:=hint+q+1
  h:=hint+min o mx
 else
  let mx:=hint+1
  for _ in [0:n] do
   if o≥mx then break
   let some z <-bey left key arr base (hint-o) | return none
   if z then break
   q:=o
   o:=2*o+1
  l:=hint+1-min o mx
  h:=hint-q
 for _ in [0:n] do
  if l≥h then break
  let m:=l+(h-l)/2
  let some z <-bey left key arr base m | return none
  if z then l:=m+1 else h:=m
 return some h):=rfl
structure Row(arr:Array Keyed)(base n:Nat)(g:Nat->Int)(k:Int):Prop where
 at_:∀i,i<n->∃t q,arr[base+i]?=Z_ (.int (g i) t,q)
 up:∀i j,i<j->j<n->g i<g j
 ne:∀i,i<n->g i≠k
section
variable{prog:Sx}{w:Th}{A:Tu}{E:Rm->Rr->Prop}{s:Rr}{st:SortSt}
def Ay(hk:kindOf st=WT)(h:Q (Z_ (decide (x<y))) st):wpS (RQ prog w) A E s (lt' (.int x t,p) (.int y u,q)) Q st:=by
 rw[lt'_eq];refine RN (Xu ?_);rw[hk,keyLt'_oneType];refine RN (Yz (Ys (oneLt_int ⟨rfl,?_⟩)));exact RV h
variable{left:Bool}{k:Int}{t0:Tok}{v0:Rm}{arr:Array Keyed}{base n hint:Nat}{g:Nat->Int}
theorem BJ(hk:kindOf st=WT)(R:Row arr base n g k)(hi:i<n)(h:Q (Z_ (decide (g i<k))) st):wpS (RQ prog w) A E s (bey left (.int k t0,v0) arr base i) Q st:=by
 obtain⟨t,q,e⟩:=R.at_ i hi;unfold bey;rw[elem'_eq,e];refine RN (RV ?_)
 cases left with
 | true=>rw[if_pos rfl];exact Ay hk h
 | false=>
   rw[if_neg (by decide)];refine RN (Ay hk (RV ?_));have hne:=R.ne i hi
   have:(!decide (k<g i))=decide (g i<k):=by
    by_cases hh:k<g i
    .have:¬g i<k:=by omega
     simp[hh,this]
    .have:g i<k:=by omega
     simp[hh,this]
   show Q (Z_ (!decide (k<g i))) st;rw[this];exact h
theorem Row.low(R:Row arr base n g k)(hij:i<=j)(hj:j<n)(h:g j<k):g i<k:=by
 by_cases e:i=j
 .subst e;exact h
 .exact WM (R.up i j (by omega) hj) h
def Row.high(R:Row arr base n g k)(hij:i<=j)(hj:j<n)(h:k<g i):k<g j:=by
 by_cases e:i=j
 .subst e;exact h
 .exact WM h (R.up i j (by omega) hj)
theorem tG(hk:kindOf st=WT)(R:Row arr base n g k)(hh:hint<n)
 (h:∀r,r<=n->(∀i,i<r->g i<k)->(∀i,r<=i->i<n->k<g i)->Q (Z_ r) st):wpS (RQ prog w) A E s (glp left (.int k t0,v0) arr base n hint) Q st:=by
 rw[Ld]
 have last:∀l0 h0:Nat,l0<=h0->h0<=n->(∀i,i<l0->g i<k)->(∀i,h0<=i->i<n->k<g i) ->
  wpS (RQ prog w) A E s (Zz [0:n] ((Yt,l0,h0):Option (Option Nat)×Nat×Nat) λ_ r=>if r.2.1≥r.2.2 then pure (Yo (Yt,r.2.1,r.2.2))else do
   let x <-bey left (.int k t0,v0) arr base (r.2.1+(r.2.2-r.2.1)/2)
   match x with
   | some z=>if z=Y_ then pure (WD (Yt,r.2.1+(r.2.2-r.2.1)/2+1,r.2.2))else pure (WD (Yt,r.2.1,r.2.1+(r.2.2-r.2.1)/2))
   | _=>pure (Yo (Z_ none,r.2.1,r.2.2))) (λc st'=>st'=st/\∃r,c=(Yt,r,r)/\r<=n/\(∀i,i<r->g i<k)/\∀i,r<=i->i<n->k<g i) st:=by
  intro l0 h0 hlh hn hlow hhigh;refine Ud (I:=λx c st'=>st'=st/\∃l h,c=(Yt,l,h)/\l<=h/\h<=n/\h-l<=n-x/\(∀i,i<l->g i<k)/\∀i,h<=i->i<n->k<g i) ?_ ?_ ⟨rfl,l0,h0,rfl,hlh,hn,by omega,hlow,hhigh⟩
  .rintro x c st' _ hx ⟨rfl,l,h,rfl,a1,a2,a3,a4,a5⟩
   dsimp only
   by_cases hge:l≥h
   .rw[if_pos hge]
    have:l=h:=by omega
    subst this;exact RV ⟨rfl,l,rfl,a2,a4,a5⟩
   .rw[if_neg hge]
    refine RN (BJ hk R (by omega) ?_)
    by_cases hb:g (l+(h-l)/2)<k
    .simp only[hb,decide_true,if_true]
     exact RV ⟨rfl,_,h,rfl,by omega,a2,by omega,λi hi=>R.low (j:=l+(h-l)/2) (by omega) (by omega) hb,a5⟩
    .simp only[hb,decide_false,Rv,if_false]
     have:=R.ne (l+(h-l)/2) (by omega);exact RV ⟨rfl,l,_,rfl,by omega,by omega,by omega,a4,λi hi hi2=>R.high (i:=l+(h-l)/2) hi hi2 (by omega)⟩
  .rintro c st' ⟨rfl,l,h,rfl,a1,a2,a3,a4,a5⟩
   have:l=h:=by omega
   subst this;exact⟨rfl,l,rfl,a2,a4,a5⟩
 refine RN (BJ hk R hh ?_);dsimp only
 by_cases hb:g hint<k
 .simp only[hb,decide_true,if_true]
  refine RN (Ul (Ud (I:=λx c st'=>st'=st/\∃q o,c=(Yt,q,o)/\q<o/\x+1<=o/\hint+q<n/\g (hint+q)<k)
   (Q:=λc st'=>st'=st/\∃q o,c=(Yt,q,o)/\q<o/\hint+q<n/\g (hint+q)<k/\(n-hint<=o\/(hint+o<n/\k<g (hint+o)))) ?step ?fin ⟨rfl,0,1,rfl,by omega,by omega,hh,hb⟩) ?post)
  case step=>
   rintro x c st' _ hx ⟨rfl,q,o,rfl,a1,a2,a3,a4⟩
   dsimp only
   by_cases hge:o≥n-hint
   .rw[if_pos hge]
    exact RV ⟨rfl,q,o,rfl,a1,a3,a4,.inl hge⟩
   .rw[if_neg hge]
    refine RN (BJ hk R (by omega) ?_)
    by_cases hz:g (hint+o)<k
    .simp only[hz,decide_true,Yg,Rv,if_false]
     exact RV ⟨rfl,o,_,rfl,by omega,by omega,by omega,hz⟩
    .simp only[hz,decide_false,YD,if_true]
     have:=R.ne (hint+o) (by omega);exact RV ⟨rfl,q,o,rfl,a1,a3,a4,.inr ⟨by omega,by omega⟩⟩
  case fin=>
   rintro c st' ⟨rfl,q,o,rfl,a1,a2,a3,a4⟩
   exact⟨rfl,q,o,rfl,a1,a3,a4,.inl (by omega)⟩
  case post=>
   rintro c st' ⟨rfl,q,o,rfl,a1,a3,a4,a5⟩
   dsimp only;refine RN (Ul (last (hint+q+1) (hint+min o (n-hint)) (by omega) (by omega) (λi hi=>R.low (j:=hint+q) (by omega) a3 a4) (λi hi hi2=>?_)) ?_)
   .rcases a5 with a5 | ⟨a5,a6⟩
    .omega
    .exact R.high (i:=hint+o) (by omega) hi2 a6
   .rintro c st' ⟨rfl,r,rfl,b1,b2,b3⟩
    exact RV (h r b1 b2 b3)
 .simp only[hb,decide_false,Rv,if_false]
  have hb2:k<g hint:=by have:=R.ne hint hh;omega
  refine RN (Ul (Ud (I:=λx c st'=>st'=st/\∃q o,c=(Yt,q,o)/\q<o/\x+1<=o/\q<=hint/\k<g (hint-q))
   (Q:=λc st'=>st'=st/\∃q o,c=(Yt,q,o)/\q<o/\q<=hint/\k<g (hint-q)/\(hint+1<=o\/(o<=hint/\g (hint-o)<k))) ?step ?fin ⟨rfl,0,1,rfl,by omega,by omega,by omega,hb2⟩) ?post)
  case step=>
   rintro x c st' _ hx ⟨rfl,q,o,rfl,a1,a2,a3,a4⟩
   dsimp only
   by_cases hge:o≥hint+1
   .rw[if_pos hge]
    exact RV ⟨rfl,q,o,rfl,a1,a3,a4,.inl hge⟩
   .rw[if_neg hge]
    refine RN (BJ hk R (by omega) ?_)
    by_cases hz:g (hint-o)<k
    .simp only[hz,decide_true,if_true]
     exact RV ⟨rfl,q,o,rfl,a1,a3,a4,.inr ⟨by omega,hz⟩⟩
    .simp only[hz,decide_false,Rv,if_false]
     have:=R.ne (hint-o) (by omega);exact RV ⟨rfl,o,_,rfl,by omega,by omega,by omega,by omega⟩
  case fin=>
   rintro c st' ⟨rfl,q,o,rfl,a1,a2,a3,a4⟩
   exact⟨rfl,q,o,rfl,a1,a3,a4,.inl (by omega)⟩
  case post=>
   rintro c st' ⟨rfl,q,o,rfl,a1,a3,a4,a5⟩
   dsimp only;refine RN (Ul (last (hint+1-min o (hint+1)) (hint-q) (by omega) (by omega) (λi hi=>?_) (λi hi hi2=>R.high (i:=hint-q) hi hi2 a4)) ?_)
   .rcases a5 with a5 | ⟨a5,a6⟩
    .omega
    .exact R.low (j:=hint-o) (by omega) (by omega) a6
   .rintro c st' ⟨rfl,r,rfl,b1,b2,b3⟩
    exact RV (h r b1 b2 b3)
end
noncomputable def kf(p:Keyed):Int:=ZJ p.1
abbrev Lt(x y:Keyed):Prop:=kf x<kf y
abbrev Asc(l:List Keyed):Prop:=l.Pairwise Lt
def Und(l m:List Keyed):Prop:=∀x∈l,∀y∈m,Lt x y
def asc_app:Asc (l++m)↔Asc l/\Asc m/\Und l m:=List.pairwise_append
def Und.app(h:Und l m)(h':Und l' m):Und (l++l') m:=λx hx y hy=>(Tf.mp hx).elim (λz=>h x z y hy) λz=>h' x z y hy
def Und.sub(h:Und l m)(hs:∀y∈m',y∈m):Und l m':=λx hx y hy=>h x hx y (hs y hy)
def Und.subl(h:Und l m)(hs:∀y∈l',y∈l):Und l' m:=λx hx y hy=>h x (hs x hx) y hy
def gM{α:Type}{l:List α}{n:Nat}{x:α}(h:x∈l.take n):x∈l:=List.mem_of_mem_take h
def lz{α:Type}{l:List α}{n:Nat}{x:α}(h:x∈l.drop n):x∈l:=List.mem_of_mem_drop h
structure Mg(a b o:List Keyed)(i j:Nat):Prop where
 perm:o.Perm (a.take i++b.take j)
 asc:Asc o
 ua:Und o (a.drop i)
 ub:Und o (b.drop j)
def Mg.swap(h:Mg a b o i j):Mg b a o j i:=⟨h.perm.trans Xm,h.asc,h.ub,h.ua⟩
def Mg.more(h:Mg a b o i j)(ha:Asc a)(k:Nat)(hu:Und ((a.drop i).take k) (b.drop j)):Mg a b (o++(a.drop i).take k) (i+k) j:=by
 have e:a.drop i=(a.drop i).take k++a.drop (i+k):=by rw[<-Y0];exact(Tz k _).symm
 have hd:Asc ((a.drop i).take k++a.drop (i+k)):=by rw[<-e];exact ha.drop
 obtain⟨h1,h2,h3⟩:=asc_app.mp hd;refine⟨?_,asc_app.mpr ⟨h.asc,h1,h.ua.sub λy hy=>gM hy⟩,(h.ua.sub λy hy=>?_).app h3,h.ub.app hu⟩
 .have e2:a.take (i+k)=a.take i++(a.drop i).take k:=List.take_add
  rw[e2];refine(h.perm.append_right _).trans ?_;rw[Um,Um];exact(Xm).append_left _
 .rw[e];exact T3 _ hy
def Res(a b r:List Keyed):Prop:=r.Perm (a++b)/\Asc r
def Res.swap(h:Res a b r):Res b a r:=⟨h.1.trans Xm,h.2⟩
def Mg.last(h:Mg a b o i j)(ha:Asc a)(hb:Asc b)(hu:Und (a.drop i) (b.drop j)):Res a b (o++a.drop i++b.drop j):=by
 refine⟨?_,asc_app.mpr ⟨asc_app.mpr ⟨h.asc,ha.drop,h.ua⟩,hb.drop,h.ub.app hu⟩⟩;have e1:=Tz i a;have e2:=Tz j b;have p1:=(h.perm.append_right (a.drop i)).append_right (b.drop j);refine p1.trans ?_
 have:(a.take i++b.take j++a.drop i++b.drop j).Perm ((a.take i++a.drop i)++(b.take j++b.drop j)):=by
  simp only[Um];exact(List.perm_append_comm_assoc _ _ _).append_left _
 rwa [e1,e2]at this
def Und.nil_r:Und l []:=λ_ _ _ h=>by cases h
def Und.nil_l:Und [] l:=λ_ h=>by cases h
def bK(xs:Array Keyed)(i j:Nat):(xs.extract i j).toList=(xs.toList.drop i).take (j-i):=by
 rw[Array.toList_extract,List.extract_eq_take_drop]
def jW(xs:Array Keyed)(i:Nat):(xs.extract i xs.size).toList=xs.toList.drop i:=by
 rw[bK,Xc (by simp)]
def dC{α:Type}{l:List α}{i:Nat}{x:α}(h:l[i]?=Z_ x):l.drop i=x::l.drop (i+1):=by
 obtain⟨hi,e⟩:=Sq.mp h;rw[WL hi,e]
def take1{α:Type}{l:List α}{i:Nat}{x:α}(h:l[i]?=Z_ x):(l.drop i).take 1=[x]:=by rw[dC h];rfl
def gJ{l:List Keyed}{i:Nat}{x:Keyed}(h:Asc l)(e:l[i]?=Z_ x):∀y∈l.drop (i+1),Lt x y:=by
 have:=(h.drop (i:=i))
 rw[dC e]at this;exact(Tr.mp this).1
def Dm{a b:List Keyed}{i j:Nat}{x y:Keyed}(ha:a[i]?=Z_ x)(hb:Asc b)(hy:b[j]?=Z_ y)(h:Lt x y):Und ((a.drop i).take 1) (b.drop j):=by
 rw[take1 ha,dC hy];intro z hz w hw;rw[Sv.mp hz];rcases Rp.mp hw with rfl | hw
 .exact h
 .exact WM h (gJ hb hy w hw)
noncomputable def setG:Nat->StateT SortSt Sem Unit:=sortPriv% PySem.Builtin.setMinGallop
def Jc(g:Nat):setG g=modify λs=>SortSt.mk' (kindOf s) (Su s) (Tp s) g (W3 s):=rfl
noncomputable def mLo:Array Keyed->Array Keyed->StateT SortSt Sem (Array Keyed):=sortPriv% PySem.Builtin.mergeLo
noncomputable abbrev dn(a b o:Array Keyed)(i j:Nat):Array Keyed:=o++a.extract i a.size++b.extract j b.size
noncomputable abbrev la(a b o:Array Keyed)(i j:Nat):Array Keyed:=o++b.extract j b.size++a.extract i a.size
noncomputable def Lf(a b:Array Keyed):mLo a b=(do
 rule "list.sort.merge-lo"
 let t:=a.size+b.size
 let mut o:Array Keyed:=#[<-Vn b 0]
 let mut i:=0
 let mut j:=1
 if j==b.size then return dn a b o i j
 if i+1==a.size then return la a b o i j
 let mut m:=a0j (<-get)
 for _ in [0:t] do
  let mut p:=0
  let mut q:=0
  for _ in [0:t] do
   let some c <-lt' (<-Vn b j) (<-Vn a i) | return dn a b o i j
   if c then
    o:=o.push (<-Vn b j);j:=j+1;q:=q+1;p:=0
    if j==b.size then return dn a b o i j
    if q≥m then break
   else
    o:=o.push (<-Vn a i);i:=i+1;p:=p+1;q:=0
    if i+1==a.size then return la a b o i j
    if p≥m then break
  rule "list.sort.gallop"
  m:=m+1
  for _ in [0:t] do
   if m>1 then m:=m-1
   setG m
   let some k <-glp Zd (<-Vn b j) a i (a.size-i) 0 | return dn a b o i j
   p:=k
   if k>0 then
    o:=o++a.extract i (i+k);i:=i+k
    if i+1==a.size then return la a b o i j
    if i==a.size then return dn a b o i j
   o:=o.push (<-Vn b j);j:=j+1
   if j==b.size then return dn a b o i j
   let some k <-glp Y_ (<-Vn a i) b j (b.size-j) 0 | return dn a b o i j
   q:=k
   if k>0 then
    o:=o++b.extract j (j+k);j:=j+k
    if j==b.size then return dn a b o i j
   o:=o.push (<-Vn a i);i:=i+1
   if i+1==a.size then return la a b o i j
   if p<7&&q<7 then break
  m:=m+1
  setG m
 UW "internal:list.sort.merge-bound"):=rfl
abbrev T5:=Option (Array Keyed)×Array Keyed×Nat×Nat×Nat
abbrev T6:=Option (Array Keyed)×Array Keyed×Nat×Nat×Nat×Nat
abbrev T7:=Option (Array Keyed)×Array Keyed×Nat×Nat×Nat×Nat×Nat
abbrev SM:=StateT SortSt Sem
noncomputable def lo3(a b o:Array Keyed)(i j m k q:Nat):SM (ForInStep T7):=do
 let x <-Vn a i
 if(i+1+1==a.size)=Y_ then pure (.done (Z_ (la a b (o.push x) (i+1) j),o.push x,i+1,j,m,k,q))
 else if(decide (k<7)&&decide (q<7))=Y_ then pure (.done (Yt,o.push x,i+1,j,m,k,q))
 else pure (.yield (Yt,o.push x,i+1,j,m,k,q))
noncomputable def lo2(a b o:Array Keyed)(i j m k q:Nat):SM (ForInStep T7):=do
 let x <-Vn b j
 if(j+1==b.size)=Y_ then pure (.done (Z_ (dn a b (o.push x) i (j+1)),o.push x,i,j+1,m,k,q))
 else do
  let y <-Vn a i
  let z <-glp Y_ y b (j+1) (b.size-(j+1)) 0
  match z with
  | some r=>if r>0 then(if(j+1+r==b.size)=Y_ then pure (.done (Z_ (dn a b (o.push x++b.extract (j+1) (j+1+r)) i (j+1+r)),o.push x++b.extract (j+1) (j+1+r),i,j+1+r,m,k,r))
   else lo3 a b (o.push x++b.extract (j+1) (j+1+r)) i (j+1+r) m k r)else lo3 a b (o.push x) i (j+1) m k r
  | _=>pure (.done (Z_ (dn a b (o.push x) i (j+1)),o.push x,i,j+1,m,k,q))
noncomputable def lo1(a b o:Array Keyed)(i j m p q:Nat):SM (ForInStep T7):=do
 setG m
 let x <-Vn b j
 let z <-glp Zd x a i (a.size-i) 0
 match z with
 | some k=>if k>0 then(if(i+k+1==a.size)=Y_ then pure (.done (Z_ (la a b (o++a.extract i (i+k)) (i+k) j),o++a.extract i (i+k),i+k,j,m,k,q))
  else if(i+k==a.size)=Y_ then pure (.done (Z_ (dn a b (o++a.extract i (i+k)) (i+k) j),o++a.extract i (i+k),i+k,j,m,k,q))
  else lo2 a b (o++a.extract i (i+k)) (i+k) j m k q)else lo2 a b o i j m k q
 | _=>pure (.done (Z_ (dn a b o i j),o,i,j,m,p,q))
noncomputable def loA(a b:Array Keyed)(m:Nat)(o:Array Keyed)(i j p q:Nat):SM (ForInStep T6):=do
 let x <-Vn b j
 let y <-Vn a i
 let z <-lt' x y
 match z with
 | some c=>(if c=Y_ then(do
  let x <-Vn b j
  if(j+1==b.size)=Y_ then pure (.done (Z_ (dn a b (o.push x) i (j+1)),o.push x,i,j+1,0,q+1))
  else if q+1≥m then pure (.done (Yt,o.push x,i,j+1,0,q+1))else pure (.yield (Yt,o.push x,i,j+1,0,q+1)))
   else(do
    let x <-Vn a i
    if(i+1+1==a.size)=Y_ then pure (.done (Z_ (la a b (o.push x) (i+1) j),o.push x,i+1,j,p+1,0))
    else if p+1≥m then pure (.done (Yt,o.push x,i+1,j,p+1,0))else pure (.yield (Yt,o.push x,i+1,j,p+1,0))))
 | _=>pure (.done (Z_ (dn a b o i j),o,i,j,p,q))
def El(a b:Array Keyed):mLo a b=(do
 liftM (rule "list.sort.merge-lo")
 let x <-Vn b 0
 if(1==b.size)=Y_ then pure (dn a b #[x] 0 1)
 else if(0+1==a.size)=Y_ then pure (la a b #[x] 0 1)
 else do
  let g <-get
  let s <-Zz [0:a.size+b.size] ((Yt,#[x],0,1,a0j g):T5) λ_ s=>do
   let s1 <-Zz [0:a.size+b.size] ((Yt,s.2.1,s.2.2.1,s.2.2.2.1,0,0):T6) λ_ s1=>loA a b s.2.2.2.2 s1.2.1 s1.2.2.1 s1.2.2.2.1 s1.2.2.2.2.1 s1.2.2.2.2.2
   match s1.1 with
   | some r=>pure (.done ((Z_ r,s1.2.1,s1.2.2.1,s1.2.2.2.1,s.2.2.2.2):T5))
   | none=>do
     liftM (rule "list.sort.gallop")
     let s2 <-Zz [0:a.size+b.size] ((Yt,s1.2.1,s1.2.2.1,s1.2.2.2.1,s.2.2.2.2+1,s1.2.2.2.2.1,s1.2.2.2.2.2):T7) λ_ s2=>
      if s2.2.2.2.2.1>1 then lo1 a b s2.2.1 s2.2.2.1 s2.2.2.2.1 (s2.2.2.2.2.1-1) s2.2.2.2.2.2.1 s2.2.2.2.2.2.2 else lo1 a b s2.2.1 s2.2.2.1 s2.2.2.2.1 s2.2.2.2.2.1 s2.2.2.2.2.2.1 s2.2.2.2.2.2.2
     match s2.1 with
     | some r=>pure (.done ((Z_ r,s2.2.1,s2.2.2.1,s2.2.2.2.1,s2.2.2.2.2.1):T5))
     | none=>do
       setG (s2.2.2.2.2.1+1)
       pure (.yield ((Yt,s2.2.1,s2.2.2.1,s2.2.2.2.1,s2.2.2.2.2.1+1):T5))
  match s.1 with
  | some r=>pure r
  | none=>UW "internal:list.sort.merge-bound"):=by
 rw[Lf];dsimp only
 congr 1;funext _
 congr 1;funext x
 congr 1
 congr 1
 congr 1;funext g
 congr 1
 .congr 1
  funext _ s
  congr 1
  funext s1
  obtain⟨r,s1⟩:=s1
  cases r with
  | some r=>rfl
  | none=>
    dsimp only
    congr 1;funext _
    congr 1
    funext s2
    obtain⟨r2,s2⟩:=s2;cases r2<;>rfl
 .funext s
  obtain⟨r,s⟩:=s;cases r<;>rfl
def Ints(xs:Array Keyed):Prop:=∀(i:Nat)(x:Keyed),xs[i]?=Z_ x->∃t q,x=(Z9 (kf x) t,q)
structure JB(a b:Array Keyed):Prop where
 ia:Ints a
 ib:Ints b
 aa:Asc a.toList
 ab:Asc b.toList
 ne:∀x∈a.toList,∀y∈b.toList,kf x≠kf y
 last:Und b.toList (a.toList.drop (a.size-1))
 first:Und (b.toList.take 1) a.toList
 na:1<=a.size
 nb:1<=b.size
def Ke(X:Array Keyed)(P:Array (Nat×Nat×Nat))(st:SortSt):Prop:=kindOf st=WT/\Su st=X/\Tp st=P/\W3 st=Yt
section
variable{prog:Sx}{w:Th}{A:Tu}{E:Rm->Rr->Prop}{s:Rr}{st:SortSt}{a b:Array Keyed}{X:Array Keyed}{P:Array (Nat×Nat×Nat)}
def w_el(e:xs[i]?=Z_ x)(h:wpS (RQ prog w) A E s (f x) Q st):wpS (RQ prog w) A E s (Vn xs i >>= f) Q st:=by
 rw[elem'_eq,e];exact RN (RV h)
def pW(hk:Ke X P st)(h:∀st',Ke X P st'->Q () st'):wpS (RQ prog w) A E s (setG g) Q st:=by
 rw[Jc];exact WQ (h _ hk)
def cH{xs:Array Keyed}{i:Nat}(h:i<xs.size):∃x,xs[i]?=Z_ x:=⟨xs[i],getElem?_pos xs i h⟩
def toL{xs:Array Keyed}{i:Nat}{x:Keyed}(h:xs[i]?=Z_ x):xs.toList[i]?=Z_ x:=by rw[UJ];exact h
def K_kf(h:xs[i]?=Z_ x):K xs i=kf x:=by unfold K;rw[h];rfl
theorem v6{xs:Array Keyed}(h:Asc xs.toList){i j:Nat}(hij:i<j)(hj:j<xs.size):K xs i<K xs j:=by
 obtain⟨x,hx⟩:=cH (xs:=xs) (i:=i) (by omega);obtain⟨y,hy⟩:=cH hj;rw[K_kf hx,K_kf hy];refine gJ h (toL hx) y ?_;have:=toL hy;refine S5 (i:=j-(i+1)) ?_;rw[Wa,show i+1+(j-(i+1))=j by omega];exact this
theorem Ds{xs:Array Keyed}{k:Int}(hi:Ints xs)(ha:Asc xs.toList)(hn:∀x∈xs.toList,kf x≠k)(i:Nat):Row xs i (xs.size-i) (λq=>K xs (i+q)) k where
 at_:=λq hq=>by
  obtain⟨x,hx⟩:=cH (xs:=xs) (i:=i+q) (by omega);obtain⟨t,v,e⟩:=hi _ _ hx;exact⟨t,v,by rw[hx,K_kf hx,<-e]⟩
 up:=λq r hqr hr=>v6 ha (by omega) (by omega)
 ne:=λq hq=>by
  obtain⟨x,hx⟩:=cH (xs:=xs) (i:=i+q) (by omega);rw[K_kf hx];exact hn x (S5 (toL hx))
def qO{a b:Array Keyed}{i j r:Nat}{y:Keyed}(hb:Asc b.toList)(hy:b[j]?=Z_ y)(h:∀q,q<r->K a (i+q)<kf y):Und ((a.toList.drop i).take r) (b.toList.drop j):=by
 intro x hx z hz
 have h1:kf x<kf y:=by
  obtain⟨q,hq⟩:=Wj.mp hx;rw[List.getElem?_take]at hq;split at hq
  .rename_i hqr
   rw[Wa,UJ]at hq;have:=h q hqr
   rwa [K_kf hq]at this
  .cases hq
 rw[dC (toL hy)]at hz;rcases Rp.mp hz with rfl | hz
 .exact h1
 .exact WM h1 (gJ hb (toL hy) z hz)
theorem qN{a b:Array Keyed}{i j r:Nat}{y:Keyed}(hy:b[j]?=Z_ y)(h:∀q,r<=q->q<a.size-i->kf y<K a (i+q)):Und ((b.toList.drop j).take 1) (a.toList.drop (i+r)):=by
 rw[take1 (toL hy)];intro z hz x hx;rw[Sv.mp hz];obtain⟨q,hq⟩:=Wj.mp hx;rw[Wa,UJ]at hq
 have hlt:i+r+q<a.size:=by
  have:=(Ws.mp hq).1;exact this
 have:=h (r+q) (by omega) (by omega)
 rwa [show i+(r+q)=i+r+q by omega,K_kf hq]at this
def G7(a b:Array Keyed)(n0:Nat)(c:T7):Prop:=c.1=Yt/\Mg a.toList b.toList c.2.1.toList c.2.2.1 c.2.2.2.1/\c.2.2.1+1<a.size/\c.2.2.2.1<b.size/\n0<=c.2.2.1+c.2.2.2.1
def R7{α:Type}(a b:Array Keyed)(c:Option (Array Keyed)×α):Prop:=∃v,c.1=Z_ v/\Res a.toList b.toList v.toList
def S7(a b:Array Keyed)(n0:Nat)(r:ForInStep T7):Prop:=match r with
 | .done c=>R7 a b c\/G7 a b n0 c
 | .yield c=>G7 a b n0 c
def pU(J:JB a b)(m:Mg a.toList b.toList o.toList i j)(hj:j=b.size):Res a.toList b.toList (dn a b o i j).toList:=by
 subst hj
 have e:(dn a b o i b.size).toList=o.toList++a.toList.drop i++b.toList.drop b.size:=by rw[dn,Ug,Ug,jW,jW]
 rw[e];refine m.last J.aa J.ab ?_;have:b.toList.drop b.size=[]:=Wb (by simp);rw[this];exact Und.nil_r
theorem rK(J:JB a b)(m:Mg a.toList b.toList o.toList i j)(hi:i+1=a.size):Res a.toList b.toList (la a b o i j).toList:=by
 have e:(la a b o i j).toList=o.toList++b.toList.drop j++a.toList.drop i:=by rw[la,Ug,Ug,jW,jW]
 rw[e];refine(m.swap.last J.ab J.aa ?_).swap
 have:i=a.size-1:=by omega
 subst this
 exact J.last.subl λy hy=>lz hy
def rZ(o:Array Keyed)(x:Keyed):(o.push x).toList=o.toList++[x]:=Y9
theorem Jj{o:Array Keyed}{i j m k q:Nat}(J:JB a b)(hk:Ke X P st)(hm:Mg a.toList b.toList o.toList i j)(hi:i+1<a.size)(hj:j<b.size)(hu:Und ((a.toList.drop i).take 1) (b.toList.drop j)) :
 wpS (RQ prog w) A E s (lo3 a b o i j m k q) (λr st'=>Ke X P st'/\S7 a b (i+j+1) r) st:=by
 obtain⟨x,hx⟩:=cH (xs:=a) (i:=i) (by omega)
 have m2:Mg a.toList b.toList (o.push x).toList (i+1) j:=by rw[rZ,<-take1 (toL hx)];exact hm.more J.aa 1 hu
 unfold lo3;refine w_el hx ?_
 by_cases h1:i+1+1=a.size
 .rw[if_pos (by simp[h1])]
  exact RV ⟨hk,.inl ⟨_,rfl,rK J m2 h1⟩⟩
 rw[if_neg (by simp[h1])]
 have g:G7 a b (i+j+1) (Yt,o.push x,i+1,j,m,k,q):=⟨rfl,m2,show i+1+1<a.size by omega,hj,show i+j+1<=i+1+j by omega⟩
 split
 .exact RV ⟨hk,.inr g⟩
 .exact RV ⟨hk,g⟩
def S7.mono(h:S7 a b n1 r)(hn:n0<=n1):S7 a b n0 r:=by
 cases r with
 | done c=>exact h.imp id λz=>⟨z.1,z.2.1,z.2.2.1,z.2.2.2.1,RW hn z.2.2.2.2⟩
 | yield c=>exact⟨h.1,h.2.1,h.2.2.1,h.2.2.2.1,RW hn h.2.2.2.2⟩
def yg(o xs:Array Keyed)(i r:Nat):(o++xs.extract i (i+r)).toList=o.toList++(xs.toList.drop i).take r:=by
 rw[Ug,bK,Nat.add_sub_cancel_left]
theorem Oh{o:Array Keyed}{i j m k q:Nat}(J:JB a b)(hk:Ke X P st)(hm:Mg a.toList b.toList o.toList i j)(hi:i+1<a.size)(hj:j<b.size)(hu:Und ((b.toList.drop j).take 1) (a.toList.drop i)) :
 wpS (RQ prog w) A E s (lo2 a b o i j m k q) (λr st'=>Ke X P st'/\S7 a b (i+j+1) r) st:=by
 obtain⟨x,hx⟩:=cH (xs:=b) (i:=j) hj
 have m2:Mg a.toList b.toList (o.push x).toList i (j+1):=by rw[rZ,<-take1 (toL hx)];exact(hm.swap.more J.ab 1 hu).swap
 unfold lo2;refine w_el hx ?_
 by_cases h1:j+1=b.size
 .rw[if_pos (by simp[h1])]
  exact RV ⟨hk,.inl ⟨_,rfl,pU J m2 h1⟩⟩
 rw[if_neg (by simp[h1])];obtain⟨y,hy⟩:=cH (xs:=a) (i:=i) (by omega);obtain⟨t,v,ey⟩:=J.ia _ _ hy;refine w_el hy (RN ?_);have R:=Ds (k:=kf y) J.ib J.ab (λz hz e=>J.ne y (S5 (toL hy)) z hz e.symm) (j+1);rw[ey]
 refine tG hk.1 R (by omega) λr hr l1 l2=>?_
 have u1:Und ((b.toList.drop (j+1)).take r) (a.toList.drop i):=qO J.aa hy l1;have u2:=qN (a:=b) (i:=j+1) hy l2;dsimp only
 by_cases h2:r>0
 .rw[if_pos h2]
  have m3:Mg a.toList b.toList (o.push x++b.extract (j+1) (j+1+r)).toList i (j+1+r):=by rw[yg];exact(m2.swap.more J.ab r u1).swap
  by_cases h3:j+1+r=b.size
  .rw[if_pos (by simp[h3])]
   exact RV ⟨hk,.inl ⟨_,rfl,pU J m3 h3⟩⟩
  rw[if_neg (by simp[h3])]
  exact Ul (Jj J hk m3 hi (by omega) u2) λr' st' h=>⟨h.1,h.2.mono (by omega)⟩
 .rw[if_neg h2]
  have:r=0:=by omega
  subst this
  exact Ul (Jj J hk m2 hi (by omega) u2) λr' st' h=>⟨h.1,h.2.mono (by omega)⟩
theorem QH{o:Array Keyed}{i j m p q:Nat}(J:JB a b)(hk:Ke X P st)(hm:Mg a.toList b.toList o.toList i j)(hi:i+1<a.size)(hj:j<b.size) :
 wpS (RQ prog w) A E s (lo1 a b o i j m p q) (λr st'=>Ke X P st'/\S7 a b (i+j+1) r) st:=by
 obtain⟨x,hx⟩:=cH (xs:=b) (i:=j) hj;obtain⟨t,v,ex⟩:=J.ib _ _ hx;unfold lo1;refine RN (pW hk λst' hk'=>?_);refine w_el hx (RN ?_);have R:=Ds (k:=kf x) J.ia J.aa (λz hz e=>J.ne z hz x (S5 (toL hx)) e) i;rw[ex]
 refine tG hk'.1 R (by omega) λr hr l1 l2=>?_
 have u1:Und ((a.toList.drop i).take r) (b.toList.drop j):=qO J.ab hx l1;have u2:=qN (a:=a) (i:=i) hx l2
 have hlast:i+r+1<=a.size:=by
  obtain⟨z,hz⟩:=cH (xs:=a) (i:=a.size-1) (by omega);have h1:kf x<kf z:=J.last x (S5 (toL hx)) z (S5 (i:=0) (by rw[Wa];exact toL hz));rcases Nat.lt_or_ge (a.size-1-i) r with h2 | h2
  .have:=l1 (a.size-1-i) h2
   rw[show i+(a.size-1-i)=a.size-1 by omega,K_kf hz]at this;omega
  .omega
 dsimp only
 by_cases h2:r>0
 .rw[if_pos h2]
  have m3:Mg a.toList b.toList (o++a.extract i (i+r)).toList (i+r) j:=by rw[yg];exact hm.more J.aa r u1
  by_cases h3:i+r+1=a.size
  .rw[if_pos (by simp[h3])]
   exact RV ⟨hk',.inl ⟨_,rfl,rK J m3 h3⟩⟩
  rw[if_neg (by simp[h3]),if_neg (by simp;omega)]
  exact Ul (Oh J hk' m3 (by omega) hj u2) λr' st' h=>⟨h.1,h.2.mono (by omega)⟩
 .rw[if_neg h2]
  have:r=0:=by omega
  subst this;exact Oh J hk' hm hi hj u2
end
section
variable{prog:Sx}{w:Th}{A:Tu}{E:Rm->Rr->Prop}{s:Rr}{st:SortSt}{a b:Array Keyed}{X:Array Keyed}{P:Array (Nat×Nat×Nat)}
def G6(a b:Array Keyed)(n0:Nat)(c:T6):Prop:=c.1=Yt/\Mg a.toList b.toList c.2.1.toList c.2.2.1 c.2.2.2.1/\c.2.2.1+1<a.size/\c.2.2.2.1<b.size/\n0<=c.2.2.1+c.2.2.2.1
def S6(a b:Array Keyed)(n0:Nat)(r:ForInStep T6):Prop:=match r with
 | .done c=>R7 a b c\/G6 a b n0 c
 | .yield c=>G6 a b n0 c
theorem Pu(J:JB a b)(hk:Ke X P st)(hm:Mg a.toList b.toList o.toList i j)(hi:i+1<a.size)(hj:j<b.size) :
 wpS (RQ prog w) A E s (loA a b m o i j p q) (λr st'=>Ke X P st'/\S6 a b (i+j+1) r) st:=by
 obtain⟨x,hx⟩:=cH (xs:=b) (i:=j) hj;obtain⟨y,hy⟩:=cH (xs:=a) (i:=i) (by omega);obtain⟨t,v,ex⟩:=J.ib _ _ hx;obtain⟨u,v2,ey⟩:=J.ia _ _ hy;unfold loA;refine w_el hx (w_el hy (RN ?_));rw[ex,ey];refine Ay hk.1 ?_;dsimp only;have hne:=J.ne y (S5 (toL hy)) x (S5 (toL hx))
 by_cases hc:kf x<kf y
 .rw[decide_eq_true hc,if_pos rfl]
  have m2:Mg a.toList b.toList (o.push x).toList i (j+1):=by rw[rZ,<-take1 (toL hx)];exact(hm.swap.more J.ab 1 (Dm (toL hx) J.aa (toL hy) hc)).swap
  refine w_el hx ?_
  by_cases h1:j+1=b.size
  .rw[if_pos (by simp[h1])]
   exact RV ⟨hk,.inl ⟨_,rfl,pU J m2 h1⟩⟩
  rw[if_neg (by simp[h1])]
  have g:G6 a b (i+j+1) (Yt,o.push x,i,j+1,0,q+1):=⟨rfl,m2,hi,show j+1<b.size by omega,Rx _⟩
  split
  .exact RV ⟨hk,.inr g⟩
  .exact RV ⟨hk,g⟩
 .rw[decide_eq_false hc,if_neg S9]
  have hc2:Lt y x:=by show kf y<kf x;omega
  have m2:Mg a.toList b.toList (o.push y).toList (i+1) j:=by rw[rZ,<-take1 (toL hy)];exact hm.more J.aa 1 (Dm (toL hy) J.ab (toL hx) hc2)
  refine w_el hy ?_
  by_cases h1:i+1+1=a.size
  .rw[if_pos (by simp[h1])]
   exact RV ⟨hk,.inl ⟨_,rfl,rK J m2 h1⟩⟩
  rw[if_neg (by simp[h1])]
  have g:G6 a b (i+j+1) (Yt,o.push y,i+1,j,p+1,0):=⟨rfl,m2,show i+1+1<a.size by omega,hj,show i+j+1<=i+1+j by omega⟩
  split
  .exact RV ⟨hk,.inr g⟩
  .exact RV ⟨hk,g⟩
theorem QG(J:JB a b)(hk:Ke X P st)(h:∀v st',Ke X P st'->Res a.toList b.toList v.toList->Q v st'):wpS (RQ prog w) A E s (mLo a b) Q st:=by
 rw[El];refine RN (Yz (UV ⟨rfl,?_⟩));obtain⟨x,hx⟩:=cH (xs:=b) (i:=0) J.nb;refine w_el hx ?_;have e1:b.toList.take 1=[x]:=take1 (toL hx)
 have m0:Mg a.toList b.toList (#[x]:Array Keyed).toList 0 1:=⟨by rw[e1];exact V4 _,List.pairwise_singleton _ _,λy hy z hz=>J.first y (by rw[e1];exact hy) z hz,λy hy z hz=>by
  rw[Sv.mp hy];exact gJ J.ab (toL hx) z hz⟩
 by_cases h1:1=b.size
 .rw[if_pos (by simp[<-h1])]
  exact RV (h _ st hk (pU J m0 h1))
 rw[if_neg (by simp;omega)]
 by_cases h2:0+1=a.size
 .rw[if_pos (by simp;omega)]
  exact RV (h _ st hk (rK J m0 h2))
 rw[if_neg (by simp;omega)];refine RN (Xu ?_);have hna:=J.na;have hnb:=J.nb
 refine RN (Ul (Ud (I:=λn c st'=>Ke X P st'/\c.1=Yt/\Mg a.toList b.toList c.2.1.toList c.2.2.1 c.2.2.2.1/\c.2.2.1+1<a.size/\c.2.2.2.1<b.size/\n+1<=c.2.2.1+c.2.2.2.1)
  (Q:=λc st'=>Ke X P st'/\R7 a b c) ?step ?fin ⟨hk,rfl,m0,show 0+1<a.size by omega,show 1<b.size by omega,Rx _⟩) ?post)
 case post=>
  rintro⟨r,c⟩ st' ⟨hk',v,e,hv⟩
  cases e;exact RV (h v st' hk' hv)
 case fin=>
  rintro c st' ⟨_,_,_,b1,b2,b3⟩
  omega
 case step=>
  rintro n ⟨r,o,i,j,m⟩ st' _ hn ⟨hk',e,mg,b1,b2,b3⟩
  cases e;dsimp only at mg b1 b2 b3 ⊢;refine RN (Ul (Ud (I:=λy c st2=>Ke X P st2/\G6 a b (i+j+y) c) (Q:=λc st2=>Ke X P st2/\(R7 a b c\/G6 a b (i+j+1) c)) ?s1 ?f1 ⟨hk',rfl,mg,b1,b2,Rx _⟩) ?p1)
  case s1=>
   rintro y ⟨r,o,i',j',p,q⟩ st2 _ hy ⟨hk2,e,mg,c1,c2,c3⟩
   dsimp only at mg c1 c2 c3 ⊢
   refine Ul (Pu J hk2 mg c1 c2) λr st3 hr=>?_
   obtain⟨hk3,hr⟩:=hr
   cases r with
   | done c=>exact⟨hk3,hr.imp id λz=>⟨z.1,z.2.1,z.2.2.1,z.2.2.2.1,by have:=z.2.2.2.2;omega⟩⟩
   | yield c=>exact⟨hk3,hr.1,hr.2.1,hr.2.2.1,hr.2.2.2.1,by have:=hr.2.2.2.2;omega⟩
  case f1=>
   rintro c st2 ⟨_,_,_,c1,c2,c3⟩
   omega
  case p1=>
   rintro⟨r,o1,i1,j1,p1,q1⟩ st2 ⟨hk2,hr⟩
   rcases hr with⟨v,e,hv⟩ | ⟨e,mg1,c1,c2,c3⟩
   .cases e
    exact RV ⟨hk2,v,rfl,hv⟩
   cases e;dsimp only at mg1 c1 c2 c3 ⊢;refine RN (Yz (UV ⟨rfl,?_⟩));refine RN (Ul (Ud (I:=λy c st3=>Ke X P st3/\G7 a b (i1+j1+y) c) (Q:=λc st3=>Ke X P st3/\(R7 a b c\/G7 a b (i1+j1+1) c)) ?s2 ?f2 ⟨hk2,rfl,mg1,c1,c2,Rx _⟩) ?p2)
   case s2=>
    rintro y ⟨r,o,i',j',m',p,q⟩ st3 _ hy ⟨hk3,e,mg,d1,d2,d3⟩
    dsimp only at mg d1 d2 d3 ⊢;split
    all_goals
     refine Ul (QH J hk3 mg d1 d2) λr st4 hr=>?_
     obtain⟨hk4,hr⟩:=hr
     cases r with
     | done c=>exact⟨hk4,hr.imp id λz=>⟨z.1,z.2.1,z.2.2.1,z.2.2.2.1,by have:=z.2.2.2.2;omega⟩⟩
     | yield c=>exact⟨hk4,hr.1,hr.2.1,hr.2.2.1,hr.2.2.2.1,by have:=hr.2.2.2.2;omega⟩
   case f2=>
    rintro c st3 ⟨_,_,_,d1,d2,d3⟩
    omega
   case p2=>
    rintro⟨r,o2,i2,j2,m2,p2,q2⟩ st3 ⟨hk3,hr⟩
    rcases hr with⟨v,e,hv⟩ | ⟨e,mg2,d1,d2,d3⟩
    .cases e
     exact RV ⟨hk3,v,rfl,hv⟩
    cases e;dsimp only at mg2 d1 d2 d3 ⊢;refine RN (pW hk3 λst4 hk4=>?_);exact RV ⟨hk4,rfl,mg2,d1,d2,by show n+1+1<=i2+j2;omega⟩
end
noncomputable def mHi:Array Keyed->Array Keyed->SM (Array Keyed):=sortPriv% PySem.Builtin.mergeHi
noncomputable abbrev dh(a b o:Array Keyed)(i j:Nat):Array Keyed:=a.extract 0 i++b.extract 0 j++o.reverse
noncomputable abbrev fb(a b o:Array Keyed)(i j:Nat):Array Keyed:=b.extract 0 j++a.extract 0 i++o.reverse
def Lx(a b:Array Keyed):mHi a b=(do
 rule "list.sort.merge-hi"
 let t:=a.size+b.size
 let mut i:=a.size-1
 let mut j:=b.size
 let mut o:Array Keyed:=#[<-Vn a i]
 if i==0 then return dh a b o i j
 if j==1 then return fb a b o i j
 let mut m:=a0j (<-get)
 for _ in [0:t] do
  let mut p:=0
  let mut q:=0
  for _ in [0:t] do
   let some c <-lt' (<-Vn b (j-1)) (<-Vn a (i-1)) | return dh a b o i j
   if c then
    i:=i-1;o:=o.push (<-Vn a i);p:=p+1;q:=0
    if i==0 then return dh a b o i j
    if p≥m then break
   else
    j:=j-1;o:=o.push (<-Vn b j);q:=q+1;p:=0
    if j==1 then return fb a b o i j
    if q≥m then break
  rule "list.sort.gallop"
  m:=m+1
  for _ in [0:t] do
   if m>1 then m:=m-1
   setG m
   let some z <-glp Zd (<-Vn b (j-1)) a 0 i (i-1) | return dh a b o i j
   let k:=i-z
   p:=k
   if k>0 then
    o:=o++(a.extract z i).reverse;i:=z
    if i==0 then return dh a b o i j
   j:=j-1;o:=o.push (<-Vn b j)
   if j==1 then return fb a b o i j
   let some z <-glp Y_ (<-Vn a (i-1)) b 0 j (j-1) | return dh a b o i j
   let k:=j-z
   q:=k
   if k>0 then
    o:=o++(b.extract z j).reverse;j:=z
    if j==1 then return fb a b o i j
    if j==0 then return dh a b o i j
   i:=i-1;o:=o.push (<-Vn a i)
   if i==0 then return dh a b o i j
   if p<7&&q<7 then break
  m:=m+1
  setG m
 UW "internal:list.sort.merge-bound"):=rfl
abbrev H5:=Option (Array Keyed)×Nat×Nat×Array Keyed×Nat
abbrev H6:=Option (Array Keyed)×Nat×Nat×Array Keyed×Nat×Nat
abbrev H7:=Option (Array Keyed)×Nat×Nat×Array Keyed×Nat×Nat×Nat
noncomputable def hi3(a b o:Array Keyed)(i j m k q:Nat):SM (ForInStep H7):=do
 let x <-Vn a (i-1)
 if(i-1==0)=Y_ then pure (.done (Z_ (dh a b (o.push x) (i-1) j),i-1,j,o.push x,m,k,q))
 else if(decide (k<7)&&decide (q<7))=Y_ then pure (.done (Yt,i-1,j,o.push x,m,k,q))
 else pure (.yield (Yt,i-1,j,o.push x,m,k,q))
noncomputable def hi2(a b o:Array Keyed)(i j m k q:Nat):SM (ForInStep H7):=do
 let x <-Vn b (j-1)
 if(j-1==1)=Y_ then pure (.done (Z_ (fb a b (o.push x) i (j-1)),i,j-1,o.push x,m,k,q))
 else do
  let y <-Vn a (i-1)
  let z <-glp Y_ y b 0 (j-1) (j-1-1)
  match z with
  | some r=>if j-1-r>0 then(if(r==1)=Y_ then pure (.done (Z_ (fb a b (o.push x++(b.extract r (j-1)).reverse) i r),i,r,o.push x++(b.extract r (j-1)).reverse,m,k,j-1-r))
   else if(r==0)=Y_ then pure (.done (Z_ (dh a b (o.push x++(b.extract r (j-1)).reverse) i r),i,r,o.push x++(b.extract r (j-1)).reverse,m,k,j-1-r))
   else hi3 a b (o.push x++(b.extract r (j-1)).reverse) i r m k (j-1-r))else hi3 a b (o.push x) i (j-1) m k (j-1-r)
  | _=>pure (.done (Z_ (dh a b (o.push x) i (j-1)),i,j-1,o.push x,m,k,q))
noncomputable def hi1(a b o:Array Keyed)(i j m p q:Nat):SM (ForInStep H7):=do
 setG m
 let x <-Vn b (j-1)
 let z <-glp Zd x a 0 i (i-1)
 match z with
 | some r=>if i-r>0 then(if(r==0)=Y_ then pure (.done (Z_ (dh a b (o++(a.extract r i).reverse) r j),r,j,o++(a.extract r i).reverse,m,i-r,q))
  else hi2 a b (o++(a.extract r i).reverse) r j m (i-r) q)else hi2 a b o i j m (i-r) q
 | _=>pure (.done (Z_ (dh a b o i j),i,j,o,m,p,q))
noncomputable def hiA(a b:Array Keyed)(m:Nat)(o:Array Keyed)(i j p q:Nat):SM (ForInStep H6):=do
 let x <-Vn b (j-1)
 let y <-Vn a (i-1)
 let z <-lt' x y
 match z with
 | some c=>(if c=Y_ then(do
  let x <-Vn a (i-1)
  if(i-1==0)=Y_ then pure (.done (Z_ (dh a b (o.push x) (i-1) j),i-1,j,o.push x,p+1,0))
  else if p+1≥m then pure (.done (Yt,i-1,j,o.push x,p+1,0))else pure (.yield (Yt,i-1,j,o.push x,p+1,0)))
   else(do
    let x <-Vn b (j-1)
    if(j-1==1)=Y_ then pure (.done (Z_ (fb a b (o.push x) i (j-1)),i,j-1,o.push x,0,q+1))
    else if q+1≥m then pure (.done (Yt,i,j-1,o.push x,0,q+1))else pure (.yield (Yt,i,j-1,o.push x,0,q+1))))
 | _=>pure (.done (Z_ (dh a b o i j),i,j,o,p,q))
def HB(a b:Array Keyed):mHi a b=(do
 liftM (rule "list.sort.merge-hi")
 let x <-Vn a (a.size-1)
 if(a.size-1==0)=Y_ then pure (dh a b #[x] (a.size-1) b.size)
 else if(b.size==1)=Y_ then pure (fb a b #[x] (a.size-1) b.size)
 else do
  let g <-get
  let s <-Zz [0:a.size+b.size] ((Yt,a.size-1,b.size,#[x],a0j g):H5) λ_ s=>do
   let s1 <-Zz [0:a.size+b.size] ((Yt,s.2.1,s.2.2.1,s.2.2.2.1,0,0):H6) λ_ s1=>hiA a b s.2.2.2.2 s1.2.2.2.1 s1.2.1 s1.2.2.1 s1.2.2.2.2.1 s1.2.2.2.2.2
   match s1.1 with
   | some r=>pure (.done ((Z_ r,s1.2.1,s1.2.2.1,s1.2.2.2.1,s.2.2.2.2):H5))
   | none=>do
     liftM (rule "list.sort.gallop")
     let s2 <-Zz [0:a.size+b.size] ((Yt,s1.2.1,s1.2.2.1,s1.2.2.2.1,s.2.2.2.2+1,s1.2.2.2.2.1,s1.2.2.2.2.2):H7) λ_ s2=>
      if s2.2.2.2.2.1>1 then hi1 a b s2.2.2.2.1 s2.2.1 s2.2.2.1 (s2.2.2.2.2.1-1) s2.2.2.2.2.2.1 s2.2.2.2.2.2.2 else hi1 a b s2.2.2.2.1 s2.2.1 s2.2.2.1 s2.2.2.2.2.1 s2.2.2.2.2.2.1 s2.2.2.2.2.2.2
     match s2.1 with
     | some r=>pure (.done ((Z_ r,s2.2.1,s2.2.2.1,s2.2.2.2.1,s2.2.2.2.2.1):H5))
     | none=>do
       setG (s2.2.2.2.2.1+1)
       pure (.yield ((Yt,s2.2.1,s2.2.2.1,s2.2.2.2.1,s2.2.2.2.2.1+1):H5))
  match s.1 with
  | some r=>pure r
  | none=>UW "internal:list.sort.merge-bound"):=by
 rw[Lx];dsimp only
 congr 1;funext _
 congr 1;funext x
 congr 1
 congr 1
 congr 1;funext g
 congr 1
 .congr 1
  funext _ s
  congr 1
  funext s1
  obtain⟨r,s1⟩:=s1
  cases r with
  | some r=>rfl
  | none=>
    dsimp only
    congr 1;funext _
    congr 1
    funext s2
    obtain⟨r2,s2⟩:=s2;cases r2<;>rfl
 .funext s
  obtain⟨r,s⟩:=s;cases r<;>rfl
structure Mh(a b t:List Keyed)(i j:Nat):Prop where
 perm:t.Perm (a.drop i++b.drop j)
 asc:Asc t
 ua:Und (a.take i) t
 ub:Und (b.take j) t
def Mh.swap(h:Mh a b t i j):Mh b a t j i:=⟨h.perm.trans Xm,h.asc,h.ub,h.ua⟩
def Und.appr(h:Und l m)(h':Und l m'):Und l (m++m'):=λx hx y hy=>(Tf.mp hy).elim (λz=>h x hx y z) λz=>h' x hx y z
theorem Mh.more(h:Mh a b t i j)(ha:Asc a)(r:Nat)(hr:r<=i)(hu:Und (b.take j) ((a.take i).drop r)):Mh a b ((a.take i).drop r++t) r j:=by
 have e:a.take i=a.take r++(a.take i).drop r:=by
  have:=Tz r (a.take i);rw[List.take_take,Nat.min_eq_left hr]at this;exact this.symm
 have hd:Asc (a.take r++(a.take i).drop r):=by rw[<-e];exact ha.take
 obtain⟨h1,h2,h3⟩:=asc_app.mp hd;refine⟨?_,asc_app.mpr ⟨h2,h.asc,h.ua.subl λy hy=>lz hy⟩,h3.appr (h.ua.subl λy hy=>?_),hu.appr h.ub⟩
 .have e2:a.drop r=(a.take i).drop r++a.drop i:=by
   have e3:(a.take i++a.drop i).drop r=a.drop r:=by rw[Tz]
   by_cases hl:i<=a.length
   .rw[<-e3,List.drop_append_of_le_length (by simp;omega)]
   .rw[Xc (by omega),Wb (i:=i) (by omega),Ur]
  rw[e2,Um];exact h.perm.append_left _
 .rw[e];exact Uo _ hy
def Mh.last(h:Mh a b t i j)(ha:Asc a)(hb:Asc b)(hu:Und (a.take i) (b.take j)):Res a b (a.take i++b.take j++t):=by
 refine⟨?_,asc_app.mpr ⟨asc_app.mpr ⟨ha.take,hb.take,hu⟩,h.asc,h.ua.app h.ub⟩⟩;have e1:=Tz i a;have e2:=Tz j b;refine(h.perm.append_left _).trans ?_
 have:(a.take i++b.take j++(a.drop i++b.drop j)).Perm ((a.take i++a.drop i)++(b.take j++b.drop j)):=by
  simp only[Um];exact(List.perm_append_comm_assoc _ _ _).append_left _
 rwa [e1,e2]at this
section
variable{prog:Sx}{w:Th}{A:Tu}{E:Rm->Rr->Prop}{s:Rr}{st:SortSt}{a b:Array Keyed}{X:Array Keyed}{P:Array (Nat×Nat×Nat)}
theorem row_pre(hi:Ints xs)(ha:Asc xs.toList)(hn:∀x∈xs.toList,kf x≠k)(n:Nat)(hz:n<=xs.size):Row xs 0 n (λq=>K xs q) k where
 at_:=λq hq=>by
  obtain⟨x,hx⟩:=cH (xs:=xs) (i:=q) (by omega);obtain⟨t,v,e⟩:=hi _ _ hx;exact⟨t,v,by rw[VP,hx,K_kf hx,<-e]⟩
 up:=λq r hqr hr=>v6 ha hqr (by omega)
 ne:=λq hq=>by
  obtain⟨x,hx⟩:=cH (xs:=xs) (i:=q) (by omega);rw[K_kf hx];exact hn x (S5 (toL hx))
def qP{xs:Array Keyed}{n:Nat}{x:Keyed}(h:x∈xs.toList.take n):∃q,q<n/\xs[q]?=Z_ x:=by
 obtain⟨q,hq⟩:=Wj.mp h;rw[List.getElem?_take]at hq;split at hq
 .rename_i hn
  rw[UJ]at hq;exact⟨q,hn,hq⟩
 .cases hq
def wL{xs:Array Keyed}{n r:Nat}{x:Keyed}(h:x∈(xs.toList.take n).drop r):∃q,r<=q/\q<n/\xs[q]?=Z_ x:=by
 obtain⟨q,hq⟩:=Wj.mp h;rw[Wa,List.getElem?_take]at hq;split at hq
 .rename_i hn
  rw[UJ]at hq;exact⟨r+q,by omega,hn,hq⟩
 .cases hq
theorem GZ{xs:Array Keyed}(ha:Asc xs.toList){q j:Nat}{x y:Keyed}(hx:xs[q]?=Z_ x)(hy:xs[j]?=Z_ y)(hq:q<=j):kf x<=kf y:=by
 by_cases e:q=j
 .subst e;rw[hx]at hy;cases hy;exact Zk _
 .have hj:=(Ws.mp hy).1
  have:=v6 ha (i:=q) (j:=j) (by omega) hj;rw[K_kf hx,K_kf hy]at this;omega
theorem su{a b:Array Keyed}{i j r:Nat}{y:Keyed}(hb:Asc b.toList)(hy:b[j-1]?=Z_ y)(h:∀q,r<=q->q<i->kf y<K a q):Und (b.toList.take j) ((a.toList.take i).drop r):=by
 intro z hz x hx;obtain⟨q,q1,q2,q3⟩:=wL hx;obtain⟨p,p1,p2⟩:=qP hz;have h1:=h q q1 q2;rw[K_kf q3]at h1;have h2:=GZ hb p2 hy (by omega);show kf z<kf x;omega
theorem Cm{a b:Array Keyed}{r j:Nat}{y:Keyed}(hy:b[j-1]?=Z_ y)(hj:1<=j)(h:∀q,q<r->K a q<kf y):Und (a.toList.take r) ((b.toList.take j).drop (j-1)):=by
 intro x hx z hz;obtain⟨q,q1,q2,q3⟩:=wL hz
 have:q=j-1:=by omega
 subst this;rw[hy]at q3;cases q3;obtain⟨p,p1,p2⟩:=qP hx;have:=h p p1
 rwa [K_kf p2]at this
theorem Bk{xs:Array Keyed}{j:Nat}{x:Keyed}(h:xs[j-1]?=Z_ x)(hj:1<=j):(xs.toList.take j).drop (j-1)=[x]:=by
 have h2:=toL h;obtain⟨hl,e⟩:=Sq.mp h2;rw[Wu,show j-(j-1)=1 by omega];exact take1 h2
def L7(a b:Array Keyed)(n0:Nat)(c:H7):Prop:=c.1=Yt/\Mh a.toList b.toList c.2.2.2.1.toList.reverse c.2.1 c.2.2.1/\1<=c.2.1/\2<=c.2.2.1/\c.2.1<=a.size/\c.2.2.1<=b.size/\c.2.1+c.2.2.1<=n0
def U7(a b:Array Keyed)(n0:Nat)(r:ForInStep H7):Prop:=match r with
 | .done c=>R7 a b c\/L7 a b n0 c
 | .yield c=>L7 a b n0 c
def U7.mono(h:U7 a b n1 r)(hn:n1<=n0):U7 a b n0 r:=by
 cases r with
 | done c=>exact h.imp id λz=>⟨z.1,z.2.1,z.2.2.1,z.2.2.2.1,z.2.2.2.2.1,z.2.2.2.2.2.1,RW z.2.2.2.2.2.2 hn⟩
 | yield c=>exact⟨h.1,h.2.1,h.2.2.1,h.2.2.2.1,h.2.2.2.2.1,h.2.2.2.2.2.1,RW h.2.2.2.2.2.2 hn⟩
def ext0(xs:Array Keyed)(i:Nat):(xs.extract 0 i).toList=xs.toList.take i:=by rw[bK];simp
def qi(J:JB a b)(m:Mh a.toList b.toList o.toList.reverse i j)(hi:i=0):Res a.toList b.toList (dh a b o i j).toList:=by
 subst hi
 have e:(dh a b o 0 j).toList=a.toList.take 0++b.toList.take j++o.toList.reverse:=by rw[dh,Ug,Ug,ext0,ext0,Array.toList_reverse]
 rw[e];exact m.last J.aa J.ab Und.nil_l
def qm(J:JB a b)(m:Mh a.toList b.toList o.toList.reverse i j)(hj:j=1):Res a.toList b.toList (fb a b o i j).toList:=by
 subst hj
 have e:(fb a b o i 1).toList=b.toList.take 1++a.toList.take i++o.toList.reverse:=by rw[fb,Ug,Ug,ext0,ext0,Array.toList_reverse]
 rw[e];exact(m.swap.last J.ab J.aa (J.first.sub λy hy=>gM hy)).swap
def qJ(o:Array Keyed)(x:Keyed):(o.push x).toList.reverse=[x]++o.toList.reverse:=by rw[Y9,List.reverse_append];rfl
def Kr(o xs:Array Keyed)(r i:Nat):(o++(xs.extract r i).reverse).toList.reverse=(xs.toList.take i).drop r++o.toList.reverse:=by
 rw[Ug,List.reverse_append,Array.toList_reverse,List.reverse_reverse,bK,Wu]
theorem JK(J:JB a b)(hk:Ke X P st)(hm:Mh a.toList b.toList o.toList.reverse i j)(hi:1<=i)(hz2:i<=a.size)(hj:2<=j)(hj2:j<=b.size)(hu:Und (b.toList.take j) ((a.toList.take i).drop (i-1))) :
 wpS (RQ prog w) A E s (hi3 a b o i j m k q) (λr st'=>Ke X P st'/\U7 a b (i+j-1) r) st:=by
 obtain⟨x,hx⟩:=cH (xs:=a) (i:=i-1) (by omega)
 have m2:Mh a.toList b.toList (o.push x).toList.reverse (i-1) j:=by rw[qJ,<-Bk hx hi];exact hm.more J.aa (i-1) (by omega) hu
 unfold hi3;refine w_el hx ?_
 by_cases h1:i-1=0
 .rw[if_pos (by simp[h1])]
  exact RV ⟨hk,.inl ⟨_,rfl,qi J m2 h1⟩⟩
 rw[if_neg (by simp[h1])]
 have g:L7 a b (i+j-1) (Yt,i-1,j,o.push x,m,k,q):=⟨rfl,m2,show 1<=i-1 by omega,hj,show i-1<=a.size by omega,hj2,show i-1+j<=i+j-1 by omega⟩
 split
 .exact RV ⟨hk,.inr g⟩
 .exact RV ⟨hk,g⟩
theorem M9(J:JB a b)(hk:Ke X P st)(hm:Mh a.toList b.toList o.toList.reverse i j)(hi:1<=i)(hz2:i<=a.size)(hj:2<=j)(hj2:j<=b.size)(hu:Und (a.toList.take i) ((b.toList.take j).drop (j-1))) :
 wpS (RQ prog w) A E s (hi2 a b o i j m k q) (λr st'=>Ke X P st'/\U7 a b (i+j-1) r) st:=by
 obtain⟨x,hx⟩:=cH (xs:=b) (i:=j-1) (by omega)
 have m2:Mh a.toList b.toList (o.push x).toList.reverse i (j-1):=by rw[qJ,<-Bk hx (by omega)];exact(hm.swap.more J.ab (j-1) (by omega) hu).swap
 unfold hi2;refine w_el hx ?_
 by_cases h1:j-1=1
 .rw[if_pos (by simp[h1])]
  exact RV ⟨hk,.inl ⟨_,rfl,qm J m2 h1⟩⟩
 rw[if_neg (by simp[h1])];obtain⟨y,hy⟩:=cH (xs:=a) (i:=i-1) (by omega);obtain⟨t,v,ey⟩:=J.ia _ _ hy;refine w_el hy (RN ?_);have R:=row_pre (k:=kf y) J.ib J.ab (λz hz e=>J.ne y (S5 (toL hy)) z hz e.symm) (j-1) (by omega);rw[ey]
 refine tG hk.1 R (by omega) λr hr l1 l2=>?_
 have u1:Und (a.toList.take i) ((b.toList.take (j-1)).drop r):=su J.aa hy l2;have u2:Und (b.toList.take r) ((a.toList.take i).drop (i-1)):=Cm hy hi l1
 have hr1:1<=r:=by
  obtain⟨z,hz⟩:=cH (xs:=b) (i:=0) J.nb;have h1:kf z<kf y:=J.first z (by rw[show b.toList.take 1=[z]from take1 (toL hz)];exact Sv.mpr rfl) y (S5 (toL hy));rcases Y6 r with h2 | h2
  .have:=l2 0 (by omega) (by omega)
   rw[K_kf hz]at this;omega
  .exact h2
 dsimp only
 by_cases h2:j-1-r>0
 .rw[if_pos h2]
  have m3:Mh a.toList b.toList (o.push x++(b.extract r (j-1)).reverse).toList.reverse i r:=by rw[Kr];exact(m2.swap.more J.ab r hr u1).swap
  by_cases h3:r=1
  .rw[if_pos (by simp[h3])]
   exact RV ⟨hk,.inl ⟨_,rfl,qm J m3 h3⟩⟩
  rw[if_neg (by simp[h3]),if_neg (by simp;omega)]
  exact Ul (JK J hk m3 hi hz2 (by omega) (by omega) u2) λr' st' h=>⟨h.1,h.2.mono (by omega)⟩
 .rw[if_neg h2]
  have:r=j-1:=by omega
  subst this
  exact Ul (JK J hk m2 hi hz2 (by omega) (by omega) u2) λr' st' h=>⟨h.1,h.2.mono (by omega)⟩
theorem Q3(J:JB a b)(hk:Ke X P st)(hm:Mh a.toList b.toList o.toList.reverse i j)(hi:1<=i)(hz2:i<=a.size)(hj:2<=j)(hj2:j<=b.size) :
 wpS (RQ prog w) A E s (hi1 a b o i j m p q) (λr st'=>Ke X P st'/\U7 a b (i+j-1) r) st:=by
 obtain⟨x,hx⟩:=cH (xs:=b) (i:=j-1) (by omega);obtain⟨t,v,ex⟩:=J.ib _ _ hx;unfold hi1;refine RN (pW hk λst' hk'=>?_);refine w_el hx (RN ?_);have R:=row_pre (k:=kf x) J.ia J.aa (λz hz e=>J.ne z hz x (S5 (toL hx)) e) i hz2;rw[ex]
 refine tG hk'.1 R (by omega) λr hr l1 l2=>?_
 have u1:Und (b.toList.take j) ((a.toList.take i).drop r):=su J.ab hx l2;have u2:Und (a.toList.take r) ((b.toList.take j).drop (j-1)):=Cm hx (by omega) l1;dsimp only
 by_cases h2:i-r>0
 .rw[if_pos h2]
  have m3:Mh a.toList b.toList (o++(a.extract r i).reverse).toList.reverse r j:=by rw[Kr];exact hm.more J.aa r hr u1
  by_cases h3:r=0
  .rw[if_pos (by simp[h3])]
   exact RV ⟨hk',.inl ⟨_,rfl,qi J m3 h3⟩⟩
  rw[if_neg (by simp[h3])]
  exact Ul (M9 J hk' m3 (by omega) (by omega) hj hj2 u2) λr' st' h=>⟨h.1,h.2.mono (by omega)⟩
 .rw[if_neg h2]
  have:r=i:=by omega
  subst this;exact M9 J hk' hm hi hz2 hj hj2 u2
def L6(a b:Array Keyed)(n0:Nat)(c:H6):Prop:=c.1=Yt/\Mh a.toList b.toList c.2.2.2.1.toList.reverse c.2.1 c.2.2.1/\1<=c.2.1/\2<=c.2.2.1/\c.2.1<=a.size/\c.2.2.1<=b.size/\c.2.1+c.2.2.1<=n0
def U6(a b:Array Keyed)(n0:Nat)(r:ForInStep H6):Prop:=match r with
 | .done c=>R7 a b c\/L6 a b n0 c
 | .yield c=>L6 a b n0 c
theorem Rc(J:JB a b)(hk:Ke X P st)(hm:Mh a.toList b.toList o.toList.reverse i j)(hi:1<=i)(hz2:i<=a.size)(hj:2<=j)(hj2:j<=b.size) :
 wpS (RQ prog w) A E s (hiA a b m o i j p q) (λr st'=>Ke X P st'/\U6 a b (i+j-1) r) st:=by
 obtain⟨x,hx⟩:=cH (xs:=b) (i:=j-1) (by omega);obtain⟨y,hy⟩:=cH (xs:=a) (i:=i-1) (by omega);obtain⟨t,v,ex⟩:=J.ib _ _ hx;obtain⟨u,v2,ey⟩:=J.ia _ _ hy;unfold hiA;refine w_el hx (w_el hy (RN ?_));rw[ex,ey];refine Ay hk.1 ?_;dsimp only;have hne:=J.ne y (S5 (toL hy)) x (S5 (toL hx))
 by_cases hc:kf x<kf y
 .rw[decide_eq_true hc,if_pos rfl]
  have u1:Und (b.toList.take j) ((a.toList.take i).drop (i-1)):=su J.ab hx λz z1 z2=>by
   have:z=i-1:=by omega
   subst this;rw[K_kf hy];exact hc
  have m2:Mh a.toList b.toList (o.push y).toList.reverse (i-1) j:=by rw[qJ,<-Bk hy hi];exact hm.more J.aa (i-1) (by omega) u1
  refine w_el hy ?_
  by_cases h1:i-1=0
  .rw[if_pos (by simp[h1])]
   exact RV ⟨hk,.inl ⟨_,rfl,qi J m2 h1⟩⟩
  rw[if_neg (by simp[h1])]
  have g:L6 a b (i+j-1) (Yt,i-1,j,o.push y,p+1,0):=⟨rfl,m2,show 1<=i-1 by omega,hj,show i-1<=a.size by omega,hj2,show i-1+j<=i+j-1 by omega⟩
  split
  .exact RV ⟨hk,.inr g⟩
  .exact RV ⟨hk,g⟩
 .rw[decide_eq_false hc,if_neg S9]
  have u1:Und (a.toList.take i) ((b.toList.take j).drop (j-1)):=su J.aa hy λz z1 z2=>by
   have:z=j-1:=by omega
   subst this;rw[K_kf hx];omega
  have m2:Mh a.toList b.toList (o.push x).toList.reverse i (j-1):=by rw[qJ,<-Bk hx (by omega)];exact(hm.swap.more J.ab (j-1) (by omega) u1).swap
  refine w_el hx ?_
  by_cases h1:j-1=1
  .rw[if_pos (by simp[h1])]
   exact RV ⟨hk,.inl ⟨_,rfl,qm J m2 h1⟩⟩
  rw[if_neg (by simp[h1])]
  have g:L6 a b (i+j-1) (Yt,i,j-1,o.push x,0,q+1):=⟨rfl,m2,hi,show 2<=j-1 by omega,hz2,show j-1<=b.size by omega,show i+(j-1)<=i+j-1 by omega⟩
  split
  .exact RV ⟨hk,.inr g⟩
  .exact RV ⟨hk,g⟩
theorem Q0{Q:Array Keyed->SortSt->Prop}(J:JB a b)(hk:Ke X P st)(h:∀v st',Ke X P st'->Res a.toList b.toList v.toList->Q v st'):wpS (RQ prog w) A E s (mHi a b) Q st:=by
 rw[HB];refine RN (Yz (UV ⟨rfl,?_⟩));have hna:=J.na;have hnb:=J.nb;obtain⟨x,hx⟩:=cH (xs:=a) (i:=a.size-1) (by omega);refine w_el hx ?_
 have e1:a.toList.drop (a.size-1)=[x]:=by
  rw[dC (toL hx),Wb (by simp;omega)]
 have m0:Mh a.toList b.toList (#[x]:Array Keyed).toList.reverse (a.size-1) b.size:=by
  refine⟨?_,List.pairwise_singleton _ _,λy hy z hz=>?_,λy hy z hz=>?_⟩
  .rw[e1,Wb (by simp)];exact V4 _
  .rw[Sv.mp hz]
   obtain⟨q,q1,q2⟩:=qP hy;have:=v6 J.aa (i:=q) (j:=a.size-1) (by omega) (by omega)
   rwa [K_kf q2,K_kf hx]at this
  .exact J.last y (gM hy) z (by rw[e1];exact hz)
 by_cases h1:a.size-1=0
 .rw[if_pos (by simp[h1])]
  exact RV (h _ st hk (qi J m0 h1))
 rw[if_neg (by simp[h1])]
 by_cases h2:b.size=1
 .rw[if_pos (by simp[h2])]
  exact RV (h _ st hk (qm J m0 h2))
 rw[if_neg (by simp[h2])];refine RN (Xu ?_)
 refine RN (Ul (Ud (I:=λn c st'=>Ke X P st'/\c.1=Yt/\Mh a.toList b.toList c.2.2.2.1.toList.reverse c.2.1 c.2.2.1/\1<=c.2.1/\2<=c.2.2.1/\c.2.1<=a.size/\c.2.2.1<=b.size/\c.2.1+c.2.2.1+n<=a.size+b.size)
  (Q:=λc st'=>Ke X P st'/\R7 a b c) ?step ?fin ⟨hk,rfl,m0,show 1<=a.size-1 by omega,show 2<=b.size by omega,show a.size-1<=a.size by omega,Rx _,show a.size-1+b.size+0<=a.size+b.size by omega⟩) ?post)
 case post=>
  rintro⟨r,c⟩ st' ⟨hk',v,e,hv⟩
  cases e;exact RV (h v st' hk' hv)
 case fin=>
  rintro c st' ⟨_,_,_,b1,b2,b3,b4,b5⟩
  omega
 case step=>
  rintro n ⟨r,i,j,o,m⟩ st' _ hn ⟨hk',e,mg,b1,b2,b3,b4,b5⟩
  cases e;dsimp only at mg b1 b2 b3 b4 b5 ⊢;refine RN (Ul (Ud (I:=λy c st2=>Ke X P st2/\L6 a b (i+j-y) c/\y<=i+j) (Q:=λc st2=>Ke X P st2/\(R7 a b c\/L6 a b (i+j-1) c)) ?s1 ?f1 ⟨hk',⟨rfl,mg,b1,b2,b3,b4,Rx _⟩,Uj _⟩) ?p1)
  case s1=>
   rintro y ⟨r,i',j',o,p,q⟩ st2 _ hy ⟨hk2,⟨e,mg,c1,c2,c3,c4,c5⟩,cy⟩
   dsimp only at mg c1 c2 c3 c4 c5 ⊢
   refine Ul (Rc J hk2 mg c1 c3 c2 c4) λr st3 hr=>?_
   obtain⟨hk3,hr⟩:=hr
   cases r with
   | done c=>exact⟨hk3,hr.imp id λz=>⟨z.1,z.2.1,z.2.2.1,z.2.2.2.1,z.2.2.2.2.1,z.2.2.2.2.2.1,by have:=z.2.2.2.2.2.2;omega⟩⟩
   | yield c=>exact⟨hk3,⟨hr.1,hr.2.1,hr.2.2.1,hr.2.2.2.1,hr.2.2.2.2.1,hr.2.2.2.2.2.1,by have:=hr.2.2.2.2.2.2;omega⟩,by omega⟩
  case f1=>
   rintro c st2 ⟨_,⟨_,_,c1,c2,c3,c4,c5⟩,cy⟩
   omega
  case p1=>
   rintro⟨r,i1,j1,o1,p1,q1⟩ st2 ⟨hk2,hr⟩
   rcases hr with⟨v,e,hv⟩ | ⟨e,mg1,c1,c2,c3,c4,c5⟩
   .cases e
    exact RV ⟨hk2,v,rfl,hv⟩
   cases e;dsimp only at mg1 c1 c2 c3 c4 c5 ⊢;refine RN (Yz (UV ⟨rfl,?_⟩));refine RN (Ul (Ud (I:=λy c st3=>Ke X P st3/\L7 a b (i1+j1-y) c/\y<=i1+j1) (Q:=λc st3=>Ke X P st3/\(R7 a b c\/L7 a b (i1+j1-1) c)) ?s2 ?f2 ⟨hk2,⟨rfl,mg1,c1,c2,c3,c4,Rx _⟩,Uj _⟩) ?p2)
   case s2=>
    rintro y ⟨r,i',j',o,m',p,q⟩ st3 _ hy ⟨hk3,⟨e,mg,d1,d2,d3,d4,d5⟩,dy⟩
    dsimp only at mg d1 d2 d3 d4 d5 ⊢;split
    all_goals
     refine Ul (Q3 J hk3 mg d1 d3 d2 d4) λr st4 hr=>?_
     obtain⟨hk4,hr⟩:=hr
     cases r with
     | done c=>exact⟨hk4,hr.imp id λz=>⟨z.1,z.2.1,z.2.2.1,z.2.2.2.1,z.2.2.2.2.1,z.2.2.2.2.2.1,by have:=z.2.2.2.2.2.2;omega⟩⟩
     | yield c=>exact⟨hk4,⟨hr.1,hr.2.1,hr.2.2.1,hr.2.2.2.1,hr.2.2.2.2.1,hr.2.2.2.2.2.1,by have:=hr.2.2.2.2.2.2;omega⟩,by omega⟩
   case f2=>
    rintro c st3 ⟨_,⟨_,_,d1,d2,d3,d4,d5⟩,dy⟩
    omega
   case p2=>
    rintro⟨r,i2,j2,o2,m2,p2,q2⟩ st3 ⟨hk3,hr⟩
    rcases hr with⟨v,e,hv⟩ | ⟨e,mg2,d1,d2,d3,d4,d5⟩
    .cases e
     exact RV ⟨hk3,v,rfl,hv⟩
    cases e;dsimp only at mg2 d1 d2 d3 d4 d5 ⊢;refine RN (pW hk3 λst4 hk4=>?_);exact RV ⟨hk4,rfl,mg2,d1,d2,d3,d4,by show i2+j2+(n+1)<=a.size+b.size;omega⟩
end
noncomputable def j6(l:List Keyed)(sa:Nat)(xs:Array Keyed):Array Keyed:=l.zipIdx.foldl (λa (p,j)=>a.setIfInBounds (sa+j) p) xs
theorem iw(sa:Nat):∀(l:List Keyed)(n:Nat)(xs:Array Keyed),sa+n+l.length<=xs.size->((l.zipIdx n).foldl (λa (p,j)=>a.setIfInBounds (sa+j) p) xs).toList=xs.toList.take (sa+n)++l++xs.toList.drop (sa+n+l.length)
 | [],n,xs,_=>by simp
 | p::l,n,xs,h=>by
   have hl:sa+n<xs.size:=by simp only[RK]at h;omega
   rw[List.zipIdx_cons,Vv,iw sa l (n+1) _ (by simp only[Array.size_setIfInBounds,RK]at h ⊢;omega)]
   have e:(xs.setIfInBounds (sa+n) p).toList=xs.toList.set (sa+n) p:=by simp
   rw[e]
   have hz:sa+n<xs.toList.length:=by simpa using hl
   rw[List.set_eq_take_append_cons_drop,if_pos hz]
   have h1:(xs.toList.take (sa+n)).length=sa+n:=by simp;omega
   have e1:(xs.toList.take (sa+n)++p::xs.toList.drop (sa+n+1)).take (sa+(n+1))=xs.toList.take (sa+n)++[p]:=by
    rw[List.take_append,h1,show sa+(n+1)-(sa+n)=1 by omega,List.take_take,show min (sa+(n+1)) (sa+n)=sa+n by omega];rfl
   have e2:(xs.toList.take (sa+n)++p::xs.toList.drop (sa+n+1)).drop (sa+(n+1)+l.length)=xs.toList.drop (sa+n+(p::l).length):=by
    rw[List.drop_append,h1,Wb (by rw[h1];omega),show sa+(n+1)+l.length-(sa+n)=l.length+1 by omega,List.drop_succ_cons,Y0,X3]
    congr 1
    simp only[RK];omega
   rw[e1,e2];simp
def Li(i:Nat):mergeAt' i=(do
 let g <-get
 let(Z_ (sa,na,pw),some (sb,nb,_)):=((Tp g)[i]?,(Tp g)[i+1]?) | UW "internal:list.sort.pending"
 set (Ze g (((Tp g).setIfInBounds i (sa,na+nb,pw)).eraseIdxIfInBounds (i+1)))
 let some k <-glp Zd (<-Vn (Su g) sb) (Su g) sa na 0 | return Zd
 let(sa,na):=(sa+k,na-k)
 if na==0 then return Y_
 let some nb <-glp Y_ (<-Vn (Su g) (sa+na-1)) (Su g) sb nb (nb-1) | return Zd
 if nb==0 then return Y_
 let x:=(Su g).extract sa sb
 let y:=(Su g).extract sb (sb+nb)
 let v <-if na<=nb then mLo x y else mHi x y
 modify λg=>ZW g (j6 v.toList sa (Su g))
 return (W3 (<-get)).isNone):=rfl
theorem rH{xs:Array Keyed}{lo hi:Nat}(h:Up xs lo hi):Asc ((xs.toList.take hi).drop lo):=by
 rw[Asc,WK];intro i j hi' hj hij;simp only[W4,Vp]at hi' hj
 have hz:lo+j<xs.size:=by simp at hj;omega
 have:=h (lo+i) (lo+j) (by omega) (by omega) (by simp at hj;omega);rw[K_at (by omega),K_at hz]at this;simpa[List.getElem_drop,List.getElem_take,Lt,kf]using this
def JL(h:Asc xs.toList):Up xs 0 xs.size:=λi j _ hij hj=>v6 h hij hj
def QC{g:SortSt}{Q:PUnit->SortSt->Prop}{M:Model}{A:Tu}{E:Rm->Rr->Prop}{s:Rr}{st:SortSt}(h:Q ⟨⟩ g):wpS M A E s (set g:SM PUnit) Q st:=by
 unfold wpS;rw[StateT.run_set];exact Rn ⟨rfl,h⟩
section
variable{prog:Sx}{w:Th}{A:Tu}{E:Rm->Rr->Prop}{s:Rr}{a:Array Keyed}{st:SortSt}
theorem CW{xs:Array Keyed}(hp:xs.Perm a)(h0:IntKeys a)(hd:Dif a){lo n z:Nat}(hu:Up xs lo (lo+n))(hz:lo+n<=xs.size)(hzz:z<xs.size)(hout:z<lo\/lo+n<=z):Row xs lo n (λq=>K xs (lo+q)) (K xs z)where
 at_:=λq hq=>int_at hp h0 (by omega)
 up:=λi j hij hj=>hu _ _ (by omega) (by omega) (by omega)
 ne:=λq hq=>K_ne hp hd (by omega) hzz (by omega)
theorem ints_of{xs:Array Keyed}(hp:xs.Perm a)(h0:IntKeys a){i j:Nat}:Ints (xs.extract i j):=λq x hx=>by
 have hm:x∈xs.toList:=by
  have h1:=S5 (toL hx);rw[bK]at h1;exact lz (gM h1)
 obtain⟨n,t,hn⟩:=h0 x ((Vy.mp hp).mem_iff.mp hm);refine⟨t,x.2,?_⟩
 have:kf x=n:=by unfold kf;rw[hn];rfl
 rw[this];exact Prod.ext hn rfl
def gj(h:x∈(xs.extract i j).toList):∃q,i<=q/\q<j/\q<xs.size/\K xs q=kf x:=by
 rw[bK,<-Wu]at h;obtain⟨q,q1,q2,q3⟩:=wL h;exact⟨q,q1,q2,(Ws.mp q3).1,K_kf q3⟩
theorem QM(h0:IntKeys a)(hd:Dif a)(hp:(Su st).Perm a)(hk:kindOf st=WT)(hf:W3 st=Yt)(hP:Tp st=#[(0,n1,p1),(n1,n2,p2)])(h1:1<=n1)(h2:1<=n2)(hz:n1+n2=a.size)(hu1:Up (Su st) 0 n1)(hu2:Up (Su st) n1 (n1+n2))
 (h:∀st',(Su st').Perm a->W3 st'=Yt->Tp st'=#[(0,n1+n2,p1)]->Up (Su st') 0 a.size->Q Y_ st'):wpS (RQ prog w) A E s (mergeAt' 0) Q st:=by
 have hsz:(Su st).size=a.size:=hp.size_eq;rw[Li];refine RN (Xu ?_)
 have e1:(Tp st)[0]?=Z_ (0,n1,p1):=by rw[hP];rfl
 have e2:(Tp st)[0+1]?=Z_ (n1,n2,p2):=by rw[hP];rfl
 rw[e1,e2];dsimp only;refine RN (QC ?_)
 have eP:((Tp st).setIfInBounds 0 (0,n1+n2,p1)).eraseIdxIfInBounds (0+1)=#[(0,n1+n2,p1)]:=by
  rw[hP]
  apply Array.toList_inj.mp
  simp[Array.eraseIdxIfInBounds]
 rw[eP];generalize hxs:Su st=xs at *
 have hst2:Ke xs #[(0,n1+n2,p1)] (Ze st #[(0,n1+n2,p1)]):=⟨hk,hxs,rfl,hf⟩
 obtain⟨t,v,ek⟩:=int_at hp h0 (i:=n1) (by omega);refine w_el ek (RN ?_);have R1:=CW (lo:=0) (n:=n1) (z:=n1) hp h0 hd (by rw[VP];exact hu1) (by omega) (by omega) (.inr (by omega))
 refine tG hst2.1 R1 (by omega) λr hr l1 l2=>?_
 simp only[VP]at l1 l2 ⊢
 by_cases hr1:n1-r=0
 .rw[if_pos (by simp[hr1])]
  refine RV (h _ (by rw[hst2.2.1];exact hp) hf rfl ?_);rw[hst2.2.1];intro i j _ hij hj
  by_cases c1:j<n1
  .exact hu1 i j (Uj _) hij c1
  .by_cases c2:n1<=i
   .exact hu2 i j c2 hij (by omega)
   .have:=l1 i (by omega)
    by_cases c3:j=n1
    .subst c3;exact this
    .exact WM this (hu2 n1 j (Rx _) (by omega) (by omega))
 rw[if_neg (by simp;omega)]
 have hrn:r<n1:=by omega
 obtain⟨t2,v2,ek2⟩:=int_at hp h0 (i:=n1-1) (by omega);rw[show r+(n1-r)-1=n1-1 by omega];refine w_el ek2 (RN ?_);have R2:=CW (lo:=n1) (n:=n2) (z:=n1-1) hp h0 hd hu2 (by omega) (by omega) (.inl (by omega))
 refine tG hst2.1 R2 (by omega) λr2 hr2 k1 k2=>?_
 have hlt:K xs n1<K xs (n1-1):=l2 (n1-1) (by omega) (by omega)
 have hr20:1<=r2:=by
  rcases Y6 r2 with c | c
  .have:=k2 0 (by omega) (by omega)
   rw[Nat.add_zero]at this;omega
  .exact c
 dsimp only;rw[if_neg (by simp;omega)]
 have sx:(xs.extract r n1).size=n1-r:=by simp;omega
 have sy:(xs.extract n1 (n1+r2)).size=r2:=by simp;omega
 have J:JB (xs.extract r n1) (xs.extract n1 (n1+r2)):=by
  refine⟨ints_of hp h0,ints_of hp h0,?_,?_,λx hx y hy=>?_,λy hy x hx=>?_,λy hy x hx=>?_,by omega,by omega⟩
  .rw[bK,<-Wu]
   exact rH λi j a1 a2 a3=>hu1 i j (Uj _) a2 a3
  .rw[bK,<-Wu]
   exact rH λi j a1 a2 a3=>hu2 i j a1 a2 (by omega)
  .obtain⟨q,q1,q2,q3,q4⟩:=gj hx
   obtain⟨u,u1,u2,u3,u4⟩:=gj hy;rw[<-q4,<-u4];exact K_ne hp hd q3 u3 (by omega)
  .have hx':x∈(xs.extract (n1-1) n1).toList:=by
    rw[bK]at hx ⊢;rw[sx,Wu,Y0]at hx
    rwa [show r+(n1-r-1)=n1-1 by omega,show n1-r-(n1-r-1)=n1-(n1-1) by rw[Nat.sub_sub_self (by omega),Nat.sub_sub_self h1]]at hx
   obtain⟨q,q1,q2,q3,q4⟩:=gj hx';obtain⟨u,u1,u2,u3,u4⟩:=gj hy
   have:q=n1-1:=by omega
   subst this;have:=k1 (u-n1) (by omega);rw[show n1+(u-n1)=u by omega]at this;show kf y<kf x;omega
  .have hy':y∈(xs.extract n1 (n1+1)).toList:=by
    rw[bK]at hy ⊢;rw[List.take_take]at hy
    rwa [show min 1 (n1+r2-n1)=n1+1-n1 by rw[Nat.add_sub_cancel_left,Nat.add_sub_cancel_left,Nat.min_eq_left hr20]]at hy
   obtain⟨u,u1,u2,u3,u4⟩:=gj hy';obtain⟨q,q1,q2,q3,q4⟩:=gj hx
   have:u=n1:=by omega
   subst this;have:=l2 q q1 q2;show kf y<kf x;omega
 have fin:∀(vv:Array Keyed)(st':SortSt),Ke xs #[(0,n1+n2,p1)] st'->Res (xs.extract r n1).toList (xs.extract n1 (n1+r2)).toList vv.toList ->
  wpS (RQ prog w) A E s (do modify λg=>ZW g (j6 vv.toList r (Su g));let g <-get;pure (W3 g).isNone) Q st':=λvv st' hk' hv=>by
  refine RN (WQ (RN (Xu (RV ?_))))
  have hl:vv.toList.length=n1-r+r2:=by
   have:=hv.1.length_eq;rw[this,RJ,Uv,Uv,sx,sy]
  have eL:(j6 vv.toList r (Su st')).toList=xs.toList.take r++vv.toList++xs.toList.drop (n1+r2):=by
   rw[hk'.2.1];have:=iw r vv.toList 0 xs (by omega);rw[Nat.add_zero,hl,show r+(n1-r+r2)=n1+r2 by omega]at this;exact this
  have eX:xs.toList=xs.toList.take r++((xs.extract r n1).toList++(xs.extract n1 (n1+r2)).toList)++xs.toList.drop (n1+r2):=by
   rw[bK,bK]
   have f1:(xs.toList.drop r).take (n1-r)++(xs.toList.drop n1).take (n1+r2-n1)=(xs.toList.drop r).take (n1+r2-r):=by
    rw[show n1+r2-r=(n1-r)+(n1+r2-n1) by rw[Nat.add_sub_cancel_left,Nat.sub_add_comm (Nat.le_of_lt hrn)],List.take_add,Y0,show r+(n1-r)=n1 by omega]
   rw[f1]
   have f2:xs.toList.drop (n1+r2)=(xs.toList.drop r).drop (n1+r2-r):=by rw[Y0,show r+(n1+r2-r)=n1+r2 by omega]
   rw[f2,Um,Tz,Tz]
  have hperm:(j6 vv.toList r (Su st')).Perm a:=by
   rw[Vy,eL];refine UT.trans ?_ (Vy.mp hp)
   conv=>rhs;rw[eX]
   exact(hv.1.append_left _).append_right _
  have hup:Up (j6 vv.toList r (Su st')) 0 a.size:=by
   have hs2:(j6 vv.toList r (Su st')).size=a.size:=hperm.size_eq;rw[<-hs2];refine JL ?_;rw[eL]
   have kV:∀x∈vv.toList,(∃q,r<=q/\q<n1/\K xs q=kf x)\/∃q,n1<=q/\q<n1+r2/\K xs q=kf x:=λx hx=>by
    rcases Tf.mp (hv.1.mem_iff.mp hx)with z | z
    .obtain⟨q,q1,q2,_,q4⟩:=gj z;exact .inl ⟨q,q1,q2,q4⟩
    .obtain⟨q,q1,q2,_,q4⟩:=gj z;exact .inr ⟨q,q1,q2,q4⟩
   have kT:∀x∈xs.toList.take r,∃q,q<r/\K xs q=kf x:=λx hx=>by
    obtain⟨q,q1,q2⟩:=qP hx;exact⟨q,q1,K_kf q2⟩
   have kD:∀x∈xs.toList.drop (n1+r2),∃q,n1+r2<=q/\q<n1+n2/\K xs q=kf x:=λx hx=>by
    obtain⟨q,hq⟩:=Wj.mp hx;rw[Wa,UJ]at hq;have:=(Ws.mp hq).1;exact⟨n1+r2+q,by omega,by omega,K_kf hq⟩
   have up2:∀i j,n1<=i->i<=j->j<n1+n2->K xs i<=K xs j:=λi j b1 b2 b3=>by
    by_cases e:i=j
    .subst e;exact Zk _
    .exact Int.le_of_lt (hu2 i j b1 (by omega) b3)
   have up1:∀i j,i<=j->j<n1->K xs i<=K xs j:=λi j b2 b3=>by
    by_cases e:i=j
    .subst e;exact Zk _
    .exact Int.le_of_lt (hu1 i j (Uj _) (by omega) b3)
   refine asc_app.mpr ⟨asc_app.mpr ⟨?_,hv.2,λx hx y hy=>?_⟩,?_,Und.app (λx hx y hy=>?_) λx hx y hy=>?_⟩
   .have:=rH (xs:=xs) (lo:=0) (hi:=r) λi j a1 a2 a3=>hu1 i j a1 a2 (by omega)
    rwa [List.drop_zero]at this
   .obtain⟨q,q1,q2⟩:=kT x hx
    have:=l1 q q1;show kf x<kf y;rcases kV y hy with⟨u,u1,u2,u3⟩ | ⟨u,u1,u2,u3⟩
    .have:=hu1 q u (Uj _) (by omega) u2;omega
    .have:=up2 n1 u (Rx _) u1 (by omega);omega
   .have:=rH (xs:=xs) (lo:=n1+r2) (hi:=n1+n2) λi j a1 a2 a3=>hu2 i j (by omega) a2 a3
    rwa [Xc (by simp;omega)]at this
   .obtain⟨q,q1,q2⟩:=kT x hx
    obtain⟨u,u1,u2,u3⟩:=kD y hy;have:=l1 q q1;have:=up2 n1 u (Rx _) (by omega) u2;show kf x<kf y;omega
   .obtain⟨u,u1,u2,u3⟩:=kD y hy
    show kf x<kf y;rcases kV x hx with⟨q,q1,q2,q3⟩ | ⟨q,q1,q2,q3⟩
    .have c1:=k2 (u-n1) (by omega) (by omega)
     rw[show n1+(u-n1)=u by omega]at c1;have:=up1 q (n1-1) (by omega) (by omega);omega
    .have:=hu2 q u q1 (by omega) u2;omega
  have hfail:W3 (ZW st' (j6 vv.toList r (Su st')))=Yt:=hk'.2.2.2;rw[hfail];exact h _ hperm hfail hk'.2.2.1 hup
 split
 .exact RN (QG J hst2 λvv st' hk' hv=>fin vv st' hk' hv)
 .exact RN (Q0 J hst2 λvv st' hk' hv=>fin vv st' hk' hv)
end
section
variable{prog:Sx}{w:Th}{A:Tu}{E:Rm->Rr->Prop}{s:Rr}{a:Array Keyed}{st:SortSt}
structure On(a:Array Keyed)(n1:Nat)(st:SortSt):Prop where
 perm:(Su st).Perm a
 kind:kindOf st=WT
 ok:W3 st=Yt
 pend:Tp st=#[(0,n1,0)]
 up:Up (Su st) 0 n1
structure Tw(a:Array Keyed)(st:SortSt)(n1 n2 pw:Nat):Prop where
 perm:(Su st).Perm a
 kind:kindOf st=WT
 ok:W3 st=Yt
 pend:Tp st=#[(0,n1,pw),(n1,n2,0)]
 up1:Up (Su st) 0 n1
 up2:Up (Su st) n1 (n1+n2)
 h1:1<=n1
 h2:1<=n2
 sum:n1+n2=a.size
theorem minR(h1:64<=n)(h2:n<128):minRun' n n 0=n/2+n % 2:=by
 obtain⟨f,rfl⟩:∃f,n=f+2:=⟨n-2,by omega⟩
 have e:minRun' (f+1+1) (f+2) 0=(f+2)/2+(f+2) % 2:=by
  rw[minRun'_succ,if_neg (by omega),minRun'_succ,if_pos (by omega)];omega
 exact e
theorem LK(h0:IntKeys a)(hd:Dif a)(h64:64<=a.size)(h128:a.size<128)(hp:(Su st).Perm a)(hk:kindOf st=WT)(hf:W3 st=Yt)(hP:Tp st=#[])
 (h:∀st',(Su st').Perm a->W3 st'=Yt->Up (Su st') 0 a.size->Q () st'):wpS (RQ prog w) A E s sortRuns' Q st:=by
 rw[sortRuns'_eq];refine RN (Xu ?_);dsimp only;have hsz:(Su st).size=a.size:=hp.size_eq;rw[hsz,minR h64 h128]
 have hmr:1<=a.size/2+a.size % 2/\a.size/2+a.size % 2<=a.size/\a.size<=2*(a.size/2+a.size % 2):=by omega
 generalize a.size/2+a.size % 2=mr at hmr;generalize hn:a.size=n at *
 refine RN (Ul (Ud
  (I:=λx c st'=>(x=0/\c=(Yt,0)/\(Su st').Perm a/\kindOf st'=WT/\W3 st'=Yt/\Tp st'=#[])\/(∃n1,x=1/\c=(Yt,n1)/\mr<=n1/\n1<=n/\On a n1 st')\/(2<=x/\c=(Yt,n)/\∃n1 n2 pw,Tw a st' n1 n2 pw))
  (Q:=λc st'=>c=(Yt,n)/\(On a n st'\/∃n1 n2 pw,Tw a st' n1 n2 pw)) ?step ?fin (.inl ⟨rfl,rfl,hp,hk,hf,hP⟩)) ?post)
 case fin=>
  rintro c st' (⟨hx,_⟩ | ⟨n1,hx,_⟩ | ⟨_,hc,hT⟩)
  .omega
  .omega
  .exact⟨hc,.inr hT⟩
 case step=>
  rintro x c st' _ hx (⟨rfl,rfl,q1,q2,q3,q4⟩ | ⟨n1,rfl,rfl,m1,m2,hO⟩ | ⟨hx1,rfl,hT⟩)
  .dsimp only
   rw[if_neg (by omega)]
   have hB:FB a #[] 0 (λ_=>0) st':=⟨q1,q2,q3,q4,λi hi=>by omega⟩
   refine RN (w_count h0 hd hB (by omega) (by omega) λm st2 hB2 hm1 hm2 hu=>?_);dsimp only
   by_cases hlt:m<mr
   .rw[if_pos hlt]
    refine RN (Yz (UV ⟨by first | rfl | trivial,?_⟩));rw[Nat.sub_zero,show min n mr=mr by omega];refine RN (Kc h0 hd hB2 (by omega) hm1 (by omega) hu λst3 hB3 hu3=>?_);simp only[Yg,Rv,if_false];refine RN (Xu ?_)
    have hb:(Tp st3).back?=Yt:=by rw[hB3.pend];rfl
    rw[hb];dsimp only;rw[VP]at hu3 ⊢;refine RN (WQ (RV (.inr (.inl ⟨mr,by first | rfl | trivial,rfl,Rx _,by omega,hB3.perm,hB3.kind,hB3.ok,?_,hu3⟩))));show(Tp st3).push _=_;rw[hB3.pend];rfl
   .rw[if_neg hlt]
    refine RN (Xu ?_)
    have hb:(Tp st2).back?=Yt:=by rw[hB2.pend];rfl
    rw[hb];dsimp only;rw[VP]at hu ⊢;refine RN (WQ (RV (.inr (.inl ⟨m,by first | rfl | trivial,rfl,by omega,by omega,hB2.perm,hB2.kind,hB2.ok,?_,hu⟩))));show(Tp st2).push _=_;rw[hB2.pend];rfl
  .dsimp only
   by_cases hge:n1≥n
   .rw[if_pos hge]
    have:n1=n:=by omega
    subst this;exact RV ⟨rfl,.inl hO⟩
   rw[if_neg hge]
   have hB:FB a #[(0,n1,0)] n1 (K (Su st')) st':=⟨hO.perm,hO.kind,hO.ok,hO.pend,λi hi=>rfl⟩
   have hz1:n1+(n-n1)=n:=by omega
   have tail:∀(st3:SortSt),FB a #[(0,n1,0)] n1 (K (Su st')) st3->Up (Su st3) n1 (n1+(n-n1))->∀pw,
    Tw a (Ze (Ze st3 ((Tp st3).modify ((Tp st3).size-1) λq=>(q.1,q.2.1,pw))) (((Tp (Ze st3 ((Tp st3).modify ((Tp st3).size-1) λq=>(q.1,q.2.1,pw))))).push (n1,n-n1,0))) n1 (n-n1) pw:=λst3 hB3 hu3 pw=>by
    refine⟨hB3.perm,hB3.kind,hB3.ok,?_,λi j _ hij hj=>?_,hu3,by omega,by omega,by omega⟩
    .show((Tp st3).modify ((Tp st3).size-1) _).push _=_
     rw[hB3.pend];rfl
    .show K (Su st3) i<K (Su st3) j
     rw[hB3.pre i (by omega),hB3.pre j hj];exact hO.up i j (Uj _) hij hj
   refine RN (w_count h0 hd hB (by omega) (by omega) λm st2 hB2 hm1 hm2 hu=>?_);dsimp only
   by_cases hlt:m<mr
   .rw[if_pos hlt]
    refine RN (Yz (UV ⟨rfl,?_⟩));rw[show min (n-n1) mr=n-n1 by omega];refine RN (Kc h0 hd hB2 (by omega) hm1 (by omega) hu λst3 hB3 hu3=>?_);simp only[Yg,Rv,if_false];refine RN (Xu ?_)
    have hb:(Tp st3).back?=Z_ (0,n1,0):=by rw[hB3.pend];rfl
    rw[hb];dsimp only;refine RN (Ul (Ud (I:=λ_ c st4=>st4=st3/\c=(Yt,())) (Q:=λc st4=>st4=st3/\c=(Yt,())) ?_ (λ_ _ hh=>hh) ⟨rfl,rfl⟩) ?_)
    .rintro x c st4 _ _ ⟨rfl,rfl⟩
     refine RN (Xu ?_)
     have:(Tp st4).size=1:=by rw[hB3.pend];rfl
     rw[if_neg (by omega)];exact RV ⟨rfl,rfl⟩
    .rintro c st4 ⟨rfl,rfl⟩
     dsimp only;refine RN (WQ (RN (WQ (RV (.inr (.inr ⟨by omega,by rw[hz1],n1,n-n1,_,tail st4 hB3 hu3 _⟩))))))
   .rw[if_neg hlt]
    have hm:m=n-n1:=by omega
    subst hm;refine RN (Xu ?_)
    have hb:(Tp st2).back?=Z_ (0,n1,0):=by rw[hB2.pend];rfl
    rw[hb];dsimp only;refine RN (Ul (Ud (I:=λ_ c st4=>st4=st2/\c=(Yt,())) (Q:=λc st4=>st4=st2/\c=(Yt,())) ?_ (λ_ _ hh=>hh) ⟨rfl,rfl⟩) ?_)
    .rintro x c st4 _ _ ⟨rfl,rfl⟩
     refine RN (Xu ?_)
     have:(Tp st4).size=1:=by rw[hB2.pend];rfl
     rw[if_neg (by omega)];exact RV ⟨rfl,rfl⟩
    .rintro c st4 ⟨rfl,rfl⟩
     dsimp only;refine RN (WQ (RN (WQ (RV (.inr (.inr ⟨by omega,by rw[hz1],n1,n-n1,_,tail st4 hB2 hu _⟩))))))
  .dsimp only
   rw[if_pos (Rx _)];exact RV ⟨rfl,.inr hT⟩
 case post=>
  rintro c st' ⟨rfl,hr⟩
  dsimp only
  refine RN (Ul (Ud (I:=λx c st2=>c=(Yt,())/\((∃p,Tp st2=#[p]/\(Su st2).Perm a/\W3 st2=Yt/\Up (Su st2) 0 n)\/(x=0/\∃n1 n2 pw,Tw a st2 n1 n2 pw)))
   (Q:=λc st2=>c=(Yt,())/\(Su st2).Perm a/\W3 st2=Yt/\Up (Su st2) 0 n) ?_ ?_ ?_) ?_)
  .rintro x c st2 _ _ ⟨rfl,hh⟩
   refine RN (Xu ?_);rcases hh with⟨p,b1,b2,b3,b4⟩ | ⟨rfl,n1,n2,pw,T⟩
   .rw[if_pos (by rw[b1];exact Rx 1)]
    exact RV ⟨rfl,b2,b3,b4⟩
   .have e2:(Tp st2).size=2:=by rw[T.pend];rfl
    rw[if_neg (by omega)];rw[e2];refine RN (QM h0 hd T.perm T.kind T.ok T.pend T.h1 T.h2 (by rw[T.sum]) T.up1 T.up2 λst3 c1 c2 c3 c4=>?_);simp only[Yg,Rv,if_false];exact RV ⟨rfl,.inl ⟨_,c3,c1,c2,by rw[<-hn];exact c4⟩⟩
  .rintro c st2 ⟨hc,hh⟩
   rcases hh with⟨p,b1,b2,b3,b4⟩ | ⟨hx,_⟩
   .exact⟨hc,b2,b3,b4⟩
   .omega
  .refine⟨rfl,?_⟩
   rcases hr with hO | hT
   .exact .inl ⟨_,hO.pend,hO.perm,hO.ok,hO.up⟩
   .exact .inr ⟨rfl,hT⟩
  .rintro c st2 ⟨rfl,b2,b3,b4⟩
   exact RV (h st2 b2 b3 b4)
end
theorem xj:∀{vs:List Rm}{ns:List Int},Wz vs ns->vs.map ZJ=ns
 | _,_,.nil=>rfl
 | _,_,.cons x t h=>by rw[Ro,xj h];rfl
theorem wB:∀vs:List Rm,(vs.zip vs).map (λp=>ZJ p.1)=vs.map ZJ
 | []=>rfl
 | v::vs=>by rw[List.zip_cons_cons,Ro,Ro,wB vs]
def Jg(h:Wz vs ns)(hd:ns.Nodup):Dif (Xx vs):=by
 unfold Dif
 have e:(Xx vs).toList=vs.zip vs:=by show(vs.toArray.zip vs.toArray).toList=_;simp
 rw[e,wB,xj h];exact hd
section
variable{prog:Sx}{w:Th}{A:Tu}{E:Rm->Rr->Prop}{s:Rr}
theorem zy(ho:s.heap.get? a=Z_ (Ww "list" vs.toArray n))(hI:Wz vs ns)(hd:ns.Nodup)(h64:64<=vs.length)(h128:vs.length<128)
 (h:∀(out:Array Rm)(ns':List Int),Wz out.toList ns'->ns'.Perm ns->ns'.Pairwise (·<=·)->P (.done (.ret .none)) { s with heap:=sortedHeap s.heap a vs out }) :
 RG (RQ prog w) A (S8.«list.sort» ⟨[.ref a],[]⟩) P E s:=by
 have la:a<s.heap.objs.size:=RB ho
 obtain⟨e1,g1⟩:∃e1,(s.heap.update a (Vz λ_=>#[])).get? a=Z_ (Ww "list" #[] e1):=⟨_,get?_update_seq ho (λ_=>#[])⟩
 have g2:(((s.heap.update a (Vz λ_=>#[])).push (Ww "tuple" vs.toArray 0)).push (Ww "list" #[] 0)).get? a=Z_ (Ww "list" #[] e1):=by
  have k1:a≠(s.heap.update a (Vz λ_=>#[])).objs.size:=by rw[Rz.size_update];exact RX la
  have k2:a≠((s.heap.update a (Vz λ_=>#[])).push (Ww "tuple" vs.toArray 0)).objs.size:=by rw[size_push',Rz.size_update];exact RX (TV la)
  rw[Rz.get?_push_ne _ _ _ k2,Rz.get?_push_ne _ _ _ k1];exact g1
 have hz:vs.toArray.size=vs.length:=by simp
 obtain⟨v1,v2,rest,rfl⟩:∃v1 v2 rest,vs=v1::v2::rest:=by
  match vs,h64 with
  | [],q=>simp at q
  | [_],q=>simp at q
  | v1::v2::rest,_=>exact⟨v1,v2,rest,rfl⟩
 rw[list_sort_plain];refine Rj (listItems_at ho rfl (Rj (listUpdate_at ho rfl (Rj (seqEpoch_at g1 rfl (Rj (wpAny_newTuple (Rj (Zc (Uu ?_))))))))));show RG (RQ prog w) A _ P E { s with heap:=((s.heap.update a (Vz λ_=>#[])).push (Ww "tuple" (v1::v2::rest).toArray 0)).push (Ww "list" #[] 0) };dsimp only
 have h2:¬(v1::v2::rest).toArray.size<2:=by rw[hz];omega
 rw[if_neg h2,if_neg h2,keyKind_ints hI];have z:(Xx (v1::v2::rest)).size=(v1::v2::rest).length:=pairsOf_size _
 refine Rj (Rn (Rj (V6 (LK (a:=Xx (v1::v2::rest)) (st:=SortSt.mk' WT ((v1::v2::rest).toArray.zip (v1::v2::rest).toArray) #[] 7 none)
  (Q:=λ_ st'=>(Su st').Perm (Xx (v1::v2::rest))/\W3 st'=Yt/\Up (Su st') 0 (Xx (v1::v2::rest)).size) hI.intKeys (Jg hI hd) (by omega) (by omega) (Array.Perm.refl _) rfl rfl rfl λst' a1 a2 a3=>⟨a1,a2,a3⟩) ?_ λ_ _ e=>e)))
 rintro⟨⟨⟩,st'⟩ s' ⟨rfl,hp,hf,hu⟩
 dsimp only
 have hs:SortedTo (Su st') (Xx (v1::v2::rest)).size:=λi j hij hj=>by
  by_cases e:i=j
  .subst e;exact Zk _
  .exact Int.le_of_lt (hu i j (Uj _) (by omega) hj)
 obtain⟨ns',b1,b2,b3⟩:=sorted_out hI hp hs
 have hz2:((Su st').map (·.2)).size<=sizeLine+1:=by
  rw[Array.size_map,hp.size_eq,z,Ut];omega
 refine Rj (seqEpoch_at g2 rfl (Rj (listUpdate_at g2 rfl ?_ (hsz2:=hz2))));rw[hf];simp only[bne_self_eq_false,Rv,if_false];exact Rn (h _ ns' b1 b2 b3)
def sort_any(ho:s.heap.get? a=Z_ (Ww "list" vs.toArray n))(hI:Wz vs ns)(hd:ns.Nodup)(h128:vs.length<128)
 (h:∀(out:Array Rm)(ns':List Int),Wz out.toList ns'->ns'.Perm ns->ns'.Pairwise (·<=·)->P (.done (.ret .none)) { s with heap:=sortedHeap s.heap a vs out }) :
 RG (RQ prog w) A (S8.«list.sort» ⟨[.ref a],[]⟩) P E s:=by
 rcases Nat.lt_or_ge vs.length 64 with h64 | h64
 .exact list_sort_tree ho hI h64 h
 .exact zy ho hI hd h64 h128 h
end
end TS
set_option backward.eqns.nonrecursive false
namespace Z
inductive DK where
 | i (n:Int)
 | s (x:List Nat)
 deriving DecidableEq
inductive D where
 | non | bl (b:Bool) | int (i:Int) | str (s:List Nat)
 | tup (l:List D) | lst (l:List D) | dct (ks:List DK) (vs:List D) | obj (c:Nat) (ns:List (List Nat)) (vs:List D)
 | err (c:Nat)
inductive R(α:Type)where
 | ok (a:α)
 | exc (c:Nat)
 | stuck
def nope{α:Type}{t:α}{p:Prop}(h:(Yt:Option α)=Z_ t):p:=nomatch h
def fD{α:Type}{t:α}{p:Prop}(h:(.stuck:R α)=.ok t):p:=nomatch h
namespace R
noncomputable def bind{α β:Type}(x:R α)(f:α->R β):R β:=match x with
 | .ok a=>f a
 | .exc c=>.exc c
 | .stuck=>.stuck
instance:Monad R where
 pure:=.ok
 bind:=R.bind
@[simp] def Qk(a:α)(f:α->R β):(R.ok a >>= f)=f a:=rfl
@[simp] def OJ(c:Nat)(f:α->R β):((R.exc c:R α) >>= f)=.exc c:=rfl
@[simp] def Jf(f:α->R β):((R.stuck:R α) >>= f)=.stuck:=rfl
@[simp] def QW(a:α):(pure a:R α)=.ok a:=rfl
noncomputable def of{α:Type}:Option α->R α
 | some a=>.ok a
 | none=>.stuck
noncomputable def chk(b:Bool){α:Type}(x:R α):R α:=if b then x else .stuck
end R
inductive Own where
 | sh | ow | me
 deriving DecidableEq
abbrev Slot:=Own×D
abbrev Dst:=List (Option Slot)
inductive O2 where
 | add | sub | mul | fdiv | mod | pow | eq | ne | lt | le | gt | ge | is | isnot | «in» | notin
 deriving DecidableEq
inductive Ty where
 | int | bool | str | tup | lst | dct | cls (c:Nat) | valueError
 deriving DecidableEq
inductive B1 where
 | len | abs | tuple | list | dict | sorted | sortedSet | lenSet | all | any | str | max | min | sum | int
 deriving DecidableEq
inductive B2 where
 | max | min | divmod | maxd | mind
 deriving DecidableEq
inductive M1 where
 | get | join | startswith | endswith | zfill | lstrip | rstrip | strip | isdigit | isalpha | index | count | find
 deriving DecidableEq
mutual
inductive T where
 | var (i:Nat)
 | cst (d:D)
 | op2 (p:O2) (a b:T)
 | neg (a:T)
 | not (a:T)
 | and (a b:T)
 | or (a b:T)
 | ite (c a b:T)
 | tup (l:TL)
 | lst (l:TL)
 | dnew (ks:List DK) (vs:TL)
 | idx (a i:T)
 | kidx (ks:List DK) (vs:List D) (i:T)
 | kin (ks:List DK) (neg:Bool) (i:T)
 | slc (a:T) (lo hi:T)
 | call (f:Nat) (l:TL)
 | mk (c:Nat) (l:TL)
 | meth (m:List Nat) (o:T) (l:TL)
 | fld (o:T) (f:List Nat)
 | b1 (b:B1) (a:T)
 | b2 (b:B2) (a c:T)
 | m0 (m:M1) (o:T)
 | m1 (m:M1) (o a:T)
 | get2 (o a c:T)
 | isin (a:T) (ty:Ty)
 | fstr (l:TL)
 | comp (caps:List Nat) (m:Nat) (tg:Bool) (it:TI) (cond:T) (elt:T)
inductive TL where
 | nil
 | cons (t:T) (l:TL)
inductive TI where
 | val (t:T)
 | rng1 (t:T)
 | rng2 (a b:T)
 | rng3 (a b c:T)
 | zip (a b:T)
 | enum (a:T)
end
mutual
inductive S where
 | set (i:Nat) (e:T)
 | sett (is:List Nat) (e:T)
 | seti (i:Nat) (k e:T)
 | setf (i:Nat) (f:List Nat) (e:T)
 | setx (i f:Nat) (l:TL)
 | append (i:Nat) (e:T)
 | clear (i:Nat)
 | extend (i:Nat) (e:T)
 | update (i:Nat) (e:T)
 | pop1 (j:Option Nat) (i:Nat) (k:T)
 | pop2 (i:Nat) (k e:T)
 | ini (c:Nat) (l:TL)
 | ifs (c:T) (a b:SL)
 | ifq (c:T) (a b:SL)
 | for_ (tg:List Nat) (tup:Bool) (it:TI) (b:SL)
 | while_ (c:T) (b:SL)
 | ret (e:T)
 | retn
 | expr (e:T)
 | raise (c:Nat) (e:T)
 | try_ (b:SL) (c:Nat) (nm:Option Nat) (h:SL)
 | brk | cont | pass
inductive SL where
 | nil
 | cons (s:S) (l:SL)
end
mutual
noncomputable def D.imm:D->Bool
 | .non=>true
 | .bl _=>true
 | .int _=>true
 | .str _=>true
 | .tup l=>immL l
 | .lst _=>false
 | .dct _ _=>false
 | .obj _ _ _=>false
 | .err _=>false
noncomputable def immL:List D->Bool
 | []=>true
 | d::l=>d.imm&&immL l
end
noncomputable def look:List DK->List D->DK->Option D
 | k::ks,v::vs,x=>if k=x then some v else look ks vs x
 | _,_,_=>none
noncomputable def eqS:D->D->Option Bool
 | .non,.non=>some Y_
 | .non,.int _=>some Zd
 | .non,.bl _=>some Zd
 | .non,.str _=>some Zd
 | .int _,.non=>some Zd
 | .bl _,.non=>some Zd
 | .str _,.non=>some Zd
 | .int i,.int j=>some (decide (i=j))
 | .bl i,.bl j=>some (decide (i=j))
 | .str i,.str j=>some (decide (i=j))
 | .int _,.str _=>some Zd
 | .str _,.int _=>some Zd
 | .bl _,.str _=>some Zd
 | .str _,.bl _=>some Zd
 | _,_=>none
noncomputable def size(n:Nat):Bool:=decide (n<=16777216)
noncomputable def place(n:Nat)(i:Int):Option Nat:=if 0<=i then(if i<n then some i.toNat else none)else(if 0<=i+n then some (i+n).toNat else none)
noncomputable def clip(n:Nat)(i:Int):Nat:=if 0<=i then min i.toNat n else(i+n).toNat
def cV(n:Nat):Option Int->Nat
 | none=>0
 | some i=>clip n i
def bQ(n:Nat):Option Int->Nat
 | none=>n
 | some i=>clip n i
noncomputable def cut{α:Type}(l:List α)(lo hi:Nat):List α:=(l.take hi).drop lo
noncomputable def keyOf:D->Option DK
 | .int i=>some (.i i)
 | .str x=>some (.s x)
 | _=>none
noncomputable def keyD:DK->D
 | .i n=>.int n
 | .s x=>.str x
noncomputable def putV:List DK->List D->DK->D->List D
 | k::ks,v::vs,x,y=>if k=x then y::vs else v::putV ks vs x y
 | _,_,_,y=>[y]
noncomputable def dq:List DK->DK->List DK
 | k::ks,x=>if k=x then k::ks else k::dq ks x
 | [],x=>[x]
noncomputable def Af:List DK->List D->DK->List D
 | k::ks,v::vs,x=>if k=x then vs else v::Af ks vs x
 | _,vs,_=>vs
noncomputable def rG:List DK->DK->List DK
 | k::ks,x=>if k=x then ks else k::rG ks x
 | [],_=>[]
noncomputable def ltS:List Nat->List Nat->Bool
 | [],[]=>false
 | [],_::_=>true
 | _::_,[]=>false
 | a::x,b::y=>if a<b then Y_ else if b<a then Zd else ltS x y
noncomputable def insS(x:List Nat):List (List Nat)->List (List Nat)
 | []=>[x]
 | y::l=>if ltS x y then x::y::l else y::insS x l
def bF:List (List Nat)->List (List Nat)
 | []=>[]
 | x::l=>insS x (bF l)
noncomputable def strsOf:List D->Option (List (List Nat))
 | []=>some []
 | .str x::l=>(strsOf l).map (x::·)
 | _::_=>none
noncomputable def intsOf:List D->Option (List Int)
 | []=>some []
 | .int x::l=>(intsOf l).map (x::·)
 | _::_=>none
noncomputable def bB{α:Type} [DecidableEq α]:List α->List α
 | []=>[]
 | x::l=>if x∈l then bB l else x::bB l
noncomputable def insI(x:Int):List Int->List Int
 | []=>[x]
 | y::l=>if x<y then x::y::l else y::insI x l
def sortI:List Int->List Int
 | []=>[]
 | x::l=>insI x (sortI l)
noncomputable def truth:D->Option Bool
 | .non=>some Zd
 | .bl b=>some b
 | .int i=>some (decide (i≠0))
 | .str x=>some (!x.isEmpty)
 | .tup l=>some (!l.isEmpty)
 | .lst l=>some (!l.isEmpty)
 | .dct ks _=>some (!ks.isEmpty)
 | _=>none
noncomputable def bits(i:Int):Nat:=if i=0 then 0 else i.natAbs.log2+1
noncomputable def cC(a b:Int):Bool:=decide (bits a<=64)||decide (bits b<=64)||decide (bits a+bits b<=134217728)
noncomputable def arith(p:O2)(a b:Int):R (Bool×D):=match p with
 | .add=>.ok (Zd,.int (a+b))
 | .sub=>.ok (Zd,.int (a-b))
 | .mul=>.chk (cC a b) (.ok (Zd,.int (a*b)))
 | .fdiv=>.chk (decide (b≠0)&&decide (b.natAbs.log2<9000)) (.ok (Zd,.int (a.fdiv b)))
 | .mod=>.chk (decide (b≠0)) (.ok (Zd,.int (a.fmod b)))
 | .pow=>.chk (decide (0<=b)&&decide (b<=64)&&decide (a.natAbs<18446744073709551616)) (.ok (Zd,.int (a ^ b.toNat)))
 | .lt=>.ok (Zd,.bl (decide (a<b)))
 | .le=>.ok (Zd,.bl (decide (a<=b)))
 | .gt=>.ok (Zd,.bl (decide (b<a)))
 | .ge=>.ok (Zd,.bl (decide (b<=a)))
 | _=>.stuck
noncomputable def fY:D->Bool
 | .non=>true
 | .bl _=>true
 | .int _=>true
 | .str _=>true
 | _=>false
noncomputable def inS(x:D):List D->Option Bool
 | []=>some Zd
 | y::l=>match eqS y x,inS x l with
   | some s,some t=>some (s||t)
   | _,_=>none
noncomputable def isIn(a b:D):Option Bool:=match b with
 | .lst l=>if fY a then inS a l else none
 | .tup l=>if fY a then inS a l else none
 | .dct ks _=>(keyOf a).map λk=>decide (k∈ks)
 | .str y=>match a with
   | .str [c]=>some (decide (c∈y))
   | _=>none
 | _=>none
def eqA(a b:D):Option Bool:=eqS a b
noncomputable def o2(p:O2)(a b:D):R (Bool×D):=match p with
 | .eq=>.of ((eqA a b).map λt=>(Zd,.bl t))
 | .ne=>.of ((eqA a b).map λt=>(Zd,.bl !t))
 | .is=>match b with
   | .non=>match a with
     | .non=>.ok (Zd,.bl Y_)
     | _=>.ok (Zd,.bl Zd)
   | .bl y=>match a with
     | .bl x=>.ok (Zd,.bl (x==y))
     | _=>.stuck
   | _=>.stuck
 | .isnot=>match b with
   | .non=>match a with
     | .non=>.ok (Zd,.bl Zd)
     | _=>.ok (Zd,.bl Y_)
   | .bl y=>match a with
     | .bl x=>.ok (Zd,.bl (x !=y))
     | _=>.stuck
   | _=>.stuck
 | .in=>.of ((isIn a b).map λt=>(Zd,.bl t))
 | .notin=>.of ((isIn a b).map λt=>(Zd,.bl !t))
 | p=>match a,b with
   | .int i,.int j=>arith p i j
   | .str x,.str y=>match p with
     | .add=>.chk (size (x.length+y.length)) (.ok (Zd,.str (x++y)))
     | .lt=>.ok (Zd,.bl (ltS x y))
     | .le=>.ok (Zd,.bl (!ltS y x))
     | _=>.stuck
   | .lst x,.lst y=>match p with
     | .add=>.chk (size (x.length+y.length)) (.ok (Y_,.lst (x++y)))
     | _=>.stuck
   | .tup x,.tup y=>match p with
     | .add=>.chk (size (x.length+y.length)) (.ok (Zd,.tup (x++y)))
     | _=>.stuck
   | _,_=>.stuck
noncomputable def idxD(a i:D):R (Bool×D):=match a,i with
 | .lst l,.int j=>.of ((place l.length j).bind λn=>l[n]?.map λd=>(Zd,d))
 | .tup l,.int j=>.of ((place l.length j).bind λn=>l[n]?.map λd=>(Zd,d))
 | .str x,.int j=>.of ((place x.length j).bind λn=>x[n]?.map λc=>(Zd,.str [c]))
 | .dct ks vs,k=>.of ((keyOf k).bind λx=>(look ks vs x).map λd=>(Zd,d))
 | _,_=>.stuck
noncomputable def slcD(a:D)(lo hi:Option Int):Option (Bool×D):=match a with
 | .lst l=>some (Y_,.lst (cut l (cV l.length lo) (bQ l.length hi)))
 | .str x=>some (Zd,.str (cut x (cV x.length lo) (bQ x.length hi)))
 | .tup l=>if cV l.length lo=0/\bQ l.length hi=l.length then none else some (Zd,.tup (cut l (cV l.length lo) (bQ l.length hi)))
 | _=>none
noncomputable def bnd(t:T)(d:D):Option (Option Int):=match t with
 | .cst .non=>some none
 | _=>match d with
   | .int i=>some (Z_ i)
   | _=>none
noncomputable def fldD(ok:Nat->Bool)(o:D)(f:List Nat):R (Bool×D):=match o with
 | .obj c ns vs=>.chk (ok c) (.of ((look (ns.map .s) vs (.s f)).map λd=>(Zd,d)))
 | _=>.stuck
noncomputable def gk:D->Option (List D)
 | .lst l=>some l
 | .tup l=>some l
 | .dct ks _=>some (ks.map keyD)
 | .str x=>some (x.map λc=>.str [c])
 | _=>none
noncomputable def rQ:D->Option (List D)
 | .lst l=>some l
 | .dct ks _=>some (ks.map keyD)
 | _=>none
noncomputable def boolsOf:List D->Option (List Bool)
 | []=>some []
 | .bl b::l=>(boolsOf l).map (b::·)
 | _::_=>none
noncomputable def figs(n:Nat):List Nat:=(Nat.toDigits 10 n).map Char.toNat
noncomputable def oO(i:Int):List Nat:=if i<0 then 45::figs i.natAbs else figs i.natAbs
noncomputable def ssD(l:List D):Option (Bool×D):=match strsOf l with
 | some x=>if l.length<4000/\(bB x).length<64 then some (Y_,.lst ((bF (bB x)).map .str))else none
 | none=>(intsOf l).bind λx=>if l.length<4000/\(bB x).length<128 then some (Y_,.lst ((sortI (bB x)).map .int))else none
noncomputable def b1D(b:B1)(a:D):R (Bool×D):=match b with
 | .len=>match a with
   | .lst l=>.ok (Zd,.int l.length)
   | .tup l=>.ok (Zd,.int l.length)
   | .dct ks _=>.ok (Zd,.int ks.length)
   | .str x=>.ok (Zd,.int x.length)
   | _=>.stuck
 | .abs=>match a with
   | .int i=>.ok (Zd,.int (if i<0 then -i else i))
   | _=>.stuck
 | .tuple=>match a with
   | .lst l=>.ok (Zd,.tup l)
   | .tup l=>.ok (Zd,.tup l)
   | _=>.stuck
 | .list=>match a with
   | .lst l=>.ok (Y_,.lst l)
   | .tup l=>.ok (Y_,.lst l)
   | _=>.stuck
 | .dict=>match a with
   | .dct ks vs=>.ok (Y_,.dct ks vs)
   | _=>.stuck
 | .sorted=>.of ((rQ a).bind λl=>(strsOf l).bind λx=>if x.length<64 then some (Y_,.lst ((bF x).map .str))else none)
 | .sortedSet=>match a with
   | .lst l=>.of (ssD l)
   | _=>.stuck
 | .lenSet=>.of ((gk a).bind λl=>(strsOf l).map λx=>(Zd,.int (bB x).length))
 | .all=>match a with
   | .lst l=>.of ((boolsOf l).map λt=>(Zd,.bl (t.all id)))
   | _=>.stuck
 | .any=>match a with
   | .lst l=>.of ((boolsOf l).map λt=>(Zd,.bl (t.any id)))
   | _=>.stuck
 | .str=>match a with
   | .int i=>.chk (decide (i.natAbs.log2<1920)&&size (oO i).length) (.ok (Zd,.str (oO i)))
   | _=>.stuck
 | .max=>match a with
   | .lst l=>.of ((intsOf l).bind λx=>match x with
     | []=>none
     | y::r=>some (Zd,.int (r.foldl (λm z=>if z>m then z else m) y)))
   | _=>.stuck
 | .min=>match a with
   | .lst l=>.of ((intsOf l).bind λx=>match x with
     | []=>none
     | y::r=>some (Zd,.int (r.foldl (λm z=>if z<m then z else m) y)))
   | _=>.stuck
 | .sum=>match a with
   | .lst l=>.of ((intsOf l).map λx=>(Zd,.int x.sum))
   | _=>.stuck
 | .int=>match a with
   | .int i=>.ok (Zd,.int i)
   | .bl b=>.ok (Zd,.int (if b then 1 else 0))
   | _=>.stuck
noncomputable def KR:List Int->D
 | []=>.non
 | y::r=>.int (r.foldl (λm z=>if z<m then z else m) y)
noncomputable def b2D(b:B2)(x y:D):R (Bool×D):=match x,y with
 | .int i,.int j=>match b with
   | .max=>.ok (Zd,.int (if j>i then j else i))
   | .min=>.ok (Zd,.int (if j<i then j else i))
   | .divmod=>.chk (decide (0<j)&&decide (j.natAbs.log2<9000)) (.ok (Zd,.tup [.int (i/j),.int (i % j)]))
   | .maxd=>.stuck
   | .mind=>.stuck
 | .lst l,.int j=>match b with
   | .maxd=>.of ((intsOf l).map λr=>(Zd,.int (match r with
     | []=>j
     | y::r=>r.foldl (λm z=>if z>m then z else m) y)))
   | _=>.stuck
 | .lst l,.non=>match b with
   | .mind=>.of ((intsOf l).map λr=>(Zd,KR r))
   | _=>.stuck
 | _,_=>.stuck
noncomputable def Kd(sep:List Nat):List (List Nat)->List Nat
 | []=>[]
 | [x]=>x
 | x::y::l=>x++sep++Kd sep (y::l)
noncomputable def m1D(m:M1)(o a:D):R (Bool×D):=match m with
 | .get=>match o with
   | .dct ks vs=>.of ((keyOf a).map λk=>(Zd,(look ks vs k).getD .non))
   | _=>.stuck
 | .join=>match o,a with
   | .str sep,.lst l=>.of ((strsOf l).bind λx=>if size ((x.map VM).sum+x.length*sep.length)then some (Zd,.str (Kd sep x))else none)
   | _,_=>.stuck
 | .startswith=>match o,a with
   | .str x,.str y=>.ok (Zd,.bl (y.isPrefixOf x))
   | _,_=>.stuck
 | .zfill=>match o,a with
   | .str x,.int n=>.chk (decide (0<=n)&&decide (n<=1000)&&!(x.head?==Z_ 43)&&!(x.head?==Z_ 45)) (.ok (Zd,.str (Uc (n.toNat-x.length) 48++x)))
   | _,_=>.stuck
 | .lstrip=>match o,a with
   | .str x,.str [c]=>.ok (Zd,.str (x.dropWhile (·==c)))
   | _,_=>.stuck
 | _=>.stuck
noncomputable def Kh:List D->Option (List Nat)
 | []=>some []
 | [.str x,.int i]=>if i.natAbs.log2<1920 then some (x++oO i)else none
 | .str x::l=>(Kh l).map (x++·)
 | _::_=>none
noncomputable def p7(o a c:D):R (Bool×D):=match o with
 | .dct ks vs=>.of ((keyOf a).map λk=>(Zd,(look ks vs k).getD c))
 | _=>.stuck
structure Orc where
 fn:Nat->List D->R (Bool×D)
 ini:Nat->D->List D->R D
 meth:Nat->List Nat->Option Nat
 init:Nat->Option Nat
 sub:Nat->Nat->Bool
 w:Nat
noncomputable def isD(o:Orc)(ty:Ty)(d:D):Option Bool:=match ty with
 | .cls c'=>match d with
   | .err c=>if o.sub c c then some (o.sub c c')else none
   | _=>none
 | .valueError=>match d with
   | .err c=>if o.sub c c then some Y_ else none
   | _=>none
 | ty=>match d with
   | .non=>some Zd
   | .bl _=>some (match ty with | .bool=>true | .int=>true | _=>false)
   | .int _=>some (match ty with | .int=>true | _=>false)
   | .str _=>some (match ty with | .str=>true | _=>false)
   | .tup _=>some (match ty with | .tup=>true | _=>false)
   | .lst _=>some (match ty with | .lst=>true | _=>false)
   | .dct _ _=>some (match ty with | .dct=>true | _=>false)
   | _=>none
noncomputable def Ax(δ:Dst)(i:Nat):Option D:=match δ[i]? with
 | some (Z_ (_,d))=>some d
 | _=>none
noncomputable def cQ(δ:Dst):List Nat->Option (List D)
 | []=>some []
 | i::l=>(Ax δ i).bind λd=>(cQ δ l).map (d::·)
noncomputable def isOwn(δ:Dst)(i:Nat):Bool:=match δ[i]? with
 | some (Z_ (.ow,_))=>true
 | some (Z_ (.me,_))=>true
 | _=>false
noncomputable def lent(br:Bool)(r:Bool×D):R (Bool×D):=if br then(if r.2.imm then .ok r else .stuck)else .ok r
noncomputable def rngD(a b:Int):List D:=(TQ (b-a).toNat).map λ(k:Nat)=>D.int (a+(k:Int))
noncomputable def Py(a b c:Int):List D:=(TQ (if a<b then(b-a-1)/c+1 else 0).toNat).map λ(k:Nat)=>D.int (a+(k:Int)*c)
noncomputable def zipD:List D->List D->List D
 | x::l,y::r=>.tup [x,y]::zipD l r
 | _,_=>[]
noncomputable def dU(i:Nat):List D->List D
 | []=>[]
 | x::l=>.tup [.int (i:Int),x]::dU (i+1) l
noncomputable def inR(i:Int):Bool:=decide (-1000000<=i)&&decide (i<=1000000)
noncomputable def QR:D->D->D->R (List D)
 | .int i,.int j,.int k=>.chk (inR i&&inR j&&inR k&&decide (0<k)) (.ok (Py i j k))
 | _,_,_=>.stuck
noncomputable def zipR:D->D->R (List D)
 | .tup l,.tup r=>.ok (zipD l r)
 | _,_=>.stuck
def GJ{x y:D}{l:List D}(h:zipR x y=.ok l):∃a b,x=.tup a/\y=.tup b/\l=zipD a b:=by
 cases x<;>first | exact fD h | skip
 cases y<;>first | exact fD h | (cases h;exact⟨_,_,rfl,rfl,rfl⟩)
noncomputable def takes(m:Nat)(tg:Bool)(d:D):Option (List D):=if tg then(match d with
 | .tup l=>if l.length=m then some l else none
 | _=>none)else some [d]
noncomputable def aR(f:List D->R (Bool×D))(c:List D->R (Bool×D))(m:Nat)(tg:Bool):List D->R (List D)
 | []=>.ok []
 | d::l=>(R.of (takes m tg d)).bind λx=>(c x).bind λt=>(R.of (truth t.2)).bind λb=>
   if b then(f x).bind λy=>(aR f c m tg l).bind λr=>.ok (y.2::r)else aR f c m tg l
noncomputable def bV:D->R (Bool×D)
 | .bl b=>.ok (Zd,.bl b)
 | _=>.stuck
noncomputable def bG(δ:Dst):T->Bool
 | .var i=>isOwn δ i
 | _=>false
mutual
noncomputable def ev(o:Orc)(δ:Dst)(lk:Bool):T->R (Bool×D)
 | .var i=>match δ[i]? with
   | some (Z_ (.sh,d))=>.ok (Zd,d)
   | some (Z_ (_,d))=>if lk then .ok (Zd,d)else .stuck
   | _=>.stuck
 | .cst d=>.ok (Zd,d)
 | .op2 p a b=>(ev o δ Y_ a).bind λx=>(ev o δ Y_ b).bind λy=>o2 p x.2 y.2
 | .neg a=>(ev o δ Y_ a).bind λx=>match x.2 with
   | .int i=>.ok (Zd,.int (-i))
   | _=>.stuck
 | .not a=>(ev o δ Y_ a).bind λx=>(R.of (truth x.2)).bind λb=>.ok (Zd,.bl !b)
 | .and a b=>(ev o δ Y_ a).bind λx=>match x.2 with
   | .bl true=>(ev o δ Y_ b).bind λy=>bV y.2
   | .bl false=>.ok (Zd,.bl Zd)
   | _=>.stuck
 | .or a b=>(ev o δ Y_ a).bind λx=>match x.2 with
   | .bl true=>.ok (Zd,.bl Y_)
   | .bl false=>(ev o δ Y_ b).bind λy=>bV y.2
   | _=>.stuck
 | .ite c a b=>(ev o δ Y_ c).bind λx=>(R.of (truth x.2)).bind λt=>if t then ev o δ lk a else ev o δ lk b
 | .tup l=>(evL o δ l).bind λx=>.chk (!x.1&&size x.2.length) (.ok (Zd,.tup x.2))
 | .lst l=>(evL o δ l).bind λx=>.chk (!x.1&&size x.2.length) (.ok (Y_,.lst x.2))
 | .dnew ks l=>(evL o δ l).bind λx=>.chk (!x.1&&decide (ks.length=x.2.length)&&decide (ks.length<=1000)&&decide ks.Nodup) (.ok (Y_,.dct ks x.2))
 | .idx a i=>(ev o δ Y_ a).bind λx=>(ev o δ Y_ i).bind λy=>idxD x.2 y.2
 | .kidx ks vs i=>(ev o δ Y_ i).bind λy=>.of ((keyOf y.2).bind λx=>(look ks vs x).map λd=>(Zd,d))
 | .kin ks neg i=>(ev o δ Y_ i).bind λy=>.of ((keyOf y.2).map λx=>(Zd,.bl (neg ^^ decide (x∈ks))))
 | .slc a lo hi=>(ev o δ Y_ a).bind λx=>(ev o δ Y_ lo).bind λy=>(ev o δ Y_ hi).bind λz=>.of ((bnd lo y.2).bind λl=>(bnd hi z.2).bind λh=>slcD x.2 l h)
 | .call f l=>(evL o δ l).bind λx=>(o.fn f x.2).bind (lent x.1)
 | .mk c l=>(evL o δ l).bind λx=>(R.of (o.init c)).bind λf=>R.chk (!x.1) ((o.ini f (.obj c [] []) x.2).bind λd=>.ok (Y_,d))
 | .meth m a l=>(ev o δ (bG δ a) a).bind λx=>(evL o δ l).bind λy=>match x.2 with
   | .obj c ns _=>R.chk (!ns.contains m) ((R.of (o.meth c m)).bind λf=>(o.fn f (x.2::y.2)).bind (lent (bG δ a||y.1)))
   | _=>.stuck
 | .fld a f=>(ev o δ Y_ a).bind λx=>fldD (λc=>(o.init c).isSome) x.2 f
 | .b1 b a=>(ev o δ Y_ a).bind λx=>b1D b x.2
 | .b2 b a c=>(ev o δ Y_ a).bind λx=>(ev o δ Y_ c).bind λy=>b2D b x.2 y.2
 | .m0 _ _=>.stuck
 | .m1 m a b=>(ev o δ Y_ a).bind λx=>(ev o δ Y_ b).bind λy=>m1D m x.2 y.2
 | .get2 a b c=>(ev o δ Y_ a).bind λx=>(ev o δ Y_ b).bind λy=>(ev o δ Zd c).bind λz=>p7 x.2 y.2 z.2
 | .isin a ty=>(ev o δ Y_ a).bind λx=>.of ((isD o ty x.2).map λt=>(Zd,.bl t))
 | .fstr l=>(evL o δ l).bind λx=>.of ((Kh x.2).bind λt=>if size t.length then some (Zd,.str t)else none)
 | .comp caps m tg it c e=>(evI o δ Y_ it).bind λl=>(R.of (cQ δ caps)).bind λcs=>
   (aR (λx=>ev o ((x++cs).map λd=>some (.sh,d)) Zd e) (λx=>ev o ((x++cs).map λd=>some (.sh,d)) Y_ c) m tg l).bind λr=>
    R.chk (size r.length&&(immL r||caps.all λi=>!isOwn δ i)) (.ok (Y_,.lst r))
noncomputable def evL(o:Orc)(δ:Dst):TL->R (Bool×List D)
 | .nil=>.ok (Zd,[])
 | .cons t l=>(ev o δ (bG δ t) t).bind λx=>(evL o δ l).bind λy=>.ok (bG δ t||y.1,x.2::y.2)
noncomputable def evI(o:Orc)(δ:Dst)(lk:Bool):TI->R (List D)
 | .val t=>(ev o δ lk t).bind λx=>.of (gk x.2)
 | .rng1 t=>(ev o δ Y_ t).bind λx=>match x.2 with
   | .int n=>.chk (inR n) (.ok (rngD 0 n))
   | _=>.stuck
 | .rng2 a b=>(ev o δ Y_ a).bind λx=>(ev o δ Y_ b).bind λy=>match x.2,y.2 with
   | .int i,.int j=>.chk (inR i&&inR j) (.ok (rngD i j))
   | _,_=>.stuck
 | .rng3 a b c=>(ev o δ Y_ a).bind λx=>(ev o δ Y_ b).bind λy=>(ev o δ Y_ c).bind λz=>QR x.2 y.2 z.2
 | .zip a b=>(ev o δ lk a).bind λx=>(ev o δ lk b).bind λy=>zipR x.2 y.2
 | .enum a=>(ev o δ lk a).bind λx=>match x.2 with
   | .lst l=>.ok (dU 0 l)
   | _=>.stuck
end
mutual
noncomputable def aW:T->List Nat
 | .var i=>[i]
 | .cst _=>[]
 | .op2 _ a b=>aW a++aW b
 | .neg a=>aW a
 | .not a=>aW a
 | .and a b=>aW a++aW b
 | .or a b=>aW a++aW b
 | .ite c a b=>aW c++(aW a++aW b)
 | .tup l=>fu l
 | .lst l=>fu l
 | .dnew _ l=>fu l
 | .idx a i=>aW a++aW i
 | .kidx _ _ i=>aW i
 | .kin _ _ i=>aW i
 | .slc a lo hi=>aW a++(aW lo++aW hi)
 | .call _ l=>fu l
 | .mk _ l=>fu l
 | .meth _ a l=>aW a++fu l
 | .fld a _=>aW a
 | .b1 _ a=>aW a
 | .b2 _ a b=>aW a++aW b
 | .m0 _ a=>aW a
 | .m1 _ a b=>aW a++aW b
 | .get2 a b c=>aW a++(aW b++aW c)
 | .isin a _=>aW a
 | .fstr l=>fu l
 | .comp caps _ _ it _ _=>caps++JS it
noncomputable def fu:TL->List Nat
 | .nil=>[]
 | .cons t l=>aW t++fu l
noncomputable def JS:TI->List Nat
 | .val t=>aW t
 | .rng1 t=>aW t
 | .rng2 a b=>aW a++aW b
 | .rng3 a b c=>aW a++(aW b++aW c)
 | .zip a b=>aW a++aW b
 | .enum a=>aW a
end
noncomputable def share1(δ:Dst)(i:Nat):Dst:=match δ[i]? with
 | some (Z_ (.ow,d))=>δ.set i (Z_ (.sh,d))
 | _=>δ
def cG(δ:Dst):T->Dst
 | .var i=>share1 δ i
 | _=>δ
noncomputable def bU(δ:Dst):TI->Dst
 | .val (.var i)=>share1 δ i
 | .enum (.var i)=>share1 δ i
 | .zip a b=>cG (cG δ a) b
 | _=>δ
def share(δ:Dst)(is:List Nat):Dst:=is.foldl share1 δ
noncomputable def evF(o:Orc)(δ:Dst)(e:T):Dst×R (Bool×D):=match ev o δ Zd e with
 | .stuck=>(share δ (aW e),ev o (share δ (aW e)) Zd e)
 | r=>(δ,r)
inductive SO where
 | nx (δ:Dst)
 | rt (w:Bool) (d:D) (δ:Dst)
 | bk (δ:Dst)
 | ct (δ:Dst)
 | ex (c:Nat) (δ:Dst)
 | stuck
noncomputable def SO.of(δ:Dst){α:Type}(r:R α)(k:α->SO):SO:=match r with
 | .ok a=>k a
 | .exc _=>.stuck
 | .stuck=>.stuck
noncomputable def SO.ofX(δ:Dst){α:Type}(r:R α)(k:α->SO):SO:=match r with
 | .ok a=>k a
 | .exc c=>.ex c δ
 | .stuck=>.stuck
noncomputable def setSlot(δ:Dst)(i:Nat)(w:Bool)(d:D):Option Dst:=if i<δ.length then some (δ.set i (Z_ (if w then .ow else .sh,d)))else none
noncomputable def aH(δ:Dst):List Nat->List D->Option Dst
 | [],[]=>some δ
 | i::is,d::ds=>(setSlot δ i Zd d).bind fun δ'=>aH δ' is ds
 | _,_=>none
noncomputable def ownD(δ:Dst)(i:Nat):Option (Own×D):=match δ[i]? with
 | some (Z_ (.ow,d))=>some (.ow,d)
 | some (Z_ (.me,d))=>some (.me,d)
 | _=>none
noncomputable def aF(x:Option SO):SO:=match x with
 | some r=>r
 | none=>.stuck
noncomputable def putItem(c k v:D):Option D:=match c,k with
 | .lst l,.int j=>(place l.length j).map λn=>.lst (l.set n v)
 | .dct ks vs,k=>(keyOf k).bind λx=>if ks.length<=100000 then some (.dct (dq ks x) (putV ks vs x v))else none
 | _,_=>none
noncomputable def Kz(ok:Nat->Bool)(c:D)(f:List Nat)(v:D):Option D:=match c with
 | .obj c ns vs=>if ok c/\ns.length<900 then some (.obj c (dq (ns.map .s) (.s f) |>.map fun | .s x=>x | .i _=>[]) (putV (ns.map .s) vs (.s f) v))else none
 | _=>none
noncomputable def xZ:List DK->List D->List DK->List D->List DK×List D
 | ks,vs,k::ks',v::vs'=>xZ (dq ks k) (putV ks vs k v) ks' vs'
 | ks,vs,_,_=>(ks,vs)
noncomputable def bR(body:Dst->SO)(tg:List Nat)(tup:Bool):List D->Dst->SO
 | [],δ=>.nx δ
 | d::l,δ=>match takes tg.length tup d with
   | none=>.stuck
   | some ds=>match aH δ tg ds with
     | none=>.stuck
     | some δ1=>match body δ1 with
       | .nx δ2=>bR body tg tup l δ2
       | .ct δ2=>bR body tg tup l δ2
       | .bk δ2=>.nx δ2
       | r=>r
noncomputable def cY(c:Dst->R (Bool×D))(body:Dst->SO):Nat->Dst->SO
 | 0,_=>.stuck
 | n+1,δ=>SO.of δ ((c δ).bind λx=>R.of (truth x.2)) λb=>if b then(match body δ with
  | .nx δ2=>cY c body n δ2
  | .ct δ2=>cY c body n δ2
  | .bk δ2=>.nx δ2
  | r=>r)else .nx δ
mutual
noncomputable def evS(o:Orc):S->Dst->SO
 | .set i e,δ=>SO.of (evF o δ e).1 (evF o δ e).2 λr=>aF ((setSlot (evF o δ e).1 i r.1 r.2).map .nx)
 | .sett is e,δ=>SO.of (evF o δ e).1 (evF o δ e).2 λr=>aF ((takes is.length Y_ r.2).bind λds=>(aH (evF o δ e).1 is ds).map .nx)
 | .seti i k e,δ=>SO.of (evF o δ e).1 (evF o δ e).2 λr=>SO.of (evF o δ e).1 (ev o (evF o δ e).1 Y_ k) λy=>
  aF ((ownD (evF o δ e).1 i).bind λc=>(putItem c.2 y.2 r.2).map λc'=>.nx ((evF o δ e).1.set i (Z_ (c.1,c'))))
 | .setf i f e,δ=>SO.of (evF o δ e).1 (evF o δ e).2 λr=>aF ((ownD (evF o δ e).1 i).bind λc=>(Kz (λc=>(o.init c).isSome) c.2 f r.2).map λc'=>.nx ((evF o δ e).1.set i (Z_ (c.1,c'))))
 | .append i e,δ=>SO.of (evF o δ e).1 (evF o δ e).2 λr=>aF ((ownD (evF o δ e).1 i).bind λc=>match c.2 with
  | .lst l=>if size (l.length+1)then some (.nx ((evF o δ e).1.set i (Z_ (c.1,.lst (l++[r.2])))))else none
  | _=>none)
 | .setx i f l,δ=>SO.of δ (evL o δ l) λx=>SO.ofX δ ((o.fn f x.2).bind (lent x.1)) λr=>aF ((setSlot δ i r.1 r.2).map .nx)
 | .clear i,δ=>aF ((ownD δ i).bind λc=>match c.2 with
  | .lst _=>some (.nx (δ.set i (Z_ (c.1,.lst []))))
  | _=>none)
 | .extend i e,δ=>SO.of (evF o δ e).1 (evF o δ e).2 λr=>aF ((ownD (evF o δ e).1 i).bind λc=>match c.2,r.2 with
  | .lst l,.lst l'=>if size (l.length+l'.length)&&r.1 then some (.nx ((evF o δ e).1.set i (Z_ (c.1,.lst (l++l')))))else none
  | _,_=>none)
 | .update i e,δ=>SO.of δ (ev o δ Y_ e) λr=>aF ((ownD δ i).bind λc=>match c.2,r.2 with
  | .dct ks vs,.dct ks' vs'=>if decide (ks.length+ks'.length<=100000)&&(match e with | .var j=>j !=i | _=>true)then some (.nx (δ.set i (Z_ (c.1,.dct (xZ ks vs ks' vs').1 (xZ ks vs ks' vs').2))))else none
  | _,_=>none)
 | .pop1 j i k,δ=>SO.of δ (ev o δ Y_ k) λy=>aF ((ownD δ i).bind λc=>match c.2 with
  | .dct ks vs=>(keyOf y.2).bind λx=>(look ks vs x).bind λv=>(match j with
    | none=>some (SO.nx (δ.set i (Z_ (c.1,.dct (rG ks x) (Af ks vs x)))))
    | some j=>if i=j then none else(setSlot (δ.set i (Z_ (c.1,.dct (rG ks x) (Af ks vs x)))) j Zd v).map .nx)
  | _=>none)
 | .pop2 i k e,δ=>SO.of δ (ev o δ Y_ k) λy=>SO.of δ (ev o δ Y_ e) λ_=>aF ((ownD δ i).bind λc=>match c.2 with
  | .dct ks vs=>(keyOf y.2).bind λx=>some (.nx (δ.set i (Z_ (c.1,.dct (rG ks x) (Af ks vs x)))))
  | _=>none)
 | .ini c l,δ=>SO.of δ ((evL o δ l).bind λx=>(R.of (ownD δ 0)).bind λq=>(R.of (o.init c)).bind λf=>R.chk (!x.1) ((o.ini f q.2 x.2).bind λd=>.ok (q.1,d))) λr=>.nx (δ.set 0 (Z_ r))
 | .ifs c a b,δ=>SO.of δ ((ev o δ Y_ c).bind λx=>R.of (truth x.2)) λt=>if t then evSs o a δ else evSs o b δ
 | .ifq c a b,δ=>(fun δ1=>SO.of δ1 ((ev o δ1 Y_ c).bind λx=>R.of (truth x.2)) λt=>if t then evSs o a δ1 else evSs o b δ1) (share δ (aW c))
 | .for_ tg tup it b,δ=>(fun δ1=>SO.of δ1 (evI o δ1 Zd it) λl=>bR (evSs o b) tg tup l δ1) (bU δ it)
 | .while_ c b,δ=>cY (fun δ=>ev o δ Y_ c) (evSs o b) o.w δ
 | .ret e,δ=>match e with
   | .var i=>match δ[i]? with
     | some (Z_ (.ow,d))=>.rt Y_ d δ
     | some (Z_ (.sh,d))=>.rt Zd d δ
     | _=>.stuck
   | e=>SO.of (evF o δ e).1 (evF o δ e).2 λr=>.rt r.1 r.2 (evF o δ e).1
 | .retn,δ=>.rt Zd .non δ
 | .expr e,δ=>match e with
   | .call f l=>SO.of δ (evL o δ l) λx=>SO.ofX δ ((o.fn f x.2).bind (lent x.1)) λ_=>.nx δ
   | e=>SO.of δ (ev o δ Y_ e) λ_=>.nx δ
 | .raise c e,δ=>SO.of δ (ev o δ Y_ e) λ_=>.ex c δ
 | .try_ b c nm h,δ=>match evSs o b δ with
   | .ex c' δ1=>if o.sub c' c then(match nm with
     | none=>evSs o h δ1
     | some j=>aF ((setSlot δ1 j Zd (.err c')).map fun δ2=>match evSs o h δ2 with
       | .nx δ3=>.nx (δ3.set j none)
       | _=>.stuck))else .stuck
   | r=>r
 | .brk,δ=>.bk δ
 | .cont,δ=>.ct δ
 | .pass,δ=>.nx δ
noncomputable def evSs(o:Orc):SL->Dst->SO
 | .nil,δ=>.nx δ
 | .cons s l,δ=>match evS o s δ with
   | .nx δ1=>evSs o l δ1
   | r=>r
end
noncomputable def oN:S:=.expr (.m0 .get (.cst .non))
def FP:SL:=.cons oN .nil
structure Fd where
 np:Nat
 ns:Nat
 body:SL
noncomputable def bc(o:Orc)(f:Fd)(args:List D):R (Bool×D):=if args.length=f.np then(match evSs o f.body (args.map (λd=>some (Own.sh,d))++Uc (f.ns-f.np) none)with
 | .rt w d _=>.ok (w,d)
 | .nx _=>.ok (Zd,.non)
 | .ex c _=>.exc c
 | _=>.stuck)else .stuck
noncomputable def selfOf(δ:Dst):R D:=match(δ[0]?:Option (Option Slot))with
 | some (Z_ (.me,d))=>.ok d
 | _=>.stuck
noncomputable def Mu(o:Orc)(f:Fd)(self:D)(args:List D):R D:=if args.length+1=f.np then(match evSs o f.body (Z_ (Own.me,self)::(args.map (λd=>some (Own.sh,d))++Uc (f.ns-f.np) none))with
 | .rt _ .non δ=>selfOf δ
 | .nx δ=>selfOf δ
 | .ex c _=>.exc c
 | _=>.stuck)else .stuck
structure Prg where
 fns:List Fd
 meth:Nat->List Nat->Option Nat
 init:Nat->Option Nat
 sub:Nat->Nat->Bool
noncomputable def tabOf:List (Nat×List Nat×Nat)->Nat->List Nat->Option Nat
 | [],_,_=>none
 | (c',m',f)::l,c,m=>if c'=c/\m'=m then some f else tabOf l c m
noncomputable def CZ:List (Nat×Nat)->Nat->Option Nat
 | [],_=>none
 | (c',f)::l,c=>if c'=c then some f else CZ l c
noncomputable def orc2(P:Prg)(w:Nat):Nat->Orc×Option Orc
 | 0=>(⟨λ_ _=>.stuck,λ_ _ _=>.stuck,P.meth,P.init,P.sub,w⟩,none)
 | n+1=>(⟨λf a=>match P.fns[f]? with | some d=>bc (orc2 P w n).1 d a | none=>.stuck,λf s a=>match(orc2 P w n).2 with | none=>.stuck | some o=>(match P.fns[f]? with | some d=>Mu o d s a | none=>.stuck),P.meth,P.init,P.sub,w⟩,some (orc2 P w n).1)
def orc(P:Prg)(w n:Nat):Orc:=(orc2 P w n).1
def aL(h:P.fns[f]?=Z_ d):(orc P w (n+1)).fn f a=bc (orc P w n) d a:=by
 show(match P.fns[f]? with | some d=>bc (orc P w n) d a | none=>.stuck)=_;rw[h]
end Z
open Z.T renaming var→a0n,cst→a0o,op2→a0q,idx→a0x,call→a0z,b1→a0D,tup→a0E,comp→a0G,lst→a0J,slc→a0K,neg→a0L,and→a0N,isin→a0R,not→a0U,b2→a0V,or→a0W,ite→a0Y
open Z.D renaming int→a0p,str→a0A,bl→a0I,non→a0M,lst→a0T
open Z.TL renaming cons→a0r,nil→a0t
open Z.SL renaming cons→a0s,nil→a0v
open Z.R renaming bind→a0u,of→a0w,chk→a0C,ok→a0S
open Z.S renaming set→a0y,ret→a0B,ifs→a0H,for_→a0O,append→a0Z,extend→a1a
open Z.TI renaming val→a0F,rng1→a0Q,enum→a0X
open Z.DK renaming s→a0P
namespace Z
open PySem PySem.Spec PyProof.Rows L2
def strV(x:List Nat):Str:=⟨x.toArray⟩
noncomputable def keyV:DK->Key
 | .i n=>.inl n
 | .s x=>.inr (strV x)
def gY(h:strV x=strV y):x=y:=by
 have:=congrArg (λs:Str=>s.cps.toList) h;simpa[strV]using this
def dg(h:keyV x=keyV y):x=y:=by
 cases x<;>cases y<;>simp[keyV]at h
 .rw[h]
 .rw[gY h]
abbrev IsK(H:Hp)(a:Addr)(kvs:List (Key×V)):Prop:=∃ep,H a=Z_ (.dK kvs ep)
def KsOk(ks:List DK):Prop:=ks.Nodup/\∀x,a0P x∈ks->x.length<=16777216
structure Wd where
 K:Rw
 CT:Nat->Addr
def Qv(C a:Addr)(h:Rz):Prop:=∃o vs,h.get? a=Z_ o/\(o.cls=.ref C/\o.dict=Yt)/\o.data=.fields vs
mutual
noncomputable def Rep(W:Wd)(G:Hp):D->V->Prop
 | .non,v=>v=.non
 | .bl b,v=>v=.bl b
 | .int i,v=>v=.int i
 | .str x,v=>v=.str (strV x)/\x.length<=16777216
 | .tup l,v=>∃a xs,v=.ref a/\SqT W.K G a xs/\Reps W G l xs
 | .lst l,v=>∃a xs,v=.ref a/\SqL W.K G a xs/\Reps W G l xs
 | .dct ks vs,v=>∃a kvs,v=.ref a/\IsK G a kvs/\kvs.map (·.1)=ks.map keyV/\KsOk ks/\Reps W G vs (kvs.map (·.2))
 | .obj c ns vs,v=>∃a dx fs,v=.ref a/\G a=Z_ (.ins (W.CT c) dx fs)/\fs.map (·.1)=ns.map strV/\Reps W G vs (fs.map (·.2))
 | .err c,v=>∃a,v=.ref a/\G a=Z_ (.ext (Qv (W.CT c) a))
noncomputable def Reps(W:Wd)(G:Hp):List D->List V->Prop
 | [],[]=>True
 | d::l,v::vs=>Rep W G d v/\Reps W G l vs
 | _,_=>False
end
def aK{K:Rw}{H H':Hp}{a:Addr}{xs:List V}(e:Same H H')(h:SqT K H a xs):SqT K H' a xs:=by
 rcases h with(h | ⟨o,h⟩) | h
 .exact .inl (.inl (e _ _ h))
 .exact .inl (.inr ⟨o,e _ _ h⟩)
 .exact .inr h
mutual
theorem Rep.mono(e:Same G G'):∀{d:D}{v:V},Rep W G d v->Rep W G' d v
 | .non,v,h=>by simpa only[Rep]using h
 | .bl b,v,h=>by simpa only[Rep]using h
 | .int i,v,h=>by simpa only[Rep]using h
 | .str x,v,h=>by simpa only[Rep]using h
 | .tup l,v,h=>by
   simp only[Rep]at h ⊢;obtain⟨a,xs,rfl,h1,h2⟩:=h;exact⟨a,xs,rfl,aK e h1,Reps.mono e h2⟩
 | .lst l,v,h=>by
   simp only[Rep]at h ⊢;obtain⟨a,xs,rfl,h1,h2⟩:=h;exact⟨a,xs,rfl,e.seq h1,Reps.mono e h2⟩
 | .dct ks vs,v,h=>by
   simp only[Rep]at h ⊢;obtain⟨a,kvs,rfl,h1,h2,h3,h4⟩:=h;exact⟨a,kvs,rfl,h1.imp λ_ z=>e _ _ z,h2,h3,Reps.mono e h4⟩
 | .obj c ns vs,v,h=>by
   simp only[Rep]at h ⊢;obtain⟨a,dx,fs,rfl,h1,h2,h3⟩:=h;exact⟨a,dx,fs,rfl,e _ _ h1,h2,Reps.mono e h3⟩
 | .err _,v,h=>by
   simp only[Rep]at h ⊢;obtain⟨a,rfl,h1⟩:=h;exact⟨a,rfl,e _ _ h1⟩
theorem Reps.mono(e:Same G G'):∀{l:List D}{vs:List V},Reps W G l vs->Reps W G' l vs
 | [],[],_=>by simp only[Reps]
 | [],_::_,h=>by simp only[Reps]at h
 | _::_,[],h=>by simp only[Reps]at h
 | d::l,v::vs,h=>by
   simp only[Reps]at h ⊢;exact⟨Rep.mono e h.1,Reps.mono e h.2⟩
end
theorem Reps.length:∀{l:List D}{vs:List V},Reps W G l vs->l.length=vs.length
 | [],[],_=>rfl
 | [],_::_,h=>by simp only[Reps]at h
 | _::_,[],h=>by simp only[Reps]at h
 | d::l,v::vs,h=>by
   simp only[Reps]at h;simp[Reps.length h.2]
theorem Reps.get:∀{l:List D}{vs:List V}{i:Nat}{d:D},Reps W G l vs->l[i]?=Z_ d->∃v,vs[i]?=Z_ v/\Rep W G d v
 | [],_,_,_,_,e=>by simp at e
 | _::_,[],_,_,h,_=>by simp only[Reps]at h
 | d::l,v::vs,0,_,h,e=>by
   simp only[Reps]at h;simp at e;subst e;exact⟨v,rfl,h.1⟩
 | d::l,v::vs,i+1,x,h,e=>by
   simp only[Reps]at h;obtain⟨u,h1,h2⟩:=Reps.get (i:=i) (d:=x) h.2 (by simpa using e);exact⟨u,by simpa using h1,h2⟩
theorem Reps.append:∀{l l':List D}{vs vs':List V},Reps W G l vs->Reps W G l' vs'->Reps W G (l++l') (vs++vs')
 | [],_,[],_,_,h=>h
 | [],_,_::_,_,h,_=>by simp only[Reps]at h
 | _::_,_,[],_,h,_=>by simp only[Reps]at h
 | d::l,l',v::vs,vs',h,h'=>by
   simp only[Reps]at h;simp only[Xr,Reps];exact⟨h.1,Reps.append h.2 h'⟩
theorem Reps.set(r:Rep W G d v):∀{l:List D}{vs:List V}(i:Nat),Reps W G l vs->Reps W G (l.set i d) (vs.set i v)
 | [],[],_,h=>h
 | [],_::_,_,h=>by simp only[Reps]at h
 | _::_,[],_,h=>by simp only[Reps]at h
 | _::l,_::vs,0,h=>by
   simp only[Reps]at h;simp only[List.set_cons_zero,Reps];exact⟨r,h.2⟩
 | x::l,y::vs,i+1,h=>by
   simp only[Reps]at h;simp only[List.set_cons_succ,Reps];exact⟨h.1,Reps.set r i h.2⟩
theorem Reps.take:∀{l:List D}{vs:List V}(n:Nat),Reps W G l vs->Reps W G (l.take n) (vs.take n)
 | _,_,0,_=>by simp[Reps]
 | [],[],_+1,h=>h
 | [],_::_,_+1,h=>by simp only[Reps]at h
 | _::_,[],_+1,h=>by simp only[Reps]at h
 | d::l,v::vs,n+1,h=>by
   simp only[Reps]at h;simp only[List.take_succ_cons,Reps];exact⟨h.1,Reps.take n h.2⟩
theorem Reps.drop:∀{l:List D}{vs:List V}(n:Nat),Reps W G l vs->Reps W G (l.drop n) (vs.drop n)
 | _,_,0,h=>by simpa using h
 | [],[],_+1,h=>h
 | [],_::_,_+1,h=>by simp only[Reps]at h
 | _::_,[],_+1,h=>by simp only[Reps]at h
 | d::l,v::vs,n+1,h=>by
   simp only[Reps]at h;simp only[List.drop_succ_cons];exact Reps.drop n h.2
def vis(H:Hp)(P:Addr->Prop):Hp:=λb=>open Classical in if P b then none else H b
def bL(h:vis H P b=Z_ o):H b=Z_ o/\¬P b:=by
 unfold vis at h;split at h
 .cases h
 .exact⟨h,by assumption⟩
def bT(h:H b=Z_ o)(n:¬P b):vis H P b=Z_ o:=by
 unfold vis;rw[if_neg n];exact h
def aC(e:Same H H'):Same (vis H P) (vis H' P):=λb o h=>
 let⟨h1,h2⟩:=bL h
 bT (e b o h1) h2
def aN(e:∀b,P' b->P b):Same (vis H P) (vis H P'):=λb o h=>
 let⟨h1,h2⟩:=bL h
 bT h1 λz=>h2 (e b z)
def aZ:Same (vis H P) H:=λb o h=>(bL h).1
noncomputable def RepT(W:Wd)(H G:Hp):D->V->Prop
 | .lst l,v=>∃a xs,v=.ref a/\SqL W.K H a xs/\Reps W G l xs
 | .dct ks vs,v=>∃a kvs,v=.ref a/\IsK H a kvs/\kvs.map (·.1)=ks.map keyV/\KsOk ks/\Reps W G vs (kvs.map (·.2))
 | .obj c ns vs,v=>∃a dx fs,v=.ref a/\H a=Z_ (.ins (W.CT c) dx fs)/\fs.map (·.1)=ns.map strV/\Reps W G vs (fs.map (·.2))
 | d,v=>Rep W G d v
def OwnAt(W:Wd)(H G:Hp)(a:Addr):D->Prop
 | .lst l=>∃xs,H a=Z_ (.lst xs)/\Reps W G l xs
 | .dct ks vs=>∃kvs,IsK H a kvs/\kvs.map (·.1)=ks.map keyV/\KsOk ks/\Reps W G vs (kvs.map (·.2))
 | .obj c ns vs=>∃dx fs,H a=Z_ (.ins (W.CT c) dx fs)/\fs.map (·.1)=ns.map strV/\Reps W G vs (fs.map (·.2))
 | _=>False
def RepT.mono(h:RepT W H G d v)(e:Same H H')(g:Same G G'):RepT W H' G' d v:=by
 cases d with
 | lst l=>
   obtain⟨a,xs,rfl,h1,h2⟩:=h;exact⟨a,xs,rfl,e.seq h1,h2.mono g⟩
 | dct ks vs=>
   obtain⟨a,kvs,rfl,h1,h2,h3,h4⟩:=h;exact⟨a,kvs,rfl,h1.imp λ_ z=>e _ _ z,h2,h3,h4.mono g⟩
 | obj c ns vs=>
   obtain⟨a,dx,fs,rfl,h1,h2,h3⟩:=h;exact⟨a,dx,fs,rfl,e _ _ h1,h2,h3.mono g⟩
 | non=>exact Rep.mono g h
 | bl b=>exact Rep.mono g h
 | int i=>exact Rep.mono g h
 | str x=>exact Rep.mono g h
 | tup l=>exact Rep.mono g h
 | err c=>exact Rep.mono g h
def Rep.top(h:Rep W G d v)(e:Same G H):RepT W H G d v:=by
 cases d with
 | lst l=>
   simp only[Rep]at h;obtain⟨a,xs,rfl,h1,h2⟩:=h;exact⟨a,xs,rfl,e.seq h1,h2⟩
 | dct ks vs=>
   simp only[Rep]at h;obtain⟨a,kvs,rfl,h1,h2⟩:=h;exact⟨a,kvs,rfl,h1.imp λ_ z=>e _ _ z,h2⟩
 | obj c ns vs=>
   simp only[Rep]at h;obtain⟨a,dx,fs,rfl,h1,h2⟩:=h;exact⟨a,dx,fs,rfl,e _ _ h1,h2⟩
 | non=>exact h
 | bl b=>exact h
 | int i=>exact h
 | str x=>exact h
 | tup l=>exact h
 | err c=>exact h
def OwnAt.mono(h:OwnAt W H G a d)(e:∀o,H a=Z_ o->H' a=Z_ o)(g:Same G G'):OwnAt W H' G' a d:=by
 cases d with
 | lst l=>
   obtain⟨xs,h1,h2⟩:=h;exact⟨xs,e _ h1,h2.mono g⟩
 | dct ks vs=>
   obtain⟨kvs,h1,h2,h3,h4⟩:=h;exact⟨kvs,h1.imp λ_ z=>e _ z,h2,h3,h4.mono g⟩
 | obj c ns vs=>
   obtain⟨dx,fs,h1,h2,h3⟩:=h;exact⟨dx,fs,e _ h1,h2,h3.mono g⟩
 | non=>exact h
 | bl b=>exact h
 | int i=>exact h
 | str x=>exact h
 | tup l=>exact h
 | err c=>exact h
def OwnAt.top(h:OwnAt W H G a d):RepT W H G d (.ref a):=by
 cases d with
 | lst l=>
   obtain⟨xs,h1,h2⟩:=h;exact⟨a,xs,rfl,.inl (.inl h1),h2⟩
 | dct ks vs=>
   obtain⟨kvs,h1,h2⟩:=h;exact⟨a,kvs,rfl,h1,h2⟩
 | obj c ns vs=>
   obtain⟨dx,fs,h1,h2⟩:=h;exact⟨a,dx,fs,rfl,h1,h2⟩
 | non=>exact SX h
 | bl b=>exact SX h
 | int i=>exact SX h
 | str x=>exact SX h
 | tup l=>exact SX h
 | err c=>exact SX h
def OwnAt.rep(h:OwnAt W H G a d)(e:∀o,H a=Z_ o->G a=Z_ o):Rep W G d (.ref a):=by
 cases d with
 | lst l=>
   obtain⟨xs,h1,h2⟩:=h;simp only[Rep];exact⟨a,xs,rfl,.inl (.inl (e _ h1)),h2⟩
 | dct ks vs=>
   obtain⟨kvs,h1,h2⟩:=h;simp only[Rep];exact⟨a,kvs,rfl,h1.imp λ_ z=>e _ z,h2⟩
 | obj c ns vs=>
   obtain⟨dx,fs,h1,h2⟩:=h;simp only[Rep];exact⟨a,dx,fs,rfl,e _ h1,h2⟩
 | non=>exact SX h
 | bl b=>exact SX h
 | int i=>exact SX h
 | str x=>exact SX h
 | tup l=>exact SX h
 | err c=>exact SX h
def OwnAt.some(h:OwnAt W H G a d):∃o,H a=Z_ o/\(∀xs,o≠.tup xs)/\∀ob u,o≠.frz ob u:=by
 cases d with
 | lst l=>obtain⟨xs,h1,h2⟩:=h;exact⟨_,h1,(by intro _ z;cases z),(by intro _ _ z;cases z)⟩
 | dct ks vs=>obtain⟨kvs,⟨ep,h1⟩,h2⟩:=h;exact⟨_,h1,(by intro _ z;cases z),(by intro _ _ z;cases z)⟩
 | obj c ns vs=>obtain⟨dx,fs,h1,h2⟩:=h;exact⟨_,h1,(by intro _ z;cases z),(by intro _ _ z;cases z)⟩
 | non=>exact SX h
 | bl b=>exact SX h
 | int i=>exact SX h
 | str x=>exact SX h
 | tup l=>exact SX h
 | err c=>exact SX h
def eG(σ:L2.St)(δ:Dst)(i:Nat)(a:Addr):Prop:=(∃w d,δ[i]?=Z_ (Z_ (w,d))/\w≠Own.sh)/\σ[i]?=Z_ (Z_ (.ref a))
def Hid(B:Addr->Prop)(σ:L2.St)(δ:Dst)(a:Addr):Prop:=B a\/∃i,eG σ δ i a
def Soft(H:Hp)(P:Addr->Prop):Prop:=∀a,P a->∀o,H a=Z_ o->(∀xs,o≠.tup xs)/\∀ob u,o≠.frz ob u
structure SR(X:Cx)(W:Wd)(me:Option Addr)(B:Addr->Prop)(H:Hp)(σ:L2.St)(δ:Dst):Prop where
 kf:W.K=X.K
 len:σ.length=δ.length
 sh:∀(i:Nat)(d:D),δ[i]?=Z_ (Z_ (Own.sh,d))->∃v,σ[i]?=Z_ (Z_ v)/\Rep W (vis H (Hid B σ δ)) d v
 ow:∀(i:Nat)(d:D),δ[i]?=Z_ (Z_ (Own.ow,d))->∃a,σ[i]?=Z_ (Z_ (V.ref a))/\OwnAt W H (vis H (Hid B σ δ)) a d/\X.H₀ a=Yt/\¬B a/\some a≠me
 mi:∀(i:Nat)(d:D),δ[i]?=Z_ (Z_ (Own.me,d))->i=0/\∃a,me=Z_ a/\σ[i]?=Z_ (Z_ (V.ref a))/\OwnAt W H (vis H (Hid B σ δ)) a d/\¬B a
 apart:∀(i j:Nat)(a:Addr),eG σ δ i a->eG σ δ j a->i=j
 same:∀b o,X.H₀ b=Z_ o->some b≠me->H b=Z_ o
 soft:Soft H B
 gone:∀b,B b->∃o,H b=Z_ o
 live:∀x,me=Z_ x->∃o,H x=Z_ o
def SR.mono(S:SR X W me B H σ δ)(e:Same H H'):SR X W me B H' σ δ where
 kf:=S.kf
 len:=S.len
 sh:=λi d h=>let⟨v,h1,h2⟩:=S.sh i d h;⟨v,h1,h2.mono (aC e)⟩
 ow:=λi d h=>let⟨a,h1,h2,h3⟩:=S.ow i d h;⟨a,h1,h2.mono (λo q=>e a o q) (aC e),h3⟩
 mi:=λi d h=>let⟨h0,a,h1,h2,h3,h4⟩:=S.mi i d h;⟨h0,a,h1,h2,h3.mono (λo q=>e a o q) (aC e),h4⟩
 apart:=S.apart
 same:=λb o h h'=>e b o (S.same b o h h')
 soft:=λa ha o ho=>by
  obtain⟨o',ho'⟩:=S.gone a ha;have:=e a o' ho';rw[ho]at this;cases this;exact S.soft a ha _ ho'
 gone:=λb hb=>let⟨o,h⟩:=S.gone b hb;⟨o,e b o h⟩
 live:=λx hx=>let⟨o,h⟩:=S.live x hx;⟨o,e x o h⟩
def SR.softH(S:SR X W me B H σ δ):Soft H (Hid B σ δ):=λa ha o ho=>by
 rcases ha with ha | ⟨i,⟨w,d,h1,h2⟩,h3⟩
 .exact S.soft a ha o ho
 .cases w with
  | sh=>exact absurd rfl h2
  | ow=>
    obtain⟨b,q1,q2,_⟩:=S.ow i d h1;rw[h3]at q1;cases q1;obtain⟨o',q3,q4⟩:=q2.some;rw[ho]at q3;cases q3;exact q4
  | me=>
    obtain⟨_,b,_,q1,q2,_⟩:=S.mi i d h1;rw[h3]at q1;cases q1;obtain⟨o',q3,q4⟩:=q2.some;rw[ho]at q3;cases q3;exact q4
def SR.hidH(S:SR X W me B H σ δ)(ha:Hid B σ δ a):∃o,H a=Z_ o:=by
 rcases ha with ha | ⟨i,⟨w,d,h1,h2⟩,h3⟩
 .exact S.gone a ha
 .cases w with
  | sh=>exact absurd rfl h2
  | ow=>
    obtain⟨b,q1,q2,_⟩:=S.ow i d h1;rw[h3]at q1;cases q1;obtain⟨o',q3,q4⟩:=q2.some;exact⟨_,q3⟩
  | me=>
    obtain⟨_,b,_,q1,q2,_⟩:=S.mi i d h1;rw[h3]at q1;cases q1;obtain⟨o',q3,q4⟩:=q2.some;exact⟨_,q3⟩
mutual
theorem Rep.imm(S:Soft H P):∀{d:D}{v:V},d.imm=Y_->Rep W H d v->Rep W (vis H P) d v
 | .non,v,_,h=>by simpa only[Rep]using h
 | .bl b,v,_,h=>by simpa only[Rep]using h
 | .int i,v,_,h=>by simpa only[Rep]using h
 | .str x,v,_,h=>by simpa only[Rep]using h
 | .tup l,v,q,h=>by
   simp only[D.imm]at q;simp only[Rep]at h ⊢;obtain⟨a,xs,rfl,h1,h2⟩:=h;refine⟨a,xs,rfl,?_,Reps.imm S q h2⟩;rcases h1 with(h1 | ⟨o,h1⟩) | h1
   .exact .inl (.inl (bT h1 λz=>(S a z _ h1).1 _ rfl))
   .exact .inl (.inr ⟨o,bT h1 λz=>(S a z _ h1).2 _ _ rfl⟩)
   .exact .inr h1
 | .lst l,v,q,h=>by simp[D.imm]at q
 | .dct ks vs,v,q,h=>by simp[D.imm]at q
 | .obj c ns vs,v,q,h=>by simp[D.imm]at q
 | .err _,v,q,h=>by simp[D.imm]at q
theorem Reps.imm(S:Soft H P):∀{l:List D}{vs:List V},immL l=Y_->Reps W H l vs->Reps W (vis H P) l vs
 | [],[],_,_=>by simp only[Reps]
 | [],_::_,_,h=>by simp only[Reps]at h
 | _::_,[],_,h=>by simp only[Reps]at h
 | d::l,v::vs,q,h=>by
   simp only[immL,RT]at q;simp only[Reps]at h ⊢;exact⟨Rep.imm S q.1 h.1,Reps.imm S q.2 h.2⟩
end
def Res(W:Wd)(P:Addr->Prop)(lk:Bool)(H H':Hp)(w:Bool)(d:D)(v:V):Prop :=
 if w=Y_ then ∃a,v=.ref a/\H a=Yt/\OwnAt W H' (vis H' λb=>P b\/b=a) a d
 else if lk=Y_ then RepT W H' (vis H' P) d v else Rep W (vis H' P) d v
def EW(X:Cx)(W:Wd)(σ:L2.St)(H:Hp)(c:Nat):Prop:=False
noncomputable def tD(X:Cx)(W:Wd)(lk:Bool)(f:Dst->R (Bool×D)):TE:=fun σ H Q=>∃me B δ,SR X W me B H σ δ/\match f δ with
 | .ok r=>∀v H',Same H H'->Res W (Hid B σ δ) lk H H' r.1 r.2 v->Q v H'
 | .exc c=>EW X W σ H c
 | .stuck=>False
def PE.imp(h:PE X e t)(i:∀σ H Q,t' σ H Q->t σ H Q):PE X e t':=λpins s σ H Q I hw=>h pins s σ H Q I (i σ H Q hw)
def PT.imp(h:PT X e t)(i:∀σ H Q,t' σ H Q->t σ H Q):PT X e t':=λpins s σ H Q I hw=>h pins s σ H Q I (i σ H Q hw)
def PA.imp(h:PA X es t)(i:∀σ H Q,t' σ H Q->t σ H Q):PA X es t':=λpos pins s σ H Q I hw=>h pos pins s σ H Q I (i σ H Q hw)
def PS.imp(h:PS X e t)(i:∀D σ H,t' D σ H->t D σ H):PS X e t':=λpins s σ H D I hw=>h pins s σ H D I (i D σ H hw)
def EW.mono(h:EW X W σ H c)(e:Same H H'):EW X W σ H' c:=h.elim
def Same.upd(h:H p=Yt):Same H (upd H p o):=λb u e=>by rw[aP (bA e h)];exact e
def Res.look(h:Res W P lk H H' w d v):RepT W H' (vis H' P) d v:=by
 unfold Res at h;split at h
 .obtain⟨a,rfl,_,h⟩:=h
  exact(h.mono (λ_ q=>q) (aN λb z=>.inl z)).top
 .split at h
  .exact h
  .exact h.top aZ
def Res.keep(h:Res W P Zd H H' w d v)(hp:∀a,P a->∃o,H a=Z_ o):Rep W (vis H' P) d v:=by
 unfold Res at h;split at h
 .obtain⟨a,rfl,h0,h⟩:=h
  have na:¬P a:=λz=>by
   obtain⟨o,q⟩:=hp a z;rw[h0]at q;cases q
  exact(h.mono (λ_ q=>q) (aN λb z=>.inl z)).rep λo q=>bT q na
 .exact h
def Res.shared(h:Rep W (vis H' P) d v):Res W P lk H H' Zd d v:=by
 unfold Res;rw[if_neg (by simp)];split
 .exact h.top aZ
 .exact h
section
variable{X:Cx}{W:Wd}{lk lk':Bool}{σ:L2.St}{H H1 H':Hp}{me:Option Addr}{B:Addr->Prop}{δ:Dst}{Q Q':VK}
def After(X:Cx)(W:Wd)(lk:Bool)(σ:L2.St)(H:Hp)(P:Addr->Prop)(r:R (Bool×D))(Q:VK):Prop:=match r with
 | .ok r=>∀v H',Same H H'->Res W P lk H H' r.1 r.2 v->Q v H'
 | .exc c=>EW X W σ H c
 | .stuck=>False
def tD_iff:tD X W lk f σ H Q↔∃me B δ,SR X W me B H σ δ/\After X W lk σ H (Hid B σ δ) (f δ) Q:=by
 unfold tD After;exact Iff.rfl
def Res.from(h:Res W P lk H1 H' w d v)(e:Same H H1):Res W P lk H H' w d v:=by
 unfold Res at h ⊢;split at h
 .rename_i hw
  rw[if_pos hw];obtain⟨a,h1,h2,h3⟩:=h;exact⟨a,h1,e.free h2,h3⟩
 .rename_i hw
  rw[if_neg hw];exact h
def After.mono(h:After X W lk σ H P r Q)(e:Same H H1):After X W lk σ H1 P r Q:=by
 unfold After at h ⊢
 cases r with
 | ok r=>exact λv H' s q=>h v H' (e.trans s) (q.from e)
 | exc c=>exact h.mono e
 | stuck=>exact h
def tD.mono(h:tD X W lk f σ H Q)(k:∀v H',Q v H'->Q' v H'):tD X W lk f σ H Q':=by
 obtain⟨me,B,δ,S,h⟩:=tD_iff.mp h;refine tD_iff.mpr ⟨me,B,δ,S,?_⟩;unfold After at h ⊢
 cases e:f δ with
 | ok r=>rw[e]at h;exact λv H' s q=>k _ _ (h v H' s q)
 | exc c=>rw[e]at h;exact h
 | stuck=>rw[e]at h;exact h
def part(S:SR X W me B H σ δ)(h:After X W lk σ H (Hid B σ δ) ((fa δ).bind g) Q) :
 tD X W lk' fa σ H λv H1=>∃r,fa δ=.ok r/\SR X W me B H1 σ δ/\Same H H1/\RepT W H1 (vis H1 (Hid B σ δ)) r.2 v/\Res W (Hid B σ δ) lk' H H1 r.1 r.2 v/\After X W lk σ H1 (Hid B σ δ) (g r) Q:=by
 refine tD_iff.mpr ⟨me,B,δ,S,?_⟩
 cases e:fa δ with
 | ok r=>
   rw[e]at h;intro v H1 s q;exact⟨r,rfl,S.mono s,s,q.look,q,After.mono h s⟩
 | exc c=>rw[e]at h;exact h
 | stuck=>rw[e]at h;exact h
def Soft.mono(s:Soft H P)(g:∀a,P a->∃o,H a=Z_ o)(e:Same H H1):Soft H1 P:=λa ha o ho=>by
 obtain⟨o',h'⟩:=g a ha;have:=e a o' h';rw[ho]at this;cases this;exact s a ha _ h'
def SR.know(S:SR X W me B H σ δ):∀a,Hid B σ δ a->∃o,H a=Z_ o:=λ_ h=>S.hidH h
def Sem2(W:Wd)(r:R2)(g:D->D->R (Bool×D)):Prop :=
 ∀(lk:Bool)(P:Addr->Prop)(H:Hp)(x y:V)(dx dy:D)(Q:VK)(w:Bool)(d:D),Soft H P->(∀a,P a->∃o,H a=Z_ o)->RepT W H (vis H P) dx x->RepT W H (vis H P) dy y->g dx dy=.ok (w,d) ->
  (∀v H',Same H H'->Res W P lk H H' w d v->Q v H')->r x y H Q
def jg(g:D->D->R (Bool×D)):Prop:=∀x y c,g x y≠.exc c
def lN(hs:Sem2 W r g)(hn:jg g)
 (h:tD X W lk (fun δ=>(fa δ).bind λx=>(fb δ).bind λy=>g x.2 y.2) σ H Q):tOp r (tD X W Y_ fa) (tD X W Y_ fb) σ H Q:=by
 obtain⟨me,B,δ,S,h⟩:=tD_iff.mp h
 refine tD.mono (part S h) λv H1 ⟨r1,e1,S1,s1,t1,_,h1⟩=>?_
 refine tD.mono (part (g:=λy=>g r1.2 y.2) S1 h1) λu H2 ⟨r2,e2,S2,s2,t2,_,h2⟩=>?_
 cases e:g r1.2 r2.2 with
 | ok r=>
   rw[e]at h2;exact hs lk (Hid B σ δ) H2 v u r1.2 r2.2 Q r.1 r.2 S2.softH S2.know (t1.mono s2 (aC s2)) t2 e h2
 | exc c=>exact absurd e (hn _ _ _)
 | stuck=>rw[e]at h2;exact h2.elim
variable{a b:Expr}{pos:Pos}{fa fb:Dst->R (Bool×D)}
def Qf(ho:OpR X (We op) r)(hs:Sem2 W r g)(hn:jg g)(ha:PE X a (tD X W Y_ fa))(hb:PE X b (tD X W Y_ fb)) :
 PE X (.BinOp a op b pos) (tD X W lk fun δ=>(fa δ).bind λx=>(fb δ).bind λy=>g x.2 y.2) :=
 PE.imp (Qa ho ha hb) λ_ _ _ h=>lN hs hn h
def Rh(ho:OpR X (Vj op) r)(hs:Sem2 W r g)(hn:jg g)(ha:PE X a (tD X W Y_ fa))(hb:PE X b (tD X W Y_ fb))(hm:V2 op b=Zd) :
 PE X (.Compare a [op] [b] pos) (tD X W lk fun δ=>(fa δ).bind λx=>(fb δ).bind λy=>g x.2 y.2) :=
 PE.imp (iD ho ha hb hm) λ_ _ _ h=>lN hs hn h
def Qu(hN:X.N[i]?=Z_ x)(hv:Vis X.env.scope x)(hd:(x==("__debug__":Str))=Zd)(hcd:(x==("__classdict__":Str))=Zd)(o:Orc):PE X (.Name x pos) (tD X W lk fun δ=>ev o δ lk (.var i)):=by
 refine PE.imp (mq hN hv hd hcd) fun σ H Q h=>?_
 obtain⟨me,B,δ,S,h⟩:=tD_iff.mp h;unfold After at h;simp only[ev]at h
 cases e:δ[i]? with
 | none=>simp only[e]at h
 | some q=>
   cases q with
   | none=>simp only[e]at h
   | some q=>
     obtain⟨w,d⟩:=q
     cases w with
     | sh=>
       simp only[e]at h;obtain⟨v,h1,h2⟩:=S.sh i d e;exact⟨v,h1,h v H (Same.refl H) (.shared h2)⟩
     | ow=>
       simp only[e]at h;obtain⟨a,h1,h2,_⟩:=S.ow i d e;refine⟨_,h1,?_⟩
       cases lk with
       | false=>exact h.elim
       | true=>exact h _ H (Same.refl H) h2.top
     | me=>
       simp only[e]at h;obtain⟨_,a,_,h1,h2,_⟩:=S.mi i d e;refine⟨_,h1,?_⟩
       cases lk with
       | false=>exact h.elim
       | true=>exact h _ H (Same.refl H) h2.top
def yz(he:PE X e (tC v))(hr:∀G,Rep W G d v)(o:Orc):PE X e (tD X W lk fun δ=>ev o δ lk (.cst d)):=by
 refine PE.imp he fun σ H Q h=>?_
 obtain⟨me,B,δ,S,h⟩:=tD_iff.mp h;unfold After at h;simp only[ev]at h;exact h v H (Same.refl H) (.shared (hr _))
def aO(h:RepT W P G (.int i) x):x=.int i:=by simpa only[RepT,Rep]using h
def dF:Res W P lk H H' Zd (.int i) (.int i):=.shared (by simp only[Rep])
def cA:Res W P lk H H' Zd (.bl i) (.bl i):=.shared (by simp only[Rep])
def xX(h:i.length<=16777216):Res W P lk H H' Zd (.str i) (.str (strV i)):=.shared (by simp only[Rep];exact⟨trivial,h⟩)
def bj(h:RepT W P G (.str i) x):x=.str (strV i)/\i.length<=16777216:=by simpa only[RepT,Rep]using h
def Gw(i:Int):bits i=S8.Int.intBits i:=by
 unfold bits S8.Int.intBits
 by_cases h:i=0
 all_goals(simp[h])
theorem zb{a b:Int}(h:cC a b=Y_):a0l a b:=by
 unfold cC at h;simp only[X4,decide_eq_true_eq,Gw]at h;rcases h with(h | h) | h
 .exact .of_left h
 .exact .of_right h
 .unfold a0l S8.Int.intTooBig
  intro z;simp only[RT,decide_eq_true_eq]at z;have:bitsLine=134217728:=rfl;omega
def gA{α:Type}{b:Bool}{x:R α}{y:α}(h:a0C b x=.ok y):b=Y_/\x=.ok y:=by
 unfold a0C at h
 cases b with
 | true=>exact⟨rfl,by simpa using h⟩
 | false=>simp at h
def of_ok(h:a0w x=.ok y):x=Z_ y:=by
 cases x with
 | none=>simp[a0w]at h
 | some z=>simp[a0w]at h;rw[h]
def eY:a0w x≠.exc c:=by cases x<;>simp[a0w]
def iy{α:Type}{b:Bool}{x:R α}{c:Nat}(h:x≠.exc c):a0C b x≠.exc c:=by unfold a0C;cases b<;>simp[h]
def nU(p:O2)(a b:Int)(c:Nat):arith p a b≠.exc c:=by
 cases p<;>simp[arith,a0C]<;>split<;>simp
def lr(p:O2):jg (o2 p):=by
 intro x y c
 cases p<;>simp only[o2]<;>first
  | exact eY
  | (split
     .exact nU _ _ _ _
     .first | exact iy (by simp) | simp
     .first | exact iy (by simp) | simp
     .first | exact iy (by simp) | simp
     .simp)
  | (split
     .split<;>simp
     .split<;>simp
     .simp)
def jV(h1:∀x y r,o2 p x y=.ok r->∃i j,x=.int i/\y=.int j/\arith p i j=.ok r)
 (h2:∀i j r,arith p i j=.ok r->C i j/\r.1=Zd/\∀G,Rep W G r.2 (g i j)):Sem2 W (rI C g) (o2 p):=by
 intro lk P H x y dx dy Q w d hS hK hx hy e k;obtain⟨i,j,rfl,rfl,e'⟩:=h1 _ _ _ e;obtain⟨hc,hw,hr⟩:=h2 _ _ _ e';have hw:w=Zd:=hw;subst hw;exact⟨i,j,aO hx,aO hy,hc,k _ H (Same.refl H) (.shared (hr _))⟩
def qp(h1:∀x y r,o2 p x y=.ok r->∃i j,x=.int i/\y=.int j/\arith p i j=.ok r)
 (h2:∀i j r,arith p i j=.ok r->r.1=Zd/\∀G,Rep W G r.2 (g i j)):Sem2 W (rI0 g) (o2 p):=by
 intro lk P H x y dx dy Q w d hS hK hx hy e k;obtain⟨i,j,rfl,rfl,e'⟩:=h1 _ _ _ e;obtain⟨hw,hr⟩:=h2 _ _ _ e';have hw:w=Zd:=hw;subst hw;exact⟨i,j,aO hx,aO hy,k _ H (Same.refl H) (.shared (hr _))⟩
def dO(hp:p=.sub\/p=.mul\/p=.fdiv\/p=.mod\/p=.pow\/p=.gt\/p=.ge):∀x y r,o2 p x y=.ok r->∃i j,x=.int i/\y=.int j/\arith p i j=.ok r:=by
 intro x y r h
 rcases hp with rfl | rfl | rfl | rfl | rfl | rfl | rfl<;>simp only[o2]at h<;>
  (split at h<;>first
   | exact⟨_,_,rfl,rfl,h⟩
   | cases h)
def Ha:Sem2 W (rI0 λi j=>.int (i-j)) (o2 .sub):=qp (dO (by simp)) λi j r h=>by
 simp only[arith]at h;cases h;exact⟨rfl,λG=>by simp only[Rep]⟩
def HR:Sem2 W (rI a0l λi j=>.int (i*j)) (o2 .mul):=jV (dO (by simp)) λi j r h=>by
 simp only[arith]at h;obtain⟨h1,h⟩:=gA h;cases h;exact⟨zb h1,rfl,λG=>by simp only[Rep]⟩
def J1:OpR X (We .Mult) (rI a0l λi j=>.int (i*j)):=opI λ_ _ _ _ _ _ _ hc q=>PyProof.Rows.mul_int q hc
def M5(_ j:Int):Prop:=j≠0/\j.natAbs.log2<9000
def Ba:Sem2 W (rI M5 λi j=>.int (i.fdiv j)) (o2 .fdiv):=jV (dO (by simp)) λi j r h=>by
 simp only[arith]at h;obtain⟨h1,h⟩:=gA h;cases h;simp only[RT,decide_eq_true_eq]at h1;exact⟨h1,rfl,λG=>by simp only[Rep]⟩
def zE:OpR X (We .FloorDiv) (rI M5 λi j=>.int (i.fdiv j)):=opI λ_ _ _ _ _ _ _ hc q=>floordiv_int hc.1 q (.inl (PyProof.noPylong_of_log2 hc.2))
def Ip:Sem2 W (rI (λ_ j=>j≠0) λi j=>.int (i.fmod j)) (o2 .mod):=jV (dO (by simp)) λi j r h=>by
 simp only[arith]at h;obtain⟨h1,h⟩:=gA h;cases h;simp only[decide_eq_true_eq]at h1;exact⟨h1,rfl,λG=>by simp only[Rep]⟩
theorem GQ:Sem2 W (rI CPow λi j=>.int (i ^ j.toNat)) (o2 .pow):=jV (dO (by simp)) λi j r h=>by
 simp only[arith]at h;obtain⟨h1,h⟩:=gA h;cases h;simp only[RT,decide_eq_true_eq]at h1;refine⟨⟨h1.1.1,by omega,by have:=h1.2;omega⟩,rfl,λG=>by simp only[Rep]⟩
def KY:Sem2 W (rI0 λi j=>.bl (decide (j<i))) (o2 .gt):=qp (dO (by simp)) λi j r h=>by
 simp only[arith]at h;cases h;exact⟨rfl,λG=>by simp only[Rep]⟩
def zT(b:Bool):truth (.bl b)=Z_ b:=rfl
noncomputable def tT(X:Cx)(W:Wd)(f:Dst->R (Bool×D)):TT:=fun σ H Q=>∃me B δ,SR X W me B H σ δ/\match(f δ).bind (λx=>a0w (truth x.2))with
 | .ok b=>∀H',Same H H'->Q b H'
 | .exc c=>EW X W σ H c
 | .stuck=>False
def truV{H G:Hp}{d:D}{v:V}{b:Bool}(g:Same G H)(e:truth d=Z_ b)(h:RepT W H G d v):TruV W.K v H b:=by
 cases d with
 | non=>simp only[RepT,Rep]at h;subst h;simp only[truth,Ry]at e;exact e.symm
 | bl x=>simp only[RepT,Rep]at h;subst h;simp only[truth,Ry]at e;exact e.symm
 | int i=>
   simp only[RepT,Rep]at h;subst h;simp only[truth,Ry]at e;show b=(i !=0);rw[<-e];by_cases hi:i=0<;>simp[hi]
 | str x=>
   obtain⟨rfl,hl⟩:=bj h;simp only[truth,Ry]at e;refine⟨by simpa[strV,Str.length,Ut]using hl,?_⟩;rw[<-e];cases x<;>simp[strV,Str.length]<;>omega
 | tup l=>
   simp only[RepT,Rep]at h;obtain⟨a,xs,rfl,h1,h2⟩:=h;simp only[truth,Ry]at e;refine .inr (.inl ⟨xs,aK g h1,?_⟩);have:=h2.length;rw[<-e];cases l<;>cases xs<;>simp at this ⊢
 | lst l=>
   obtain⟨a,xs,rfl,h1,h2⟩:=h;simp only[truth,Ry]at e;refine .inl ⟨xs,h1,?_⟩;have:=h2.length;rw[<-e];cases l<;>cases xs<;>simp at this ⊢
 | dct ks vs=>
   obtain⟨a,kvs,rfl,⟨ep,h1⟩,h2,h3,h4⟩:=h;simp only[truth,Ry]at e;refine .inr (.inr ⟨kvs,ep,h1,?_⟩);have:=congrArg VM h2;rw[<-e];cases ks<;>cases kvs<;>simp at this ⊢
 | obj c ns vs=>simp[truth]at e
 | err c=>simp[truth]at e
def Ln(h:PE X e (tD X W Y_ f))(he:∀whole,isTrue e X.env whole=(do let v <-whole;ZF e.pos;Xy [v] (truthy v))):PT X e (tT X W f):=by
 refine PT.imp (Ah h he) fun σ H Q h=>?_
 obtain⟨me,B,δ,S,h⟩:=h;refine tD_iff.mpr ⟨me,B,δ,S,?_⟩;unfold After
 cases e:f δ with
 | ok r=>
   simp only[e,a0u]at h
   cases e2:truth r.2 with
   | none=>simp only[e2,a0w]at h
   | some b=>
     simp only[e2,a0w]at h;intro v H' s q;exact⟨b,S.kf▸truV aZ e2 q.look,h H' s⟩
 | exc c=>simp only[e,a0u]at h;exact h
 | stuck=>simp only[e,a0u]at h
def z7{f:Dst->R (Bool×D)}{σ:L2.St}{H:Hp}{Q:Bool->Hp->Prop}(hb:∀δ r,f δ=.ok r->∃b,r=(Zd,.bl b))(h:tT X W f σ H Q):tD X W Y_ f σ H λx H'=>∃k,x=.bl k/\Q k H':=by
 obtain⟨me,B,δ,S,h⟩:=h;refine tD_iff.mpr ⟨me,B,δ,S,?_⟩;unfold After
 cases e:f δ with
 | ok r=>
   obtain⟨b,rfl⟩:=hb δ r e;simp only[e,a0u,truth,a0w]at h;intro v H' s q;have:=q.look;simp only[RepT,Rep]at this;exact⟨b,this,h H' s⟩
 | exc c=>simp only[e,a0u]at h;exact h
 | stuck=>simp only[e,a0u]at h
def eO{x:R (Bool×D)}{g:Bool×D->R (Bool×D)}{r:Bool×D}(h:x.bind g=.ok r):∃y,x=.ok y/\g y=.ok r:=by
 cases x with
 | ok y=>exact⟨y,rfl,h⟩
 | exc c=>cases h
 | stuck=>cases h
def Ko(ho:OpR X (Vj op) r)(hs:Sem2 W r g)(hn:jg g)(hbl:∀x y r,g x y=.ok r->∃b,r=(Zd,.bl b))(ha:PE X a (tD X W Y_ fa))(hb:PE X b (tD X W Y_ fb))(hm:V2 op b=Zd) :
 PT X (.Compare a [op] [b] pos) (tT X W fun δ=>(fa δ).bind λx=>(fb δ).bind λy=>g x.2 y.2):=by
 refine PT.imp (iM ho ha hb hm) fun σ H Q h=>?_
 refine lN (lk:=Y_) hs hn (z7 (fun δ r e=>?_) h);obtain⟨y,_,e⟩:=eO e;obtain⟨z,_,e⟩:=eO e;exact hbl _ _ _ e
def tT.mono{f:Dst->R (Bool×D)}{σ:L2.St}{H:Hp}{Q Q':Bool->Hp->Prop}(h:tT X W f σ H Q)(k:∀b H',Q b H'->Q' b H'):tT X W f σ H Q':=by
 obtain⟨me,B,δ,S,h⟩:=h;refine⟨me,B,δ,S,?_⟩
 cases e:(f δ).bind (λx=>a0w (truth x.2))with
 | ok b=>rw[e]at h;exact λH' s=>k _ _ (h H' s)
 | exc c=>rw[e]at h;exact h
 | stuck=>rw[e]at h;exact h
def M3(ha:PT X a (tT X W fa)):PT X (.UnaryOp .Not a pos) (tT X W fun δ=>(fa δ).bind λx=>(a0w (truth x.2)).bind λb=>.ok (Zd,.bl !b)):=by
 refine PT.imp (Lp ha) fun σ H Q h=>?_
 obtain⟨me,B,δ,S,h⟩:=h;refine⟨me,B,δ,S,?_⟩
 cases e:fa δ with
 | ok r=>
   simp only[e,a0u]at h ⊢
   cases e2:truth r.2 with
   | none=>simp only[e2,a0w]at h
   | some b=>
     simp only[e2,a0w,zT]at h ⊢;exact h
 | exc c=>simp only[e,a0u]at h ⊢;exact h
 | stuck=>simp only[e,a0u]at h
def Qy(ha:PE X a (tD X W Y_ f)):PE X (.UnaryOp .Not a pos) (tD X W lk fun δ=>(f δ).bind λx=>(a0w (truth x.2)).bind λb=>.ok (Zd,.bl !b)):=by
 intro pins s σ H Q I h;obtain⟨me,B,δ,S,h⟩:=tD_iff.mp h;refine UnaryOp_ (thn (ha pins s σ H _ I (part S h)) λv s1 ⟨x,H1,I1,r1,r,e,S1,s1',t1,_,h1⟩=>?_)
 cases e2:truth r.2 with
 | none=>simp only[e2,a0w,a0u,After]at h1
 | some b=>
   simp only[e2,a0w,a0u,After]at h1;refine not_of (thn (CQ pins s1 σ H1 x v (λk H'=>k=b/\H'=H1) I1 r1 ⟨b,S.kf▸truV aZ e2 t1,rfl,rfl⟩) λk s2 ⟨H2,I2,hk,hH⟩=>?_);subst hk hH;exact⟨.bl (!k),H2,I2,rfl,h1 _ H2 (Same.refl _) cA⟩
end
def ExcAt(h h0:Rz)(H':Hp)(a:Addr)(cls:Rm)(tr:Bool):Prop:=∃oe vs,h.get? a=Z_ oe/\(oe.cls=cls/\oe.dict=Yt)/\oe.data=.fields vs/\1<vs.size /\
 ((tr=Zd/\vs[1]?=Z_ .none)\/∃T oT ts,vs[1]?=Z_ (.ref T)/\T≠a/\h0.get? T=Yt/\H' T=Yt/\h.get? T=Z_ oT/\oT.data=.fields ts/\3<ts.size)
structure Fly(X:Cx)(H:Hp)(s:Rr)(cls:Rm)(a:Addr)(H':Hp)(s':Rr)(tr:Bool):Prop where
 os:s'.os=s.os
 bare:YL s'.gens
 un:Un (frs X.stack) [] H H' s.heap s'.heap
 hok:HOk X.prog X.w H' s'.heap
 newE:s.heap.get? a=Yt
 freeE:H' a=Yt
 ff:s'.heap.FunFrames X.base X.stack
 fr:∀b∈frs X.stack,H' b=Yt
 exc:ExcAt s'.heap s.heap H' a cls tr
section
variable{X:Cx}{W:Wd}{σ:L2.St}{H H1:Hp}{me:Option Addr}{B:Addr->Prop}{δ:Dst}
def SR.weaken(hs:∀b,Hid B σ' δ' b->Hid B σ δ b)(h:Rep W (vis H (Hid B σ δ)) d v):Rep W (vis H (Hid B σ' δ')) d v:=h.mono (aN hs)
def dR:(share1 δ i)[j]?=if j=i then(match δ[i]? with | some (Z_ (.ow,d))=>some (Z_ (.sh,d)) | x=>x)else δ[j]?:=by
 unfold share1
 cases e:δ[i]? with
 | none=>
   by_cases hj:j=i
   .subst hj;simp[e]
   .simp[hj]
 | some q=>
   have hi:i<δ.length:=(Sq.mp e).1
   cases q with
   | none=>
     by_cases hj:j=i
     .subst hj;simp[e]
     .simp[hj]
   | some q=>
     obtain⟨w,d⟩:=q
     cases w with
     | ow=>
       by_cases hj:j=i
       .subst hj;simp[hi]
       .simp only[if_neg hj];rw[Tn (Vr hj)]
     | sh=>
       by_cases hj:j=i
       .subst hj;simp[e]
       .simp[hj]
     | me=>
       by_cases hj:j=i
       .subst hj;simp[e]
       .simp[hj]
def cF(h:eG σ (share1 δ i) j a):eG σ δ j a/\(j=i->∀d,δ[i]?≠some (Z_ (.ow,d))):=by
 obtain⟨⟨w,d,h1,h2⟩,h3⟩:=h;rw[dR]at h1
 by_cases hj:j=i
 .subst hj
  rw[if_pos rfl]at h1;split at h1
  .cases h1;exact absurd rfl h2
  .rename_i hne
   exact⟨⟨⟨w,d,h1,h2⟩,h3⟩,λ_ d' e=>hne d' e⟩
 .rw[if_neg hj]at h1
  exact⟨⟨⟨w,d,h1,h2⟩,h3⟩,λe=>absurd e hj⟩
def SR.share1(S:SR X W me B H σ δ)(i:Nat):SR X W me B H σ (share1 δ i):=by
 have sub:∀b,Hid B σ (Z.share1 δ i) b->Hid B σ δ b:=λb hb=>by
  rcases hb with hb | ⟨j,hb⟩
  .exact .inl hb
  .exact .inr ⟨j,(cF hb).1⟩
 refine⟨S.kf,?_,λj d h=>?_,λj d h=>?_,λj d h=>?_,λj k a h1 h2=>S.apart j k a (cF h1).1 (cF h2).1,S.same,S.soft,S.gone,S.live⟩
 .rw[S.len]
  unfold Z.share1;split<;>simp
 .rw[dR]at h
  by_cases hj:j=i
  .subst hj
   rw[if_pos rfl]at h;split at h
   .rename_i d' e
    cases h;obtain⟨a,h1,h2,h3,h4,h5⟩:=S.ow j d e;refine⟨.ref a,h1,(h2.mono (λ_ q=>q) (aN sub)).rep λo q=>bT q ?_⟩;intro z;rcases z with z | ⟨k,z⟩
    .exact h4 z
    .have hk:=cF z
     have:=S.apart k j a hk.1 ⟨⟨.ow,d,e,by decide⟩,h1⟩;subst this;exact hk.2 rfl d e
   .obtain⟨v,h1,h2⟩:=S.sh j d h
    exact⟨v,h1,h2.mono (aN sub)⟩
  .rw[if_neg hj]at h
   obtain⟨v,h1,h2⟩:=S.sh j d h;exact⟨v,h1,h2.mono (aN sub)⟩
 .have h':δ[j]?=Z_ (Z_ (.ow,d)):=by
   rw[dR]at h
   by_cases hj:j=i
   .subst hj
    rw[if_pos rfl]at h;split at h
    .cases h
    .exact h
   .rw[if_neg hj]at h;exact h
  obtain⟨a,h1,h2,h3⟩:=S.ow j d h';exact⟨a,h1,h2.mono (λ_ q=>q) (aN sub),h3⟩
 .have h':δ[j]?=Z_ (Z_ (.me,d)):=by
   rw[dR]at h
   by_cases hj:j=i
   .subst hj
    rw[if_pos rfl]at h;split at h
    .cases h
    .exact h
   .rw[if_neg hj]at h;exact h
  obtain⟨h0,a,h1,h2,h3,h4⟩:=S.mi j d h';exact⟨h0,a,h1,h2,h3.mono (λ_ q=>q) (aN sub),h4⟩
def SR.share(is:List Nat):∀{δ:Dst},SR X W me B H σ δ->SR X W me B H σ (share δ is):=by
 induction is with
 | nil=>intro δ S;exact S
 | cons i l ih=>intro δ S;exact ih (S.share1 i)
def SR.evF(S:SR X W me B H σ δ)(o:Orc)(t:T):SR X W me B H σ (Z.evF o δ t).1/\(Z.evF o δ t).2=ev o (Z.evF o δ t).1 Zd t:=by
 unfold Z.evF;split
 .exact⟨S.share _,rfl⟩
 .exact⟨S,rfl⟩
def SR.store(S:SR X W me B H σ δ)(s:Same H H1)(r:Res W (Hid B σ δ) Zd H H1 w d v)(hi:i<δ.length) :
 SR X W me B H1 (σ.set i (Z_ v)) (δ.set i (Z_ (if w then .ow else .sh,d)))/\Same (vis H (Hid B σ δ)) (vis H1 (Hid B (σ.set i (Z_ v)) (δ.set i (Z_ (if w then .ow else .sh,d))))):=by
 have hiσ:i<σ.length:=by rw[S.len];exact hi
 have S1:=S.mono s
 have sub:∀b,Hid B (σ.set i (Z_ v)) (δ.set i (Z_ (if w then .ow else .sh,d))) b->Hid B σ δ b\/(w=Y_/\v=.ref b):=λb hb=>by
  rcases hb with hb | ⟨j,⟨w',d',h1,h2⟩,h3⟩
  .exact .inl (.inl hb)
  .by_cases hj:j=i
   .subst hj
    rw[T4 hi]at h1;rw[T4 hiσ]at h3;cases h1;cases h3
    cases w with
    | true=>exact .inr ⟨rfl,rfl⟩
    | false=>exact absurd rfl h2
   .rw[Tn (Vr hj)]at h1 h3
    exact .inl (.inr ⟨j,⟨w',d',h1,h2⟩,h3⟩)
 have new:∀b,w=Y_->v=.ref b->H b=Yt:=λb hw hv=>by
  unfold Res at r;rw[if_pos hw]at r;obtain⟨a,e,h0,_⟩:=r;rw[hv]at e;cases e;exact h0
 have up:Same (vis H (Hid B σ δ)) (vis H1 (Hid B (σ.set i (Z_ v)) (δ.set i (Z_ (if w then .ow else .sh,d))))):=λb o h=>by
  obtain⟨h1,h2⟩:=bL h
  refine bT (s b o h1) λz=>?_
  rcases sub b z with z | ⟨z1,z2⟩
  .exact h2 z
  .rw[new b z1 z2]at h1;cases h1
 have old:∀j a,j≠i->eG (σ.set i (Z_ v)) (δ.set i (Z_ (if w then .ow else .sh,d))) j a->eG σ δ j a:=λj a hj ⟨⟨w',d',h1,h2⟩,h3⟩=>by
  rw[Tn (Vr hj)]at h1 h3;exact⟨⟨w',d',h1,h2⟩,h3⟩
 have here:∀a,eG (σ.set i (Z_ v)) (δ.set i (Z_ (if w then .ow else .sh,d))) i a->H a=Yt:=λa ⟨⟨w',d',h1,h2⟩,h3⟩=>by
  rw[T4 hi]at h1;rw[T4 hiσ]at h3;cases h1;cases h3
  cases w with
  | true=>exact new _ rfl rfl
  | false=>exact absurd rfl h2
 refine⟨⟨S.kf,by simp[S.len],λj d' h=>?_,λj d' h=>?_,λj d' h=>?_,λj k a h1 h2=>?_,S1.same,S1.soft,S1.gone,S1.live⟩,up⟩
 .by_cases hj:j=i
  .subst hj
   rw[T4 hi]at h
   cases w with
   | true=>cases h
   | false=>
     cases h;refine⟨v,by rw[T4 hiσ],?_⟩
     have q:Rep W (vis H1 (Hid B σ δ)) d v:=by simpa[Res]using r
     refine q.mono (aN λb hb=>?_);rcases sub b hb with z | ⟨z,_⟩
     .exact z
     .cases z
  .rw[Tn (Vr hj)]at h
   obtain⟨u,h1,h2⟩:=S.sh j d' h;exact⟨u,by rw[Tn (Vr hj)];exact h1,h2.mono up⟩
 .by_cases hj:j=i
  .subst hj
   rw[T4 hi]at h
   cases w with
   | false=>cases h
   | true=>
     cases h;have q:=r;unfold Res at q;rw[if_pos rfl]at q;obtain⟨a,rfl,h0,h1⟩:=q;refine⟨a,by rw[T4 hiσ],h1.mono (λ_ q=>q) (aN λb hb=>?_),?_,λz=>?_,λz=>?_⟩
     .rcases sub b hb with z | ⟨_,z⟩
      .exact .inl z
      .cases z;exact .inr rfl
     .cases e:X.H₀ a with
      | none=>rfl
      | some o=>
        by_cases hme:some a=me
        .obtain⟨o',q⟩:=S.live a hme.symm
         rw[h0]at q;cases q
        .rw[S.same a o e hme]at h0;cases h0
     .obtain⟨o,q⟩:=S.gone a z
      rw[h0]at q;cases q
     .obtain⟨o',q⟩:=S.live a z.symm
      rw[h0]at q;cases q
  .rw[Tn (Vr hj)]at h
   obtain⟨a,h1,h2,h3⟩:=S.ow j d' h;exact⟨a,by rw[Tn (Vr hj)];exact h1,h2.mono (λo q=>s a o q) up,h3⟩
 .by_cases hj:j=i
  .subst hj
   rw[T4 hi]at h;cases w<;>cases h
  .rw[Tn (Vr hj)]at h
   obtain⟨h0,a,h1,h2,h3,h4⟩:=S.mi j d' h;exact⟨h0,a,h1,by rw[Tn (Vr hj)];exact h2,h3.mono (λo q=>s a o q) up,h4⟩
 .by_cases hj:j=i
  .by_cases hk:k=i
   .rw[hj,hk]
   .subst hj
    have q1:=here a h1;obtain⟨o,q2⟩:=S.hidH (.inr ⟨k,old k a hk h2⟩);rw[q1]at q2;cases q2
  .by_cases hk:k=i
   .subst hk
    have q1:=here a h2;obtain⟨o,q2⟩:=S.hidH (.inr ⟨j,old j a hj h1⟩);rw[q1]at q2;cases q2
   .exact S.apart j k a (old j a hj h1) (old k a hk h2)
def fU(i:Nat):∀b,Hid B σ (Z.share1 δ i) b->Hid B σ δ b:=λb hb=>by
 rcases hb with hb | ⟨j,hb⟩
 .exact .inl hb
 .exact .inr ⟨j,(cF hb).1⟩
def nA(is:List Nat):∀{δ:Dst} (b:Addr),Hid B σ (Z.share δ is) b->Hid B σ δ b:=by
 induction is with
 | nil=>intro δ b h;exact h
 | cons i l ih=>intro δ b h;exact fU i b (ih b h)
def fZ(o:Orc)(t:T):∀b,Hid B σ (Z.evF o δ t).1 b->Hid B σ δ b:=λb hb=>by
 unfold Z.evF at hb;split at hb
 .exact nA _ b hb
 .exact hb
noncomputable def AfterS(X:Cx)(W:Wd)(me:Option Addr)(B:Addr->Prop)(G:Hp)(r:SO)(D:Ends):Prop:=match r with
 | .nx δ=>∀σ H,SR X W me B H σ δ->Same G (vis H (Hid B σ δ))->D.nx σ H
 | .bk δ=>∀σ H,SR X W me B H σ δ->Same G (vis H (Hid B σ δ))->D.bk σ H
 | .ct δ=>∀σ H,SR X W me B H σ δ->Same G (vis H (Hid B σ δ))->D.ct σ H
 | .rt w d δ=>∀v σ H,SR X W me B H σ δ->Same G (vis H (Hid B σ δ))->Res W B Zd X.H₀ H w d v->D.rt v H
 | .ex c δ=>∀pins σ H s,Inv X pins σ H s->SR X W me B H σ δ->Same G (vis H (Hid B σ δ))->∀a H' s' tr,Fly X H s (.ref (W.CT c)) a H' s' tr->Same H H'->X.xe (.ref a) s'
 | .stuck=>False
def AfterS.mono{G G':Hp}{r:SO}{D:Ends}(h:AfterS X W me B G r D)(e:Same G G'):AfterS X W me B G' r D:=by
 cases r with
 | nx δ=>exact fun σ H S s=>h σ H S (e.trans s)
 | bk δ=>exact fun σ H S s=>h σ H S (e.trans s)
 | ct δ=>exact fun σ H S s=>h σ H S (e.trans s)
 | rt w d δ=>exact λv σ H S s=>h v σ H S (e.trans s)
 | ex c δ=>exact λpins σ H s I S z=>h pins σ H s I S (e.trans z)
 | stuck=>exact h
def tS(X:Cx)(W:Wd)(g:Dst->SO):TS:=λD σ H=>∃me B δ,SR X W me B H σ δ/\AfterS X W me B (vis H (Hid B σ δ)) (g δ) D
def PSs.imp(h:PSs X e t)(i:∀D σ H,t' D σ H->t D σ H):PSs X e t':=λpins s σ H D I hw=>h pins s σ H D I (i D σ H hw)
def Nm(o:Orc):PSs X [] (tS X W (evSs o .nil)):=PSs.imp Gy λD σ H ⟨me,B,δ,S,h⟩=>by
 simp only[evSs,AfterS]at h;exact h σ H S (Same.refl _)
def Gx{st:Stmt}{rest:List Stmt}{o:Orc}{s:S}{l:SL}(h1:PS X st (tS X W (evS o s)))(h2:PSs X rest (tS X W (evSs o l))):PSs X (st::rest) (tS X W (evSs o (.cons s l))):=by
 refine PSs.imp (zZ h1 h2) λD σ H ⟨me,B,δ,S,h⟩=>⟨me,B,δ,S,?_⟩
 simp only[evSs]at h
 cases e:evS o s δ with
 | nx δ1=>
   rw[e]at h
   exact fun σ' H' S' s'=>⟨me,B,δ1,S',AfterS.mono h s'⟩
 | rt w d δ1=>rw[e]at h;exact h
 | bk δ1=>rw[e]at h;exact h
 | ct δ1=>rw[e]at h;exact h
 | ex c δ1=>rw[e]at h;exact h
 | stuck=>rw[e]at h;exact h
def SO.of_ok{G:Hp}{α:Type}{δ:Dst}{r:R α}{k:α->SO}{D:Ends}(h:AfterS X W me B G (SO.of δ r k) D):∃a,r=.ok a/\AfterS X W me B G (k a) D:=by
 cases r with
 | ok a=>exact⟨a,rfl,h⟩
 | exc c=>exact h.elim
 | stuck=>exact h.elim
def cR{G:Hp}{x:Option SO}{D:Ends}(h:AfterS X W me B G (aF x) D):∃r,x=Z_ r/\AfterS X W me B G r D:=by
 cases x with
 | some a=>exact⟨a,rfl,h⟩
 | none=>exact h.elim
def fV(h:setSlot δ i w d=Z_ δ'):i<δ.length/\δ'=δ.set i (Z_ (if w then .ow else .sh,d)):=by
 unfold setSlot at h;split at h
 .exact⟨by assumption,(U5 h).symm⟩
 .cases h
def O1(hN:X.N.Nodup)(hi:X.N[i]?=Z_ x)(hx:Loc X.env.scope x)(he:PE X e (tD X W Zd fun δ=>ev o δ Zd t))(hs:XH e (Z_ (.Name x pos')) pos.line X.env=pure Zd)
 (hf:X.fn x=Y_\/X.env.scope.names.lookup x=Z_ .local):PS X (.Assign [.Name x pos'] e pos) (tS X W (evS o (.set i t))):=by
 refine PS.imp (Mj hN hi hx he hs hf) λD σ H ⟨me,B,δ,S,h⟩=>?_
 simp only[evS]at h;obtain⟨S1,e1⟩:=S.evF o t;obtain⟨r,e2,h⟩:=SO.of_ok h;obtain⟨q,e3,h⟩:=cR h
 cases e4:setSlot (evF o δ t).1 i r.1 r.2 with
 | none=>rw[e4]at e3;cases e3
 | some δ'=>
   rw[e4]at e3;cases e3;obtain⟨h1,rfl⟩:=fV e4;refine tD_iff.mpr ⟨me,B,_,S1,?_⟩;rw[<-e1,e2];intro v H' s q;obtain⟨S2,s2⟩:=S1.store s q h1;exact h _ _ S2 ((aN (fZ o t)).trans s2)
def QQ(hc:PT X c (tT X W fun δ=>ev o δ Y_ t))(ha:PSs X a (tS X W (evSs o sa)))(hb:PSs X b (tS X W (evSs o sb))) :
 PS X (.If c a b pos) (tS X W (evS o (.ifs t sa sb))):=by
 refine PS.imp (N7 hc ha hb) λD σ H ⟨me,B,δ,S,h⟩=>?_
 simp only[evS]at h;obtain⟨k,e,h⟩:=SO.of_ok h;refine⟨me,B,δ,S,?_⟩;rw[e];intro H' s
 cases k with
 | true=>exact⟨me,B,δ,S.mono s,AfterS.mono h (aC s)⟩
 | false=>exact⟨me,B,δ,S.mono s,AfterS.mono h (aC s)⟩
def MP(hc:PT X c (tT X W fun δ=>ev o δ Y_ t))(ha:PSs X a (tS X W (evSs o sa)))(hb:PSs X b (tS X W (evSs o sb))):PS X (.If c a b pos) (tS X W (evS o (.ifq t sa sb))):=by
 refine PS.imp (N7 hc ha hb) λD σ H ⟨me,B,δ,S,h⟩=>?_
 simp only[evS]at h;obtain⟨k,e,h⟩:=SO.of_ok h;have S1:=S.share (aW t);refine⟨me,B,_,S1,?_⟩;rw[e];intro H' s;have s1:=(aN (H:=H) (nA (B:=B) (σ:=σ) (δ:=δ) (aW t))).trans (aC s)
 cases k with
 | true=>exact⟨me,B,_,S1.mono s,AfterS.mono h s1⟩
 | false=>exact⟨me,B,_,S1.mono s,AfterS.mono h s1⟩
def M4(hv:∀i,t≠.var i)(he:PE X e (tD X W Zd fun δ=>ev o δ Zd t)):PS X (.Return (Z_ e) pos) (tS X W (evS o (.ret t))):=by
 refine PS.imp (Du he) λD σ H ⟨me,B,δ,S,h⟩=>?_
 have h':AfterS X W me B (vis H (Hid B σ δ)) (SO.of (evF o δ t).1 (evF o δ t).2 λr=>.rt r.1 r.2 (evF o δ t).1) D:=by
  cases t<;>first | exact h | exact absurd rfl (hv _)
 obtain⟨S1,e1⟩:=S.evF o t;obtain⟨r,e2,h⟩:=SO.of_ok h';refine tD_iff.mpr ⟨me,B,_,S1,?_⟩;rw[<-e1,e2];intro v H' s q;refine h v σ H' (S1.mono s) ((aN (fZ o t)).trans (aC s)) ?_;unfold Res at q ⊢
 by_cases hw:r.1=Y_
 .rw[if_pos hw]at q ⊢
  obtain⟨a,rfl,h0,q⟩:=q;refine⟨a,rfl,?_,q.mono (λ_ z=>z) (aN λb hb=>hb.imp .inl id)⟩
  cases e:X.H₀ a with
  | none=>rfl
  | some o'=>
    by_cases hme:some a=me
    .obtain⟨o',q⟩:=S.live a hme.symm
     rw[h0]at q;cases q
    .rw[S.same a o' e hme]at h0;cases h0
 .rw[if_neg hw]at q ⊢
  simp only[Rv,if_false]at q ⊢;exact q.mono (aN λb hb=>.inl hb)
def Fv(hN:X.N[i]?=Z_ x)(hv:Vis X.env.scope x)(hd:(x==("__debug__":Str))=Zd)(hcd:(x==("__classdict__":Str))=Zd):PS X (.Return (Z_ (.Name x pos')) pos) (tS X W (evS o (.ret (.var i)))):=by
 refine PS.imp (Du (mq hN hv hd hcd)) λD σ H ⟨me,B,δ,S,h⟩=>?_
 simp only[evS]at h
 cases e:δ[i]? with
 | none=>simp only[e,AfterS]at h
 | some q=>
   cases q with
   | none=>simp only[e,AfterS]at h
   | some q=>
     obtain⟨w,d⟩:=q
     cases w with
     | sh=>
       simp only[e,AfterS]at h;obtain⟨v,h1,h2⟩:=S.sh i d e;exact⟨v,h1,h v σ H S (Same.refl _) (.shared (h2.mono (aN λb hb=>.inl hb)))⟩
     | ow=>
       simp only[e,AfterS]at h;obtain⟨a,h1,h2,h3,h4⟩:=S.ow i d e;refine⟨_,h1,h _ σ H S (Same.refl _) ?_⟩;unfold Res;rw[if_pos rfl];refine⟨a,rfl,h3,h2.mono (λ_ z=>z) (aN λb hb=>?_)⟩;rcases hb with hb | hb
       .exact .inl hb
       .rw[hb];exact .inr ⟨i,⟨.ow,d,e,by decide⟩,h1⟩
     | me=>simp only[e,AfterS]at h
def zj(hp:YB (RQ X.prog X.w) X.A X.env X.xe)(hc:PT X c (tT X W fun δ=>ev o δ Y_ t))(hb:PSs X body (tS X W (evSs o sb))) :
 PS X (.While c body [] pos) (tS X W (evS o (.while_ t sb))):=by
 refine PS.imp (z8 hp hc hb) λD σ H ⟨me,B,δ,S,h⟩=>?_
 simp only[evS]at h;refine⟨λm σ H=>∃δ,SR X W me B H σ δ/\AfterS X W me B (vis H (Hid B σ δ)) (cY (fun δ=>ev o δ Y_ t) (evSs o sb) m δ) D,⟨_,δ,S,h⟩,?_⟩
 rintro m σ H ⟨δ,S,h⟩
 cases m with
 | zero=>simp only[cY,AfterS]at h
 | succ m=>
   simp only[cY]at h;obtain⟨k,e,h⟩:=SO.of_ok h;refine⟨me,B,δ,S,?_⟩;rw[e];intro H' s;have h:=AfterS.mono h (aC s)
   cases k with
   | false=>
     simp only[Rv,if_false,AfterS]at h ⊢;exact h σ H' (S.mono s) (Same.refl _)
   | true=>
     simp only[if_true]at h ⊢;refine⟨fun σ' H'=>∃δ,SR X W me B H' σ' δ/\AfterS X W me B (vis H' (Hid B σ' δ)) (cY (fun δ=>ev o δ Y_ t) (evSs o sb) m δ) D,fun σ' H' q=>⟨m,WF m,q⟩,me,B,δ,S.mono s,?_⟩
     cases e2:evSs o sb δ with
     | nx δ1=>rw[e2]at h;exact fun σ' H' S' s'=>⟨δ1,S',AfterS.mono h s'⟩
     | ct δ1=>rw[e2]at h;exact fun σ' H' S' s'=>⟨δ1,S',AfterS.mono h s'⟩
     | bk δ1=>rw[e2]at h;exact h
     | rt w d δ1=>rw[e2]at h;exact h
     | ex c δ1=>rw[e2]at h;exact h
     | stuck=>rw[e2]at h;exact h.elim
end
section
variable{X:Cx}{W:Wd}{lk lk':Bool}{σ:L2.St}{H H1 H':Hp}{me:Option Addr}{B:Addr->Prop}{δ:Dst}{Q Q':VK}
def Ph{α:Type}{fa:Dst->R (Bool×D)}{g:Bool×D->R α}{C:R α->Hp->Prop}(S:SR X W me B H σ δ)(h:C ((fa δ).bind g) H)(mono:∀r H1,Same H H1->C r H->C r H1)(hx:∀c,C (.exc c) H->EW X W σ H c)(hs:¬C .stuck H) :
 tD X W lk' fa σ H λv H1=>∃r,fa δ=.ok r/\SR X W me B H1 σ δ/\Same H H1/\RepT W H1 (vis H1 (Hid B σ δ)) r.2 v/\Res W (Hid B σ δ) lk' H H1 r.1 r.2 v/\C (g r) H1:=by
 refine tD_iff.mpr ⟨me,B,δ,S,?_⟩
 cases e:fa δ with
 | ok r=>
   rw[e]at h;intro v H1 s q;exact⟨r,rfl,S.mono s,s,q.look,q,mono _ _ s h⟩
 | exc c=>rw[e]at h;exact hx c h
 | stuck=>rw[e]at h;exact hs h
def PE.or(h:PE X e t)(h':PE X e t'):PE X e (fun σ H Q=>t σ H Q\/t' σ H Q):=by
 intro pins s σ H Q I q;rcases q with q | q
 .exact h pins s σ H Q I q
 .exact h' pins s σ H Q I q
def RepTs(W:Wd)(H G:Hp):List D->List V->Prop
 | [],[]=>True
 | d::l,v::vs=>RepT W H G d v/\RepTs W H G l vs
 | _,_=>False
theorem RepTs.length:∀{l:List D}{vs:List V},RepTs W H G l vs->l.length=vs.length
 | [],[],_=>rfl
 | [],_::_,h=>by simp only[RepTs]at h
 | _::_,[],h=>by simp only[RepTs]at h
 | d::l,v::vs,h=>by
   simp only[RepTs]at h;simp[RepTs.length h.2]
noncomputable def AfterL(X:Cx)(W:Wd)(σ:L2.St)(H:Hp)(P:Addr->Prop)(r:R (Bool×List D))(Q:List V->Hp->Prop):Prop:=match r with
 | .ok r=>∀vs H',Same H H'->RepTs W H' (vis H' P) r.2 vs->(r.1=Zd->Reps W (vis H' P) r.2 vs)->Q vs H'
 | .exc c=>EW X W σ H c
 | .stuck=>False
def tL(X:Cx)(W:Wd)(f:Dst->R (Bool×List D)):TA:=fun σ H Q=>∃me B δ,SR X W me B H σ δ/\AfterL X W σ H (Hid B σ δ) (f δ) Q
def AfterL.mono{P:Addr->Prop}{r:R (Bool×List D)}{Q:List V->Hp->Prop}(h:AfterL X W σ H P r Q)(e:Same H H1):AfterL X W σ H1 P r Q:=by
 unfold AfterL at h ⊢
 cases r with
 | ok r=>exact λv H' s q=>h v H' (e.trans s) q
 | exc c=>exact h.mono e
 | stuck=>exact h
def tL.mono{f:Dst->R (Bool×List D)}{Q Q':List V->Hp->Prop}(h:tL X W f σ H Q)(k:∀v H',Q v H'->Q' v H'):tL X W f σ H Q':=by
 obtain⟨me,B,δ,S,h⟩:=h;refine⟨me,B,δ,S,?_⟩;unfold AfterL at h ⊢
 cases e:f δ with
 | ok r=>rw[e]at h;exact λv H' s q q'=>k _ _ (h v H' s q q')
 | exc c=>rw[e]at h;exact h
 | stuck=>rw[e]at h;exact h
def uY{α:Type}{fa:Dst->R (Bool×List D)}{g:Bool×List D->R α}{C:R α->Hp->Prop}(S:SR X W me B H σ δ)(h:C ((fa δ).bind g) H)(mono:∀r H1,Same H H1->C r H->C r H1)(hx:∀c,C (.exc c) H->EW X W σ H c)(hs:¬C .stuck H) :
 tL X W fa σ H λvs H1=>∃r,fa δ=.ok r/\SR X W me B H1 σ δ/\Same H H1/\RepTs W H1 (vis H1 (Hid B σ δ)) r.2 vs/\(r.1=Zd->Reps W (vis H1 (Hid B σ δ)) r.2 vs)/\C (g r) H1:=by
 refine⟨me,B,δ,S,?_⟩
 cases e:fa δ with
 | ok r=>
   rw[e]at h;intro vs H1 s q q';exact⟨r,rfl,S.mono s,s,q,q',mono _ _ s h⟩
 | exc c=>rw[e]at h;exact hx c h
 | stuck=>rw[e]at h;exact hs h
def Mp(o:Orc):PA X [] (tL X W fun δ=>evL o δ .nil):=PA.imp cT fun σ H Q ⟨me,B,δ,S,h⟩=>by
 simp only[evL,AfterL]at h
 exact h [] H (Same.refl H) (by simp only[RepTs]) λ_=>by simp only[Reps]
def Ih{e:Expr}{es:List Expr}{o:Orc}{t:T}{l:TL}(ha:∀lk,PE X e (tD X W lk fun δ=>ev o δ lk t))(hr:PA X es (tL X W fun δ=>evL o δ l))(hs:SJ (e::es) X.env=(Zd,Vl e X.env)::SJ es X.env) :
 PA X (e::es) (tL X W fun δ=>evL o δ (.cons t l)):=by
 refine PA.imp (bJ (PE.or (ha Y_) (ha Zd)) hr hs) fun σ H Q ⟨me,B,δ,S,h⟩=>?_
 simp only[evL]at h
 have go:∀lk,bG δ t=lk->tD X W lk (fun δ=>ev o δ lk t) σ H λx H1=>tL X W (fun δ=>evL o δ l) σ H1 λxs H2=>Q (x::xs) H2:=by
  intro lk hlk;rw[hlk]at h
  refine tD.mono (Ph (fa:=fun δ=>ev o δ lk t) (C:=λr H=>AfterL X W σ H (Hid B σ δ) r Q) S h (λr H1 s q=>q.mono s) (λc q=>q) (λq=>q)) λv H1 ⟨r1,e1,S1,s1,t1,q1,h1⟩=>?_
  refine tL.mono (uY (fa:=fun δ=>evL o δ l) (C:=λr H=>AfterL X W σ H (Hid B σ δ) r Q) S1 h1 (λr H1 s q=>q.mono s) (λc q=>q) (λq=>q)) λvs H2 ⟨r2,e2,S2,s2,t2,q2,h2⟩=>?_
  refine h2 (v::vs) H2 (Same.refl _) ?_ λhf=>?_
  .simp only[RepTs]
   exact⟨t1.mono s2 (aC s2),t2⟩
  .simp only[Vt]at hf
   simp only[Reps];refine⟨?_,q2 hf.2⟩;rw[hf.1]at q1;exact(q1.keep S.know).mono (aC s2)
 cases hlk:bG δ t with
 | true=>exact .inl (go Y_ hlk)
 | false=>exact .inr (go Zd hlk)
def spFn(W:Wd)(g:List D->R (Bool×D))(np:Nat):Sp:=λvs H Q _=>vs.length=np/\∃B ds,Soft H B/\(∀b,B b->∃o,H b=Z_ o)/\Reps W (vis H B) ds vs/\∃r,g ds=.ok r/\∀v H',Same H H'->Res W B Zd H H' r.1 r.2 v->Q v H'
theorem RepTs.lend:∀{l:List D}{vs:List V}(us:List V),(∀v∈vs,v∈us)->RepTs W H (vis H P) l vs->Reps W (vis H λb=>P b/\V.ref b∉us) l vs
 | [],[],_,_,_=>by simp only[Reps]
 | [],_::_,_,_,h=>by simp only[RepTs]at h
 | _::_,[],_,_,h=>by simp only[RepTs]at h
 | d::l,v::vs,us,hu,h=>by
   simp only[RepTs]at h;simp only[Reps];refine⟨?_,RepTs.lend us (λv hv=>hu v (Rt _ hv)) h.2⟩
   have up:Same (vis H P) (vis H λb=>P b/\V.ref b∉us):=aN λb hb=>hb.1
   have hv:v∈us:=hu v Ru
   have see:∀a o,v=.ref a->H a=Z_ o->vis H (λb=>P b/\V.ref b∉us) a=Z_ o:=λa o e h=>bT h λz=>z.2 (e▸hv)
   cases d with
   | lst l=>
     obtain⟨a,xs,rfl,h1,h2⟩:=h.1;simp only[Rep];refine⟨a,xs,rfl,?_,h2.mono up⟩;rcases h1 with(h1 | ⟨o,h1⟩) | h1
     .exact .inl (.inl (see a _ rfl h1))
     .exact .inl (.inr ⟨o,see a _ rfl h1⟩)
     .exact .inr h1
   | dct ks vs=>
     obtain⟨a,kvs,rfl,h1,h2,h3,h4⟩:=h.1;simp only[Rep];exact⟨a,kvs,rfl,h1.imp λ_ z=>see a _ rfl z,h2,h3,h4.mono up⟩
   | obj c ns vs=>
     obtain⟨a,dx,fs,rfl,h1,h2,h3⟩:=h.1;simp only[Rep];exact⟨a,dx,fs,rfl,see a _ rfl h1,h2,h3.mono up⟩
   | non=>exact Rep.mono up h.1
   | bl b=>exact Rep.mono up h.1
   | int i=>exact Rep.mono up h.1
   | str x=>exact Rep.mono up h.1
   | tup l=>exact Rep.mono up h.1
   | err c=>exact Rep.mono up h.1
def OwnAt.notImm(h:OwnAt W H G a d):d.imm=Zd:=by
 cases d<;>first | rfl | exact h.elim
def JD{o:Orc}{f np:Nat}{vs:List V}{ds:List D}{br:Bool}{E:XK}(S:SR X W me B H σ δ)(hn:ds.length=np)(t:RepTs W H (vis H (Hid B σ δ)) ds vs)(q:br=Zd->Reps W (vis H (Hid B σ δ)) ds vs)
 (h:After X W lk σ H (Hid B σ δ) ((o.fn f ds).bind (lent br)) Q):spFn W (o.fn f) np vs H Q E:=by
 refine⟨by rw[<-t.length];exact hn,?_⟩
 cases e:o.fn f ds with
 | stuck=>rw[e]at h;exact h.elim
 | exc c=>rw[e]at h;exact h.elim
 | ok r=>
   rw[e]at h
   cases br with
   | false=>
     refine⟨Hid B σ δ,ds,S.softH,S.know,q rfl,r,e,λv H' s z=>h v H' s ?_⟩;unfold Res at z ⊢
     by_cases hw:r.1=Y_
     .rw[if_pos hw]at z ⊢;exact z
     .rw[if_neg hw]at z ⊢
      simp only[Rv,if_false]at z;split
      .exact z.top aZ
      .exact z
   | true=>
     have h':After X W lk σ H (Hid B σ δ) (if r.2.imm then .ok r else .stuck) Q:=h
     by_cases him:r.2.imm=Y_
     .rw[if_pos him]at h'
      refine⟨λb=>Hid B σ δ b/\V.ref b∉vs,ds,λa ha=>S.softH a ha.1,λb hb=>S.know b hb.1,t.lend vs (λv hv=>hv),r,e,λv H' s z=>h' v H' s ?_⟩;unfold Res at z ⊢
      by_cases hw:r.1=Y_
      .rw[if_pos hw]at z
       obtain⟨a,_,_,z⟩:=z;rw[z.notImm]at him;cases him
      .rw[if_neg hw]at z ⊢
       simp only[Rv,if_false]at z;have z':Rep W (vis H' (Hid B σ δ)) r.2 v:=(z.mono aZ).imm (S.softH.mono S.know s) him;split
       .exact z'.top aZ
       .exact z'
     .rw[if_neg him]at h';exact h'.elim
def Mf{o:Orc}{f np k:Nat}{x:Str}{fa:Addr}{fd:Wr}{ps:List Str}{e:Expr}{es:List Expr}{l:TL}{p pos:Pos}(hn:∀δ r,evL o δ l=.ok r->r.2.length=np)
 (F:FnOk X.prog X.w X.K X.mg X.base CX0 k fa fd ps (spFn W (o.fn f) np))(hr:Room k X.A)(hg:Gl X x)(hm:X.mg x=Z_ (.ref fa))(hk:Uz X.K (.ref fa)=Y_)(hb:Binds X.K fd ps [])
 (ha:PA X (e::es) (tL X W fun δ=>evL o δ l))(hdb:(x==("__debug__":Str))=Zd)(he:SJ (e::es) X.env=(Zd,Vl e X.env)::SJ es X.env)(hpl:(Xg pos (SJ es X.env)).any (·.1)=Zd) :
 PE X (.Call (.Name x p) (e::es) [] pos) (tD X W lk fun δ=>ev o δ lk (.call f l)):=by
 refine PE.imp (uT F hr hg hm hk hb .nil Jk ha hdb he hpl) fun σ H Q h=>?_
 obtain⟨me,B,δ,S,h⟩:=tD_iff.mp h;simp only[ev]at h
 refine tL.mono (uY (fa:=fun δ=>evL o δ l) (C:=λr H=>After X W lk σ H (Hid B σ δ) r Q) S h (λr H1 s q=>q.mono s) (λc q=>q) (λq=>q)) λvs H1 ⟨r,e1,S1,s1,t1,q1,h1⟩=>?_
 rw[Ur];exact JD S1 (hn δ r e1) t1 q1 h1
variable{a b:Expr}{rest:List Expr}{pos:Pos}{fa fb:Dst->R (Bool×D)}
noncomputable def andD(x:D)(y:R (Bool×D)):R (Bool×D):=match x with
 | .bl true=>y.bind λy=>bV y.2
 | .bl false=>.ok (Zd,.bl Zd)
 | _=>.stuck
noncomputable def orD(x:D)(y:R (Bool×D)):R (Bool×D):=match x with
 | .bl true=>.ok (Zd,.bl Y_)
 | .bl false=>y.bind λy=>bV y.2
 | _=>.stuck
def Ac(h:bV d=.ok r):∃b,d=.bl b/\r=(Zd,.bl b):=by
 cases d<;>simp only[bV]at h<;>first | (cases h;exact⟨_,rfl,rfl⟩) | cases h
def oM(h:RepT W H G (.bl i) x):x=.bl i:=by simpa only[RepT,Rep]using h
def mR(S:SR X W me B H σ δ)(h:After X W lk σ H (Hid B σ δ) ((fb δ).bind λy=>bV y.2) Q):tD X W Y_ fb σ H Q:=by
 refine tD_iff.mpr ⟨me,B,δ,S,?_⟩
 cases e:fb δ with
 | ok r=>
   rw[e]at h;have h:After X W lk σ H (Hid B σ δ) (bV r.2) Q:=h
   cases e2:bV r.2 with
   | ok r'=>
     rw[e2]at h;obtain⟨b,e3,rfl⟩:=Ac e2;intro v H' s q;have q':=q.look;rw[e3]at q';rw[oM q'];exact h _ H' s cA
   | exc c=>rw[e2]at h;exact SX h
   | stuck=>rw[e2]at h;exact SX h
 | exc c=>rw[e]at h;exact h
 | stuck=>rw[e]at h;exact h
def R4(ha:PE X a (tD X W Y_ fa))(hb:PE X (.BoolOp .And (b::rest) pos) (tD X W Y_ fb)):PE X (.BoolOp .And (a::b::rest) pos) (tD X W lk fun δ=>(fa δ).bind λx=>andD x.2 (fb δ)):=by
 refine PE.imp (Om ha hb) fun σ H Q h=>?_
 obtain⟨me,B,δ,S,h⟩:=tD_iff.mp h
 refine tD.mono (part S h) λv H1 ⟨r,e,S1,s1,t1,_,h1⟩=>?_
 cases e2:r.2 with
 | bl c=>
   rw[e2]at t1 h1;refine⟨c,oM t1,?_⟩
   cases c with
   | true=>exact mR S1 h1
   | false=>exact h1 _ H1 (Same.refl _) cA
 | _=>rw[e2]at h1;exact h1.elim
def d_or(ha:PE X a (tD X W Y_ fa))(hb:PE X (.BoolOp .Or (b::rest) pos) (tD X W Y_ fb)):PE X (.BoolOp .Or (a::b::rest) pos) (tD X W lk fun δ=>(fa δ).bind λx=>orD x.2 (fb δ)):=by
 refine PE.imp (Pz ha hb) fun σ H Q h=>?_
 obtain⟨me,B,δ,S,h⟩:=tD_iff.mp h
 refine tD.mono (part S h) λv H1 ⟨r,e,S1,s1,t1,_,h1⟩=>?_
 cases e2:r.2 with
 | bl c=>
   rw[e2]at t1 h1;refine⟨c,oM t1,?_⟩
   cases c with
   | false=>exact mR S1 h1
   | true=>exact h1 _ H1 (Same.refl _) cA
 | _=>rw[e2]at h1;exact h1.elim
def La(ha:PE X a (tD X W lk fa)):PE X (.BoolOp op [a] pos) (tD X W lk fa):=Nz ha
def PW.imp(h:PW X e t)(i:∀σ H Q,t' σ H Q->t σ H Q):PW X e t':=λw pins s σ H Q I hw=>h w pins s σ H Q I (i σ H Q hw)
def nY{d:D}{b:Bool}(h:(bV d).bind (λx=>a0w (truth x.2))=.ok b):truth d=Z_ b:=by
 cases d<;>simp only[bV,a0u,truth,a0w]at h<;>first | (cases h;rfl) | cases h
def oZ:(bV d).bind (λx=>a0w (truth x.2))≠.exc c:=by
 cases d<;>simp[bV,a0u,truth,a0w]
def jt{Q:Bool->Hp->Prop}(S:SR X W me B H σ δ)
 (h:match((fb δ).bind λy=>bV y.2).bind (λx=>a0w (truth x.2))with | .ok b=>∀H',Same H H'->Q b H' | .exc c=>EW X W σ H c | .stuck=>False):tT X W fb σ H Q:=by
 refine⟨me,B,δ,S,?_⟩
 cases e:fb δ with
 | ok r=>
   rw[e]at h;have h:(match(bV r.2).bind (λx=>a0w (truth x.2))with | .ok b=>∀H',Same H H'->Q b H' | .exc c=>EW X W σ H c | .stuck=>False):=h;show(match a0w (truth r.2)with | .ok b=>∀H',Same H H'->Q b H' | .exc c=>EW X W σ H c | .stuck=>False)
   cases e2:(bV r.2).bind (λx=>a0w (truth x.2))with
   | ok b=>rw[e2]at h;rw[nY e2];exact h
   | exc c=>exact absurd e2 oZ
   | stuck=>rw[e2]at h;exact h.elim
 | exc c=>rw[e]at h;exact h
 | stuck=>rw[e]at h;exact h
def Nq(ha:PT X a (tT X W fa))(hb:PW X (.BoolOp .And (b::rest) pos) (tT X W fb)):PW X (.BoolOp .And (a::b::rest) pos) (tT X W fun δ=>(fa δ).bind λx=>andD x.2 (fb δ)):=by
 refine PW.imp (Oe ha hb) fun σ H Q ⟨me,B,δ,S,h⟩=>⟨me,B,δ,S,?_⟩
 dsimp only at h
 cases e:fa δ with
 | ok r=>
   rw[e]at h;have h:(match(andD r.2 (fb δ)).bind (λx=>a0w (truth x.2))with | .ok b=>∀H',Same H H'->Q b H' | .exc c=>EW X W σ H c | .stuck=>False):=h;show(match a0w (truth r.2)with | .ok b=>∀H',Same H H'->if b=Y_ then tT X W fb σ H' Q else Q Zd H' | .exc c=>EW X W σ H c | .stuck=>False)
   cases e2:r.2 with
   | bl c=>
     rw[e2]at h
     cases c with
     | true=>
       intro H' s;refine jt (S.mono s) ?_;have h:(match((fb δ).bind λy=>bV y.2).bind (λx=>a0w (truth x.2))with | .ok b=>∀H',Same H H'->Q b H' | .exc c=>EW X W σ H c | .stuck=>False):=h
       cases e3:((fb δ).bind λy=>bV y.2).bind (λx=>a0w (truth x.2))with
       | ok b=>rw[e3]at h;exact λH2 s2=>h H2 (s.trans s2)
       | exc c=>rw[e3]at h;exact h.elim
       | stuck=>rw[e3]at h;exact h
     | false=>exact λH' s=>h H' s
   | _=>rw[e2]at h;exact h.elim
 | exc c=>rw[e]at h;exact h
 | stuck=>rw[e]at h;exact h
def Qg(ha:PT X a (tT X W fa))(hb:PW X (.BoolOp .Or (b::rest) pos) (tT X W fb)):PW X (.BoolOp .Or (a::b::rest) pos) (tT X W fun δ=>(fa δ).bind λx=>orD x.2 (fb δ)):=by
 refine PW.imp (PL ha hb) fun σ H Q ⟨me,B,δ,S,h⟩=>⟨me,B,δ,S,?_⟩
 dsimp only at h
 cases e:fa δ with
 | ok r=>
   rw[e]at h;have h:(match(orD r.2 (fb δ)).bind (λx=>a0w (truth x.2))with | .ok b=>∀H',Same H H'->Q b H' | .exc c=>EW X W σ H c | .stuck=>False):=h;show(match a0w (truth r.2)with | .ok b=>∀H',Same H H'->if b=Y_ then Q Y_ H' else tT X W fb σ H' Q | .exc c=>EW X W σ H c | .stuck=>False)
   cases e2:r.2 with
   | bl c=>
     rw[e2]at h
     cases c with
     | false=>
       intro H' s;refine jt (S.mono s) ?_;have h:(match((fb δ).bind λy=>bV y.2).bind (λx=>a0w (truth x.2))with | .ok b=>∀H',Same H H'->Q b H' | .exc c=>EW X W σ H c | .stuck=>False):=h
       cases e3:((fb δ).bind λy=>bV y.2).bind (λx=>a0w (truth x.2))with
       | ok b=>rw[e3]at h;exact λH2 s2=>h H2 (s.trans s2)
       | exc c=>rw[e3]at h;exact h.elim
       | stuck=>rw[e3]at h;exact h
     | true=>exact λH' s=>h H' s
   | _=>rw[e2]at h;exact h.elim
 | exc c=>rw[e]at h;exact h
 | stuck=>rw[e]at h;exact h
def DW(ha:PT X a (tT X W fa)):PW X (.BoolOp op [a] pos) (tT X W fa):=by
 cases op with
 | And=>exact Er ha
 | Or=>exact Ot ha
end
section
variable{X:Cx}{W:Wd}{lk lk':Bool}{σ:L2.St}{H H1 H':Hp}{me:Option Addr}{B:Addr->Prop}{δ:Dst}{Q Q':VK}{a b:Expr}{pos p:Pos}{fa fb fc:Dst->R (Bool×D)}
def Sem1(W:Wd)(r:List V->Hp->VK->Prop)(g:D->R (Bool×D)):Prop :=
 ∀(lk:Bool)(P:Addr->Prop)(H:Hp)(x:V)(dx:D)(Q:VK)(w:Bool)(d:D),Soft H P->(∀a,P a->∃o,H a=Z_ o)->RepT W H (vis H P) dx x->g dx=.ok (w,d) ->
  (∀v H',Same H H'->Res W P lk H H' w d v->Q v H')->r [x] H Q
def pM(g:D->R (Bool×D)):Prop:=∀x c,g x≠.exc c
def wH{r:List V->Hp->VK->Prop}{g:D->R (Bool×D)}(hs:Sem1 W r g)(hn:pM g){σ:L2.St}{H:Hp}{Q:VK}(h:tD X W lk (fun δ=>(fa δ).bind λx=>g x.2) σ H Q) :
 tCB r (Np (tD X W Y_ fa) tNil) σ H Q:=by
 obtain⟨me,B,δ,S,h⟩:=tD_iff.mp h
 refine tD.mono (part S h) λv H1 ⟨r1,e1,S1,s1,t1,_,h1⟩=>?_
 show r [v] H1 Q
 cases e:g r1.2 with
 | ok r'=>
   rw[e]at h1;exact hs lk (Hid B σ δ) H1 v r1.2 Q r'.1 r'.2 S1.softH S1.know t1 e h1
 | exc c=>exact absurd e (hn _ _)
 | stuck=>rw[e]at h1;exact h1.elim
def d_b1{id:String}{x:Str}{r:List V->Hp->VK->Prop}{g:D->R (Bool×D)}(hc:CallR X (.builtin id) r)(hs:Sem1 W r g)(hn:pM g)(hg:Gl X x)(hm:X.mg x=Yt)(hv:Vu x=Z_ (.builtin id))(ha:PE X a (tD X W Y_ fa))
 (hx:x≠"__name__")(hdb:(x==("__debug__":Str))=Zd)(he:SJ [a] X.env=[(Zd,Vl a X.env)]):PE X (.Call (.Name x p) [a] [] pos) (tD X W lk fun δ=>(fa δ).bind λx=>g x.2) :=
 PE.imp (gH hc hg hm hv (bJ ha cT he) hx hdb he rfl) λ_ _ _ h=>wH hs hn h
def QV{id:String}{x:Str}{r:List V->Hp->VK->Prop}{g:D->R (Bool×D)}(hc:CallR X (.type id) r)(hs:Sem1 W r g)(hn:pM g)(hg:Gl X x)(hm:X.mg x=Yt)(hv:Vu x=Z_ (.type id))(ha:PE X a (tD X W Y_ fa))
 (hx:x≠"__name__")(hdb:(x==("__debug__":Str))=Zd)(he:SJ [a] X.env=[(Zd,Vl a X.env)]):PE X (.Call (.Name x p) [a] [] pos) (tD X W lk fun δ=>(fa δ).bind λx=>g x.2) :=
 PE.imp (lM hc hg hm hv (bJ ha cT he) hx hdb he rfl) λ_ _ _ h=>wH hs hn h
def gU(b:B1):pM (b1D b):=by
 intro x c
 cases b<;>simp only[b1D]<;>first
  | exact eY
  | (cases x<;>simp[a0C]<;>first | exact eY | (split<;>simp) | skip)
def Ff:Sem1 W (λxs H Q=>∃i,xs=[.int i]/\Q (.int (if i<0 then -i else i)) H) (b1D .abs):=by
 intro lk P H x dx Q w d hS hK hx e k;cases dx<;>simp only[b1D]at e<;>cases e;exact⟨_,by rw[aO hx],k _ H (Same.refl H) dF⟩
def Ii(hk:W.K=X.K):Sem1 W (λxs H Q=>((∃p ys,xs=[.ref p]/\(SqL X.K H p ys\/SqT X.K H p ys)/\Q (.int ys.length) H)\/(∃z,xs=[.str z]/\z.length<=sizeLine/\Q (.int z.length) H))\/(∃a kvs ep,xs=[V.ref a]/\H a=Z_ (.dK kvs ep)/\Q (.int kvs.length) H)) (b1D .len):=by
 intro lk P H x dx Q w d hS hK hx e k;cases dx<;>simp only[b1D]at e<;>cases e
 .obtain⟨rfl,hl⟩:=bj hx
  rename_i s;refine .inl (.inr ⟨_,rfl,by simpa[strV,Str.length,Ut]using hl,?_⟩)
  have e1:((strV s).length:Int)=(s.length:Int):=by simp[strV,Str.length]
  rw[e1];exact k _ H (Same.refl H) dF
 .simp only[RepT,Rep]at hx
  obtain⟨a,xs,rfl,h1,h2⟩:=hx;refine .inl (.inl ⟨a,xs,rfl,.inr (hk▸aK aZ h1),?_⟩);rw[<-h2.length];exact k _ H (Same.refl H) dF
 .obtain⟨a,xs,rfl,h1,h2⟩:=hx
  refine .inl (.inl ⟨a,xs,rfl,.inl (hk▸h1),?_⟩);rw[<-h2.length];exact k _ H (Same.refl H) dF
 .obtain⟨a,kvs,rfl,⟨ep,h1⟩,h2,h3,h4⟩:=hx
  refine .inr ⟨a,kvs,ep,rfl,h1,?_⟩;have:=congrArg VM h2;simp only[Rq]at this;rw[this];exact k _ H (Same.refl H) dF
def gW{α:Type}{n:Nat}{i:Int}{j:Nat}(h:place n i=Z_ j):ixN n i=Z_ j:=by
 unfold place at h;unfold ixN
 by_cases h0:0<=i
 .rw[if_pos h0]at h ⊢;exact h
 .rw[if_neg h0]at h ⊢
  by_cases h1:0<=i+n
  .rw[if_pos h1]at h;rw[if_pos (by omega)];exact h
  .rw[if_neg h1]at h;cases h
def tK:jg idxD:=by
 intro x y c
 cases x<;>cases y<;>simp only[idxD]<;>first | exact eY | simp
def cX{α β:Type}{x:Option Nat}{f:Nat->Option α}{g:α->β}{y:β}(h:(x.bind λn=>(f n).map g)=Z_ y):∃n z,x=Z_ n/\f n=Z_ z/\g z=y:=by
 cases x with
 | none=>cases h
 | some n=>
   cases e:f n with
   | none=>simp[e]at h
   | some z=>simp[e]at h;exact⟨n,z,rfl,e,h⟩
def rIx(K:Rw):R2:=λx y H Q=>(rIxL K x y H Q\/rIxT K x y H Q)\/rIxS x y H Q
def Ng:IxR X (rIx X.K):=IxR.or (IxR.or Gp N5) yD
def jD(a i:D):R (Bool×D):=match a with
 | .dct _ _=>.stuck
 | _=>idxD a i
def Et(hk:W.K=X.K):Sem2 W (rIx X.K) jD:=by
 intro lk P H x y dx dy Q w d hS hK hx hy e k
 cases dx<;>cases dy<;>first | exact nope e | exact fD e | simp only[jD,idxD]at e
 .obtain⟨n,z,h1,h2,h3⟩:=cX (of_ok e)
  cases h3;obtain⟨rfl,hl⟩:=bj hx;rename_i s j;refine .inr ⟨strV s,j,z,rfl,aO hy,by simpa[strV,Str.length,Ut]using hl,?_,?_⟩
  .unfold atI
   rw[gW (α:=Nat) (n:=(strV s).cps.toList.length) (by simpa[strV]using h1)];simpa[strV]using h2
  .exact k _ H (Same.refl H) (xX (i:=[z]) (by simp))
 .obtain⟨n,z,h1,h2,h3⟩:=cX (of_ok e)
  cases h3;simp only[RepT,Rep]at hx;obtain⟨a,xs,rfl,q1,q2⟩:=hx;obtain⟨v,e1,e2⟩:=q2.get h2;refine .inl (.inr ⟨a,xs,_,v,rfl,aO hy,hk▸aK aZ q1,?_,k v H (Same.refl H) (.shared e2)⟩);unfold atI;rw[gW (α:=V) (by rw[<-q2.length];exact h1)];exact e1
 .obtain⟨n,z,h1,h2,h3⟩:=cX (of_ok e)
  cases h3;obtain⟨a,xs,rfl,q1,q2⟩:=hx;obtain⟨v,e1,e2⟩:=q2.get h2;refine .inl (.inl ⟨a,xs,_,v,rfl,aO hy,hk▸q1,?_,k v H (Same.refl H) (.shared e2)⟩);unfold atI;rw[gW (α:=V) (by rw[<-q2.length];exact h1)];exact e1
def xu(n:Nat)(d:Nat)(i:Int):HT.sIx n d (Z_ i)=clip n i:=by
 unfold clip;show(if i<0 then(i+(n:Int)).toNat else min i.toNat n)=_
 by_cases h:0<=i
 .rw[if_neg (by omega),if_pos h]
 .rw[if_pos (by omega),if_neg h]
def Cu{α:Type}(l:List α)(p q:Nat):cut l p q=(l.drop p).take (q-p):=by
 unfold cut;rw[Wu]
def IsO(t:T)(e:Option Expr)(X:Cx)(W:Wd)(o:Orc):Prop:=(e=Yt/\t=.cst .non)\/∃e',e=Z_ e'/\t≠.cst .non/\∀lk,PE X e' (tD X W lk fun δ=>ev o δ lk t)
def tO(X:Cx)(W:Wd)(o:Orc)(t:T):TO:=fun σ H C=>∃me B δ,SR X W me B H σ δ/\match(ev o δ Y_ t).bind (λy=>a0w (bnd t y.2))with
 | .ok oi=>∀H',Same H H'->C oi H'
 | .exc c=>EW X W σ H c
 | .stuck=>False
def PO.imp{e:Option Expr}{t t':TO}(h:PO X e t)(i:∀σ H Q,t' σ H Q->t σ H Q):PO X e t':=λpins s σ H Q I hw=>h pins s σ H Q I (i σ H Q hw)
def Hl{t:T}{d:D}{oi:Option Int}(ht:t≠.cst .non)(h:bnd t d=Z_ oi):∃i,d=.int i/\oi=Z_ i:=by
 unfold bnd at h;split at h
 .exact absurd rfl ht
 .cases d<;>simp at h
  exact⟨_,rfl,h.symm⟩
def d_po{t:T}{e:Option Expr}{o:Orc}(h:IsO t e X W o):PO X e (tO X W o t):=by
 rcases h with⟨rfl,rfl⟩ | ⟨e',rfl,ht,h⟩
 .refine PO.imp Ht fun σ H C ⟨me,B,δ,S,h⟩=>?_
  simp only[ev,a0u,bnd,a0w]at h;exact h H (Same.refl H)
 .refine PO.imp (J8 (h Y_)) fun σ H C ⟨me,B,δ,S,h⟩=>?_
  refine tD_iff.mpr ⟨me,B,δ,S,?_⟩
  cases e:ev o δ Y_ t with
  | ok r=>
    rw[e]at h;have h:(match a0w (bnd t r.2)with | .ok oi=>∀H',Same H H'->C oi H' | .exc c=>EW X W σ H c | .stuck=>False):=h
    cases e2:bnd t r.2 with
    | none=>rw[e2]at h;exact h.elim
    | some oi=>
      rw[e2]at h;obtain⟨i,h1,rfl⟩:=Hl ht e2;intro v H' s q;have q':=q.look;rw[h1]at q';exact⟨i,aO q',h H' s⟩
  | exc c=>rw[e]at h;exact h
  | stuck=>rw[e]at h;exact h
def tO.mono{o:Orc}{t:T}{C C':Option Int->Hp->Prop}(h:tO X W o t σ H C)(k:∀oi H',C oi H'->C' oi H'):tO X W o t σ H C':=by
 obtain⟨me,B,δ,S,h⟩:=h;refine⟨me,B,δ,S,?_⟩
 cases e:(ev o δ Y_ t).bind (λy=>a0w (bnd t y.2))with
 | ok oi=>rw[e]at h;exact λH' s=>k _ _ (h H' s)
 | exc c=>rw[e]at h;exact h
 | stuck=>rw[e]at h;exact h
def Pq{o:Orc}{t:T}{g:Bool×D->R (Bool×D)}{g':Option Int->R (Bool×D)}(hg:∀r,g r=(a0w (bnd t r.2)).bind g')(S:SR X W me B H σ δ)(h:After X W lk σ H (Hid B σ δ) ((ev o δ Y_ t).bind g) Q) :
 tO X W o t σ H λoi H1=>SR X W me B H1 σ δ/\Same H H1/\After X W lk σ H1 (Hid B σ δ) (g' oi) Q:=by
 refine⟨me,B,δ,S,?_⟩
 cases e:ev o δ Y_ t with
 | ok r=>
   rw[e]at h;have h:After X W lk σ H (Hid B σ δ) (g r) Q:=h;rw[hg]at h;show(match a0w (bnd t r.2)with | .ok oi=>∀H',Same H H'->SR X W me B H' σ δ/\Same H H'/\After X W lk σ H' (Hid B σ δ) (g' oi) Q | .exc c=>EW X W σ H c | .stuck=>False)
   cases e2:bnd t r.2 with
   | none=>rw[e2]at h;exact h.elim
   | some oi=>rw[e2]at h;exact λH' s=>⟨S.mono s,s,After.mono h s⟩
 | exc c=>rw[e]at h;exact h
 | stuck=>rw[e]at h;exact h
def Reps.cut{G:Hp}{l:List D}{vs:List V}(h:Reps W G l vs)(p q:Nat):Reps W G (cut l p q) (cut vs p q):=(h.take q).drop p
def dH{P:Addr->Prop}{q:Addr}{l:List D}{xs:List V}(hn:H q=Yt)(h:Reps W (vis H P) l xs)(hP:∀a,P a->∃o,H a=Z_ o):Res W P lk H (upd H q (.lst xs)) Y_ (.lst l) (.ref q):=by
 unfold Res;rw[if_pos rfl];refine⟨q,rfl,hn,xs,bf,h.mono λb o e=>?_⟩;obtain⟨e1,e2⟩:=bL e;have hb:b≠q:=bA e1 hn
 refine bT (by rw[aP hb];exact e1) λz=>?_
 rcases z with z | z
 .exact e2 z
 .exact hb z
def gP{P:Addr->Prop}{q:Addr}{l:List D}{xs:List V}(hn:H q=Yt)(h:Reps W (vis H P) l xs)(hP:∀a,P a->∃o,H a=Z_ o):Res W P lk H (upd H q (.tup xs)) Zd (.tup l) (.ref q):=by
 refine .shared ?_;simp only[Rep]
 have nP:¬P q:=λz=>by obtain⟨o,e⟩:=hP q z;rw[hn]at e;cases e
 refine⟨q,xs,rfl,.inl (.inl (bT bf nP)),h.mono λb o e=>?_⟩;obtain⟨e1,e2⟩:=bL e;exact bT (by rw[aP (bA e1 hn)];exact e1) e2
def SemS(W:Wd)(r:V->Option Int->Option Int->Hp->VK->Prop)(g:D->Option Int->Option Int->Option (Bool×D)):Prop :=
 ∀(lk:Bool)(P:Addr->Prop)(H:Hp)(x:V)(dx:D)(lo hi:Option Int)(Q:VK)(w:Bool)(d:D),Soft H P->(∀a,P a->∃o,H a=Z_ o)->RepT W H (vis H P) dx x->g dx lo hi=Z_ (w,d) ->
  (∀v H',Same H H'->Res W P lk H H' w d v->Q v H')->r x lo hi H Q
def Hf{α β:Type}(x:Option α)(f:α->Option β):a0w (x.bind f)=(a0w x).bind λa=>a0w (f a):=by cases x<;>rfl
def R9{o:Orc}{tl th:T}{lo hi:Option Expr}{p2:Pos}{r:V->Option Int->Option Int->Hp->VK->Prop}{g:D->Option Int->Option Int->Option (Bool×D)}(hr:SlR X r)(hs:SemS W r g)(ha:PE X a (tD X W Y_ fa))(hl:IsO tl lo X W o)(hh:IsO th hi X W o) :
 PE X (.Subscript a (.Slice lo hi none p2) pos) (tD X W lk fun δ=>(fa δ).bind λx=>(ev o δ Y_ tl).bind λy=>(ev o δ Y_ th).bind λz=>.of ((bnd tl y.2).bind λl=>(bnd th z.2).bind λh=>g x.2 l h)):=by
 refine PE.imp (yV hr ha (d_po hl) (d_po hh)) fun σ H Q h=>?_
 obtain⟨me,B,δ,S,h⟩:=tD_iff.mp h
 refine tD.mono (part S h) λv H1 ⟨r1,e1,S1,s1,t1,_,h1⟩=>?_
 refine⟨me,B,δ,S1,?_⟩
 cases e2:ev o δ Y_ tl with
 | ok y=>
   rw[e2]at h1;have h1:After X W lk σ H1 (Hid B σ δ) ((ev o δ Y_ th).bind λz=>.of ((bnd tl y.2).bind λl=>(bnd th z.2).bind λh=>g r1.2 l h)) Q:=h1;show(match a0w (bnd tl y.2)with | .ok oi=>∀H',Same H1 H'->tO X W o th σ H' λu H3=>r v oi u H3 Q | .exc c=>EW X W σ H1 c | .stuck=>False)
   cases e3:bnd tl y.2 with
   | none=>
     rw[e3]at h1
     cases e4:ev o δ Y_ th with
     | ok z=>rw[e4]at h1;exact h1.elim
     | exc c=>rw[e4]at h1;exact h1.elim
     | stuck=>rw[e4]at h1;exact h1.elim
   | some l=>
     rw[e3]at h1;intro H2 s2;have h2:After X W lk σ H2 (Hid B σ δ) ((ev o δ Y_ th).bind λz=>.of ((bnd th z.2).bind λh=>g r1.2 l h)) Q:=After.mono h1 s2
     refine tO.mono (Pq (g':=λh=>a0w (g r1.2 l h)) (λr=>Hf _ _) (S1.mono s2) h2) λu H3 ⟨S3,s3,h3⟩=>?_
     cases e5:g r1.2 l u with
     | none=>rw[e5]at h3;exact h3.elim
     | some q=>
       rw[e5]at h3;exact hs lk (Hid B σ δ) H3 v r1.2 l u Q q.1 q.2 S3.softH S3.know (t1.mono (s2.trans s3) (aC (s2.trans s3))) e5 h3
 | exc c=>rw[e2]at h1;exact h1.elim
 | stuck=>rw[e2]at h1;exact h1.elim
def rSlS:V->Option Int->Option Int->Hp->VK->Prop:=λx lo hi H Q=>∃z:Str,x=.str z/\z.length<=sizeLine/\Q (.str (W6 z lo hi)) H
def Ml:SlR X rSlS:=by
 intro pins s σ H x v vl vu lo hi sl Q I rx hs pl pu h;obtain⟨z,rfl,hz,q⟩:=h;obtain⟨t,rfl⟩:=rx;refine⟨"str",_,PySem.F.slot_str_getitem.lookup,typeIs_str _ _ _,?_⟩
 cases pl with
 | none=>
   cases pu with
   | none=>exact Xk (l:=Yt) (u:=Yt) (st:=Yt) hs rfl (YQ ⟨RW (XD z none none) hz,λt' k=>⟨.str (W6 z none none),H,I.tok _,⟨t',rfl⟩,q⟩⟩)
   | int j tj=>exact Xk (l:=Yt) (u:=Z_ (j,tj)) (st:=Yt) hs rfl (YQ ⟨RW (XD z none (Z_ j)) hz,λt' k=>⟨.str (W6 z none (Z_ j)),H,I.tok _,⟨t',rfl⟩,q⟩⟩)
 | int i ti=>
   cases pu with
   | none=>exact Xk (l:=Z_ (i,ti)) (u:=Yt) (st:=Yt) hs rfl (YQ ⟨RW (XD z (Z_ i) none) hz,λt' k=>⟨.str (W6 z (Z_ i) none),H,I.tok _,⟨t',rfl⟩,q⟩⟩)
   | int j tj=>exact Xk (l:=Z_ (i,ti)) (u:=Z_ (j,tj)) (st:=Yt) hs rfl (YQ ⟨RW (XD z (Z_ i) (Z_ j)) hz,λt' k=>⟨.str (W6 z (Z_ i) (Z_ j)),H,I.tok _,⟨t',rfl⟩,q⟩⟩)
theorem yD(l u:Option Int)(n:Nat):S8.Str.strSliceIndices l u 1 n=(TQ (bQ n u-cV n l)).map λk=>cV n l+k:=by
 have cl:∀i:Int,max 0 (min (if i<0 then i+(n:Int)else i) (n:Int))=((clip n i:Nat):Int):=λi=>by
  unfold clip
  by_cases h:i<0
  .rw[if_pos h,if_neg (by omega)];omega
  .rw[if_neg h,if_pos (by omega)];omega
 have e:S8.Str.strSliceIndices l u 1 n=sliceRange (cV n l:Int) (bQ n u:Int) 1:=by
  unfold S8.Str.strSliceIndices;cases l<;>cases u<;>simp only[show(1:Int)>0 by decide,if_true,cl,cV,bQ]<;>rfl
 rw[e];generalize cV n l=p;generalize bQ n u=q;unfold sliceRange;simp only[show(1:Int)>0 by decide,if_true]
 by_cases h:(p:Int)<q
 .have:(((q:Int)-p+1-1)/1).toNat=q-p:=by rw[Int.ediv_one];omega
  rw[if_pos h,this]
  exact WN λk _=>by omega
 .rw[if_neg h,show q-p=0 by omega];rfl
theorem xN(x:List Nat)(l u:Option Int):W6 (strV x) l u=strV (cut x (cV x.length l) (bQ x.length u)):=by
 have hn:(strV x).length=x.length:=by simp[strV,Str.length]
 have hh:bQ x.length u<=x.length:=by
  cases u with
  | none=>exact Rx _
  | some i=>show clip x.length i<=x.length;unfold clip;split<;>omega
 unfold W6;rw[yD,hn,Cu];generalize cV x.length l=p;generalize bQ x.length u=q at hh;split
 .rename_i h
  simp only[BEq.rfl,Bool.true_and,beq_iff_eq,Rq,Yd]at h
  have hx:x.length=0\/(p=0/\q=x.length):=by omega
  rcases hx with hx | ⟨rfl,rfl⟩
  .have:x=[]:=List.length_eq_zero_iff.mp hx
   subst this;simp
  .simp
 .congr 1
  by_cases hp:p<=q
  .have:=PySem.StrLaws.picks x (q-p) p (by omega)
   simpa[strV]using congrArg List.toArray this
  .rw[show q-p=0 by omega];simp
def rSl(K:Rw):V->Option Int->Option Int->Hp->VK->Prop:=λx lo hi H Q=>(rSlL K x lo hi H Q\/rSlT K x lo hi H Q)\/rSlS x lo hi H Q
def Mq:SlR X (rSl X.K):=SlR.or (SlR.or Fz MT) Ml
def Dj(n:Nat)(o:Option Int):HT.sIx n 0 o=cV n o:=by cases o with | none=>rfl | some i=>exact xu n 0 i
def uK(n:Nat)(o:Option Int):HT.sIx n n o=bQ n o:=by cases o with | none=>rfl | some i=>exact xu n n i
def ue(xs:List V)(lo hi:Option Int):cutV xs lo hi=cut xs (cV xs.length lo) (bQ xs.length hi):=by
 unfold cutV;rw[Dj,uK,Cu]
theorem Ia(hk:W.K=X.K):SemS W (rSl X.K) slcD:=by
 intro lk P H x dx lo hi Q w d hS hK hx e k
 cases dx<;>first | exact nope e | exact fD e | simp only[slcD]at e
 .cases e
  obtain⟨rfl,hl⟩:=bj hx;refine .inr ⟨strV _,rfl,by simpa[strV,Str.length,Ut]using hl,?_⟩;rw[xN];exact k _ _ (Same.refl _) (.shared (by simp only[Rep];exact⟨trivial,RW (by unfold cut;simp;omega) hl⟩))
 .split at e
  .cases e
  .rename_i hne
   cases e;simp only[RepT,Rep]at hx;obtain⟨a,xs,rfl,q1,q2⟩:=hx;refine .inl (.inr ⟨a,xs,rfl,hk▸aK aZ q1,?_,λp hp=>?_⟩)
   .rw[Dj,uK,<-q2.length];exact hne
   .rw[ue,<-q2.length]
    exact k _ _ (Same.upd hp) (gP hp (q2.cut _ _) hK)
 .cases e
  obtain⟨a,xs,rfl,q1,q2⟩:=hx;refine .inl (.inl ⟨a,xs,rfl,hk▸q1,λp hp=>?_⟩);rw[ue,<-q2.length];exact k _ _ (Same.upd hp) (dH hp (q2.cut _ _) hK)
noncomputable def cL:Ty->Option String
 | .int=>some "int"
 | .bool=>some "bool"
 | .str=>some "str"
 | .tup=>some "tuple"
 | .lst=>some "list"
 | .dct=>some "dict"
 | _=>none
end
section
variable{X:Cx}{W:Wd}{lk lk':Bool}{σ:L2.St}{H H1 H':Hp}{me:Option Addr}{B:Addr->Prop}{δ:Dst}{Q Q':VK}{a b:Expr}{pos p:Pos}{fa fb fc:Dst->R (Bool×D)}
def TyS(K:Rw)(H:Hp)(x:V)(t:String):Prop:=match x with
 | .non=>t="NoneType"
 | .bl _=>t="bool"
 | .int _=>t="int"
 | .str _=>t="str"
 | .ref a=>(t="list"/\∃xs,SqL K H a xs)\/(t="tuple"/\∃xs,SqT K H a xs)\/(t="dict"/\∃kvs,IsK H a kvs)
 | _=>False
def J7:CallR X (.builtin "isinstance") (λxs H Q=>∃x T t b,xs=[x,.ty T]/\TyS X.K H x t/\PySem.W.kitOne X.K (.type t) (.type T)=Z_ b/\Q (.bl b) H):=by
 intro pins s σ H xs us Q I r h;obtain⟨x,T,t,b,rfl,ty,e,q⟩:=h
 cases r with
 | cons rx r2=>
   cases r2 with
   | cons rT r3=>
     cases r3;cases (show _=YW T from rT)
     have fin:∀tk,EP X pins σ Q (.bool b) { s with toks:=tk }:=λtk=>⟨.bl b,H,I.tok _,rfl,q⟩
     cases x with
     | non=>cases (show _=Wq from rx);cases (show t="NoneType" from ty);exact W8 PySem.W.kitx_none I.kIn Xq e (λz=>nomatch z) fin
     | bl y=>cases (show _=Xl y from rx);cases (show t="bool" from ty);exact W8 PySem.W.kitx_bool I.kIn Xq e (λz=>nomatch z) fin
     | int i=>obtain⟨tk,q⟩:=(show ∃t,_=Z9 i t from rx);cases q;cases (show t="int" from ty);exact W8 PySem.W.kitx_int I.kIn Xq e (λz=>nomatch z) fin
     | str y=>obtain⟨tk,q⟩:=(show ∃t,_=ZC y t from rx);cases q;cases (show t="str" from ty);exact W8 PySem.W.kitx_str I.kIn Xq e (λz=>nomatch z) fin
     | ref a=>
       cases (show _=Us a from rx);rcases(show(t="list"/\∃xs,SqL X.K H a xs)\/(t="tuple"/\∃xs,SqT X.K H a xs)\/(t="dict"/\∃kvs,IsK H a kvs)from ty)with⟨rfl,xs,h⟩ | ⟨rfl,xs,h⟩ | ⟨rfl,kvs,ep,h⟩
       .obtain⟨its,_,pl,_⟩:=I.list h
        obtain⟨o,ho,hc,_⟩:=pl.isList;exact W8 PySem.W.kitx_list I.kIn ⟨o,ho,hc⟩ e (λz=>nomatch z) fin
       .obtain⟨its,_,pl,_⟩:=I.tuple h
        obtain⟨o,ho,hc,_⟩:=pl;exact W8 PySem.W.kitx_tuple I.kIn ⟨o,ho,hc⟩ e (λz=>nomatch z) fin
       .obtain⟨_,_,vs,_,p⟩:=(show ObjOk X.prog X.w H s.heap a (.dK kvs ep)from I.hok a _ h)
        obtain⟨o,es,h1,h2,_⟩:=p;exact W8 PySem.W.kitx_dict I.kIn ⟨o,h1,h2.1⟩ e (λz=>nomatch z) fin
     | _=>exact(show False from ty).elim
noncomputable def subB(t T:String):Bool:=t==T||(t=="bool"&&T=="int")
def GF(K:Rw):∀t∈["NoneType","bool","int","str","list","tuple","dict"],∀T∈["int","bool","str","tuple","list","dict"],PySem.W.kitOne K (.type t) (.type T)=Z_ (subB t T):=by
 intro t ht T hT;simp only[Rp,Sd,or_false]at ht hT;rcases ht with rfl | rfl | rfl | rfl | rfl | rfl | rfl<;>rcases hT with rfl | rfl | rfl | rfl | rfl | rfl<;>(with_unfolding_all rfl)
def NP{ty:Ty}{T:String}(h:cL ty=Z_ T):T∈["int","bool","str","tuple","list","dict"]:=by
 cases ty<;>simp[cL]at h<;>subst h<;>simp
def Kp{o:Orc}{ty:Ty}{T:String}{d:D}{b:Bool}{v:V}(hk:W.K=X.K)(hT:cL ty=Z_ T)(h:RepT W H (vis H B) d v)(e:isD o ty d=Z_ b):∃t,TyS X.K H v t/\t∈["NoneType","bool","int","str","list","tuple","dict"]/\subB t T=b:=by
 cases d with
 | non=>
   simp only[RepT,Rep]at h;subst h;refine⟨"NoneType",rfl,by simp,?_⟩;cases ty<;>simp[cL]at hT<;>subst hT<;>simp[isD]at e<;>subst e<;>rfl
 | bl x=>
   simp only[RepT,Rep]at h;subst h;refine⟨"bool",rfl,by simp,?_⟩;cases ty<;>simp[cL]at hT<;>subst hT<;>simp[isD]at e<;>subst e<;>rfl
 | int x=>
   simp only[RepT,Rep]at h;subst h;refine⟨"int",rfl,by simp,?_⟩;cases ty<;>simp[cL]at hT<;>subst hT<;>simp[isD]at e<;>subst e<;>rfl
 | str x=>
   obtain⟨rfl,_⟩:=bj h;refine⟨"str",rfl,by simp,?_⟩;cases ty<;>simp[cL]at hT<;>subst hT<;>simp[isD]at e<;>subst e<;>rfl
 | tup l=>
   simp only[RepT,Rep]at h;obtain⟨a,xs,rfl,h1,h2⟩:=h;refine⟨"tuple",.inr (.inl ⟨rfl,xs,hk▸aK aZ h1⟩),by simp,?_⟩;cases ty<;>simp[cL]at hT<;>subst hT<;>simp[isD]at e<;>subst e<;>rfl
 | lst l=>
   obtain⟨a,xs,rfl,h1,h2⟩:=h;refine⟨"list",.inl ⟨rfl,xs,hk▸h1⟩,by simp,?_⟩;cases ty<;>simp[cL]at hT<;>subst hT<;>simp[isD]at e<;>subst e<;>rfl
 | dct ks vs=>
   obtain⟨a,kvs,rfl,h1,h2⟩:=h;refine⟨"dict",.inr (.inr ⟨rfl,kvs,h1⟩),by simp,?_⟩;cases ty<;>simp[cL]at hT<;>subst hT<;>simp[isD]at e<;>subst e<;>rfl
 | obj c ns vs=>cases ty<;>simp[cL]at hT<;>simp[isD]at e
 | err c=>cases ty<;>simp[cL]at hT<;>simp[isD]at e
def Kl{o:Orc}{ty:Ty}{T:String}{tn:Str}{p2:Pos}(hk:W.K=X.K)(hT:cL ty=Z_ T)(hg:Gl X "isinstance")(hm:X.mg "isinstance"=Yt)(hg2:Gl X tn)(hm2:X.mg tn=Yt)(hv2:Vu tn=Z_ (.type T))(hx2:tn≠"__name__")(hd2:(tn==("__debug__":Str))=Zd)
 (ha:PE X a (tD X W Y_ fa))(he:SJ [a,.Name tn p2] X.env=(Zd,Vl a X.env)::SJ [.Name tn p2] X.env) :
 PE X (.Call (.Name "isinstance" p) [a,.Name tn p2] [] pos) (tD X W lk fun δ=>(fa δ).bind λx=>.of ((isD o ty x.2).map λt=>(Zd,.bl t))):=by
 refine PE.imp (gH J7 hg hm PyProof.Rows.boot_isinstance (bJ ha (bJ (J6 (v:=.ty T) hg2 hm2 hv2 rfl hx2 hd2) cT) he) (by decide) (by decide) he rfl) fun σ H Q h=>?_
 obtain⟨me,B,δ,S,h⟩:=tD_iff.mp h
 refine tD.mono (part S h) λv H1 ⟨r1,e1,S1,s1,t1,_,h1⟩=>?_
 cases e:isD o ty r1.2 with
 | none=>rw[e]at h1;exact h1.elim
 | some b=>
   rw[e]at h1;obtain⟨t,h2,h3,h4⟩:=Kp hk hT t1 e;exact⟨v,T,t,b,rfl,h2,by rw[GF _ t h3 T (NP hT),h4],h1 _ H1 (Same.refl _) cA⟩
def TgOk(X:Cx)(W:Wd)(tg:Expr)(is:List Nat)(tup:Bool)(g:TG):Prop:=PG X tg g /\
 ∀{me:Option Addr} {B:Addr->Prop} {σ:L2.St} {H:Hp} {δ δ1:Dst} {d:D} {ds:List D} {v:V} {C:L2.St->Hp->Prop},SR X W me B H σ δ->Rep W (vis H (Hid B σ δ)) d v->takes is.length tup d=Z_ ds->aH δ is ds=Z_ δ1 ->
  (∀σ1,SR X W me B H σ1 δ1->Same (vis H (Hid B σ δ)) (vis H (Hid B σ1 δ1))->C σ1 H)->g v σ H C
def uQ(S:SR X W me B H σ δ)(r:Rep W (vis H (Hid B σ δ)) d v)(e:setSlot δ i Zd d=Z_ δ1):SR X W me B H (σ.set i (Z_ v)) δ1/\Same (vis H (Hid B σ δ)) (vis H (Hid B (σ.set i (Z_ v)) δ1)):=by
 obtain⟨h1,rfl⟩:=fV e;exact S.store (w:=Zd) (Same.refl H) (.shared r) h1
def Fw(hN:X.N.Nodup)(hi:X.N[i]?=Z_ x)(hx:Loc X.env.scope x)(hf:X.fn x=Y_\/X.env.scope.names.lookup x=Z_ .local):TgOk X W (.Name x pos) [i] Zd (t6 i):=by
 refine⟨jU hN hi hx hf,λ{me B σ H δ δ1 d ds v C} S r e1 e2 k=>?_⟩;simp only[takes,Rv,if_false,Ry]at e1;subst e1;simp only[aH]at e2
 cases e3:setSlot δ i Zd d with
 | none=>rw[e3]at e2;cases e2
 | some δ'=>
   rw[e3]at e2;cases e2;obtain⟨S1,s1⟩:=uQ S r e3;exact k _ S1 s1
def eE:List Nat->TGs
 | []=>gNil
 | i::l=>JC (t6 i) (eE l)
theorem eQ:∀{is:List Nat} {ds:List D} {vs:List V} {σ:L2.St} {δ δ1:Dst},SR X W me B H σ δ->Reps W (vis H (Hid B σ δ)) ds vs->aH δ is ds=Z_ δ1 ->
 (∀σ1,SR X W me B H σ1 δ1->Same (vis H (Hid B σ δ)) (vis H (Hid B σ1 δ1))->C σ1 H)->eE is vs σ H C
 | [],[],[],σ,δ,δ1,S,r,e,k=>by
   simp only[aH,Ry]at e;subst e;exact⟨rfl,k σ S (Same.refl _)⟩
 | [],[],_::_,_,_,_,_,r,_,_=>by simp only[Reps]at r
 | [],_::_,_,_,_,_,_,_,e,_=>by simp[aH]at e
 | _::_,[],_,_,_,_,_,_,e,_=>by simp[aH]at e
 | _::_,_::_,[],_,_,_,_,r,_,_=>by simp only[Reps]at r
 | i::is,d::ds,v::vs,σ,δ,δ1,S,r,e,k=>by
   simp only[Reps]at r;simp only[aH]at e
   cases e3:setSlot δ i Zd d with
   | none=>rw[e3]at e;cases e
   | some δ'=>
     rw[e3]at e;obtain⟨S1,s1⟩:=uQ S r.1 e3;exact⟨v,vs,rfl,eQ S1 (r.2.mono s1) e fun σ1 S2 s2=>k σ1 S2 (s1.trans s2)⟩
def Ol(hk:W.K=X.K)(hc:X.calm=Y_)(h:PGs X es (eE is))(hn:(V7 es X.env).length=is.length)(hst:(V7 es X.env).findIdx? (·.1)=Yt):TgOk X W (.Tuple es kk pos) is Y_ (gTup X.K is.length (eE is)):=by
 refine⟨Cj hc h hn hst,λ{me B σ H δ δ1 d ds v C} S r e1 e2 k=>?_⟩;simp only[takes,if_true]at e1
 cases d with
 | tup l=>
   simp only at e1;split at e1
   .rename_i hl
    cases e1;simp only[Rep]at r;obtain⟨a,xs,rfl,r1,r2⟩:=r;exact⟨a,xs,rfl,hk▸aK aZ r1,by rw[<-r2.length];exact hl,eQ S r2 e2 k⟩
   .cases e1
 | _=>simp at e1
def PI.or(h:PI X tg e t)(h':PI X tg e t'):PI X tg e (fun σ H R=>t σ H R\/t' σ H R):=by
 intro pins s σ H R I q;rcases q with q | q
 .exact h pins s σ H R I q
 .exact h' pins s σ H R I q
def PI.imp(h:PI X tg e t)(i:∀σ H R,t' σ H R->t σ H R):PI X tg e t':=λpins s σ H R I hw=>h pins s σ H R I (i σ H R hw)
noncomputable def gm(ds:List D)(n:Nat):Dst:=ds.map (λd=>some (Own.sh,d))++Uc n none
def cO{ds:List D}{n i:Nat}{w:Own}{d:D}(h:(gm ds n)[i]?=Z_ (Z_ (w,d))):w=.sh/\ds[i]?=Z_ d:=by
 unfold gm at h
 by_cases hi:i<ds.length
 .rw[Vi (by simpa using hi),T8]at h
  cases e:ds[i]? with
  | none=>rw[e]at h;cases h
  | some x=>rw[e]at h;cases h;exact⟨rfl,rfl⟩
 .rw[Uq (by simpa using hi),X7]at h
  split at h<;>cases h
def v4{N:List Str}{vs:List V}{i:Nat}{v:V}(h:vs[i]?=Z_ v):(L2.start N vs)[i]?=Z_ (Z_ v):=by
 unfold L2.start;have hi:i<vs.length:=(Sq.mp h).1;rw[Vi (by simpa using hi),T8,h]
 rfl
def SR.start{N:List Str}{ds:List D}{vs:List V}(hk:W.K=X.K)(h0:X.H₀=H)(hb:Soft H B)(hg:∀b,B b->∃o,H b=Z_ o)(hr:Reps W (vis H B) ds vs)(hl:vs.length<=N.length) :
 SR X W none B H (L2.start N vs) (gm ds (N.length-vs.length)):=by
 have hid:∀b,Hid B (L2.start N vs) (gm ds (N.length-vs.length)) b->B b:=λb hb=>by
  rcases hb with hb | ⟨i,⟨w,d,h1,h2⟩,_⟩
  .exact hb
  .exact absurd (cO h1).1 h2
 refine⟨hk,?_,λi d h=>?_,λi d h=>?_,λi d h=>?_,λi j a h1 _=>?_,λb o h _=>by rw[<-h0];exact h,hb,hg,λx h=>nomatch h⟩
 .unfold L2.start gm
  simp[hr.length]
 .obtain⟨v,e1,e2⟩:=hr.get (cO h).2
  exact⟨v,v4 e1,e2.mono (aN hid)⟩
 .exact absurd (cO h).1 (by decide)
 .exact absurd (cO h).1 (by decide)
 .obtain⟨⟨w,d,h1,h2⟩,_⟩:=h1
  exact absurd (cO h1).1 h2
theorem Br{P:Sx}{w:Th}{K:Rw}{mg:Str->Option Rm}{base:Rz}{x qual:Str}{st:Stmt}{f:Addr}{fd:Wr}{N ps:List Str}{k:Nat}{o:Orc}{W:Wd}{np ns:Nat}{body:SL}
 (F:Fun K x qual st f fd)(Sc:FnScope N ps (aD st))(hp:ps.length=np)(hn:N.length=ns)
 (hb:∀(cdv:Rm)(A:Tu)(outer:List Env)(s:Rr)(H:Hp)(E:XK),Room k (A.deeper (YG qual (aD st) s.heap.objs.size f cdv)) ->
  PSs (cxOf CX0 P w K mg base N qual (aD st) f cdv A outer s H E).nox (b8 st) (tS (cxOf CX0 P w K mg base N qual (aD st) f cdv A outer s H E).nox W (evSs o body))) (hk:W.K=K) :
 FnOk P w K mg base CX0 (k+1) f fd ps (spFn W (bc o ⟨np,ns,body⟩) np):=by
 refine F.ok Sc (λvs H Q E h=>by rw[hp];exact h.1) (λcdv A outer s H vs Q E hr h=>?_);obtain⟨hl,B,ds,b1,b2,b3,r,e,k1⟩:=h;refine⟨_,hb cdv A outer s H E hr,?_⟩
 have hle:vs.length<=N.length:=by
  have:=congrArg VM Sc.pre;rw[Vp]at this;omega
 refine⟨none,B,_,SR.start (N:=N) (by exact hk) rfl b1 b2 b3 hle,?_⟩;have hdl:=b3.length
 have e':(match evSs o body (gm ds (N.length-vs.length))with | .rt w d _=>a0S (w,d) | .nx _=>.ok (Zd,.non) | .ex c _=>.exc c | _=>.stuck)=a0S r:=by
  unfold bc at e;rw[if_pos (by rw[hdl];exact hl)]at e;unfold gm;rw[hn,hl];exact e
 have same:∀{σ':L2.St} {H':Hp} {δ':Dst},SR (cxOf CX0 P w K mg base N qual (aD st) f cdv A outer s H E).nox W none B H' σ' δ'->Same H H':=λS' b o h=>S'.same b o h (by simp)
 cases e2:evSs o body (gm ds (N.length-vs.length))with
 | rt w d δ'=>
   rw[e2]at e';cases e'
   exact λv σ' H' S' _ q=>k1 v H' (same S') q
 | nx δ'=>
   rw[e2]at e';cases e'
   exact fun σ' H' S' _=>k1 .non H' (same S') (.shared (by simp only[Rep]))
 | bk δ'=>rw[e2]at e';cases e'
 | ct δ'=>rw[e2]at e';cases e'
 | ex c δ'=>rw[e2]at e';cases e'
 | stuck=>rw[e2]at e';cases e'
end
section
variable{X:Cx}{W:Wd}{me:Option Addr}{B:Addr->Prop}{H H':Hp}{σ:L2.St}{δ:Dst}{E:Rm->Rr->Prop}{s s':Rr}{cls:Rm}{a:Addr}{tr:Bool}
def SR.wish(S:SR X W me B H σ δ):SR (X.wish E) W me B H σ δ:=⟨S.kf,S.len,S.sh,S.ow,S.mi,S.apart,S.same,S.soft,S.gone,S.live⟩
def SR.unwish(S:SR (X.wish E) W me B H σ δ):SR X W me B H σ δ:=⟨S.kf,S.len,S.sh,S.ow,S.mi,S.apart,S.same,S.soft,S.gone,S.live⟩
def PE.lift(h:PE X.nox e (tD X.nox W lk f)):PE X e (tD X W lk f):=PE.imp (PE.nox h) fun σ H Q q=>by
 obtain⟨me,B,δ,S,q⟩:=tD_iff.mp q;exact tD_iff.mpr ⟨me,B,δ,S.wish,q⟩
def PT.lift(h:PT X.nox e (tT X.nox W f)):PT X e (tT X W f):=PT.imp (PT.nox h) fun σ H Q ⟨me,B,δ,S,q⟩=>⟨me,B,δ,S.wish,q⟩
def PS.lift{st:Stmt}{g:Dst->SO}(h:PS X.nox st (tS X.nox W g))(hn:∀δ c δ',g δ≠.ex c δ'):PS X st (tS X W g):=by
 intro pins s σ H D I ⟨me,B,δ,S,q⟩
 refine V6 (h pins s σ H D (I.wish _) ⟨me,B,δ,S.wish,?_⟩) (λ_ _ q=>q.unwish) λ_ _ z=>SX z
 cases e:g δ with
 | nx δ1=>rw[e]at q;exact fun σ H S z=>q σ H S.unwish z
 | bk δ1=>rw[e]at q;exact fun σ H S z=>q σ H S.unwish z
 | ct δ1=>rw[e]at q;exact fun σ H S z=>q σ H S.unwish z
 | rt w d δ1=>rw[e]at q;exact λv σ H S z=>q v σ H S.unwish z
 | ex c δ1=>exact absurd e (hn δ c δ1)
 | stuck=>rw[e]at q;exact q
end
variable{W:Wd}{X:Cx}
theorem gO:∀{ks:List DK}{vs:List D}{kvs:List (Key×V)}{x:DK}{d:D},kvs.map (·.1)=ks.map keyV->Reps W G vs (kvs.map (·.2))->look ks vs x=Z_ d->∃v,valV kvs (keyV x)=Z_ v/\Rep W G d v
 | [],_,_,_,_,_,_,h=>by simp[look]at h
 | _::_,[],_,_,_,_,_,h=>by simp[look]at h
 | k::ks,d'::vs,[],_,_,e,_,_=>by simp at e
 | k::ks,d'::vs,(k',v')::kvs,x,d,e,r,h=>by
   simp only[Ro,Xp]at e;simp only[Ro,Reps]at r;obtain⟨e1,e2⟩:=e;subst e1;simp only[look]at h
   by_cases hk:k=x
   .subst hk
    rw[if_pos rfl]at h;cases h;exact⟨v',by simp[valV],r.1⟩
   .rw[if_neg hk]at h
    obtain⟨v,h1,h2⟩:=gO e2 r.2 h;refine⟨v,?_,h2⟩
    have:¬keyV k=keyV x:=λz=>hk (dg z)
    simp only[valV]at h1 ⊢;rw[List.find?_cons_of_neg (by simp[this])];exact h1
theorem dG:∀{ks:List DK}{vs:List D}{kvs:List (Key×V)}{x:DK},kvs.map (·.1)=ks.map keyV->Reps W G vs (kvs.map (·.2))->look ks vs x=Yt->valV kvs (keyV x)=Yt
 | [],_,[],_,_,_,_=>rfl
 | [],_,_::_,_,e,_,_=>by simp at e
 | _::_,_,[],_,e,_,_=>by simp at e
 | _::_,[],_::_,_,_,r,_=>by simp only[Ro,Reps]at r
 | k::ks,d'::vs,(k',v')::kvs,x,e,r,h=>by
   simp only[Ro,Xp]at e;simp only[Ro,Reps]at r;obtain⟨e1,e2⟩:=e;subst e1;simp only[look]at h
   by_cases hk:k=x
   .subst hk;rw[if_pos rfl]at h;cases h
   .rw[if_neg hk]at h
    have:=dG e2 r.2 h
    have hne:¬keyV k=keyV x:=λz=>hk (dg z)
    simp only[valV]at this ⊢;rw[List.find?_cons_of_neg (by simp[hne])];exact this
section
variable{X:Cx}{W:Wd}{lk lk':Bool}{σ:L2.St}{H H1 H':Hp}{me:Option Addr}{B:Addr->Prop}{δ:Dst}{Q Q':VK}{a b:Expr}{pos p:Pos}{fa fb fc:Dst->R (Bool×D)}
section
open PySem.SeqAt
open PySem.AutoSeq1 (wpAny_loadPart')
open MeetsSeq
def list_addW(l b:Addr)(items items2:Array Rm)(n n2:Nat)(dd dd2:Option Addr)(sl sl2:Array (Option Rm))(hc0:items.size+items2.size<=sizeLine) :
 Meets (S8.«list.__add__» ⟨[.ref l,.ref b],[]⟩) (λ_ R s=>s.heap.get? l=Z_ { cls:=.type "list",dict:=dd,data:=.seq items n,slots:=sl }/\s.heap.get? b=Z_ { cls:=.type "list",dict:=dd2,data:=.seq items2 n2,slots:=sl2 } /\
  R (.ok (.ret (Us s.heap.objs.size))) { s with heap:=s.heap.push { cls:=YW "list",data:=Data.seq (items++items2) } }) :=
 .of_wp λprog w A R s h=>by
  obtain⟨hp,g,d,tk,os⟩:=s;obtain⟨hl,hb,h⟩:=h;have f1:=PySem.AutoSeq1.idx_int;have f2:=PySem.AutoSeq1.sub_tuple_tuple;have f3:=PySem.AutoSeq1.sub_list_list;have f4:=PySem.AutoSeq1.sub_tuple_list;have f5:=PySem.AutoSeq1.sub_list_tuple
  wp_walk using YM hl,YM hb;exact⟨_,rfl,h⟩
end
def Kq(K:Rw):R2:=λx y H Q=>∃l b xs zs,x=.ref l/\y=.ref b/\SqL K H l xs/\SqL K H b zs/\xs.length+zs.length<=sizeLine/\∀p,H p=Yt->Q (.ref p) (upd H p (.lst (xs++zs)))
theorem Hx:OpR X (We .Add) (Kq X.K):=by
 intro pins s σ H x y v u Q I rx ry h;obtain⟨l,b,xs,zs,rfl,rfl,hH,hB,hz,q⟩:=h;cases rx;cases ry;obtain⟨its,r,⟨⟨cls,dd,data,sl⟩,n,ho,hc,_,hd⟩,z⟩:=I.list hH;obtain⟨its2,r2,⟨⟨cls2,dd2,data2,sl2⟩,n2,ho2,hc2,_,hd2⟩,z2⟩:=I.list hB;simp only at hc hd hc2 hd2;subst hc hd hc2 hd2;have l1:=r.length;have l2:=r2.length
 have ea:its.toArray++its2.toArray=(its++its2).toArray:=by simp
 refine Zq ⟨_,ho,rfl⟩ ⟨_,ho2,rfl⟩ noFill_list_add seq_list_add PySem.F.slot_list_add PySem.F.entry_list_add (PySem.F.args_list_add_2 _ _) (list_addW l b its.toArray its2.toArray n n2 dd dd2 sl sl2 (by rw[RM,RM];omega)) ⟨ho,ho2,?_⟩;rw[ea];exact⟨.ref _,_,I.lnew (t':=s.toks) (r.append r2) (by rw[RJ];omega),rfl,q _ I.fresh⟩
def De(K:Rw):R2:=λx y H Q=>∃a b ys,x=.ref a/\y=.ref b/\SqT K H a []/\SqT K H b ys/\Q (.ref b) H
def yS:OpR X (We .Add) (De X.K):=by
 intro pins s σ H x y v u Q I rx ry h;obtain⟨a,b,ys,rfl,rfl,ha,hb,q⟩:=h;cases rx;cases ry;obtain⟨its,r1,p1,_⟩:=I.tuple ha;obtain⟨its2,r2,p2,_⟩:=I.tuple hb;cases r1;obtain⟨⟨cls,dd,data,sl⟩,ho,hc,n,hd⟩:=id p1;obtain⟨⟨cls2,dd2,data2,sl2⟩,ho2,hc2,n2,hd2⟩:=id p2;simp only at hc hd hc2 hd2;subst hc hd hc2 hd2
 exact Zq ⟨_,ho,rfl⟩ ⟨_,ho2,rfl⟩ noFill_tuple_add seq_tuple_add PySem.F.slot_tuple_add PySem.F.entry_tuple_add (PySem.F.args_tuple_add_2 _ _)
  (tuple_addW0 a b _ its2.toArray n n2 dd dd2 sl sl2 (by simp)) ⟨ho,ho2,⟨.ref b,H,I,rfl,q⟩⟩
def yF(K:Rw):R2:=λx y H Q=>(((rI0 (λi j=>.int (i+j)) x y H Q\/(∃i j,x=.str i/\y=.str j/\i.length+j.length<=sizeLine/\Q (.str (i++j)) H))\/Kq K x y H Q)\/O4 K x y H Q)\/De K x y H Q
def vQ:OpR X (We .Add) (yF X.K):=OpR.or (OpR.or (OpR.or (OpR.or Ka sW) Hx) Hk) yS
def du(h:size n=Y_):n<=sizeLine:=by rw[Ut];simpa[size]using h
def oV(x y:List Nat):strV x++strV y=strV (x++y):=by
 show(⟨(strV x).cps++(strV y).cps⟩:Str)=_;simp[strV]
def rF(x:List Nat):(strV x).length=x.length:=by simp[strV,Str.length]
def Jd(hk:W.K=X.K):Sem2 W (yF X.K) (o2 .add):=by
 intro lk P H x y dx dy Q w d hS hK hx hy e k
 cases dx<;>cases dy<;>first | exact nope e | exact fD e | simp only[o2]at e
 .simp only[arith]at e
  cases e;exact .inl (.inl (.inl (.inl ⟨_,_,aO hx,aO hy,k _ H (Same.refl H) dF⟩)))
 .obtain⟨h1,e⟩:=gA e
  cases e;obtain⟨rfl,l1⟩:=bj hx;obtain⟨rfl,l2⟩:=bj hy;refine .inl (.inl (.inl (.inr ⟨_,_,rfl,rfl,by rw[rF,rF];exact du h1,?_⟩)));rw[oV];exact k _ H (Same.refl H) (xX (by rw[RJ];simpa[size]using h1))
 .obtain⟨h1,e⟩:=gA e
  cases e;simp only[RepT,Rep]at hx hy;obtain⟨a,xs,rfl,q1,q2⟩:=hx;obtain⟨b,ys,rfl,p1,p2⟩:=hy
  have hz:xs.length+ys.length<=sizeLine:=by rw[<-q2.length,<-p2.length];exact du h1
  by_cases hx:xs=[]
  .subst hx
   have hl:_=[]:=UG q2.length;refine .inr ⟨a,b,ys,rfl,rfl,hk▸aK aZ q1,hk▸aK aZ p1,k _ H (Same.refl H) (.shared ?_)⟩;simp only[Rep];rw[hl];exact⟨b,ys,rfl,p1,p2⟩
  .refine .inl (.inr ⟨a,b,xs,ys,rfl,rfl,hk▸aK aZ q1,hk▸aK aZ p1,hx,hz,λhy=>?_,λ_ p hp=>?_⟩)
   .subst hy
    have hl:_=[]:=UG p2.length;refine k _ H (Same.refl H) (.shared ?_);simp only[Rep];rw[hl,Ur];exact⟨a,xs,rfl,q1,q2⟩
   .exact k _ _ (Same.upd hp) (gP hp (q2.append p2) hK)
 .obtain⟨h1,e⟩:=gA e
  cases e;obtain⟨a,xs,rfl,q1,q2⟩:=hx;obtain⟨b,ys,rfl,p1,p2⟩:=hy;refine .inl (.inl (.inr ⟨a,b,xs,ys,rfl,rfl,hk▸q1,hk▸p1,by rw[<-q2.length,<-p2.length];exact du h1,λp hp=>?_⟩));exact k _ _ (Same.upd hp) (dH hp (q2.append p2) hK)
def ym(hx:RepT W H G dx x)(hy:RepT W H G dy y)(e:eqS dx dy=Z_ t):scal x y=Y_/\decide (x=y)=t:=by
 cases dx<;>cases dy<;>first | exact nope e | exact fD e | simp only[eqS]at e
 all_goals simp only[Ry]at e
 all_goals (first | (have hx:=(bj hx).1) | (simp only[RepT,Rep]at hx))
 all_goals (first | (have hy:=(bj hy).1) | (simp only[RepT,Rep]at hy))
 all_goals subst hx
 all_goals subst hy
 all_goals (refine⟨rfl,?_⟩;rw[<-e])
 all_goals first
  | simp
  | skip
 all_goals exact⟨λh=>gY h,λh=>by rw[h]⟩
def Ov:Sem2 W rEq (o2 .eq):=by
 intro lk P H x y dx dy Q w d hS hK hx hy e k;simp only[o2,eqA]at e
 cases e1:eqS dx dy with
 | none=>rw[e1]at e;cases e
 | some t=>
   rw[e1]at e;cases e;obtain⟨h1,h2⟩:=ym hx hy e1;exact⟨h1,by rw[h2];exact k _ H (Same.refl H) cA⟩
def Jx:Sem2 W rNe (o2 .ne):=by
 intro lk P H x y dx dy Q w d hS hK hx hy e k;simp only[o2,eqA]at e
 cases e1:eqS dx dy with
 | none=>rw[e1]at e;cases e
 | some t=>
   rw[e1]at e;cases e;obtain⟨h1,h2⟩:=ym hx hy e1;exact⟨h1,by rw[h2];exact k _ H (Same.refl H) cA⟩
def Dv:R2:=λx y H Q=>rI0 (λi j=>.bl (decide (i<j))) x y H Q\/(∃i j,x=.str i/\y=.str j/\Q (.bl (decide (i.cps.toList<j.cps.toList))) H)
def zJ:OpR X (Vj .Lt) Dv:=OpR.or Q6 w5
theorem ut:∀x y:List Nat,ltS x y=decide (x<y)
 | [],[]=>by simp[ltS]
 | [],b::y=>by simp[ltS]
 | a::x,[]=>by simp[ltS]
 | a::x,b::y=>by
   simp only[ltS,ut x y,List.cons_lt_cons_iff]
   by_cases h1:a<b
   .simp[h1]
   .by_cases h2:b<a
    .have:a≠b:=by omega
     simp[h1,h2,this]
    .have:a=b:=by omega
     simp[this]
def JX:Sem2 W Dv (o2 .lt):=by
 intro lk P H x y dx dy Q w d hS hK hx hy e k
 cases dx<;>cases dy<;>first | exact nope e | exact fD e | simp only[o2]at e
 .simp only[arith]at e
  cases e;exact .inl ⟨_,_,aO hx,aO hy,k _ H (Same.refl H) cA⟩
 .cases e
  obtain⟨rfl,l1⟩:=bj hx;obtain⟨rfl,l2⟩:=bj hy;refine .inr ⟨_,_,rfl,rfl,?_⟩;rename_i sx sy
  have:decide ((strV sx).cps.toList<(strV sy).cps.toList)=ltS sx sy:=by rw[ut];rfl
  rw[this];exact k _ H (Same.refl H) cA
end
end Z
namespace L2
open PySem PySem.Spec PyProof.Rows
theorem jd{α β:Type}{f:α->β->Sem (ForInStep β)}(step:α->β->β):∀(l:List α)(c:β),(∀x∈l,∀c,f x c=pure (.yield (step x c)))->Zz l c f=pure (l.foldl (λc x=>step x c) c)
 | [],c,_=>rfl
 | x::l,c,h=>by
   rw[Yw,h x Ru,pure_bind]
   exact jd step l (step x c) λy hy=>h y (Rt _ hy)
noncomputable def cu(env:Env)(x:Str×UL)(c:List (Str×Addr)):List (Str×Addr):=if x.2=.free then(x.1,(env.cells.lookup x.1).getD 0)::c else c
def cP(env:Env)(names:List (Str×UL)):List (Str×Addr):=names.foldl (λc x=>cu env x c) []
def ww{scope:Scope}{env:Env}(h:∀y∈scope.names,y.2=.free->∃c,env.cells.lookup y.1=Z_ c):closureFor scope env=pure (cP env scope.names):=by
 simp only[closureFor];rw[jd (cu env) scope.names [] (λx hx c=>?_)]
 .rfl
 .obtain⟨n,kind⟩:=x
  by_cases hk:kind=.free
  .subst hk
   obtain⟨a,e⟩:=h _ hx rfl;simp only at e;simp[cu,cellOf,e]
  .have hb:(kind==Vk)=Zd:=by simpa using hk
   simp[cu,hb,hk]
theorem qe:∀(names:List (Str×UL))(acc:List (Str×Addr)),p∈names.foldl (λc x=>cu env x c) acc->p∈acc\/((p.1,Vk)∈names/\p.2=(env.cells.lookup p.1).getD 0)
 | [],acc,h=>.inl h
 | (n,k)::r,acc,h=>by
   rcases qe r _ h with h | ⟨h1,h2⟩
   .simp only[cu]at h
    split at h
    .rename_i hk
     rcases Rp.mp h with e | h
     .subst e
      exact .inr ⟨by subst hk;exact Ru,rfl⟩
     .exact .inl h
    .exact .inl h
   .exact .inr ⟨Rt _ h1,h2⟩
theorem qg:∀(names:List (Str×UL))(acc:List (Str×Addr)),p∈acc->p∈names.foldl (λc x=>cu env x c) acc
 | [],_,h=>h
 | (n,k)::r,acc,h=>by
   refine qg r _ ?_;simp only[cu];split
   .exact Rt _ h
   .exact h
theorem rB:∀(names:List (Str×UL))(acc:List (Str×Addr)),(x,Vk)∈names->(x,(env.cells.lookup x).getD 0)∈names.foldl (λc x=>cu env x c) acc
 | [],_,h=>by simp at h
 | (n,k)::r,acc,h=>by
   rcases Rp.mp h with e | h
   .cases e
    refine qg r _ ?_;simp[cu]
   .exact rB r _ h
theorem jz:∀{l:List (Str×α)},(x,c)∈l->∃c',l.lookup x=Z_ c'
 | [],h=>by simp at h
 | (y,d)::l,h=>by
   simp only[Vo]
   cases e:(x==y)with
   | true=>exact⟨d,rfl⟩
   | false=>
     rcases Rp.mp h with z | z
     .cases z;simp at e
     .exact jz z
def dm(h:∀y∈names,y.2=.free->∃c,env.cells.lookup y.1=Z_ c)(e:(cP env names).lookup x=Z_ c):env.cells.lookup x=Z_ c:=by
 have hm:=Vc e;rcases qe names [] hm with z | ⟨h1,h2⟩
 .simp at z
 .obtain⟨a,e'⟩:=h _ h1 rfl
  simp only at e' h2;rw[e']at h2 ⊢;rw[h2];rfl
def qt(h:(x,Vk)∈names):∃c,(cP env names).lookup x=Z_ c:=jz (rB names [] h)
def dZ:(Zo scope env).names.lookup x=(scope.names.lookup x).map λk=>if(k==.free&&env.scope.kind==.function&&env.kindOf x==Z_ .cell)then .cell else k:=by
 show List.lookup x (scope.names.map λ(n,k)=>if(k==Vk&&env.scope.kind==.function&&env.kindOf n==Z_ .cell)then(n,YC)else(n,k))=_
 induction scope.names with
 | nil=>rfl
 | cons p r ih=>
   obtain⟨n,k⟩:=p;rw[Ro]
   by_cases hx:x=n
   .subst hx
    by_cases hc:(k==Vk&&env.scope.kind==.function&&env.kindOf x==Z_ .cell)=Y_
    .simp only[hc,if_true,Vo,beq_self_eq_true,Te]
    .simp only[hc,if_false,Vo,beq_self_eq_true,Te,Rv]
   .have hb:(x==n)=Zd:=by simpa using hx
    have e:List.lookup x ((if(k==Vk&&env.scope.kind==.function&&env.kindOf n==Z_ .cell)=Y_ then(n,YC)else(n,k))::(r.map λ(n,k)=>if(k==Vk&&env.scope.kind==.function&&env.kindOf n==Z_ .cell)then(n,YC)else(n,k))) =
     List.lookup x (r.map λ(n,k)=>if(k==Vk&&env.scope.kind==.function&&env.kindOf n==Z_ .cell)then(n,YC)else(n,k)):=by
     split<;>simp only[Vo,hb]
    simp only[Vo,hb];exact e.trans ih
noncomputable def cxC(X:Cx)(scope:Scope)(N:List Str)(fp:List Addr)(pins:List (Addr×Obj))(s:Rr)(H:Hp):Cx :=
 { X with N:=N,s₀:=s,H₀:=H,env:=compEnvC scope (cP X.env scope.names) s.heap.objs.size X.env,outer:=X.stack,ex:=fp,fn:=λ_=>false,pn:=X.pn++pins }
structure Blk(scope:Scope):Prop where
 kind:scope.kind=.function
 nocell:∀y∈scope.names,y.2≠.cell
 loc:∀y∈scope.names,y.2=.local->scope.names.lookup y.1=Z_ .local
 fre:∀y∈scope.names,y.2=.free->scope.names.lookup y.1=Z_ .free
section
variable{X:Cx}{pins:List (Addr×Obj)}{σ:St}{H:Hp}{s:Rr}{scope:Scope}{N:List Str}{fp:List Addr}
def Aq(I:Inv X pins σ H s)(B:Blk scope)(hfr:∀y∈scope.names,y.2=.free->∃c,X.env.cells.lookup y.1=Z_ c)(hf:∀b∈fp,FpOk X pins H b)(hob:∀b∈fp,∃o,s.heap.get? b=Z_ o)
 (hns:∃m,h₁.Ns s.heap.objs.size m)(hkeep:∀b o,s.heap.get? b=Z_ o->h₁.get? b=Z_ o)(hl:σ'.length=N.length)
 (hσ:∀(i:Nat)(x:Str)(v:V),N[i]?=Z_ x->σ'[i]?=Z_ (Z_ v)->scope.names.lookup x=Z_ .free/\(X.env.scope.names.lookup x=Z_ .cell\/X.env.scope.names.lookup x=Z_ .free)/\∃j:Nat,X.N[j]?=Z_ x/\σ[j]?=Z_ (Z_ v)) :
 Inv (cxC X scope N fp pins s H) [] σ' H { s with heap:=h₁,toks:=tk }:=by
 have lt:∀{b:Addr}{o:Obj},s.heap.get? b=Z_ o->b≠s.heap.objs.size:=λe=>RX (RB e)
 have kd:∀x,((Zo scope X.env).names.lookup x=Z_ .cell\/(Zo scope X.env).names.lookup x=Z_ .free)->(x,Vk)∈scope.names:=λx hx=>by
  rw[dZ]at hx
  cases e:scope.names.lookup x with
  | none=>rw[e]at hx;simp at hx
  | some k=>
    have hm:=Vc e;rw[e]at hx;simp only[Te,Ry]at hx
    cases k with
    | free=>exact hm
    | cell=>exact absurd rfl (B.nocell _ hm)
    | _=>simp at hx
 refine⟨⟨I.ok.mod,?_,I.ok.glob,I.ok.blt,Rx _,λx y c h1 h2=>I.ok.inj x y c (dm hfr h1) (dm hfr h2),λx hx=>qt (kd x hx),λx c h=>(nomatch h),I.ok.hd,I.ok.frames,.inl rfl,λb hb=>⟨?_,λx c e=>?_⟩,I.bs,RW I.ok.bsz I.sz,λb o e hb=>?_,λb hb z=>?_,I.stack,I.stkFree⟩,
  rfl,I.bare,Un.kept hkeep,?_,λx c e=>?_,I.hok.fresh (Rx _),λx c e=>I.freeC x c (dm hfr e),λp hp=>?_,I.hok.kept hkeep,hl⟩
 .exact B.kind
 .obtain⟨o,e⟩:=hob b hb
  exact lt e
 .exact(hf b hb).2.2.2.2.1 x c (dm hfr e)
 .rcases(hf b hb).2.2.2.1 with z | z
  .exact I.ok.noex b o e z
  .exact absurd (Td (RB (I.ok.bs b o e).1) z) (VV _)
 .obtain⟨_,f1,f2,_⟩:=hf b hb
  rcases Rp.mp (I.stkSub b z)with e | e
  .exact f1 e
  .exact f2 e
 .obtain⟨m,hm⟩:=hns
  refine⟨m,hm,λi x v h1 h2 h3=>?_⟩;obtain⟨k1,k2,j,j1,j2⟩:=hσ i x v h1 h2;obtain⟨m0,_,hl0⟩:=I.loc;obtain⟨u,r,q⟩:=hl0 j x v j1 j2 (k2.elim (λz=>.inr (.inl z)) λz=>.inr (.inr z));refine⟨u,r,.inr ⟨?_,?_⟩⟩
  .show(Zo scope X.env).names.lookup x=Z_ .cell\/(Zo scope X.env).names.lookup x=Z_ .free
   rw[dZ,k1];simp only[Te,Ry];split
   .exact .inl rfl
   .exact .inr rfl
  .rcases q with⟨q,_⟩ | ⟨_,c,e,z⟩
   .have q:X.env.scope.names.lookup x=Z_ .local:=q
    rcases k2 with k2 | k2<;>(rw[q]at k2;cases k2)
   .obtain⟨c',e'⟩:=qt (env:=X.env) (Vc k1)
    have:=dm hfr e';rw[e]at this;cases this;obtain⟨o,ho,hd⟩:=z;exact⟨c,e',o,hkeep c o ho,hd⟩
 .obtain⟨v,o,ho,hd⟩:=I.cell x c (dm hfr e)
  exact⟨v,o,hkeep c o ho,hd⟩
 .have hp:p∈X.pn++pins:=by
   have hp:p∈(X.pn++pins)++[]:=hp
   rwa [Ur]at hp
  obtain⟨e,n,ne,nf,d⟩:=I.pin p hp;exact⟨hkeep _ _ e,n,lt e,λz=>(Rp.mp (I.stkSub _ z)).elim ne nf,d⟩
def Aa(I:Inv X pins σ H s)(hf:∀b∈fp,FpOk X pins H b)(J:Inv (cxC X scope N fp pins s H) pins' σ' H' s')(sb:Ub s.heap.objs.size s'.heap h2):Inv X pins σ H' { s' with heap:=h2 }:=by
 have lt:∀{b:Addr}{o:Obj},s.heap.get? b=Z_ o->b≠s.heap.objs.size:=λe=>RX (RB e)
 have U:Un (frs X.stack) fp H H' s.heap s'.heap:=J.base
 have U2:Un (frs X.stack) fp H H' s.heap h2:=by
  refine⟨λb o e n hb hx=>(sb.2 b (lt e)).trans (U.keep b o e n hb hx),λb o e n hb hx=>?_,U.free,λb o e hx=>?_,U.tups,U.frzs,U.tbls⟩
  .obtain⟨sl,q⟩:=U.slot b o e n hb hx
   exact⟨sl,(sb.2 b (lt e)).trans q⟩
  .obtain⟨o',q⟩:=U.there b o e hx
   exact⟨o',(sb.2 b (lt e)).trans q⟩
 have hC:H' s.heap.objs.size=Yt:=J.free
 have hok:HOk X.prog X.w H' h2:=λb ob e=>(J.hok b ob e).stay (λc u hc q=>(sb.2 c (λz=>by
  subst z;rcases hc with z | z
  .rw[<-z,hC]at e;cases e
  .rw[hC]at z;cases z)).trans q) (λ_ q=>q) λ_ _ q=>q
 have os:s'.os=s.os:=J.os
 have e:({ s' with heap:=h2 }:Rr)={ s with heap:=h2,gens:=s'.gens,drawn:=s'.drawn,toks:=s'.toks }:=by
  cases s';cases s;simp only at os;subst os
  rfl
 rw[e]
 exact I.call U2 hok J.bare λb hb=>⟨(hf b hb).2.2.2.1,(hf b hb).2.1,(hf b hb).2.2.2.2.1,(hf b hb).2.2.2.2.2⟩
noncomputable abbrev tests(ifs:List Expr)(env:Env):Sem Bool:=Zz ifs Y_ λc r=>if r=Y_ then do let ok <-isTrue c env (Vl c env);pure (WD ok)else pure (WD r)
abbrev fL:Rm->Rr->Prop:=λ_ _=>False
def never(h:RG M A t Q fL s)(hQ:∀a s,Q a s->Q' a s):RG M A t Q' E s:=V6 h hQ λ_ _ z=>z.elim
def yE{prog:Sx}{w:Th}{A:Tu}{elt tg iter:Expr}{ifs:List Expr}{pos:Pos}{it acc:Rm}{env:Env}{R:a0e->Rr->Prop}(Iv:Nat->Rr->Prop)
 (turn:∀n s,Iv n s->RG (RQ prog w) A (Xw it) (λr s1=>match r with
  | none=>R (.ok .next) s1
  | some v=>RG (RQ prog w) A (YS tg it v) (λ_ s2=>RG (RQ prog w) A (Yj tg env v) (λ_ s3=>RG (RQ prog w) A (tests ifs env) (λok s4=>
   if ok=Y_ then RG (RQ prog w) A (Vl elt env) (λx s5=>RG (RQ prog w) A (call (.builtin "list.append") [acc,x]) (λ_ s6=>∃m,m<n/\Iv m s6) fL s5) fL s4
   else ∃m,m<n/\Iv m s4) fL s3) fL s2) fL s1) fL s)
 (n:Nat) (h:Iv n s):Yc (RQ prog w) A (.compLoop (.ListComp elt [⟨tg,iter,ifs,0⟩] scope pos) 0 it acc env) R s:=by
 refine codeAny_loop rfl Iv (λn s hI=>?_) n h;show RG _ A ((compTurn (.ListComp elt [⟨tg,iter,ifs,0⟩] scope pos) 0 it acc env).onRaise (λe=>do noteFrame e env;theTreesLotGoes e)) _ _ s;refine wpAny_noted ?_;rw[compTurn_list];refine Rj (wpAny_standAt (Rj (never (turn n s hI) λr s1 h1=>?_)))
 cases r with
 | none=>exact Rn h1
 | some v=>
   refine Rj (never h1 λ_ s2 h2=>Rj (never h2 λ_ s3 h3=>Rj (never h3 λok s4 h4=>?_)))
   cases ok with
   | false=>exact Rn ⟨rfl,h4⟩
   | true=>exact Rj (Rj (never h4 λx s5 h5=>Rj (never h5 λ_ s6 h6=>Rn (Rn ⟨rfl,h6⟩))))
noncomputable def cZ(σ:St)(m:Nat)(caps:List Nat):St:=Uc m none++caps.map λi=>(σ[i]?).join
def zU(wi:TI)(m:Nat)(caps:List Nat)(g:TG)(tc:Hp->TT)(te:Hp->TE):TE:=fun σ H Q=>wi σ H λJ H1=>∀D,H1 D=Yt->∃W:Nat->Nat->List V->St->Hp->Prop,(∃k,W 0 k [] (cZ σ m caps) (upd H1 D (.lst []))) /\
 ∀i k ys σ' H',W i k ys σ' H'->(J.stop i H'/\Q (.ref D) H')\/(J.go i H'/\∀x H2,J.yld i H' x H2->g x σ' H2 fun σ3 H3=>tc (upd H1 D (.lst [])) σ3 H3 λb H4=>
  if b=Y_ then te (upd H1 D (.lst [])) σ3 H4 λy H5=>H5 D=Z_ (.lst ys)/\ys.length<sizeLine/\∃k',k'<k/\W (i+1) k' (ys++[y]) σ3 (upd H5 D (.lst (ys++[y])))else ∃k',k'<k/\W (i+1) k' ys σ3 H4)
def PIf(X:Cx)(ifs:List Expr)(t:TT):Prop:=∀(pins:List (Addr×Obj)) (s:Rr) (σ:St) (H:Hp) (Q:Bool->Hp->Prop),Inv X pins σ H s->t σ H Q->RG (RQ X.prog X.w) X.A (tests ifs X.env) (TP X pins σ Q) X.xe s
def FN:PIf X [] (λ_ H Q=>Q Y_ H):=λpins s σ H Q I h=>Rn ⟨H,I,h⟩
def Hi(h:PT X c t):PIf X [c] t:=λpins s σ H Q I q=>by
 unfold tests;simp only[Yw,List.forIn_nil,if_true];exact Rj (Rj (thn (h pins s σ H Q I q) λb s' hb=>Rn (Rn hb)))
def Bj{σ:St}{i:Nat}{v:V}(h:(σ[i]?).join=Z_ v):σ[i]?=Z_ (Z_ v):=by
 cases e:σ[i]? with
 | none=>rw[e]at h;cases h
 | some o=>rw[e]at h;simp at h;rw[h]
theorem J5(h:(cZ σ m caps)[i]?=Z_ (Z_ v)):∃j k:Nat,i=m+j/\caps[j]?=Z_ k/\σ[k]?=Z_ (Z_ v):=by
 unfold cZ at h
 by_cases hi:i<m
 .rw[Vi (by simpa using hi),X7]at h
  split at h<;>cases h
 .rw[Uq (by simpa using hi),VD,T8]at h
  cases e:caps[i-m]? with
  | none=>rw[e]at h;cases h
  | some k=>
    rw[e]at h;exact⟨i-m,k,by omega,e,Bj (U5 h)⟩
structure Caps(X:Cx)(scope:Scope)(N:List Str)(m:Nat)(caps:List Nat):Prop where
 len:N.length=m+caps.length
 see:∀(j k:Nat)(x:Str),caps[j]?=Z_ k->N[m+j]?=Z_ x->X.N[k]?=Z_ x/\scope.names.lookup x=Z_ .free/\(X.env.scope.names.lookup x=Z_ .cell\/X.env.scope.names.lookup x=Z_ .free)
 fre:∀y∈scope.names,y.2=.free->X.env.scope.names.lookup y.1=Z_ .cell\/X.env.scope.names.lookup y.1=Z_ .free
section
variable{elt tg iter:Expr}{ifs:List Expr}{pos:Pos}{wi:TI}{m:Nat}{caps:List Nat}{g:TG}{tc:Hp->TT}{te:Hp->TE}
def n8(hx:X.xe=fL)(hc:X.calm=Y_)(B:Blk scope)(C:Caps X scope N m caps)(hi:PI X tg iter wi)
 (hg:∀fp pins s H,PG (cxC X scope N fp pins s H) tg g)(ht:∀fp pins s H,PIf (cxC X scope N fp pins s H) ifs (tc H))(he:∀fp pins s H,PE (cxC X scope N fp pins s H) elt (te H))
 (hs:∀x,Vg iter X.env x=pure x)(I:Inv X pins σ H s)(h:zU wi m caps g tc te σ H Q)
 (fin:∀(Cx':Addr)(D:Addr)(H':Hp)(s':Rr),(∃mm,s'.heap.Ns Cx' mm)->(∀h2,Ub Cx' s'.heap h2->Inv X pins σ H' { s' with heap:=h2 })->FpOk X pins H' Cx'->Q (.ref D) H' ->
  compPost (RQ X.prog X.w) X.A X.xe use Q' (.ref D) Cx' (.ok .next) s') :
 RG (RQ X.prog X.w) X.A (comprehension (.ListComp elt [⟨tg,iter,ifs,0⟩] scope pos) scope X.env (firstIterPos [⟨tg,iter,ifs,0⟩] pos) (newList []) Zd (Vl iter X.env) use) Q' X.xe s:=by
 have hfr:∀y∈scope.names,y.2=.free->∃c,X.env.cells.lookup y.1=Z_ c:=λy hy hk=>I.ok.has y.1 (C.fre y hy hk)
 refine wpAny_comprehension_free rfl hs (ww hfr) B.kind B.loc (thn (hi pins s σ H _ I h) λv s1 h1=>thn h1 λitv s2 h2=>?_);obtain⟨it,fp,tn,J,H2,rfl,I2,T,st2,f2,R⟩:=h2;refine U9 ?_;have hD:H2 s2.heap.objs.size=Yt:=I2.fresh;have I3:=I2.lnew (its:=[]) (ys:=[]) (t':=s2.toks) .nil (Uj _)
 have keep2:∀b o,s2.heap.get? b=Z_ o->(s2.heap.push { cls:=.type "list",data:=.seq ([]:List Rm).toArray }).get? b=Z_ o:=λb o e=>Rk _ e
 have st3:=T.keep 0 _ _ st2 λb _ o e=>keep2 b o e
 have nD:∀b∈fp,b≠s2.heap.objs.size:=λb hb=>by
  obtain⟨o,e,_⟩:=T.obj 0 _ st2 b hb;exact RX (RB e)
 have f3:∀b∈fp,FpOk X pins (upd H2 s2.heap.objs.size (.lst [])) b:=λb hb=>⟨by rw[aP (nD b hb)];exact(f2 b hb).1,(f2 b hb).2⟩
 obtain⟨W,⟨k0,w0⟩,turn⟩:=R _ hD;generalize hD':s2.heap.objs.size=D at *;have e3:({ s2 with heap:=s2.heap.push { cls:=.type "list",data:=.seq ([]:List Rm).toArray } }:Rr)={ s2 with heap:=s2.heap.push { cls:=.type "list",data:=.seq ([]:List Rm).toArray },toks:=s2.toks }:=rfl;generalize hs3:({ s2 with heap:=s2.heap.push { cls:=.type "list",data:=.seq ([]:List Rm).toArray },toks:=s2.toks }:Rr)=s3 at *
 have st3':tn 0 s3.heap:=by rw[<-hs3];exact st3
 show RG _ X.A (newFunctionEnv scope X.env.globals (cP X.env scope.names) [] X.env.qual none .none (Z_ X.env)) _ _ _;rw[e3];refine wpAny_newFunctionEnv B.nocell (by intro y hy;simp at hy) (λh₁ hns hsb=>?_) B.kind
 have hkeep:∀b o,s3.heap.get? b=Z_ o->h₁.get? b=Z_ o:=λb o e=>hsb.extBut b o (RX (RB e)) (Rk _ e)
 have hob:∀b∈fp,∃o,s3.heap.get? b=Z_ o:=λb hb=>let⟨o,e,_⟩:=T.obj 0 _ st3' b hb;⟨o,e⟩
 have IC:Inv (cxC X scope N fp pins s3 (upd H2 D (.lst []))) [] (cZ σ m caps) (upd H2 D (.lst [])) { s3 with heap:=h₁,toks:=s3.toks+([]:List (Str×Rm)).length }:=by
  refine Aq I3 B hfr f3 hob ⟨_,hns⟩ hkeep ?_ λi x v h1 h2=>?_
  .unfold cZ
   rw[RJ,VD,Rq,C.len]
  .obtain⟨j,k,rfl,e1,e2⟩:=J5 h2
   obtain⟨q1,q2,q3⟩:=C.see j k x e1 h1;exact⟨q2,q3,k,q1,e2⟩
 have st4:tn 0 h₁:=T.keep 0 _ _ st3' λb _ o e=>hkeep b o e
 have stat:∀{H':Hp},(∀b∈fp,H' b=Yt)->∀b∈fp,FpOk (cxC X scope N fp pins s3 (upd H2 D (.lst []))) [] H' b:=λ{H'} hn b hb=>by
  obtain⟨o,e⟩:=hob b hb;obtain⟨_,f1,f2,_,f4,f5⟩:=f3 b hb;refine⟨hn b hb,RX (RB e),λz=>?_,.inl hb,λx c q=>f4 x c (dm hfr q),λp hp=>f5 p ?_⟩
  .exact(Rp.mp (I3.stkSub b z)).elim f1 f2
  .have hp:p∈(X.pn++pins)++[]:=hp
   rwa [Ur]at hp
 have Dfp:∀b∈fp,b≠D:=nD
 have loop:Yc (RQ X.prog X.w) X.A (.compLoop (.ListComp elt [⟨tg,iter,ifs,0⟩] scope pos) 0 (.ref it) (.ref D) (compEnvC scope (cP X.env scope.names) s3.heap.objs.size X.env)) (compPost (RQ X.prog X.w) X.A X.xe use Q' (.ref D) s3.heap.objs.size) { s3 with heap:=h₁,toks:=s3.toks+([]:List (Str×Rm)).length }:=by
  refine yE (λn s'=>∃i ys σ' H',Inv (cxC X scope N fp pins s3 (upd H2 D (.lst []))) [] σ' H' s'/\tn i s'.heap/\(∀b∈fp,H' b=Yt)/\W i n ys σ' H') ?_ k0 ⟨0,[],_,_,IC,st4,λb hb=>(f3 b hb).1,w0⟩
  rintro n s4 ⟨i,ys,σ4,H4,I4,st4,fr4,w4⟩
  rcases turn i n ys σ4 H4 w4 with⟨stop,qn⟩ | ⟨go,step⟩
  .refine thn (T.done (cxC X scope N fp pins s3 (upd H2 D (.lst []))) rfl rfl rfl hc i [] s4 σ4 H4 fL I4 (stat fr4) st4 stop) λr s5 ⟨hr,I5⟩=>?_
   subst hr;exact fin _ D H4 s5 (let⟨mm,hm,_⟩:=I5.loc;⟨mm,hm⟩) (λh2 sb=>Aa I3 f3 I5 sb) (I3.fpOk (Rx _) I5.free) qn
  .refine thn (T.item (cxC X scope N fp pins s3 (upd H2 D (.lst []))) rfl rfl rfl hc i [] s4 σ4 H4 fL I4 (stat fr4) st4 go) λr s5 ⟨u,hr,h5⟩=>?_
   subst hr
   refine thn h5 λ_ s6 ⟨x,H6,I6,r6,y6,st6,fr6⟩=>?_
   have I6':=I6.pinned (stat fr6) (T.obj _ _ st6)
   have xn:∀{α:Type} {t:Sem α} {Q1:α->Rr->Prop} {s:Rr},RG (RQ X.prog X.w) X.A t Q1 X.xe s->RG (RQ X.prog X.w) X.A t Q1 fL s:=λh=>by rw[hx]at h;exact h
   refine thn (xn (hg fp pins s3 _ _ s6 σ4 H6 x u _ I6' r6 (step x H6 y6))) λ_ s7 ⟨σ7,H7,I7,q7⟩=>?_
   refine thn (xn (ht fp pins s3 _ _ s7 σ7 H7 _ I7 q7)) λok s8 ⟨H8,I8,q8⟩=>?_
   have again:∀{H9:Hp}{s9:Rr}{ys':List V},Inv (cxC X scope N fp pins s3 (upd H2 D (.lst []))) ([]++lV fp s6.heap) σ7 H9 s9->(∃k',k'<n/\W (i+1) k' ys' σ7 H9) ->
    ∃k',k'<n/\∃i ys σ' H',Inv (cxC X scope N fp pins s3 (upd H2 D (.lst []))) [] σ' H' s9/\tn i s9.heap/\(∀b∈fp,H' b=Yt)/\W i k' ys σ' H':=λ{H9 s9 ys'} I9 w9=>by
    obtain⟨k',hk',w9⟩:=w9;refine⟨k',hk',i+1,ys',σ7,H9,I9.unpinned,T.keep _ _ _ st6 λb hb o e=>(I9.pin (b,o) (T3 _ (T3 _ (dJ hb e)))).1,λb hb=>?_,w9⟩;obtain⟨o,e,d⟩:=T.obj _ _ st6 b hb;exact(I9.pin (b,o) (T3 _ (T3 _ (dJ hb e)))).2.1
   cases ok with
   | false=>exact again I8 q8
   | true=>
     refine thn (xn (he fp pins s3 _ _ s8 σ7 H8 _ I8 q8)) λyv s9 ⟨y,H9,I9,r9,hD9,hz9,q9⟩=>?_
     refine thn (xn (nJ (X:=cxC X scope N fp pins s3 (upd H2 D (.lst []))) _ s9 σ7 H9 (.ref D) [y] (.ref D) [yv] (λ_ H'=>H'=upd H9 D (.lst (ys++[y]))) I9 rfl (.cons r9 .nil) ⟨D,ys,y,rfl,rfl,hD9,hz9,rfl⟩)) λ_ s10 ⟨_,H10,I10,_,e10⟩=>?_
     subst e10;exact again I10 q9
 exact codeAny_compStart_list loop (T.self _ 0 _ _ _ st4 loop)
def Ep(hx:X.xe=fL)(hc:X.calm=Y_)(B:Blk scope)(C:Caps X scope N m caps)(hi:PI X tg iter wi)(hg:∀fp pins s H,PG (cxC X scope N fp pins s H) tg g)(ht:∀fp pins s H,PIf (cxC X scope N fp pins s H) ifs (tc H))(he:∀fp pins s H,PE (cxC X scope N fp pins s H) elt (te H))
 (hs:∀x,Vg iter X.env x=pure x):PE X (.ListComp elt [⟨tg,iter,ifs,0⟩] scope pos) (zU wi m caps g tc te):=by
 intro pins s σ H Q I h;rw[eval_ListComp]
 refine n8 (use:=Yt) hx hc B C hi hg ht he hs I h λC' D H' s' hn hb _ q=>?_
 obtain⟨mm,hm⟩:=hn;exact⟨mm,hm,λh2 sb=>⟨.ref D,H',hb h2 sb,rfl,q⟩⟩
def tU(hx:X.xe=fL)(hc:X.calm=Y_)(B:Blk scope)(C:Caps X scope N m caps)(hi:PI X tg iter wi)(hg:∀fp pins s H,PG (cxC X scope N fp pins s H) tg g)(ht:∀fp pins s H,PIf (cxC X scope N fp pins s H) ifs (tc H))(he:∀fp pins s H,PE (cxC X scope N fp pins s H) elt (te H))
 (hs:∀x,Vg iter X.env x=pure x)(hN:X.N.Nodup)(hix:X.N[i]?=Z_ x)(hl:X.env.scope.names.lookup x=Z_ .local)(hsw:XH (.ListComp elt [⟨tg,iter,ifs,0⟩] scope pos) (Z_ (.Name x px)) spos.line X.env=pure Y_) :
 PS X (.Assign [.Name x px] (.ListComp elt [⟨tg,iter,ifs,0⟩] scope pos) spos) (λD σ H=>zU wi m caps g tc te σ H λv H'=>D.nx (σ.set i (Z_ v)) H'):=by
 intro pins s σ H D I h;rw[exec_Assign_Name_used _ _ _ _ hsw];refine Rj (wpAny_standAt (Rj ?_));show RG _ X.A (do let _ <-comprehension (.ListComp elt [⟨tg,iter,ifs,0⟩] scope pos) scope X.env (firstIterPos [⟨tg,iter,ifs,0⟩] pos) (newList []) Zd (Vl iter X.env) (Z_ (Yj (.Name x px) X.env))) _ _ s;refine Rj (thn (n8 (use:=Z_ (Yj (.Name x px) X.env)) (Q:=λv H'=>D.nx (σ.set i (Z_ v)) H') (Q':=λ_ s'=>SP X pins D .next s') hx hc B C hi hg ht he hs I h λC' Da H' s' hn hb hf q=>?_) λ_ s' hq=>Rn (Rn hq));obtain⟨mm,hm⟩:=hn;obtain⟨f0,f1,f2,f3,f4,f5⟩:=hf;have I':Inv X pins σ H' s':=hb s'.heap (Ub.refl _ _);show RG _ X.A (Yj (.Name x px) X.env (.ref Da)) _ _ s';refine wpAny_assign_Name (mQ I' hN hix (.inl hl) (v:=.ref Da) rfl (λs'' I'' ⟨a,sb,ha⟩=>?_) (.inr hl))
 have hca:C'≠a:=by
  rcases ha with e | e
  .rw[e];exact f1
  .exact λz=>f4 x a e z.symm
 refine⟨mm,hm.sameBut sb hca,λh2 sb2=>⟨_,H',?_,q⟩⟩;have:=I''.turned (it:=C') (h':=h2) (t':=s''.toks) (λb o hb e=>(sb2.2 b hb).trans e) f0 f1 f3 f4 f5;exact this
end
end
end L2
namespace Z
open PySem PySem.Spec PyProof.Rows L2
section
variable{X:Cx}{W:Wd}{lk lk':Bool}{σ:L2.St}{H H1 H':Hp}{me:Option Addr}{B:Addr->Prop}{δ:Dst}{Q Q':VK}{a b:Expr}{pos p:Pos}{o:Orc}
def dB(h:After X W lk σ H P (a0C t x) Q):t=Y_/\After X W lk σ H P x Q:=by
 cases t with
 | true=>exact⟨rfl,h⟩
 | false=>exact h.elim
def QZ(ha:PA X es (tL X W fun δ=>evL o δ l)):PE X (.Tuple es x1 pos) (tD X W lk fun δ=>ev o δ lk (.tup l)):=by
 refine PE.imp (JZ ha) fun σ H Q h=>?_
 obtain⟨me,B,δ,S,h⟩:=tD_iff.mp h;simp only[ev]at h
 refine tL.mono (uY (fa:=fun δ=>evL o δ l) (C:=λr H=>After X W lk σ H (Hid B σ δ) r Q) S h (λr H1 s q=>q.mono s) (λc q=>q) (λq=>q)) λvs H1 ⟨r,e1,S1,s1,t1,q1,h1⟩=>?_
 obtain⟨hc,h1⟩:=dB h1;simp only[RT,Sy]at hc;have hr:=q1 hc.1;exact⟨by rw[<-hr.length];exact du hc.2,λp hp=>h1 _ _ (Same.upd hp) (gP hp hr S1.know)⟩
def Qx(ha:PA X es (tL X W fun δ=>evL o δ l)):PE X (.List es pos) (tD X W lk fun δ=>ev o δ lk (.lst l)):=by
 refine PE.imp (N6 ha) fun σ H Q h=>?_
 obtain⟨me,B,δ,S,h⟩:=tD_iff.mp h;simp only[ev]at h
 refine tL.mono (uY (fa:=fun δ=>evL o δ l) (C:=λr H=>After X W lk σ H (Hid B σ δ) r Q) S h (λr H1 s q=>q.mono s) (λc q=>q) (λq=>q)) λvs H1 ⟨r,e1,S1,s1,t1,q1,h1⟩=>?_
 obtain⟨hc,h1⟩:=dB h1;simp only[RT,Sy]at hc;have hr:=q1 hc.1;exact⟨by rw[<-hr.length];exact du hc.2,λp hp=>h1 _ _ (Same.upd hp) (dH hp hr S1.know)⟩
def Qq(ha:PE X a (tD X W Y_ fun δ=>ev o δ Y_ t)):PE X (.UnaryOp .USub a pos) (tD X W lk fun δ=>ev o δ lk (.neg t)):=by
 refine PE.imp (Qm Ls ha) fun σ H Q h=>?_
 obtain⟨me,B,δ,S,h⟩:=tD_iff.mp h;simp only[ev]at h
 refine tD.mono (part (fa:=fun δ=>ev o δ Y_ t) S h) λv H1 ⟨r,e,S1,s1,t1,_,h1⟩=>?_
 cases e2:r.2 with
 | int i=>
   rw[e2]at t1 h1;exact⟨i,aO t1,h1 _ H1 (Same.refl _) dF⟩
 | _=>rw[e2]at h1;exact h1.elim
def Qn(hc:PT X c (tT X W fun δ=>ev o δ Y_ tc))(ha:PE X a (tD X W lk fun δ=>ev o δ lk ta))(hb:PE X b (tD X W lk fun δ=>ev o δ lk tb)) :
 PE X (.IfExp c a b pos) (tD X W lk fun δ=>ev o δ lk (.ite tc ta tb)):=by
 refine PE.imp (Bw hc ha hb) fun σ H Q h=>?_
 obtain⟨me,B,δ,S,h⟩:=tD_iff.mp h;simp only[ev]at h;refine⟨me,B,δ,S,?_⟩
 cases e:ev o δ Y_ tc with
 | ok r=>
   rw[e]at h;dsimp only;rw[e];simp only[a0u]
   cases e2:truth r.2 with
   | none=>simp only[a0u,e2,a0w]at h;exact h.elim
   | some t=>
     simp only[a0u,e2,a0w]at h ⊢;intro H1 s
     cases t with
     | true=>exact tD_iff.mpr ⟨me,B,δ,S.mono s,After.mono h s⟩
     | false=>exact tD_iff.mpr ⟨me,B,δ,S.mono s,After.mono h s⟩
 | exc c=>rw[e]at h;exact h.elim
 | stuck=>rw[e]at h;exact h.elim
def tIfT(t ta tb:TT):TT:=fun σ H Q=>t σ H λc H1=>if c=Y_ then ta σ H1 Q else tb σ H1 Q
def Bt(hc:PT X c tA)(ha:PT X a ta)(hb:PT X b tb):PT X (.IfExp c a b pos) (tIfT tA ta tb):=by
 intro pins s σ H Q I h
 have e:∀whole,isTrue (.IfExp c a b pos) X.env whole=(isTrue c X.env (Vl c X.env) >>= λt=>if t=Y_ then isTrue a X.env (Vl a X.env)else isTrue b X.env (Vl b X.env)):=λ_=>by simp only[PySem.isTrue]
 rw[e];refine Rj (thn (hc pins s σ H _ I h) λd s1 ⟨H1,I1,q1⟩=>?_)
 cases d with
 | true=>exact ha pins s1 σ H1 Q I1 q1
 | false=>exact hb pins s1 σ H1 Q I1 q1
def K8(hc:PT X c (tT X W fun δ=>ev o δ Y_ tc))(ha:PT X a (tT X W fun δ=>ev o δ Y_ ta))(hb:PT X b (tT X W fun δ=>ev o δ Y_ tb)) :
 PT X (.IfExp c a b pos) (tT X W fun δ=>ev o δ Y_ (.ite tc ta tb)):=by
 refine PT.imp (Bt hc ha hb) fun σ H Q h=>?_
 obtain⟨me,B,δ,S,h⟩:=h;simp only[ev]at h;refine⟨me,B,δ,S,?_⟩
 cases e:ev o δ Y_ tc with
 | ok r=>
   rw[e]at h;dsimp only;rw[e];simp only[a0u]
   cases e2:truth r.2 with
   | none=>simp only[a0u,e2,a0w]at h
   | some t=>
     simp only[a0u,e2,a0w]at h ⊢;intro H1 s
     cases t with
     | true=>
       refine⟨me,B,δ,S.mono s,?_⟩;simp only[if_true]at h;dsimp only
       cases e3:ev o δ Y_ ta with
       | ok r2=>
         simp only[e3,a0u]at h ⊢
         cases e4:truth r2.2 with
         | none=>simp only[e4,a0w]at h
         | some b=>
           simp only[e4,a0w]at h ⊢
           exact λH' s'=>h H' (s.trans s')
       | exc c=>simp only[e3,a0u]at h;exact h.elim
       | stuck=>simp only[e3,a0u]at h
     | false=>
       refine⟨me,B,δ,S.mono s,?_⟩;simp only[Rv,if_false]at h;dsimp only
       cases e3:ev o δ Y_ tb with
       | ok r2=>
         simp only[e3,a0u]at h ⊢
         cases e4:truth r2.2 with
         | none=>simp only[e4,a0w]at h
         | some b=>
           simp only[e4,a0w]at h ⊢
           exact λH' s'=>h H' (s.trans s')
       | exc c=>simp only[e3,a0u]at h;exact h.elim
       | stuck=>simp only[e3,a0u]at h
 | exc c=>rw[e]at h;exact h.elim
 | stuck=>rw[e]at h;exact h.elim
def SR.plain(hk:W.K=X.K)(hl:σ.length=δ.length)(hsh:∀(i:Nat)(w:Own)(d:D),δ[i]?=Z_ (Z_ (w,d))->w=.sh/\∃v,σ[i]?=Z_ (Z_ v)/\Rep W (vis H B) d v)
 (same:∀b o,X.H₀ b=Z_ o->some b≠me->H b=Z_ o)(soft:Soft H B)(gone:∀b,B b->∃o,H b=Z_ o)(live:∀x,me=Z_ x->∃o,H x=Z_ o):SR X W me B H σ δ:=by
 have hid:∀b,Hid B σ δ b->B b:=λb hb=>by
  rcases hb with hb | ⟨i,⟨w,d,h1,h2⟩,_⟩
  .exact hb
  .exact absurd (hsh i w d h1).1 h2
 refine⟨hk,hl,λi d h=>?_,λi d h=>?_,λi d h=>?_,λi j a h1 _=>?_,same,soft,gone,live⟩
 .obtain⟨_,v,e1,e2⟩:=hsh i _ d h
  exact⟨v,e1,e2.mono (aN hid)⟩
 .exact absurd (hsh i _ d h).1 (by decide)
 .exact absurd (hsh i _ d h).1 (by decide)
 .obtain⟨⟨w,d,h1,h2⟩,_⟩:=h1
  exact absurd (hsh i w d h1).1 h2
def vm(hsh:∀(i:Nat)(w:Own)(d:D),δ[i]?=Z_ (Z_ (w,d))->w=.sh){b:Addr}:Hid B σ δ b↔B b:=by
 refine⟨λhb=>?_,.inl⟩;rcases hb with hb | ⟨i,⟨w,d,h1,h2⟩,_⟩
 .exact hb
 .exact absurd (hsh i w d h1) h2
def iQ(hsh:∀(i:Nat)(w:Own)(d:D),δ[i]?=Z_ (Z_ (w,d))->w=.sh):vis H (Hid B σ δ)=vis H B:=by
 have:Hid B σ δ=B:=funext λb=>propext (vm hsh)
 rw[this]
theorem mV(S:SR X W me B H σ δ):∀{caps:List Nat}{cs:List D},cQ δ caps=Z_ cs->∃vs:List V,caps.map (λi=>(σ[i]?).join)=vs.map some/\RepTs W H (vis H (Hid B σ δ)) cs vs/\((caps.all λi=>!isOwn δ i)=Y_->Reps W (vis H (Hid B σ δ)) cs vs)
 | [],cs,h=>by
   simp only[cQ,Ry]at h;subst h;exact⟨[],rfl,by simp only[RepTs],λ_=>by simp only[Reps]⟩
 | i::caps,cs,h=>by
   simp only[cQ]at h
   cases e:Ax δ i with
   | none=>rw[e]at h;cases h
   | some d=>
     rw[e]at h
     cases e2:cQ δ caps with
     | none=>rw[e2]at h;cases h
     | some cs'=>
       rw[e2]at h;cases h;obtain⟨vs,h1,h2,h3⟩:=mV S e2
       have key:∃v,σ[i]?=Z_ (Z_ v)/\RepT W H (vis H (Hid B σ δ)) d v/\(isOwn δ i=Zd->Rep W (vis H (Hid B σ δ)) d v):=by
        unfold Ax at e;split at e
        .rename_i w d' ed
         cases e
         cases w with
         | sh=>obtain⟨v,q1,q2⟩:=S.sh i _ ed;exact⟨v,q1,q2.top aZ,λ_=>q2⟩
         | ow=>obtain⟨a,q1,q2,_⟩:=S.ow i _ ed;exact⟨_,q1,q2.top,λz=>by simp[isOwn,ed]at z⟩
         | me=>obtain⟨_,a,_,q1,q2,_⟩:=S.mi i _ ed;exact⟨_,q1,q2.top,λz=>by simp[isOwn,ed]at z⟩
        .cases e
       obtain⟨v,k1,k2,k3⟩:=key;refine⟨v::vs,by simp[k1,h1],?_,λhall=>?_⟩
       .simp only[RepTs];exact⟨k2,h2⟩
       .simp only[YX,RT,Sy]at hall
        simp only[Reps];exact⟨k3 hall.1,h3 hall.2⟩
structure Yields(J:It)(H2:Hp)(xs:List V):Prop where
 go:∀i H',Same H2 H'->i<xs.length->J.go i H'
 yld:∀i H' x H'',Same H2 H'->i<xs.length->J.yld i H' x H''->H''=H'/\xs[i]?=Z_ x
 stop:∀H',Same H2 H'->J.stop xs.length H'
def p6{K:Rw}{H2:Hp}{c:Addr}{xs:List V}(h:SqL K H2 c xs):Yields (Itl K c) H2 xs where
 go:=λi H' s hi=>⟨xs,xs[i],s.seq h,by simp[hi]⟩
 yld:=λi H' x H'' s _ ⟨e,y⟩=>⟨e,y xs (s.seq h)⟩
 stop:=λH' s=>⟨xs,s.seq h,Rx _⟩
def t8{K:Rw}{H2:Hp}{c:Addr}{xs:List V}(h:SqT K H2 c xs):Yields (Itt K c) H2 xs where
 go:=λi H' s hi=>⟨xs,xs[i],aK s h,by simp[hi]⟩
 yld:=λi H' x H'' s _ ⟨e,y⟩=>⟨e,y xs (aK s h)⟩
 stop:=λH' s=>⟨xs,aK s h,Rx _⟩
def nR(lo:Int)(n:Nat):Yields (Itr lo n) H2 ((TQ n).map λ(k:Nat)=>V.int (lo+(k:Int)))where
 go:=λi H' s hi=>by simpa[Itr]using hi
 yld:=λi H' x H'' s hi ⟨e,y⟩=>by
  refine⟨e,?_⟩
  have hi:i<n:=by simpa using hi
  rw[T8,List.getElem?_range hi,y]
  rfl
 stop:=λH' s=>by simp[Itr]
def Yl(W:Wd)(G0:Hp)(d:D)(x:V)(H' H'':Hp):Prop:=(H''=H'/\Rep W G0 d x)\/∃(p:Addr)(d1 d2:D)(v1 v2:V),d=.tup [d1,d2]/\x=.ref p/\H' p=Yt/\H''=upd H' p (.tup [v1,v2])/\Rep W G0 d1 v1/\Rep W G0 d2 v2
def Yl.rep(h:Yl W G0 d x H' H'')(g:Same G0 (vis H' P))(gone:∀b,P b->∃u,H' b=Z_ u):Same H' H''/\Rep W (vis H'' P) d x:=by
 rcases h with⟨rfl,r⟩ | ⟨p,d1,d2,v1,v2,rfl,rfl,hp,rfl,r1,r2⟩
 .exact⟨Same.refl _,r.mono g⟩
 .refine⟨Same.upd hp,?_⟩
  have up:=g.trans (aC (P:=P) (Same.upd (o:=.tup [v1,v2]) hp));simp only[Rep];refine⟨p,[v1,v2],rfl,.inl (.inl (bT bf λz=>?_)),?_⟩
  .obtain⟨u,e⟩:=gone p z
   rw[hp]at e;cases e
  .simp only[Reps]
   exact⟨r1.mono up,r2.mono up,trivial⟩
structure Ylds(W:Wd)(J:It)(G G0:Hp)(l:List D):Prop where
 go:∀i H',Same G H'->i<l.length->J.go i H'
 yld:∀i H' x H'' d,Same G H'->l[i]?=Z_ d->J.yld i H' x H''->Yl W G0 d x H' H''
 stop:∀H',Same G H'->J.stop l.length H'
def Ylds.of(y:Yields J G xs)(r:Reps W G0 l xs):Ylds W J G G0 l where
 go:=λi H' s hi=>y.go i H' s (by rw[<-r.length];exact hi)
 yld:=λi H' x H'' d s e z=>by
  have hi:i<xs.length:=by rw[<-r.length];exact(Sq.mp e).1
  obtain⟨h1,h2⟩:=y.yld i H' x H'' s hi z;obtain⟨v,h3,h4⟩:=r.get e;rw[h2]at h3;cases h3;exact .inl ⟨h1,h4⟩
 stop:=λH' s=>by rw[r.length];exact y.stop H' s
def SR.cx(S:SR X W me B H σ δ)(h1:X'.K=X.K)(h2:X'.H₀=X.H₀):SR X' W me B H σ δ :=
 ⟨by rw[h1];exact S.kf,S.len,S.sh,λi d h=>let⟨a,q1,q2,q3,q4⟩:=S.ow i d h;⟨a,q1,q2,by rw[h2];exact q3,q4⟩,S.mi,S.apart,λb o h=>S.same b o (by rw[<-h2];exact h),S.soft,S.gone,S.live⟩
def tD.cx(h1:X'.K=X.K)(h2:X'.H₀=X.H₀)(h:tD X W lk f σ H Q):tD X' W lk f σ H Q:=by
 obtain⟨me,B,δ,S,h⟩:=h;exact⟨me,B,δ,S.cx h1 h2,h⟩
def tT.cx(h1:X'.K=X.K)(h2:X'.H₀=X.H₀)(h:tT X W f σ H C):tT X' W f σ H C:=by
 obtain⟨me,B,δ,S,h⟩:=h;exact⟨me,B,δ,S.cx h1 h2,h⟩
def TgR(X:Cx)(W:Wd)(is:List Nat)(tup:Bool)(g:TG):Prop :=
 ∀{me:Option Addr} {B:Addr->Prop} {σ:L2.St} {H:Hp} {δ δ1:Dst} {d:D} {ds:List D} {v:V} {C:L2.St->Hp->Prop},SR X W me B H σ δ->Rep W (vis H (Hid B σ δ)) d v->takes is.length tup d=Z_ ds->aH δ is ds=Z_ δ1 ->
  (∀σ1,SR X W me B H σ1 δ1->Same (vis H (Hid B σ δ)) (vis H (Hid B σ1 δ1))->C σ1 H)->g v σ H C
def zu:TgR X W [i] Zd (t6 i):=by
 intro me B σ H δ δ1 d ds v C S r e1 e2 k;simp only[takes,Rv,if_false,Ry]at e1;subst e1;simp only[aH]at e2
 cases e3:setSlot δ i Zd d with
 | none=>rw[e3]at e2;cases e2
 | some δ'=>
   rw[e3]at e2;cases e2;obtain⟨S1,s1⟩:=uQ S r e3;exact k _ S1 s1
def Fi(hk:W.K=X.K):TgR X W is Y_ (gTup X.K is.length (eE is)):=by
 intro me B σ H δ δ1 d ds v C S r e1 e2 k;simp only[takes,if_true]at e1
 cases d with
 | tup l=>
   simp only at e1;split at e1
   .rename_i hl
    cases e1;simp only[Rep]at r;obtain⟨a,xs,rfl,r1,r2⟩:=r;exact⟨a,xs,rfl,hk▸aK aZ r1,by rw[<-r2.length];exact hl,eQ S r2 e2 k⟩
   .cases e1
 | _=>simp at e1
noncomputable def bY(l:List D):Dst:=l.map λd=>some (Own.sh,d)
def m7{l:List D}{i:Nat}{w:Own}{d:D}(h:(bY l)[i]?=Z_ (Z_ (w,d))):w=.sh/\l[i]?=Z_ d:=by
 unfold bY at h;rw[T8]at h
 cases e:l[i]? with
 | none=>rw[e]at h;cases h
 | some x=>rw[e]at h;cases h;exact⟨rfl,rfl⟩
theorem j4:∀(ds:List D)(pre post:Dst)(mid:Dst),mid.length=ds.length->aH (pre++mid++post) (List.range' pre.length ds.length) ds=Z_ (pre++bY ds++post)
 | [],pre,post,mid,h=>by
   have:mid=[]:=UG h;subst this;simp[aH,bY]
 | d::ds,pre,post,[],h=>by simp at h
 | d::ds,pre,post,x::mid,h=>by
   simp only[RK,Nat.add_right_cancel_iff]at h;rw[RK,List.range'_succ];simp only[aH]
   have e1:setSlot (pre++x::mid++post) pre.length Zd d=Z_ ((pre++[some (Own.sh,d)])++mid++post):=by
    unfold setSlot;rw[if_pos (by simp)];simp[List.set_append]
   rw[e1];simp only[Sh];have:=j4 ds (pre++[some (Own.sh,d)]) post mid h;rw[RJ,Uk]at this;rw[this];simp[bY]
def m6(ds:List D)(mid post:Dst)(h:mid.length=ds.length):aH (mid++post) (TQ ds.length) ds=Z_ (bY ds++post):=by
 have:=j4 ds [] post mid h;simpa[List.range_eq_range']using this
def xF(hm:tup=Zd->m=1)(h:takes m tup d=Z_ ds):ds.length=m:=by
 unfold takes at h;split at h
 .split at h
  .split at h
   .cases h;assumption
   .cases h
  .cases h
 .rename_i ht
  cases h;rw[hm (by simpa using ht)];rfl
theorem mL{wi:L2.TI}{g:TG}{m:Nat}{caps:List Nat}{tup:Bool}{tc te:T}{it:TI}(hk:W.K=X.K)(hm:tup=Zd->m=1)
 (hwi:∀σ H (K:It->Hp->Prop),(∃me B δ l,SR X W me B H σ δ/\evI o δ Y_ it=.ok l/\∀J H2,Same H H2->Ylds W J H2 (vis H2 (Hid B σ δ)) l->K J H2)->wi σ H K)
 (hg:∀H0,TgR { X with H₀:=H0 } W (TQ m) tup g)(h:tD X W lk (fun δ=>ev o δ lk (.comp caps m tup it tc te)) σ H Q) :
 zU wi m caps g (λH0=>tT { X with H₀:=H0 } W fun δ=>ev o δ Y_ tc) (λH0=>tD { X with H₀:=H0 } W Zd fun δ=>ev o δ Zd te) σ H Q:=by
 obtain⟨me,B,δ,S,h⟩:=tD_iff.mp h;simp only[ev]at h
 cases e1:evI o δ Y_ it with
 | exc c=>rw[e1]at h;exact h.elim
 | stuck=>rw[e1]at h;exact h.elim
 | ok l=>
 rw[e1]at h
 cases e2:cQ δ caps with
 | none=>rw[e2]at h;exact h.elim
 | some cs=>
 rw[e2]at h
 have h:After X W lk σ H (Hid B σ δ) ((aR (λx=>ev o ((x++cs).map λd=>some (.sh,d)) Zd te) (λx=>ev o ((x++cs).map λd=>some (.sh,d)) Y_ tc) m tup l).bind λr=>
  a0C (size r.length&&(immL r||caps.all λi=>!isOwn δ i)) (.ok (Y_,.lst r))) Q:=h
 refine hwi σ H _ ⟨me,B,δ,l,S,e1,λJ H2 s yl=>?_⟩;intro Da hD;obtain⟨vs,c1,c2,c3⟩:=mV S e2;generalize hown:(caps.all λi=>!isOwn δ i)=own at h c3;generalize hP:Hid B σ δ=P at *
 have softP:Soft H2 P:=by subst hP;exact S.softH.mono S.know s
 have goneP:∀b,P b->∃u,H2 b=Z_ u:=λb hb=>by
  subst hP;obtain⟨u,e⟩:=S.know b hb;exact⟨u,s b u e⟩
 let Bq:Addr->Prop:=λb=>(P b/\(own=Y_\/V.ref b∉vs))\/b=Da
 have nD:∀{b:Addr}{u:HO},H2 b=Z_ u->b≠Da:=λe z=>by rw[z,hD]at e;cases e
 have upv:∀{H':Hp},Same H2 H'->Same (vis H2 Bq) (vis H' Bq):=λs'=>aC s'
 have inP:Same (vis H2 P) (vis H2 Bq):=λb u e=>by
  obtain⟨e1,e2⟩:=bL e
  refine bT e1 λz=>?_
  rcases z with⟨z,_⟩ | z
  .exact e2 z
  .exact nD e1 z
 have capR:Reps W (vis H2 Bq) cs vs:=by
  cases own with
  | true=>exact((c3 rfl).mono (aC s)).mono inP
  | false=>
    have q:=c2.lend vs (λv hv=>hv)
    refine(q.mono (aC s)).mono λb u e=>?_
    obtain⟨e1,e2⟩:=bL e
    refine bT e1 λz=>?_
    rcases z with⟨z1,z2⟩ | z
    .rcases z2 with z2 | z2
     .cases z2
     .exact e2 ⟨z1,z2⟩
    .exact nD e1 z
 let δ0:Dst:=Uc m none++bY cs
 have δ0sh:∀(i:Nat)(w:Own)(d:D),δ0[i]?=Z_ (Z_ (w,d))->w=.sh/\m<=i/\cs[i-m]?=Z_ d:=λi w d e=>by
  by_cases hi:i<m
  .have e:(Uc m none++bY cs)[i]?=Z_ (Z_ (w,d)):=e
   rw[Vi (by simpa using hi),X7]at e;split at e<;>cases e
  .have e:(Uc m none++bY cs)[i]?=Z_ (Z_ (w,d)):=e
   rw[Uq (by simpa using hi),VD]at e;obtain⟨e1,e2⟩:=m7 e;exact⟨e1,by omega,e2⟩
 have softQ:∀{H':Hp}{ys:List V},Same H2 H'->H' Da=Z_ (.lst ys)->Soft H' Bq:=λ{H' ys} s' hd b hb u e=>by
  rcases hb with⟨hb,_⟩ | hb
  .obtain⟨u',e'⟩:=goneP b hb
   have:=s' b u' e';rw[e]at this;cases this;exact softP b hb u e'
  .rw[hb,hd]at e;cases e
   exact⟨(by intro _ z;cases z),(by intro _ _ z;cases z)⟩
 have goneQ:∀{H':Hp}{ys:List V},Same H2 H'->H' Da=Z_ (.lst ys)->∀b,Bq b->∃u,H' b=Z_ u:=λ{H' ys} s' hd b hb=>by
  rcases hb with⟨hb,_⟩ | hb
  .obtain⟨u',e'⟩:=goneP b hb
   exact⟨u',s' b u' e'⟩
  .exact⟨_,by rw[hb];exact hd⟩
 let X0:Cx:={ X with H₀:=upd H2 Da (.lst []) }
 have mkS:∀{H':Hp} {σ':L2.St} {ys:List V},σ'.length=m+cs.length->(∀(j:Nat)(d:D),cs[j]?=Z_ d->∃v,σ'[m+j]?=Z_ (Z_ v)/\Rep W (vis H' Bq) d v)->Same H2 H'->H' Da=Z_ (.lst ys)->SR X0 W (Z_ Da) Bq H' σ' δ0:=λ{H' σ' ys} hl hc s' hd=>by
  refine SR.plain hk (by rw[hl];simp[δ0,bY]) (λi w d e=>?_) (λb u e hb=>?_) (softQ s' hd) (goneQ s' hd) (λx hx=>by cases hx;exact⟨_,hd⟩)
  .obtain⟨h1,h2,h3⟩:=δ0sh i w d e
   obtain⟨v,q1,q2⟩:=hc _ d h3;exact⟨h1,v,by rw[<-q1];congr 1;omega,q2⟩
  .have hb':b≠Da:=λz=>hb (by rw[z])
   have e:upd H2 Da (.lst []) b=Z_ u:=e;rw[aP hb']at e;exact s' b u e
 generalize hT:((aR (λx=>ev o ((x++cs).map λd=>some (.sh,d)) Zd te) (λx=>ev o ((x++cs).map λd=>some (.sh,d)) Y_ tc) m tup l).bind λr=>
  a0C (size r.length&&(immL r||own)) (a0S (Y_,a0T r)))=Tt at h
 refine⟨λi k ys σ' H'=>∃rs,i<=l.length/\k=l.length-i/\σ'.length=m+cs.length/\(∀(j:Nat)(d:D),cs[j]?=Z_ d->∃v,σ'[m+j]?=Z_ (Z_ v)/\Rep W (vis H' Bq) d v)/\Same H2 H'/\H' Da=Z_ (.lst ys)/\Reps W (vis H' Bq) rs ys /\
  ((aR (λx=>ev o ((x++cs).map λd=>some (.sh,d)) Zd te) (λx=>ev o ((x++cs).map λd=>some (.sh,d)) Y_ tc) m tup (l.drop i)).bind λr=>a0C (size (rs++r).length&&(immL (rs++r)||own)) (a0S (Y_,a0T (rs++r))))=Tt,⟨l.length,[],Uj _,by simp,?_,?_,Same.upd hD,bf,by simp only[Reps],by simpa using hT⟩,?_⟩
 .unfold cZ
  rw[c1,RJ,VD,Rq,capR.length]
 .intro j d e
  obtain⟨v,q1,q2⟩:=capR.get e;refine⟨v,?_,q2.mono (upv (Same.upd hD))⟩;unfold cZ;rw[c1,Uq (by simp),VD,Nat.add_sub_cancel_left,T8,q1]
  rfl
 .rintro i k ys σ' H' ⟨rs,hi,rfl,hl,hc,s',hd,hr,hTi⟩
  by_cases hlt:i<l.length
  ·
   refine .inr ⟨yl.go i H' s' (by omega),λx H'' y=>?_⟩
   obtain⟨d,ed⟩:∃d,l[i]?=Z_ d:=⟨_,RC hlt⟩
   obtain⟨sy,rd⟩:=(yl.yld i H' x H'' d s' ed y).rep (inP.trans (upv s')) (goneQ s' hd)
   replace hc:∀(j:Nat)(d:D),cs[j]?=Z_ d->∃v,σ'[m+j]?=Z_ (Z_ v)/\Rep W (vis H'' Bq) d v:=λj d e=>
    let⟨v,q1,q2⟩:=hc j d e
    ⟨v,q1,q2.mono (aC sy)⟩
   replace hd:=sy Da _ hd
   replace hr:=hr.mono (aC (P:=Bq) sy)
   replace s':=s'.trans sy
   have hdr:l.drop i=d::l.drop (i+1):=by
    obtain⟨h1,h2⟩:=Sq.mp ed;rw[WL h1,h2]
   rw[hdr,aR]at hTi
   cases e3:takes m tup d with
   | none=>rw[e3]at hTi;subst hTi;exact h.elim
   | some ds=>
   rw[e3]at hTi;have lds:=xF hm e3;have S0:=mkS hl hc s' hd
   have hset:aH δ0 (TQ m) ds=Z_ (bY ds++bY cs):=by
    have:=m6 ds (Uc m none) (bY cs) (by simp[lds]);rw[lds]at this;exact this
   have δ1sh:∀(i:Nat)(w:Own)(d:D),(bY ds++bY cs)[i]?=Z_ (Z_ (w,d))->w=.sh:=λi w d e=>by
    have:bY ds++bY cs=bY (ds++cs):=by simp[bY]
    rw[this]at e;exact(m7 e).1
   have hap:(bY ds++bY cs)=(ds++cs).map λd=>some (Own.sh,d):=by simp[bY]
   have vp0:vis H'' (Hid Bq σ' δ0)=vis H'' Bq:=iQ λi w d e=>(δ0sh i w d e).1
   refine hg (upd H2 Da (.lst [])) S0 (by rw[vp0];exact rd) (by rw[Yd];exact e3) hset fun σ1 S1 s1=>?_
   have capS:∀{H4:Hp},Same H'' H4->∀(j:Nat)(d:D),cs[j]?=Z_ d->∃v,σ1[m+j]?=Z_ (Z_ v)/\Rep W (vis H4 Bq) d v:=λ{H4} s4 j d e=>by
    obtain⟨v,q1,q2⟩:=S1.sh (m+j) d (by
     rw[Uq (by simp[bY,lds])]
     simp[bY,lds,e])
    rw[iQ δ1sh]at q2;exact⟨v,q1,q2.mono (aC s4)⟩
   have len1:σ1.length=m+cs.length:=by rw[S1.len];simp[bY,lds]
   have hTi:((ev o ((ds++cs).map λd=>some (.sh,d)) Y_ tc).bind λt=>(a0w (truth t.2)).bind λb=>if b then(ev o ((ds++cs).map λd=>some (.sh,d)) Zd te).bind λy=>(aR (λx=>ev o ((x++cs).map λd=>some (.sh,d)) Zd te) (λx=>ev o ((x++cs).map λd=>some (.sh,d)) Y_ tc) m tup (l.drop (i+1))).bind λr=>.ok (y.2::r)
    else aR (λx=>ev o ((x++cs).map λd=>some (.sh,d)) Zd te) (λx=>ev o ((x++cs).map λd=>some (.sh,d)) Y_ tc) m tup (l.drop (i+1))).bind (λr=>a0C (size (rs++r).length&&(immL (rs++r)||own)) (a0S (Y_,a0T (rs++r))))=Tt:=hTi
   refine⟨some Da,Bq,_,S1,?_⟩;show(match(ev o (bY ds++bY cs) Y_ tc).bind (λx=>a0w (truth x.2))with | .ok b=>_ | .exc c=>_ | .stuck=>_);rw[hap]
   cases e4:ev o ((ds++cs).map λd=>some (Own.sh,d)) Y_ tc with
   | exc c=>rw[e4]at hTi;subst hTi;exact h.elim
   | stuck=>rw[e4]at hTi;subst hTi;exact h.elim
   | ok t=>
   rw[e4]at hTi;show(match a0w (truth t.2)with | .ok b=>_ | .exc c=>_ | .stuck=>_)
   cases e5:truth t.2 with
   | none=>simp only[a0u,e5,a0w]at hTi;subst hTi;exact h.elim
   | some bb=>
   simp only[a0u,e5,a0w]at hTi;intro H4 s4;have hd4:H4 Da=Z_ (.lst ys):=s4 Da _ hd
   cases bb with
   | false=>
     simp only[Rv,if_false]at hTi ⊢;exact⟨l.length-(i+1),by omega,rs,by omega,rfl,len1,capS s4,s'.trans s4,hd4,hr.mono (aC s4),hTi⟩
   | true=>
     simp only[if_true]at hTi ⊢;refine tD_iff.mpr ⟨some Da,Bq,_,S1.mono s4,?_⟩;rw[hap]
     cases e6:ev o ((ds++cs).map λd=>some (Own.sh,d)) Zd te with
     | exc c=>rw[e6]at hTi;subst hTi;exact h.elim
     | stuck=>rw[e6]at hTi;subst hTi;exact h.elim
     | ok y6=>
     rw[e6]at hTi
     cases e7:aR (λx=>ev o ((x++cs).map λd=>some (.sh,d)) Zd te) (λx=>ev o ((x++cs).map λd=>some (.sh,d)) Y_ tc) m tup (l.drop (i+1))with
     | exc c=>simp only[e7]at hTi;subst hTi;exact h.elim
     | stuck=>simp only[e7]at hTi;subst hTi;exact h.elim
     | ok rr=>
     simp only[e7]at hTi;intro v H5 s5 q;rw[<-hap]at q;have q':=q.keep (S1.mono s4).know;rw[iQ δ1sh]at q';have hd5:H5 Da=Z_ (.lst ys):=s5 Da _ hd4
     have hsz:size (rs++y6.2::rr).length=Y_:=by
      subst hTi;have:=(dB h).1;simp only[RT]at this;exact this.1
     have hlen:ys.length<sizeLine:=by
      have:=du hsz;rw[RJ,RK,hr.length]at this;omega
     have up6:Same (vis H5 Bq) (vis (upd H5 Da (.lst (ys++[v]))) Bq):=λb u e=>by
      obtain⟨z1,z2⟩:=bL e
      have hb:b≠Da:=λz=>z2 (.inr z)
      exact bT (by rw[aP hb];exact z1) z2
     have s6:Same H2 (upd H5 Da (.lst (ys++[v]))):=λb u e=>by
      rw[aP (nD e)];exact s5 b u (s4 b u (s' b u e))
     refine⟨hd5,hlen,l.length-(i+1),by omega,rs++[y6.2],by omega,rfl,len1,λj d e=>?_,s6,bf,?_,?_⟩
     .obtain⟨w,q1,q2⟩:=capS (s4.trans s5) j d e
      exact⟨w,q1,q2.mono up6⟩
     .refine Reps.append ((hr.mono (aC (s4.trans s5))).mono up6) ?_
      simp only[Reps];exact⟨q'.mono up6,trivial⟩
     .show a0C _ _=_
      rw[<-hTi];simp only[a0u,Um,List.singleton_append]
  ·
   have hil:i=l.length:=by omega
   subst hil;refine .inl ⟨yl.stop H' s',?_⟩;rw[Yk,aR]at hTi;simp only[a0u,Ur]at hTi;subst hTi;obtain⟨hc1,h⟩:=dB h;simp only[RT,X4]at hc1;refine h (.ref Da) H' (s.trans s') ?_;unfold Res;rw[if_pos rfl];refine⟨Da,rfl,s.free hD,ys,hd,?_⟩;rcases hc1.2 with him | ho
   .refine(Reps.imm (H:=H') (P:=λb=>P b\/b=Da) (λb hb u e=>?_) him (hr.mono aZ))
    rcases hb with hb | hb
    .obtain⟨u',e'⟩:=goneP b hb
     have:=s' b u' e';rw[e]at this;cases this;exact softP b hb u e'
    .rw[hb,hd]at e;cases e
     exact⟨(by intro _ z;cases z),(by intro _ _ z;cases z)⟩
   .refine hr.mono (aN λb hb=>?_)
    rcases hb with hb | hb
    .exact .inl ⟨hb,.inl ho⟩
    .exact .inr hb
end
def Km(h:kV k=kV k'):k=k':=by
 cases k<;>cases k'<;>simp[kV]at h<;>simp[h]
def zG(e:H a=Z_ (.dK kvs ep))(g:DPut H a (kV k) v H'):∃ep',H'=upd H a (.dK (putK kvs k v) ep'):=by
 rcases g with⟨kvs',k',e1,e2,h1,h2,_,h3⟩ | ⟨kvs',k',b,h1,h2,_⟩
 .rw[e]at h1
  cases h1;rw[Km h2];exact⟨e2,h3⟩
 .rw[e]at h1;cases h1
section
variable{X:Cx}{W:Wd}{lk lk':Bool}{σ:L2.St}{H H1 H':Hp}{me:Option Addr}{B:Addr->Prop}{δ:Dst}{Q Q':VK}{a b:Expr}{pos p pos':Pos}{o:Orc}
def get_set(hi:δ[i]?=Z_ (Z_ (w,d)))(h:(δ.set i (Z_ (w,d')))[j]?=Z_ (Z_ (w',x))):(j=i/\w'=w/\x=d')\/(j≠i/\δ[j]?=Z_ (Z_ (w',x))):=by
 have hl:i<δ.length:=(Sq.mp hi).1
 by_cases hj:j=i
 .subst hj
  rw[T4 hl]at h;cases h;exact .inl ⟨rfl,rfl,rfl⟩
 .rw[Tn (Vr hj)]at h
  exact .inr ⟨hj,h⟩
def fH(hi:δ[i]?=Z_ (Z_ (w,d))):eG σ (δ.set i (Z_ (w,d'))) j c↔eG σ δ j c:=by
 have hl:i<δ.length:=(Sq.mp hi).1
 constructor
 .rintro⟨⟨w',x,h1,h2⟩,h3⟩
  rcases get_set hi h1 with⟨rfl,rfl,rfl⟩ | ⟨_,h⟩
  .exact⟨⟨_,_,hi,h2⟩,h3⟩
  .exact⟨⟨w',x,h,h2⟩,h3⟩
 .rintro⟨⟨w',x,h1,h2⟩,h3⟩
  by_cases hj:j=i
  .subst hj
   rw[hi]at h1;cases h1;exact⟨⟨w,d',by rw[T4 hl],h2⟩,h3⟩
  .exact⟨⟨w',x,by rw[Tn (Vr hj)];exact h1,h2⟩,h3⟩
def kO(hi:δ[i]?=Z_ (Z_ (w,d))):Hid B σ (δ.set i (Z_ (w,d')))=Hid B σ δ:=by
 funext c
 apply propext
 unfold Hid
 constructor
 .rintro(h | ⟨j,h⟩)
  .exact .inl h
  .exact .inr ⟨j,(fH hi).mp h⟩
 .rintro(h | ⟨j,h⟩)
  .exact .inl h
  .exact .inr ⟨j,(fH hi).mpr h⟩
def SR.own(S:SR X W me B H σ δ)(hi:ownD δ i=Z_ (w,d)):δ[i]?=Z_ (Z_ (w,d))/\w≠.sh/\∃c,σ[i]?=Z_ (Z_ (V.ref c))/\OwnAt W H (vis H (Hid B σ δ)) c d/\¬B c/\(∀u,X.H₀ c=Z_ u->some c=me):=by
 unfold ownD at hi;split at hi
 .rename_i d' e
  cases hi;obtain⟨c,h1,h2,h3,h4,h5⟩:=S.ow i _ e;exact⟨e,by decide,c,h1,h2,h4,λu z=>by rw[h3]at z;cases z⟩
 .rename_i d' e
  cases hi;obtain⟨_,c,h0,h1,h2,h4⟩:=S.mi i _ e;exact⟨e,by decide,c,h1,h2,h4,λu _=>h0.symm⟩
 .cases hi
def SR.write(S:SR X W me B H σ δ)(hi:δ[i]?=Z_ (Z_ (w,d)))(hw:w≠.sh)(hc:σ[i]?=Z_ (Z_ (V.ref c)))(hB:¬B c)(hX:∀u,X.H₀ c=Z_ u->some c=me)
 (new:OwnAt W (upd H c u) (vis H (Hid B σ δ)) c d'):SR X W me B (upd H c u) σ (δ.set i (Z_ (w,d')))/\Same (vis H (Hid B σ δ)) (vis (upd H c u) (Hid B σ (δ.set i (Z_ (w,d'))))):=by
 have hid:Hid B σ δ c:=.inr ⟨i,⟨w,d,hi,hw⟩,hc⟩
 have up:Same (vis H (Hid B σ δ)) (vis (upd H c u) (Hid B σ δ)):=λb v e=>by
  obtain⟨e1,e2⟩:=bL e
  have hb:b≠c:=λz=>e2 (z▸hid)
  exact bT (by rw[aP hb];exact e1) e2
 have other:∀{j:Nat}{x:Own}{y:D},j≠i->δ[j]?=Z_ (Z_ (x,y))->x≠.sh->∀{e:Addr},σ[j]?=Z_ (Z_ (V.ref e))->e≠c:=λhj h1 h2 e h3 z=>by
  subst z;exact hj (S.apart _ _ _ ⟨⟨_,_,h1,h2⟩,h3⟩ ⟨⟨_,_,hi,hw⟩,hc⟩)
 refine⟨?_,by rw[kO hi];exact up⟩;refine⟨S.kf,by simp[S.len],λj y h=>?_,λj y h=>?_,λj y h=>?_,λj k e h1 h2=>S.apart j k e ((fH hi).mp h1) ((fH hi).mp h2),λb v e hb=>?_,λb hb v e=>?_,λb hb=>?_,λx hx=>?_⟩
 .rw[kO hi]
  rcases get_set hi h with⟨_,rfl,_⟩ | ⟨_,h⟩
  .exact absurd rfl hw
  .obtain⟨v,h1,h2⟩:=S.sh j y h
   exact⟨v,h1,h2.mono up⟩
 .rw[kO hi]
  rcases get_set hi h with⟨rfl,rfl,rfl⟩ | ⟨hj,h⟩
  .obtain⟨e,h1,h2,h3,h4,h5⟩:=S.ow j d hi
   rw[hc]at h1;cases h1;exact⟨c,hc,new.mono (λ_ q=>q) up,h3,h4,h5⟩
  .obtain⟨e,h1,h2,h3⟩:=S.ow j y h
   exact⟨e,h1,h2.mono (λv q=>by rw[aP (other hj h (by decide) h1)];exact q) up,h3⟩
 .rw[kO hi]
  rcases get_set hi h with⟨rfl,rfl,rfl⟩ | ⟨hj,h⟩
  .obtain⟨h0,e,h1,h2,h3,h4⟩:=S.mi j d hi
   rw[hc]at h2;cases h2;exact⟨h0,c,h1,hc,new.mono (λ_ q=>q) up,h4⟩
  .obtain⟨h0,e,h1,h2,h3,h4⟩:=S.mi j y h
   exact⟨h0,e,h1,h2,h3.mono (λv q=>by rw[aP (other hj h (by decide) h2)];exact q) up,h4⟩
 .have hbc:b≠c:=λz=>hb (by subst z;exact hX v e)
  rw[aP hbc];exact S.same b v e hb
 .have hbc:b≠c:=λz=>hB (z▸hb)
  rw[aP hbc]at e;exact S.soft b hb v e
 .have hbc:b≠c:=λz=>hB (z▸hb)
  rw[aP hbc];exact S.gone b hb
 .by_cases hxc:x=c
  .subst hxc;exact⟨u,bf⟩
  .rw[aP hxc];exact S.live x hx
def PS.or{st:Stmt}{t t':TS}(h:PS X st t)(h':PS X st t'):PS X st (λD σ H=>t D σ H\/t' D σ H):=by
 intro pins s σ H D I q;rcases q with q | q
 .exact h pins s σ H D I q
 .exact h' pins s σ H D I q
def eU(h:keyOf d=Z_ x)(r:RepT W H G d y):y=kV (keyV x):=by
 cases d<;>first | exact nope h | simp only[keyOf]at h
 .cases h;exact aO r
 .cases h;exact(bj r).1
def Hr(h:keyOf d=Z_ x)(r:RepT W H G d y)(e:a0P z=x):z.length<=16777216:=by
 subst e
 cases d<;>simp only[keyOf]at h<;>first | (cases h;done) | skip
 cases h;exact(bj r).2
def Hn{q:Key×V}{r:List (Key×V)}{k:Key}{v:V}(h:q.1≠k):putK (q::r) k v=q::putK r k v:=by
 unfold putK;rw[Ue,decide_eq_false h,YZ];split
 .rw[Ro,if_neg h]
 .rfl
def Fl{q:Key×V}{r:List (Key×V)}{k:Key}{v:V}(h:q.1=k)(hn:k∉r.map (·.1)):putK (q::r) k v=(q.1,v)::r:=by
 unfold putK;rw[Ue,decide_eq_true h,Z8,if_pos rfl,Ro,if_pos h]
 congr 1
 rw[WN (g:=id) (λp hp=>?_),List.map_id]
 have:p.1≠k:=λz=>hn (z▸U0 hp)
 simp[this]
def Bc{ks:List DK}{x:DK}:keyV x∈ks.map keyV↔x∈ks:=by
 constructor
 .intro h
  obtain⟨y,hy,e⟩:=Sw.mp h;rw[<-dg e];exact hy
 .exact λh=>U0 h
theorem pY(rd:Rep W G d v):∀{ks:List DK}{vs:List D}{kvs:List (Key×V)},kvs.map (·.1)=ks.map keyV->ks.Nodup->Reps W G vs (kvs.map (·.2)) ->
 (putK kvs (keyV x) v).map (·.1)=(dq ks x).map keyV/\Reps W G (putV ks vs x d) ((putK kvs (keyV x) v).map (·.2))
 | [],[],[],_,_,_=>by
   refine⟨rfl,?_⟩;simp only[putV,putK,Yr,Rv,if_false,X3,Ro,Ti,Reps];exact⟨rd,trivial⟩
 | [],_::_,[],_,_,r=>by simp only[Ti,Reps]at r
 | [],_,_::_,e,_,_=>by simp at e
 | _::_,_,[],e,_,_=>by simp at e
 | _::_,[],_::_,_,_,r=>by simp only[Ro,Reps]at r
 | k0::ks,d0::vs,q::kvs,e,nd,r=>by
   simp only[Ro,Xp]at e;simp only[Ro,Reps]at r;obtain⟨nd1,nd2⟩:=Tg.mp nd
   by_cases hx:k0=x
   .subst hx
    rw[Fl e.1 (by rw[e.2,Bc];exact nd1)];simp only[dq,putV,if_true,Ro,e.1,e.2,Reps];exact⟨trivial,rd,r.2⟩
   .have hk:q.1≠keyV x:=λz=>hx (dg (e.1.symm.trans z))
    obtain⟨h1,h2⟩:=pY rd e.2 nd2 r.2;rw[Hn hk];simp only[dq,putV,if_neg hx,Ro,e.1,Reps];exact⟨by rw[h1],r.1,h2⟩
theorem putKs_mem:∀{ks:List DK},y∈dq ks x↔y∈ks\/y=x
 | []=>by simp[dq]
 | k::ks=>by
   simp only[dq];split
   .rename_i h
    subst h
    constructor
    .exact .inl
    .rintro(h | h)
     .exact h
     .rw[h];exact Ru
   .rw[Rp,putKs_mem,Rp,or_assoc]
theorem jj:∀{ks:List DK},ks.Nodup->(dq ks x).Nodup
 | [],_=>by simp[dq]
 | k::ks,h=>by
   obtain⟨h1,h2⟩:=Tg.mp h;simp only[dq];split
   .exact h
   .rename_i hk
    refine Tg.mpr ⟨λz=>?_,jj h2⟩;rcases putKs_mem.mp z with z | z
    .exact h1 z
    .exact hk z
def zN:XH e (Z_ (.Subscript o' i' pp)) l env=pure Zd:=by
 cases e<;>rfl
theorem Ft(hk:W.K=X.K)(hu:X.A.units+1<Y8)(hv:PE X (.Name x p) (tVar i))(hK:PE X k (tD X W Y_ fun δ=>ev o δ Y_ tk))(he:PE X e (tD X W Zd fun δ=>ev o δ Zd te))
 (ha:∀v,Yj (.Subscript (.Name x p) k pos') X.env v=(do
  let ov <-Xy [v] (Vl (.Name x p) X.env)
  let iv <-Xy [v,ov] (Vl k X.env)
  ZF pos'
  Xy [v,ov,iv] (ZV ov iv v)
  release [v,ov,iv] []))
 (hs1:swapsWithSole [.Subscript (.Name x p) k pos'] e pos.line X.env=pure Zd) (hs2:swappedStores [.Subscript (.Name x p) k pos'] e X.env=pure none) (h1:(V7 [.Subscript (.Name x p) k pos'] X.env).map (·.2)=[Yj (.Subscript (.Name x p) k pos') X.env]) :
 PS X (.Assign [.Subscript (.Name x p) k pos'] e pos) (tS X W (evS o (.seti i tk te))):=by
 refine PS.imp (PS.or (GR hu hv hK he zN) (K4 he (Og hv hK set_list ha) hs1 hs2 h1)) λEn σ H ⟨me,B,δ,S,h⟩=>?_
 simp only[evS]at h;obtain⟨S1,e1⟩:=S.evF o te;have sub1:=fZ (B:=B) (σ:=σ) (δ:=δ) o te;generalize (evF o δ te).1=δ1 at *;generalize (evF o δ te).2=r1 at *;obtain⟨r,e2,h⟩:=SO.of_ok h;obtain⟨y,e3,h⟩:=SO.of_ok h;obtain⟨q,e4,h⟩:=cR h
 cases e5:ownD δ1 i with
 | none=>rw[e5]at e4;cases e4
 | some c=>
 obtain⟨w,d⟩:=c;rw[e5]at e4;simp only[Sh]at e4
 cases e6:putItem d y.2 r.2 with
 | none=>rw[e6]at e4;cases e4
 | some d'=>
 rw[e6]at e4;cases e4
 have go:∀{K1:V->V->V->Hp->Prop},(∀(ad:Addr)(v u:V)(H2:Hp),SR X W me B H2 σ δ1->Same H H2->σ[i]?=Z_ (Z_ (V.ref ad))->Rep W (vis H2 (Hid B σ δ1)) r.2 v->RepT W H2 (vis H2 (Hid B σ δ1)) y.2 u->K1 (.ref ad) u v H2) ->
  tD X W Zd (fun δ=>ev o δ Zd te) σ H λv H1=>tVar i σ H1 λx H2=>tD X W Y_ (fun δ=>ev o δ Y_ tk) σ H2 λu H3=>K1 x u v H3:=λ{K1} k1=>by
  refine tD_iff.mpr ⟨me,B,δ1,S1,?_⟩;rw[<-e1,e2];intro v H1 s1 q1;obtain⟨_,_,ad,o3,_⟩:=S1.own e5;refine⟨_,o3,tD_iff.mpr ⟨me,B,δ1,S1.mono s1,?_⟩⟩;rw[e3];intro u H2 s2 q2;exact k1 ad v u H2 ((S1.mono s1).mono s2) (s1.trans s2) o3 ((q1.keep S1.know).mono (aC s2)) q2.look
 have last:∀{ad:Addr}{v u:V}{H2:Hp}{ob:HO},SR X W me B H2 σ δ1->Same H H2->σ[i]?=Z_ (Z_ (V.ref ad))->OwnAt W (upd H2 ad ob) (vis H2 (Hid B σ δ1)) ad d'->En.nx σ (upd H2 ad ob):=λ{ad v u H2 ob} S2 s2 o3 new=>by
  obtain⟨o1,o2,ad',o3',o4,o5,o6⟩:=S2.own e5;rw[o3]at o3';cases o3';obtain⟨S3,s3⟩:=S2.write o1 o2 o3 o5 o6 new;exact h _ _ S3 (((aN sub1).trans (aC s2)).trans s3)
 cases d with
 | dct ks vs=>
   simp only[putItem]at e6
   cases e7:keyOf y.2 with
   | none=>rw[e7]at e6;cases e6
   | some kx=>
   rw[e7]at e6;simp only[Sh]at e6;split at e6
   .rename_i hsz
    cases e6;refine .inl (go λad v u H2 S2 s2 o3 rv tu=>?_);obtain⟨_,_,ad',o3',o4,_⟩:=S2.own e5;rw[o3]at o3';cases o3';obtain⟨kvs,⟨ep,q1⟩,q2,q3,q4⟩:=o4
    have hl:kvs.length=ks.length:=by simpa using congrArg VM q2
    refine⟨ad,rfl,⟨upd H2 ad (.dK (putK kvs (keyV kx) v) 0),?_⟩,λH4 g4=>?_⟩
    .rw[eU e7 tu]
     exact DPut.k q1 (by rw[hl,Ut];omega)
    .rw[eU e7 tu]at g4
     obtain⟨ep',rfl⟩:=zG q1 g4;refine last (v:=v) (u:=u) S2 s2 o3 ?_;obtain⟨p1,p2⟩:=pY rv q2 q3.1 q4;exact⟨_,⟨ep',bf⟩,p1,⟨jj q3.1,λz hz=>(putKs_mem.mp hz).elim (q3.2 z) λhz=>Hr e7 tu hz⟩,p2⟩
   .cases e6
 | lst l=>
   cases e7:y.2 with
   | int j=>
     rw[e7]at e6;simp only[putItem]at e6
     cases e8:place l.length j with
     | none=>rw[e8]at e6;cases e6
     | some n=>
     rw[e8]at e6;cases e6;refine .inr (go λad v u H2 S2 s2 o3 rv tu=>?_);rw[e7]at tu;obtain⟨_,_,ad',o3',o4,_⟩:=S2.own e5;rw[o3]at o3';cases o3';obtain⟨xs,q1,q2⟩:=o4;refine⟨ad,xs,j,n,rfl,aO tu,q1,gW (α:=V) (by rw[<-q2.length];exact e8),last (v:=v) (u:=u) S2 s2 o3 ⟨_,bf,q2.set rv n⟩⟩
   | _=>rw[e7]at e6;cases e6
 | _=>cases e6
end
section
variable{X:Cx}{W:Wd}{lk lk':Bool}{σ:L2.St}{H H1 H':Hp}{me:Option Addr}{B:Addr->Prop}{δ:Dst}{Q Q':VK}{a b:Expr}{pos p pos' apos cpos:Pos}{o:Orc}
noncomputable def az:Expr->Bool
 | .Starred _ _=>true
 | _=>false
def bW(h:az e=Zd):SJ (e::es) env=(Zd,Vl e env)::SJ es env:=by
 cases e<;>first | rfl | (simp[az]at h)
def few1(h:az e=Zd):((Xg cpos (SJ [e] env)).all (λx=>!x.1)&&(a0k cpos (Zy [] env)).all (λx=>x.1.isSome)
 && decide (([e]:List Expr).length+([]:List YJ).length+(if([]:List YJ).isEmpty then 0 else 1)<30))=Y_:=by
 rw[bW h];rfl
noncomputable def plainBase:Expr->Bool
 | .Call (.Name _ _) [] [] _=>false
 | _=>true
def fX(h:plainBase e=Y_):Yu e m env w=w:=by
 unfold Yu;split
 .simp[plainBase]at h
 .rfl
def mF:XH (.Call f args kws pp) none l env=pure Zd:=rfl
theorem ug(hv:PE X (.Name x p) (tVar i))(he:PE X e (tD X W Zd fun δ=>ev o δ Zd te))(hst:az e=Zd)(hline:(apos.endLine==cpos.line)=Y_) :
 PS X (.Expr (.Call (.Attribute (.Name x p) "append" apos) [e] [] cpos) pos) (tS X W (evS o (.append i te))):=by
 refine PS.imp (yw (O5 PySem.F.plainAttrs_list PySem.F.slot_list_append PySem.F.type_list_append nJ hv (bJ he cT (bW hst)) (fX rfl) (few1 hst) hline (bW hst) rfl) mF) λEn σ H ⟨me,B,δ,S,h⟩=>?_
 simp only[evS]at h;obtain⟨S1,e1⟩:=S.evF o te;have sub1:=fZ (B:=B) (σ:=σ) (δ:=δ) o te;generalize (evF o δ te).1=δ1 at *;generalize (evF o δ te).2=r1 at *;obtain⟨r,e2,h⟩:=SO.of_ok h;obtain⟨q,e4,h⟩:=cR h
 cases e5:ownD δ1 i with
 | none=>rw[e5]at e4;cases e4
 | some c=>
 obtain⟨w,d⟩:=c;rw[e5]at e4;simp only[Sh]at e4
 cases d with
 | lst l=>
   simp only at e4;split at e4
   .rename_i hsz
    cases e4;obtain⟨_,_,ad,o3,⟨xs0,q0,_⟩,_⟩:=S1.own e5;refine⟨_,o3,.inl ⟨rfl,xs0,SqL.of q0⟩,tD_iff.mpr ⟨me,B,δ1,S1,?_⟩⟩;rw[<-e1,e2];intro v H1 s1 q1;obtain⟨o1,o2,ad',o3',⟨xs,q2,q3⟩,o5,o6⟩:=(S1.mono s1).own e5;rw[o3]at o3';cases o3';have hz:=du hsz;have hl:=q3.length;refine⟨ad,xs,v,rfl,rfl,q2,by omega,?_⟩;have rv:=q1.keep S1.know;obtain⟨S3,s3⟩:=(S1.mono s1).write (u:=.lst (xs++[v])) (d':=.lst (l++[r.2])) o1 o2 o3 o5 o6 ⟨_,bf,q3.append (by simp only[Reps];exact⟨rv,trivial⟩)⟩;exact h _ _ S3 (((aN sub1).trans (aC s1)).trans s3)
   .cases e4
 | _=>cases e4
def Ig:PS X (.Pass pos) (tS X W (evS o .pass)):=by
 refine PS.imp FW λEn σ H ⟨me,B,δ,S,h⟩=>?_
 simp only[evS]at h;exact h _ _ S (Same.refl _)
def JG:PS X (.Break pos) (tS X W (evS o .brk)):=by
 refine PS.imp zQ λEn σ H ⟨me,B,δ,S,h⟩=>?_
 simp only[evS]at h;exact h _ _ S (Same.refl _)
def Hq:PS X (.Continue pos) (tS X W (evS o .cont)):=by
 refine PS.imp oG λEn σ H ⟨me,B,δ,S,h⟩=>?_
 simp only[evS]at h;exact h _ _ S (Same.refl _)
def Hd:PS X (.Return none pos) (tS X W (evS o .retn)):=by
 refine PS.imp Gs λEn σ H ⟨me,B,δ,S,h⟩=>?_
 simp only[evS]at h;refine h _ _ _ S (Same.refl _) ?_;exact .shared (by simp only[Rep])
def Az(lo:Int)(n:Nat):Reps W G ((TQ n).map λ(k:Nat)=>a0p (lo+(k:Int))) ((TQ n).map λ(k:Nat)=>V.int (lo+(k:Int))):=by
 induction TQ n with
 | nil=>simp only[Ti,Reps]
 | cons k l ih=>simp only[Ro,Reps,Rep];exact⟨trivial,ih⟩
def Oc(h:inR i=Y_):-1000000<=i/\i<=1000000:=by
 unfold inR at h;simpa using h
end
section
variable{X:Cx}{W:Wd}{o:Orc}{p pos apos cpos:Pos}
theorem xG(hv:PE X (.Name x p) (tVar i))(he:PE X e (tD X W Zd fun δ=>ev o δ Zd te))(hst:az e=Zd)(hline:(apos.endLine==cpos.line)=Y_) :
 PS X (.Expr (.Call (.Attribute (.Name x p) "extend" apos) [e] [] cpos) pos) (tS X W (evS o (.extend i te))):=by
 refine PS.imp (yw (O5 PySem.F.plainAttrs_list PySem.F.slot_list_extend PySem.F.type_list_extend vf hv (bJ he cT (bW hst)) (fX rfl) (few1 hst) hline (bW hst) rfl) mF) λEn σ H ⟨me,B,δ,S,h⟩=>?_
 simp only[evS]at h;obtain⟨S1,e1⟩:=S.evF o te;have sub1:=fZ (B:=B) (σ:=σ) (δ:=δ) o te;generalize (evF o δ te).1=δ1 at *;generalize (evF o δ te).2=r1 at *;obtain⟨⟨rw,rd⟩,e2,h0⟩:=SO.of_ok h;obtain⟨q,e4,h9⟩:=cR h0;clear h0 h
 cases e5:ownD δ1 i with
 | none=>rw[e5]at e4;cases e4
 | some c=>
 obtain⟨w,d⟩:=c;rw[e5]at e4;simp only[Sh]at e4
 cases d<;>first | exact nope e4 | skip
 rename_i l
 cases rd<;>first | exact nope e4 | skip
 rename_i l';simp only at e4;split at e4
 .rename_i hc
  cases e4;obtain⟨hsz,hw⟩:=Bool.and_eq_true_iff.mp hc;have hw:rw=Y_:=hw;subst hw;obtain⟨_,_,ad,o3,⟨xs0,q0,_⟩,_⟩:=S1.own e5;refine⟨_,o3,.inl ⟨rfl,xs0,SqL.of q0⟩,tD_iff.mpr ⟨me,B,δ1,S1,?_⟩⟩;rw[<-e1,e2];intro v H1 s1 q1;obtain⟨o1,o2,ad',o3',⟨xs,q2,q3⟩,o5,o6⟩:=(S1.mono s1).own e5;rw[o3]at o3';cases o3';unfold Res at q1;rw[if_pos rfl]at q1;obtain⟨b,rfl,hb,zs,z1,z2⟩:=q1;have hz:=du hsz;have hl:=q3.length;have hl':=z2.length;refine⟨ad,b,xs,zs,rfl,rfl,q2,z1,by omega,?_⟩
  have rv:Reps W (vis H1 (Hid B σ δ1)) l' zs:=z2.mono λc oc ec=>by
   obtain⟨g1,g2⟩:=bL ec
   exact bT g1 λz=>g2 (.inl z)
  obtain⟨S3,s3⟩:=(S1.mono s1).write (u:=.lst (xs++zs)) (d':=.lst (l++l')) o1 o2 o3 o5 o6 ⟨_,bf,q3.append rv⟩;exact h9 _ _ S3 (((aN sub1).trans (aC s1)).trans s3)
 .cases e4
end
end Z
namespace L2
open PySem PySem.Spec PyProof.Rows
section
variable{X:Cx}
def tQ{ys:List Bool}:∀{us:List Rm},Vals (ys.map V.bl) us->us=ys.map Xl:=by
 induction ys with
 | nil=>intro us h;cases h;rfl
 | cons y ys ih=>
   intro us h;rw[Ro]at h
   cases h with
   | cons r t=>cases r;rw[ih t];rfl
def old_kept{s:Rr}{h':Rz}{ob:Obj}(hk:∀b x,b∉[s.heap.objs.size]->(s.heap.push ob).get? b=Z_ x->h'.get? b=Z_ x):∀b x,s.heap.get? b=Z_ x->h'.get? b=Z_ x :=
 λb x e=>hk b x (λz=>absurd (RB e) (by rw[Sv.mp z];exact VV _)) (Rk _ e)
def vO(hc:X.calm=Y_):CallR X (.builtin "all") (λxs H Q=>∃(c:Addr)(bs:List Bool),xs=[.ref c]/\SqL X.K H c (bs.map V.bl)/\Q (.bl (bs.all id)) H):=by
 intro pins s σ H xs us Q I r h;obtain⟨c,bs,rfl,hq,q⟩:=h;obtain⟨u,rfl,rx⟩:=vals1 r;cases rx;obtain⟨its,rv,pl,hz⟩:=I.list hq;have eits:=tQ rv;subst eits;have hl:s.heap.IsList c (bs.map Xl).toArray:=pl.isList
 have hlt:c<s.heap.objs.size:=by obtain⟨_,e,_⟩:=hl;exact RB e
 refine call_all_walk (Yp hl ?_)
 refine⟨s.heap.objs.size,[s.heap.objs.size,c],[s.heap.objs.size],(bs.map Xl).toArray.size,_,_,λi=>(bs[i]?).getD Y_,rfl,Walks.list (A:=X.A.in1) (I.ok.hd hc) _ c (RX hlt) _,
  ⟨⟨_,RD _ rfl,rfl,rfl⟩,hl.push _⟩,λi v s' Q' E' hP hQ=>?_,λh' tk hk=>?_⟩
 .have hP:(bs.map Xl)[i]?=Z_ v:=by simpa using hP
  rw[T8]at hP
  cases e:bs[i]? with
  | none=>rw[e]at hP;cases hP
  | some b=>
    rw[e]at hP;cases hP;simp only[e,Wt]at hQ;exact W2 hQ
 .have e:((TQ (bs.map Xl).toArray.size).all λi=>(bs[i]?).getD Y_)=bs.all id:=by
   rw[RM,Rq,X5,Ym,Ym]
   constructor
   .intro h b hb
    obtain⟨i,hi,rfl⟩:=WP hb;have:=h i (XX.mpr hi);simpa[RC hi]using this
   .intro h i hi
    have hi:=XX.mp hi;simpa[RC hi]using h _ (Wy hi)
  rw[e];exact⟨.bl (bs.all id),H,I.kept (old_kept hk),rfl,q⟩
section
variable{prog:Sx}{w:Th}{A:Tu}{E:Rm->Rr->Prop}{s:Rr}
noncomputable def p8{T:String}{r d:Addr}{n:Nat}{P:Nat->Rm->Prop}{OK:Rz->Prop}{Q:List Rm->Rr->Prop}(K:PySem.W.KdlSrc prog w T r d n P OK)(hh:A.handled=Yt)(hok:OK s.heap)(hn:n<=sizeLine)
 (h:∀h' tk acc,(∀b o,s.heap.get? b=Z_ o->h'.get? b=Z_ o)->ItemsOf P acc n->Q acc.toList { s with heap:=h',toks:=tk }):RG (RQ prog w) A (a0b (.ref r)) Q E s:=by
 have hlt:=K.there _ hok;unfold a0b;refine Rj (wpAny_runValue (V3 PySem.F.entry_proto_collect ?_));rw[U4 PySem.F.plain_proto_collect _];show RG _ A.in1 (newList [] >>= λacc=>again (.builtin "list.__iadd__" ⟨[acc,.ref r],[]⟩)) _ _ s;refine Rj (U9 ?_);refine Rn ⟨VF WW _,V3 PySem.F.entry_list_iadd ?_⟩;rw[U4 WW _];show RG _ A.in1 (S8.List.listExtendWith (.ref s.heap.objs.size) (.ref r) (.ref s.heap.objs.size)) _ _ _;have hS0:(s.heap.push { cls:=.type "list",data:=.seq ([]:List Rm).toArray }).get? s.heap.objs.size=Z_ { cls:=.type "list",data:=.seq #[] 0 }:=RD _ rfl
 have hok0:OK (s.heap.push { cls:=.type "list",data:=.seq ([]:List Rm).toArray }):=K.keep _ _ hok λb _ o e=>Rk _ e
 have fin:∀r' s',(∃h' tk acc c',r'=Z7 (Flow.ret (.ref s.heap.objs.size))/\s'=({ s with heap:=h',toks:=tk }:Rr)/\(∀b o,s.heap.get? b=Z_ o->h'.get? b=Z_ o)/\h'.get? s.heap.objs.size=Z_ { cls:=.type "list",dict:=Yt,data:=.seq acc c',slots:=#[] }/\ItemsOf P acc n) ->
  (match r' with
   | Z7 (Flow.ret v)=>RG (RQ prog w) A (match v with
     | Us a=>(do
       let ob <-load a
       match ob.data with
       | Data.seq xs _=>pure xs.toList
       | _=>UW "internal:collect")
     | _=>UW "internal:collect") Q E s'
   | Z7 _=>False
   | Except.error e=>E e s'):=by
  rintro r' s' ⟨h',tk,acc,c',rfl,rfl,hk,hS,hacc⟩
  show RG _ A (load s.heap.objs.size >>= _) _ _ _;refine Rj (wpAny_load hS ?_);exact Rn (h h' tk acc hk hacc)
 refine V6 (PySem.W.kdl_extend (A:=A) (s:={ s with heap:=s.heap.push { cls:=.type "list",data:=.seq ([]:List Rm).toArray } }) (R:=λr' s'=>∃h' tk acc c',r'=Z7 (Flow.ret (.ref s.heap.objs.size))/\s'=({ s with heap:=h',toks:=tk }:Rr)/\(∀b o,s.heap.get? b=Z_ o->h'.get? b=Z_ o)/\h'.get? s.heap.objs.size=Z_ { cls:=.type "list",dict:=Yt,data:=.seq acc c',slots:=#[] }/\ItemsOf P acc n)
  K hh hok0 s.heap.objs.size (Vq hlt.1) (Vq hlt.2) (.ref s.heap.objs.size) 0 hS0 (λh' tk acc c' hk hS hacc=>⟨h',tk,acc,c',rfl,rfl,λb o e=>hk b o (RX (RB e)) (Rk _ e),hS,hacc⟩) hn) (λf s' hf=>?_) λe s' he=>?_
 .cases f with
  | done f=>exact fin _ _ hf
  | again c'=>exact⟨hf.1,Yb hf.2 λr' s' q=>fin r' s' q⟩
 .obtain⟨_,_,_,_,z,_⟩:=he
  cases z
def sorted_by(hO:κ.OneLt)
 (hc:∀E',RG (RQ prog w) A.in1 (a0b x) (λvs s1=>KeysOf κ (Xx vs)/\(∀v₁ v₂ rest,vs=v₁::v₂::rest->keyKind' (v₁::v₂::rest).toArray=pure WT)/\vs.length<64 /\
  ∀(h':Rz)(st:SortSt),(∀b o,s1.heap.get? b=Z_ o->h'.get? b=Z_ o)->(Su st).Perm (Xx vs)->SortedToK κ (Su st) (Xx vs).size->(∃e,h'.get? s1.heap.objs.size=Z_ (Ww "list" ((Su st).map (·.2)) e)) ->
   Q (.ref s1.heap.objs.size) { s1 with heap:=h' }) E' s):RG (RQ prog w) A (call (.builtin "sorted") [x]) Q E s:=by
 refine Calls.call_function_entry kind_sorted plain_sorted entry_sorted (args_sorted1 _) ?_;unfold S8.«sorted»;refine Rj (m:=checkCount "sorted" 1 1 _) (Rn ?_);refine Rj (V6 (hc _) (λvs s1 h1=>?_) λ_ _ e=>e);obtain⟨h0,hkk,h64,hQ⟩:=h1;refine Rj (Zc ?_);have hoL:(s1.heap.push (Ww "list" vs.toArray 0)).get? s1.heap.objs.size=Z_ (Ww "list" vs.toArray 0):=RD _ rfl;refine Rj (Uu (Ux slot_list_sort ⟨_,hoL,rfl⟩ entry_list_sort (list_sort_treeK hO hoL h0 hkk h64 λst' a1 a2=>⟨_,rfl,?_⟩) (args_list_sort _)));refine Rn ⟨_,rfl,hQ _ st' (λb o e=>?_) a1 a2 (sortedHeap_at hoL)⟩;have hlt:=RB e;rw[sortedHeap_old (RX hlt) (by rw[size_push'];exact TV hlt)];exact Rk _ e
end
theorem nq:∀{ss:List Str}{its:List Rm},Vals (ss.map V.str) its->a0d its ss
 | [],its,h=>by cases h;exact .nil
 | x::ss,its,h=>by
   rw[Ro]at h
   cases h with
   | cons r t=>
     obtain⟨tk,rfl⟩:=r;exact .cons x tk (nq t)
theorem j0:∀{ss:List Str}{its:List Rm},a0d its ss->Vals (ss.map V.str) its
 | _,_,.nil=>.nil
 | _,_,.cons x tk t=>by rw[Ro];exact .cons ⟨tk,rfl⟩ (j0 t)
def vC{vs:List (Key×Rm)}:∀{ss:List Str}{its:List Rm},vs.map (·.1)=ss.map Xh->its.length=vs.length->(∀(i:Nat) v,its[i]?=Z_ v->∃k x,vs[i]?=Z_ (k,x)/\jo k v=Y_)->a0d its ss:=by
 induction vs with
 | nil=>
   intro ss its e hl h
   cases ss with
   | nil=>
     have:its=[]:=UG hl;subst this;exact .nil
   | cons _ _=>simp at e
 | cons q vs ih=>
   intro ss its e hl h
   cases ss with
   | nil=>simp at e
   | cons x ss=>
     cases its with
     | nil=>simp at hl
     | cons v its=>
       simp only[Ro,Xp]at e;obtain⟨k,y,e1,e2⟩:=h 0 v rfl;simp at e1
       have e3:k=Xh x:=by rw[<-e.1,e1]
       rw[e3]at e2;rcases aX e2 with⟨i,t,z,_⟩ | ⟨x',t,z,rfl⟩
       .cases z
       .cases z
        exact .cons x t (ih e.2 (by simpa using hl) λi u hu=>by simpa using h (i+1) u (by simpa using hu))
theorem nM(hc:X.calm=Y_):CallR X (.builtin "sorted") (λxs H Q=>∃(c:Addr)(ss:List Str),xs=[.ref c]/\(SqL X.K H c (ss.map V.str)\/∃kvs:List (Key×V),(∃ep,H c=Z_ (.dK kvs ep))/\kvs.map (·.1)=ss.map Xh)/\ss.length<64 /\
 ∀(l:Addr)(ss':List Str),ss'.Perm ss->W9 ss'=Y_->H l=Yt->Q (.ref l) (upd H l (.lst (ss'.map V.str)))):=by
 intro pins s σ H xs us Q I r h;obtain⟨c,ss,rfl,hq,h64,q⟩:=h;obtain⟨u,rfl,rx⟩:=vals1 r;cases rx
 have key:∀(vs:List Rm)(s1:Rr),Inv X pins σ H s1->a0d vs ss->vs.length=ss.length->KeysOf PyProof.Rows.strKind (Xx vs)/\(∀v₁ v₂ rest,vs=v₁::v₂::rest->keyKind' (v₁::v₂::rest).toArray=pure WT)/\vs.length<64 /\
  ∀(h':Rz)(st:SortSt),(∀b o,s1.heap.get? b=Z_ o->h'.get? b=Z_ o)->(Su st).Perm (Xx vs)->SortedToK PyProof.Rows.strKind (Su st) (Xx vs).size->(∃e,h'.get? s1.heap.objs.size=Z_ (Ww "list" ((Su st).map (·.2)) e)) ->
   EP X pins σ Q (.ref s1.heap.objs.size) { s1 with heap:=h' }:=λvs s1 I1 hS hlen=>by
  refine⟨hS.keysOf,λv₁ v₂ rest e=>keyKind_strs (by rw[<-e];exact hS),by omega,λh' st hk hp hs ho=>?_⟩;obtain⟨ss',a1,a2,a3⟩:=sorted_out_str hS hp hs;obtain⟨e,ho⟩:=ho;have hl:=a2.length_eq;refine⟨.ref s1.heap.objs.size,_,I1.laid (a:=s1.heap.objs.size) (o:=.lst (ss'.map V.str)) (t':=s1.toks) hk (Rx _) ?_,rfl,q _ ss' a2 a3 I1.fresh⟩;refine⟨by rw[Rq,Ut];omega,((Su st).map (·.2)).toList,e,j0 a1,?_⟩;rw[ho]
 refine sorted_by PyProof.Rows.strKind_oneLt λE'=>?_
 rcases hq with hq | ⟨kvs,hd,hks⟩
 .obtain⟨its,rv,pl,hz⟩:=I.list hq
  have hS:=nq rv
  have hlen:its.length=ss.length:=by have:=rv.length;rw[Rq]at this;omega
  refine collect_list (vs:=its) pl.isList ?_ (by rw[hlen,Ut];omega);refine key its _ (I.kept (t':=s.toks) λb o e=>?_) hS hlen;rw[Uw _ _ _ _ (RX (RB e))];exact Rk _ e
 .obtain⟨z,lo,vs,rel,dd⟩:=jT I.hok (hd.imp λ_ z=>.inl z)
  have hkeys:vs.map (·.1)=ss.map Xh:=by rw[<-hks];exact rel.keys.symm
  have hlen:vs.length=ss.length:=by simpa using congrArg VM hkeys
  obtain⟨ep,dd⟩:=dd.dictAt
  refine p8 (A:=X.A.in1) (PySem.W.kdl_dict (knd:=aV X.prog X.w) (kvs:=vs) (ep:=ep) lo) (I.ok.hd hc) dd (by rw[hlen,Ut];omega) λh' tk acc hk hacc=>?_
  have hal:acc.toList.length=vs.length:=by rw[Uv];exact hacc.1
  exact key acc.toList _ (I.kept hk) (vC hkeys hal λi v e=>hacc.2 i v (by rw[<-UJ];exact e)) (by omega)
end
end L2
namespace Z
open PySem PySem.Spec PyProof.Rows L2
section
variable{X:Cx}{W:Wd}{lk lk':Bool}{σ:L2.St}{H H1 H':Hp}{me:Option Addr}{B:Addr->Prop}{δ:Dst}{Q Q':VK}{a b c:Expr}{pos p pos' apos cpos:Pos}{o:Orc}{fa fb fc:Dst->R (Bool×D)}
theorem iU:∀{l:List D}{x:List (List Nat)}{vs:List V},strsOf l=Z_ x->Reps W G l vs->vs=x.map λy=>V.str (strV y)
 | [],x,vs,h,r=>by
   simp only[strsOf,Ry]at h;subst h
   cases vs with
   | nil=>rfl
   | cons _ _=>simp only[Reps]at r
 | d::l,x,[],h,r=>by simp only[Reps]at r
 | d::l,x,v::vs,h,r=>by
   cases d with
   | str y=>
     simp only[strsOf]at h
     cases e:strsOf l with
     | none=>rw[e]at h;cases h
     | some x'=>
       rw[e]at h;cases h;simp only[Reps,Rep]at r;rw[r.1.1,iU e r.2]
       rfl
   | _=>simp[strsOf]at h
def Qh(hb:plainBase ob=Y_)(h1:az e=Zd)(h2:az f=Zd)(hl:(apos.endLine==cpos.line)=Y_):M2 X ob m apos e f cpos:=by
 have e2:SJ [f] X.env=[(Zd,Vl f X.env)]:=bW h2
 have e1:SJ [e,f] X.env=[(Zd,Vl e X.env),(Zd,Vl f X.env)]:=by rw[bW h1,e2]
 refine⟨fX hb,?_,hl,?_⟩
 all_goals(rw[e1];rfl)
def uA(hu:X.A.units+1<Y8)(ha:PE X a (tD X W Y_ fun δ=>ev o δ Y_ ta))(hb:PE X b (tD X W Y_ fun δ=>ev o δ Y_ tb))(hc:PE X c (tD X W Zd fun δ=>ev o δ Zd tc))(m:M2 X a "get" apos b c cpos) :
 PE X (.Call (.Attribute a "get" apos) [b,c] [] cpos) (tD X W lk fun δ=>ev o δ lk (.get2 ta tb tc)):=by
 refine PE.imp (Ak hu ha hb hc m) fun σ H Q h=>?_
 obtain⟨me,B,δ,S,h⟩:=tD_iff.mp h;simp only[ev]at h
 refine tD.mono (part (fa:=fun δ=>ev o δ Y_ ta) S h) λv H1 ⟨r1,e1,S1,s1,t1,_,h1⟩=>?_
 cases e2:r1.2 with
 | dct ks vs=>
   rw[e2]at t1;obtain⟨ad,kvs,rfl,q1,q2,q3,q4⟩:=t1;refine⟨ad,rfl,.inl ⟨kvs,q1.imp λ_ z=>.inl z⟩,?_⟩
   refine tD.mono (part (fa:=fun δ=>ev o δ Y_ tb) (g:=λy=>(ev o δ Zd tc).bind λz=>p7 r1.2 y.2 z.2) S1 h1) λu H2 ⟨r2,e3,S2,s2,t2,_,h2⟩=>?_
   refine tD.mono (part (fa:=fun δ=>ev o δ Zd tc) (g:=λz=>p7 r1.2 r2.2 z.2) S2 h2) λz H3 ⟨r3,e4,S3,s3,t3,k3,h3⟩=>?_
   rw[e2]at h3;simp only[p7]at h3
   cases e5:keyOf r2.2 with
   | none=>rw[e5]at h3;exact h3.elim
   | some x=>
     rw[e5]at h3;simp only[Te,a0w]at h3;refine⟨valV kvs (keyV x),?_,?_⟩
     .rw[eU e5 t2]
      obtain⟨ep,q1⟩:=q1;exact DGet.k ((s2.trans s3) _ _ q1)
     .cases e6:look ks vs x with
      | some d=>
        obtain⟨v,p1,p2⟩:=gO q2 (q4.mono (aC (s2.trans s3))) e6;rw[p1];rw[e6]at h3;exact h3 v H3 (Same.refl _) (.shared p2)
      | none=>
        rw[dG q2 q4 e6];rw[e6]at h3;exact h3 z H3 (Same.refl _) (.shared (k3.keep S2.know))
 | _=>
   refine absurd h1 λh1=>?_
   rw[e2]at h1
   cases e3:ev o δ Y_ tb with
   | ok r2=>
     rw[e3]at h1
     cases e4:ev o δ Zd tc with
     | ok r3=>simp only[a0u,e4,p7]at h1;exact h1.elim
     | exc c=>simp only[a0u,e4]at h1;exact h1.elim
     | stuck=>simp only[a0u,e4]at h1;exact h1.elim
   | exc c=>rw[e3]at h1;exact h1.elim
   | stuck=>rw[e3]at h1;exact h1.elim
def lH(h:fY d=Y_)(r:RepT W H G d x):jm x=Y_:=by
 cases d with
 | str s=>rw[(bj r).1];rfl
 | non=>simp only[RepT,Rep]at r;subst r;rfl
 | bl b=>simp only[RepT,Rep]at r;subst r;rfl
 | int i=>simp only[RepT,Rep]at r;subst r;rfl
 | _=>simp[fY]at h
def Bv(h:eqS y x=Z_ t):fY y=Y_/\fY x=Y_:=by
 cases y<;>cases x<;>simp[eqS]at h<;>exact⟨rfl,rfl⟩
def Hz(h:eqS dy dx=Z_ t)(ry:RepT W H G dy y)(rx:RepT W H G' dx x):eqV y x=t:=by
 cases dy<;>cases dx<;>first | exact nope h | exact fD h | simp only[eqS]at h
 all_goals simp only[Ry]at h
 all_goals (first | (have ry:=(bj ry).1) | (simp only[RepT,Rep]at ry))
 all_goals (first | (have rx:=(bj rx).1) | (simp only[RepT,Rep]at rx))
 all_goals subst ry
 all_goals subst rx
 all_goals (rw[<-h])
 all_goals first
  | rfl
  | simp[eqV]
 all_goals (rw[X5];simp only[beq_iff_eq,decide_eq_true_eq];exact⟨λz=>gY z,λz=>by rw[z]⟩)
theorem uL(rx:RepT W G G' dx x):∀{l:List D}{vs:List V}{t:Bool},inS dx l=Z_ t->Reps W G l vs->vs.all jm=Y_/\inV x vs=t
 | [],[],t,h,_=>by
   simp only[inS,Ry]at h;subst h;exact⟨rfl,rfl⟩
 | [],_::_,_,_,r=>by simp only[Reps]at r
 | _::_,[],_,_,r=>by simp only[Reps]at r
 | d::l,v::vs,t,h,r=>by
   simp only[Reps]at r;simp only[inS]at h
   cases e1:eqS d dx with
   | none=>rw[e1]at h;cases h
   | some s1=>
     cases e2:inS dx l with
     | none=>rw[e1,e2]at h;cases h
     | some s2=>
       rw[e1,e2]at h;cases h;obtain⟨k1,k2⟩:=uL rx e2 r.2;have rt:RepT W G G d v:=r.1.top (Same.refl _);refine⟨?_,?_⟩
       .rw[YX,k1,Z0]
        exact lH (Bv e1).1 rt
       .show(eqV v x||inV x vs)=_
        rw[k2,Hz e1 rt rx]
def rW(h:fY d=Y_)(r:RepT W H G d x):RepT W H' G' d x:=by
 cases d with
 | str s=>simpa only[RepT,Rep]using r
 | non=>simpa only[RepT,Rep]using r
 | bl b=>simpa only[RepT,Rep]using r
 | int i=>simpa only[RepT,Rep]using r
 | _=>simp[fY]at h
noncomputable def kI(neg:Bool)(x y:D):R (Bool×D):=match y with
 | .lst l=>.of ((if fY x then inS x l else none).map λt=>(Zd,.bl (if neg then !t else t)))
 | .tup l=>.of ((if fY x then inS x l else none).map λt=>(Zd,.bl (if neg then !t else t)))
 | _=>.stuck
def yJ(neg:Bool)(hk:W.K=X.K):Sem2 W (rIn X.K neg) (kI neg):=by
 intro lk P H x y dx dy Q w d hS hK hx hy e k
 cases dy<;>first | exact nope e | exact fD e | simp only[kI]at e
 .rename_i l
  by_cases hf:fY dx=Y_
  .rw[if_pos hf]at e
   cases e1:inS dx l with
   | none=>rw[e1]at e;cases e
   | some t=>
     rw[e1]at e;cases e;simp only[RepT,Rep]at hy;obtain⟨c,vs,rfl,q1,q2⟩:=hy;obtain⟨k1,k2⟩:=uL (rW (G':=H) hf hx) e1 q2;refine⟨c,vs,rfl,.inr (hk▸aK aZ q1),lH hf hx,k1,?_⟩;rw[k2];exact k _ H (Same.refl H) cA
  .rw[if_neg hf]at e;cases e
 .rename_i l
  by_cases hf:fY dx=Y_
  .rw[if_pos hf]at e
   cases e1:inS dx l with
   | none=>rw[e1]at e;cases e
   | some t=>
     rw[e1]at e;cases e;obtain⟨c,vs,rfl,q1,q2⟩:=hy;obtain⟨k1,k2⟩:=uL (rW (G':=H) hf hx) e1 q2;refine⟨c,vs,rfl,.inl (hk▸q1),lH hf hx,k1,?_⟩;rw[k2];exact k _ H (Same.refl H) cA
  .rw[if_neg hf]at e;cases e
theorem eZ:∀{ks:List DK}{vs:List D}{x:DK},ks.length=vs.length->((look ks vs x).isSome=decide (x∈ks))
 | [],[],_,_=>by simp[look]
 | [],_::_,_,h=>by simp at h
 | _::_,[],_,h=>by simp at h
 | k::ks,v::vs,x,h=>by
   simp only[look]
   by_cases hk:k=x
   .subst hk;simp
   .rw[if_neg hk,eZ (by simpa using h)]
    simp[Vr hk]
def oH(neg:Bool):jg (kI neg):=by
 intro x y c
 cases y<;>simp only[kI]<;>first | exact eY | (intro z;cases z)
noncomputable def opIn(neg:Bool):O2:=if neg then .notin else .in
def zV(neg:Bool)(x y:D)(h:∀ks vs,y≠.dct ks vs)(h':∀t,y≠.str t):o2 (opIn neg) x y=kI neg x y:=by
 cases neg<;>cases y<;>simp only[opIn,if_true,Rv,if_false,o2,isIn,kI]<;>first | rfl | (exact absurd rfl (h _ _)) | (exact absurd rfl (h' _)) | skip
def rInS(neg:Bool):R2:=λx y H Q=>∃i j,x=.str i/\y=.str j/\Q (.bl (if neg then !(!(VJ j i 0 j.length 1).isEmpty)else !(VJ j i 0 j.length 1).isEmpty)) H
theorem lD(neg:Bool)(hk:W.K=X.K)(h:tD X W lk (fun δ=>(fa δ).bind λx=>(fb δ).bind λy=>o2 (opIn neg) x.2 y.2) σ H Q) :
 tOp (rIn X.K neg) (tD X W Y_ fa) (tD X W Y_ fb) σ H Q\/(fun σ H Q=>tD X W Y_ fa σ H λy H1=>tD X W Y_ fb σ H1 λx H2=>∃a o,x=.ref a/\DGet H2 a y o/\Q (.bl (if neg then !o.isSome else o.isSome)) H2) σ H Q\/tOp (rInS neg) (tD X W Y_ fa) (tD X W Y_ fb) σ H Q:=by
 obtain⟨me,B,δ,S,h⟩:=tD_iff.mp h
 by_cases hs:∃r t,fb δ=.ok r/\r.2=.str t
 .obtain⟨r,t,e,e2⟩:=hs
  refine .inr (.inr ?_)
  refine tD.mono (part S h) λv H1 ⟨r1,e1,S1,s1,t1,_,h1⟩=>?_
  refine tD.mono (part (g:=λy=>o2 (opIn neg) r1.2 y.2) S1 h1) λu H2 ⟨r2,e3,S2,s2,t2,_,h2⟩=>?_
  have:r2=r:=by rw[e]at e3;cases e3;rfl
  subst this;rw[e2]at t2 h2
  have hc:∃c,r1.2=.str [c]:=by
   cases e4:r1.2 with
   | str z=>
     cases z with
     | nil=>rw[e4]at h2;cases neg<;>exact h2.elim
     | cons c z=>
       cases z with
       | nil=>exact⟨c,rfl⟩
       | cons _ _=>rw[e4]at h2;cases neg<;>exact h2.elim
   | _=>rw[e4]at h2;cases neg<;>exact h2.elim
  obtain⟨c,e4⟩:=hc;rw[e4]at h2;have t1:=t1.mono s2 (aC s2);rw[e4]at t1;simp only[RepT,Rep]at t1 t2;refine⟨strV [c],strV t,t1.1,t2.1,?_⟩
  have ef:(!(VJ (strV t) (strV [c]) 0 (strV t).length 1).isEmpty)=decide (c∈t):=by
   rw[show strV [c]=⟨#[c]⟩from rfl,PySem.StrLaws.found_one];rfl
  rw[ef]
  have h2:After X W lk σ H2 (Hid B σ δ) (.ok (Zd,.bl (if neg then !decide (c∈t)else decide (c∈t)))) Q:=by
   cases neg<;>exact h2
  exact h2 _ H2 (Same.refl _) cA
 by_cases hd:∃r ks vs,fb δ=.ok r/\r.2=.dct ks vs
 .obtain⟨r,ks,vs,e,e2⟩:=hd
  refine .inr (.inl ?_)
  refine tD.mono (part S h) λv H1 ⟨r1,e1,S1,s1,t1,_,h1⟩=>?_
  refine tD.mono (part (g:=λy=>o2 (opIn neg) r1.2 y.2) S1 h1) λu H2 ⟨r2,e3,S2,s2,t2,_,h2⟩=>?_
  have:r2=r:=by rw[e]at e3;cases e3;rfl
  subst this;rw[e2]at t2 h2;obtain⟨ad,kvs,rfl,q1,q2,q3,q4⟩:=t2
  cases e4:keyOf r1.2 with
  | none=>
    refine absurd h2 λh2=>?_
    cases neg<;>simp only[opIn,if_true,Rv,if_false,o2,isIn,e4]at h2<;>exact h2.elim
  | some kx=>
    have h2:After X W lk σ H2 (Hid B σ δ) (.ok (Zd,.bl (if neg then !decide (kx∈ks)else decide (kx∈ks)))) Q:=by
     cases neg<;>simpa only[opIn,if_true,Rv,if_false,o2,isIn,e4,Te,a0w]using h2
    have hl:ks.length=vs.length:=by
     have h1:=congrArg VM q2;simp only[Rq]at h1;have h3:=q4.length;simp only[Rq]at h3;omega
    have hv:(valV kvs (keyV kx)).isSome=decide (kx∈ks):=by
     rw[<-eZ (x:=kx) hl]
     cases e5:look ks vs kx with
     | some d=>obtain⟨w,p1,_⟩:=gO q2 q4 e5;rw[p1];rfl
     | none=>rw[dG q2 q4 e5];rfl
    refine⟨ad,valV kvs (keyV kx),rfl,?_,?_⟩
    .rw[eU e4 (t1.mono s2 (aC s2))]
     obtain⟨ep,q1⟩:=q1;exact DGet.k q1
    .rw[hv]
     exact h2 _ H2 (Same.refl _) cA
 .refine .inl (lN (lk:=lk) (yJ neg hk) (oH neg) ?_)
  refine tD_iff.mpr ⟨me,B,δ,S,?_⟩
  have e:((fa δ).bind λx=>(fb δ).bind λy=>kI neg x.2 y.2)=((fa δ).bind λx=>(fb δ).bind λy=>o2 (opIn neg) x.2 y.2):=by
   congr 1
   funext x
   cases e3:fb δ with
   | ok r=>
     show kI neg x.2 r.2=o2 (opIn neg) x.2 r.2;rw[zV neg x.2 r.2 (λks vs z=>hd ⟨r,ks,vs,e3,z⟩) λt z=>hs ⟨r,t,e3,z⟩]
   | exc c=>rfl
   | stuck=>rfl
  show After X W lk σ H (Hid B σ δ) ((fa δ).bind λx=>(fb δ).bind λy=>kI neg x.2 y.2) Q;rw[e];exact h
def PT.or(h:PT X e t)(h':PT X e t'):PT X e (fun σ H Q=>t σ H Q\/t' σ H Q):=by
 intro pins s σ H Q I q;rcases q with q | q
 .exact h pins s σ H Q I q
 .exact h' pins s σ H Q I q
def O8(neg:Bool):∀x y r,o2 (opIn neg) x y=.ok r->∃b,r=(Zd,.bl b):=by
 intro x y r h
 cases neg with
 | false=>
   simp only[opIn,Rv,if_false,o2]at h
   cases e:isIn x y with
   | none=>rw[e]at h;cases h
   | some b=>rw[e]at h;cases h;exact⟨_,rfl⟩
 | true=>
   simp only[opIn,if_true,o2]at h
   cases e:isIn x y with
   | none=>rw[e]at h;cases h
   | some b=>rw[e]at h;cases h;exact⟨_,rfl⟩
def d_in(hk:W.K=X.K)(hu:X.A.units+1<Y8)(ha:PE X a (tD X W Y_ fa))(hb:PE X b (tD X W Y_ fb))(hm:V2 .In b=Zd) :
 (∀lk,PE X (.Compare a [.In] [b] pos) (tD X W lk fun δ=>(fa δ).bind λx=>(fb δ).bind λy=>o2 .in x.2 y.2))/\PT X (.Compare a [.In] [b] pos) (tT X W fun δ=>(fa δ).bind λx=>(fb δ).bind λy=>o2 .in x.2 y.2):=by
 refine⟨λlk=>PE.imp (PE.or (iD ni ha hb hm) (PE.or (uI (Ci hu ha hb) hm) (iD lZ ha hb hm))) fun σ H Q h=>lD Zd hk h,PT.imp (PT.or (iM ni ha hb hm) (PT.or (uM (Ci hu ha hb) hm) (iM lZ ha hb hm))) fun σ H Q h=>?_⟩
 exact lD (lk:=Y_) Zd hk (z7 (fun δ r e=>by
  obtain⟨y,_,e⟩:=eO e;obtain⟨z,_,e⟩:=eO e
  exact O8 Zd _ _ _ e) h)
def Ei(hk:W.K=X.K)(hu:X.A.units+1<Y8)(ha:PE X a (tD X W Y_ fa))(hb:PE X b (tD X W Y_ fb))(hm:V2 .NotIn b=Zd) :
 (∀lk,PE X (.Compare a [.NotIn] [b] pos) (tD X W lk fun δ=>(fa δ).bind λx=>(fb δ).bind λy=>o2 .notin x.2 y.2))/\PT X (.Compare a [.NotIn] [b] pos) (tT X W fun δ=>(fa δ).bind λx=>(fb δ).bind λy=>o2 .notin x.2 y.2):=by
 refine⟨λlk=>PE.imp (PE.or (iD gD ha hb hm) (PE.or (uI (mz hu ha hb) hm) (iD gn ha hb hm))) fun σ H Q h=>lD Y_ hk h,PT.imp (PT.or (iM gD ha hb hm) (PT.or (uM (mz hu ha hb) hm) (iM gn ha hb hm))) fun σ H Q h=>?_⟩
 exact lD (lk:=Y_) Y_ hk (z7 (fun δ r e=>by
  obtain⟨y,_,e⟩:=eO e;obtain⟨z,_,e⟩:=eO e
  exact O8 Y_ _ _ _ e) h)
end
theorem cD(x:List Nat):∀l,(insS x l).Perm (x::l)
 | []=>.refl _
 | y::l=>by
   simp only[insS];split
   .exact .refl _
   .exact((cD x l).cons y).trans (.swap x y l)
theorem sortS_perm:∀l,(bF l).Perm l
 | []=>.refl _
 | x::l=>(cD x (bF l)).trans ((sortS_perm l).cons x)
theorem ie(x:List Nat):∀{l:List (List Nat)},l.Pairwise (·<=·)->(insS x l).Pairwise (·<=·)
 | [],_=>by simp[insS]
 | y::l,h=>by
   obtain⟨h1,h2⟩:=Tr.mp h;simp only[insS,ut];split
   .rename_i hx
    have hx:x<y:=of_decide_eq_true hx;refine Tr.mpr ⟨λz hz=>?_,h⟩;rcases Rp.mp hz with e | hz
    .subst e;exact List.le_of_lt hx
    .exact List.le_trans (List.le_of_lt hx) (h1 z hz)
   .rename_i hx
    have hx:¬x<y:=λz=>hx (decide_eq_true z)
    refine Tr.mpr ⟨λz hz=>?_,ie x h2⟩;rcases Rp.mp ((cD x l).mem_iff.mp hz)with e | hz
    .subst e;exact List.not_lt.mp hx
    .exact h1 z hz
theorem gq:∀l,(bF l).Pairwise (·<=·)
 | []=>.nil
 | x::l=>ie x (gq l)
theorem dw:∀(p:Str)(l:List Str),PyProof.Rows.risingS p l=Y_->(p::l).Pairwise (λa b=>a.cps.toList<=b.cps.toList)
 | p,[],_=>by simp
 | p,x::r,h=>by
   simp only[PyProof.Rows.risingS,RT,Sy,ltCps_eq,decide_eq_false_iff_not]at h;have ih:=dw x r h.2;have hp:p.cps.toList<=x.cps.toList:=List.not_lt.mp h.1;refine Tr.mpr ⟨λz hz=>?_,ih⟩;rcases Rp.mp hz with e | hz
   .subst e;exact hp
   .exact List.le_trans hp ((Tr.mp ih).1 z hz)
def jw(s:Str):strV s.cps.toList=s:=by
 cases s;simp[strV]
def fC(hp:ss.Perm (x.map strV))(hs:W9 ss=Y_):ss=(bF x).map strV:=by
 have hpw:ss.Pairwise (λa b=>a.cps.toList<=b.cps.toList):=by
  cases ss with
  | nil=>exact .nil
  | cons p l=>exact dw p l hs
 have hpw2:((bF x).map strV).Pairwise (λa b:Str=>a.cps.toList<=b.cps.toList):=by
  rw[Xd]
  refine(gq x).imp λ{a b} h=>?_
  simpa[strV]using h
 refine UT.eq_of_pairwise (le:=λa b:Str=>a.cps.toList<=b.cps.toList) (λa b _ _ h1 h2=>?_) hpw hpw2 (hp.trans ((sortS_perm x).map strV).symm);have:=List.le_antisymm h1 h2;rw[<-jw a,<-jw b,this]
section
variable{X:Cx}{W:Wd}{lk lk':Bool}{σ:L2.St}{H H1 H':Hp}{me:Option Addr}{B:Addr->Prop}{δ:Dst}{Q Q':VK}{a b c:Expr}{pos p pos' apos cpos:Pos}{o:Orc}{fa fb fc:Dst->R (Bool×D)}
theorem jy:∀{l:List D}{x:List Bool}{vs:List V},boolsOf l=Z_ x->Reps W G l vs->vs=x.map V.bl
 | [],x,vs,h,r=>by
   simp only[boolsOf,Ry]at h;subst h
   cases vs with
   | nil=>rfl
   | cons _ _=>simp only[Reps]at r
 | d::l,x,[],h,r=>by simp only[Reps]at r
 | d::l,x,v::vs,h,r=>by
   cases d with
   | bl y=>
     simp only[boolsOf]at h
     cases e:boolsOf l with
     | none=>rw[e]at h;cases h
     | some x'=>
       rw[e]at h;cases h;simp only[Reps,Rep]at r;rw[r.1,jy e r.2]
       rfl
   | _=>simp[boolsOf]at h
def GK(hk:W.K=X.K):Sem1 W (λxs H Q=>∃(c:Addr)(bs:List Bool),xs=[.ref c]/\SqL X.K H c (bs.map V.bl)/\Q (.bl (bs.all id)) H) (b1D .all):=by
 intro lk P H x dx Q w d hS hK hx e k
 cases dx<;>first | exact nope e | exact fD e | simp only[b1D]at e
 rename_i l
 cases e1:boolsOf l with
 | none=>rw[e1]at e;cases e
 | some bs=>
   rw[e1]at e;cases e;obtain⟨c,vs,rfl,q1,q2⟩:=hx;have:=jy e1 q2;subst this;exact⟨c,bs,rfl,hk▸q1,k _ H (Same.refl H) cA⟩
def wN(hk:W.K=X.K):Sem1 W (λxs H Q=>∃p ys,xs=[.ref p]/\((SqL X.K H p ys/\∀l,H l=Yt->Q (.ref l) (upd H l (.tup ys)))\/(SqT X.K H p ys/\Q (.ref p) H))) (b1D .tuple):=by
 intro lk P H x dx Q w d hS hK hx e k
 cases dx<;>first | exact nope e | exact fD e | simp only[b1D]at e
 .cases e
  have hx':=hx;simp only[RepT,Rep]at hx;obtain⟨c,vs,rfl,q1,q2⟩:=hx;exact⟨c,vs,rfl,.inr ⟨hk▸aK aZ q1,k _ H (Same.refl H) (.shared hx')⟩⟩
 .cases e
  obtain⟨c,vs,rfl,q1,q2⟩:=hx;exact⟨c,vs,rfl,.inl ⟨hk▸q1,λl hl=>k _ _ (Same.upd hl) (gP hl q2 hK)⟩⟩
def vK(hk:W.K=X.K):Sem1 W (λxs H Q=>∃p ys,xs=[.ref p]/\(SqL X.K H p ys\/SqT X.K H p ys)/\∀l,H l=Yt->Q (.ref l) (upd H l (.lst ys))) (b1D .list):=by
 intro lk P H x dx Q w d hS hK hx e k
 cases dx<;>first | exact nope e | exact fD e | simp only[b1D]at e
 .cases e
  simp only[RepT,Rep]at hx;obtain⟨c,vs,rfl,q1,q2⟩:=hx;exact⟨c,vs,rfl,.inr (hk▸aK aZ q1),λl hl=>k _ _ (Same.upd hl) (dH hl q2 hK)⟩
 .cases e
  obtain⟨c,vs,rfl,q1,q2⟩:=hx;exact⟨c,vs,rfl,.inl (hk▸q1),λl hl=>k _ _ (Same.upd hl) (dH hl q2 hK)⟩
def Bb(hn:H q=Yt)(h1:kvs.map (·.1)=ks.map keyV)(h2:KsOk ks)(h:Reps W (vis H P) vs (kvs.map (·.2))):Res W P lk H (upd H q (.dK kvs ep)) Y_ (.dct ks vs) (.ref q):=by
 unfold Res;rw[if_pos rfl];refine⟨q,rfl,hn,kvs,⟨ep,bf⟩,h1,h2,h.mono λb o e=>?_⟩;obtain⟨e1,e2⟩:=bL e;have hb:b≠q:=bA e1 hn
 refine bT (by rw[aP hb];exact e1) λz=>?_
 rcases z with z | z
 .exact e2 z
 .exact hb z
theorem ql:∀{l:List D}{x:List (List Nat)},strsOf l=Z_ x->l.length=x.length
 | [],x,h=>by simp only[strsOf,Ry]at h;subst h;rfl
 | d::l,x,h=>by
   cases d with
   | str y=>
     simp only[strsOf]at h
     cases e:strsOf l with
     | none=>rw[e]at h;cases h
     | some x'=>rw[e]at h;cases h;simp[ql e]
   | _=>simp[strsOf]at h
theorem jE:∀{ks:List DK}{x:List (List Nat)},strsOf (ks.map keyD)=Z_ x->ks=x.map a0P
 | [],x,h=>by simp only[Ti,strsOf,Ry]at h;subst h;rfl
 | k::ks,x,h=>by
   cases k with
   | i n=>simp[keyD,strsOf]at h
   | s y=>
     simp only[Ro,keyD,strsOf]at h
     cases e:strsOf (ks.map keyD)with
     | none=>rw[e]at h;cases h
     | some x'=>rw[e]at h;cases h;rw[jE e];rfl
theorem jR:∀{l:List D}{x:List (List Nat)}{vs:List V}{G:Hp},strsOf l=Z_ x->Reps W G l vs->∀y∈x,y.length<=16777216
 | [],x,vs,G,h,_,y,hy=>by simp only[strsOf,Ry]at h;subst h;simp at hy
 | d::l,x,[],G,h,r,y,hy=>by simp only[Reps]at r
 | d::l,x,v::vs,G,h,r,y,hy=>by
   cases d with
   | str z=>
     simp only[strsOf]at h
     cases e:strsOf l with
     | none=>rw[e]at h;cases h
     | some x'=>
       rw[e]at h;cases h;simp only[Reps,Rep]at r;rcases Rp.mp hy with q | q
       .subst q;exact r.1.2
       .exact jR e r.2 y q
   | _=>simp[strsOf]at h
theorem iH:∀{x:List (List Nat)},(∀y∈x,y.length<=16777216)->Reps W G (x.map a0A) ((x.map strV).map V.str)
 | [],_=>by simp only[Ti,Reps]
 | y::x,h=>by
   simp only[Ro,Reps,Rep];exact⟨⟨trivial,h y Ru⟩,iH λz hz=>h z (Rt _ hz)⟩
def tY(hk:W.K=X.K):Sem1 W (λxs H Q=>∃(c:Addr)(ss:List Str),xs=[.ref c]/\(SqL X.K H c (ss.map V.str)\/∃kvs:List (Key×V),IsK H c kvs/\kvs.map (·.1)=ss.map Xh)/\ss.length<64 /\
 ∀(l:Addr)(ss':List Str),ss'.Perm ss->W9 ss'=Y_->H l=Yt->Q (.ref l) (upd H l (.lst (ss'.map V.str)))) (b1D .sorted):=by
 intro lk P H x dx Q w d hS hK hx e k;simp only[b1D]at e
 cases e0:rQ dx with
 | none=>rw[e0]at e;cases e
 | some l=>
 rw[e0]at e;simp only[Sh]at e
 cases e1:strsOf l with
 | none=>rw[e1]at e;cases e
 | some xs=>
 rw[e1]at e;simp only[Sh]at e;split at e
 .rename_i h64
  cases e
  have fin:(∀y∈xs,y.length<=16777216)->∀(l':Addr)(ss':List Str),ss'.Perm (xs.map strV)->W9 ss'=Y_->H l'=Yt->Q (.ref l') (upd H l' (.lst (ss'.map V.str))):=λhall l' ss' hp hs hl=>by
   rw[fC hp hs];refine k _ _ (Same.upd hl) (dH hl (iH λy hy=>hall y ((sortS_perm xs).mem_iff.mp hy)) hK)
  cases dx<;>first | exact nope e0 | exact fD e0 | simp only[rQ]at e0
  .cases e0
   obtain⟨c,vs,rfl,q1,q2⟩:=hx;have hall:=jR e1 q2;have ev:=iU e1 q2;subst ev;refine⟨c,xs.map strV,rfl,.inl ?_,by simpa using h64,fin hall⟩;rw[Sg];exact hk▸q1
  .cases e0
   obtain⟨c,kvs,rfl,q1,q2,q3,q4⟩:=hx;have hks:=jE e1;subst hks;refine⟨c,xs.map strV,rfl,.inr ⟨kvs,q1,?_⟩,by simpa using h64,fin λy hy=>q3.2 y (U0 hy)⟩;rw[q2,Sg,Sg]
   rfl
 .cases e
end
end Z
namespace Z
open PySem
structure Tj(led:Bool)(t:Ss):Prop where
 led:t.led=led
 up:t.place.toList.Pairwise (·<·)
 dum:t.dummies=#[]
theorem kh(hp:xs.toList.Pairwise (·<·)):∀(fuel lo hi:Nat),hi-lo<=fuel->lo<=hi->hi<=xs.size->(∀i,i<lo->xs.getD i 0<j)->(∀i,hi<=i->i<xs.size->j<=xs.getD i 0) ->
 Xz xs j fuel lo hi<=xs.size/\(∀i,i<Xz xs j fuel lo hi->xs.getD i 0<j)/\(∀i,Xz xs j fuel lo hi<=i->i<xs.size->j<=xs.getD i 0)
 | 0,lo,hi,h1,h2,h3,h4,h5=>by
   have:lo=hi:=by omega
   subst this;exact⟨h3,h4,h5⟩
 | n+1,lo,hi,h1,h2,h3,h4,h5=>by
   have mono:∀a b,a<=b->b<xs.size->xs.getD a 0<=xs.getD b 0:=λa b hab hb=>by
    rcases Nat.lt_or_eq_of_le hab with hab | rfl
    .have:=WK.mp hp a b (by simpa using(by omega:a<xs.size)) (by simpa using hb) hab
     simp only[VL]at this;rw[SQ,SQ,RZ (by omega),RZ hb];exact XS this
    .exact Rx _
   unfold Xz
   by_cases hl:lo<hi
   .rw[if_pos hl]
    have hm:(lo+hi)/2<xs.size:=by omega
    have hd:xs.getD ((lo+hi)/2) j=xs.getD ((lo+hi)/2) 0:=by
     rw[SQ,SQ,RZ hm];rfl
    dsimp only;rw[hd]
    by_cases hc:xs.getD ((lo+hi)/2) 0<j
    .rw[if_pos hc]
     refine kh hp n ((lo+hi)/2+1) hi (by omega) (by omega) h3 (λi hi'=>?_) h5;exact TX (mono i ((lo+hi)/2) (by omega) hm) hc
    .rw[if_neg hc]
     refine kh hp n lo ((lo+hi)/2) (by omega) (by omega) (by omega) h4 λi hi' hs=>?_
     exact RW (by omega) (mono ((lo+hi)/2) i hi' hs)
   .rw[if_neg hl]
    have:lo=hi:=by omega
    subst this;exact⟨h3,h4,h5⟩
theorem below_at(hp:xs.toList.Pairwise (·<·))(j:Nat):Tq xs j<=xs.size/\(∀i,i<Tq xs j->xs.getD i 0<j)/\(∀i,Tq xs j<=i->i<xs.size->j<=xs.getD i 0) :=
 kh hp xs.size 0 xs.size (by omega) (Uj _) (Rx _) (λi hi=>absurd hi (Nat.not_lt_zero _)) λi h1 h2=>absurd h2 (by omega)
theorem My(hp:xs.toList.Pairwise (·<·))(hn:xs[Tq xs j]?≠some j):(Ss.insertAt xs (Tq xs j) j).toList.Pairwise (·<·):=by
 obtain⟨h1,h2,h3⟩:=below_at hp j;generalize Tq xs j=p at *
 have e:(Ss.insertAt xs p j).toList=xs.toList.take p++j::xs.toList.drop p:=by
  unfold Ss.insertAt;simp[Xc]
 rw[e]
 have hat:∀i,i<xs.size->xs.getD i 0=xs.toList[i]!:=λi hi=>by
  rw[SQ,RZ hi];simp[hi]
 refine List.pairwise_append.mpr ⟨hp.take,Tr.mpr ⟨λb hb=>?_,hp.drop⟩,λa ha b hb=>?_⟩
 .obtain⟨i,hi,rfl⟩:=WP hb
  rw[W4,Uv]at hi;rw[List.getElem_drop]
  have hs:p+i<xs.size:=by omega
  have:=h3 (p+i) (by omega) hs;rw[SQ,RZ hs]at this;simp only[VL,Wt]at this ⊢;rcases Nat.lt_or_eq_of_le this with q | q
  .exact q
  .exfalso
   have hps:p<xs.size:=by omega
   have h0:=h3 p (Rx _) hps;rw[SQ,RZ hps,Wt]at h0;rcases Y6 i with rfl | hpos
   .exact hn (by rw[RZ hps,q];rfl)
   .have:=WK.mp hp p (p+i) (by simpa using hps) (by simpa using hs) (by omega)
    simp only[VL]at this;omega
 .obtain⟨i,hi,rfl⟩:=WP ha
  rw[Vp,Uv]at hi;rw[List.getElem_take]
  have hs:i<xs.size:=by omega
  have hlt:=h2 i (by omega);rw[SQ,RZ hs,Wt]at hlt;simp only[VL];rcases Rp.mp hb with rfl | hb
  .exact hlt
  .obtain⟨k,hk,rfl⟩:=WP hb
   rw[W4,Uv]at hk;rw[List.getElem_drop]
   have hks:p+k<xs.size:=by omega
   have:=h3 (p+k) (by omega) hks;rw[SQ,RZ hks,Wt]at this;simp only[VL];omega
theorem ig(hd:t.dummies=#[]):∀(n:Nat)(p:Ss.Probe)(j:Nat)(d:Option Nat),p.dummy=Yt->Ss.probe.go t f h n p=Z_ (.empty j d)->t.place[Tq t.place j]?≠some j/\d=Yt
 | 0,p,j,d,_,e=>by simp[Ss.probe.go]at e
 | n+1,p,j,d,hp,e=>by
   unfold Ss.probe.go at e
   have hs:t.slot p.j=if t.place[Tq t.place p.j]?==Z_ p.j then .live (Tq t.place p.j)else .empty:=by
    unfold Ss.slot;dsimp only;rw[hd]
    rfl
   rw[hs]at e
   by_cases hc:(t.place[Tq t.place p.j]?==Z_ p.j)=Y_
   .rw[if_pos hc]at e
    dsimp only at e;split at e
    .cases e
    .exact ig hd n _ j d (by unfold Ss.advance;split<;>exact hp) e
   .rw[if_neg hc]at e
    cases e;exact⟨λz=>hc (by rw[z];simp),hp⟩
def G5{t:Ss}(hd:t.dummies=#[]){h:Int}{j:Nat}{b:Bool}(e:t.freeSlot h=Z_ (j,b)):t.place[Tq t.place j]?≠some j:=by
 unfold Ss.freeSlot at e;split at e
 .rename_i j' d hp
  obtain⟨h1,rfl⟩:=ig hd _ _ j' d rfl hp;simp only[Option.getD_none,Ry,Prod.mk.injEq]at e;rw[<-e.1];exact h1
 .cases e
def Av(n:Nat):(Array.range n).toList.Pairwise (·<·):=by
 rw[Array.toList_range];exact List.pairwise_lt_range
def fG{led:Bool}{t:Ss}(h:t.led=led)(n:Nat):Tj led (t.standIn n):=⟨h,Av n,rfl⟩
def Hy(h:Tj led t):Tj led { t with plain:=Zd }:=⟨h.led,h.up,h.dum⟩
def zL(h:Tj led t)(es:Array (Int×Rm))(hh:Int)(x:Rm):Tj led (layNew t es hh x).2.1:=by
 unfold layNew
 cases e:t.freeSlot hh with
 | none=>exact fG h.led _
 | some q=>
   obtain⟨j,b⟩:=q;have hf:=G5 h.dum e
   have hp:Tj led (t.put j).1:=⟨h.led,My h.up hf,by unfold Ss.put;dsimp only;rw[h.dum];rfl⟩
   dsimp only;unfold Ss.orStandIn;split
   .exact hp
   .exact fG hp.led _
def J3{mask finger moves:Nat}{led plain:Bool}{hs:Array Int}{q:Ss×Array Nat}(h:Ss.laid mask finger moves led plain hs=Z_ q):Tj led q.1:=by
 unfold Ss.laid at h
 cases e:Ss.layClean mask hs with
 | none=>rw[e]at h;cases h
 | some owner=>
   rw[e]at h;cases h;refine⟨rfl,?_,rfl⟩;dsimp only;rw[Xd];refine List.Pairwise.filterMap _ (λa b hab x hx y hy=>?_) List.pairwise_lt_range (R:=λa b=>a<b);obtain⟨u,_,rfl⟩:=U8.mp hx;obtain⟨v,_,rfl⟩:=U8.mp hy;exact hab
def Ir{led:Bool}{t:Ss}(h:Tj led t)(es:Array (Int×Rm))(n:Nat):Tj led (Zn t es n).2.1:=by
 unfold Zn
 cases e:t.relaid (es.map (·.1)) n with
 | none=>exact fG h.led _
 | some q=>
   obtain⟨t',od⟩:=q;have:=J3 e;dsimp only;split
   .exact⟨this.led.trans h.led,this.up,this.dum⟩
   .exact fG h.led _
section
variable{prog:Sx}{w:Th}{K:Type} [DecidableEq K](knd:KeyKind prog w K)(pj:Rm->K)
def SetL(h:Rz)(a:Addr)(led:Bool)(ks:List K):Prop:=∃o es ep t,h.get? a=Z_ o/\o.ExactSet/\o.data=.set es ep t/\a0g knd es.toList/\(es.toList.map λe=>pj e.2).Perm ks/\es.size<Ye/\t.fits es.size=Y_/\Tj led t
variable{knd pj}
variable{A:Tu}{E:Rm->Rr->Prop}{s:Rr}(hpj:∀v k,knd.is k v=Y_->pj v=k)
def SetL.kept(S:SetL knd pj h a led ks)(hk:∀o,h.get? a=Z_ o->h'.get? a=Z_ o):SetL knd pj h' a led ks:=by
 obtain⟨o,es,ep,t,ho,r⟩:=S;exact⟨o,es,ep,t,hk o ho,r⟩
def Fx{h:Rz}{a:Addr}{o:Obj}{es es':Array (Int×Rm)}{ep:Nat}{t t':Ss}(ho:h.get? a=Z_ o)(hd:o.data=.set es ep t):(h.update a (Zu es' t')).get? a=Z_ { o with data:=.set es' (ep+1) t' }:=by
 have q:=TJ (Zu es' t') ho (by rw[putSet_of es' t' hd];rfl);rw[q,putSet_of es' t' hd]
include hpj
theorem xH{h:Rz}{a:Addr}{o:Obj}{es es':Array (Int×Rm)}{ep:Nat}{t t':Ss}{led:Bool}{ks:List K}(ho:h.get? a=Z_ o)(hx:o.ExactSet)(hd:o.data=.set es ep t)(he:a0g knd es'.toList)(hp:(es'.toList.map λe=>pj e.2).Perm ks)(hb:es'.size<Ye)(hf:t'.fits es'.size=Y_)(hj:Tj led t'):SetL knd pj (h.update a (Zu es' t')) a led ks :=
 ⟨_,es',ep+1,t',Fx ho hd,hx,rfl,he,hp,hb,hf,hj⟩
theorem Il(he:a0g knd es)(k:K):k∈(es.map λe=>pj e.2)↔∃e∈es,knd.is k e.2=Y_:=by
 rw[Sw]
 constructor
 .rintro⟨e,h1,rfl⟩
  obtain⟨⟨k',h2,_⟩,_⟩:=he e h1;exact⟨e,h1,(hpj _ _ h2)▸h2⟩
 .rintro⟨e,h1,h2⟩
  exact⟨e,h1,hpj _ _ h2⟩
theorem N8{a:Addr}{o:Obj}{es:Array (Int×Rm)}{ep:Nat}{t:Ss}(ho:s.heap.get? a=Z_ o)(hx:o.ExactSet)(hd:o.data=.set es ep t){es1:Array (Int×Rm)}{t1:Ss}{led wd:Bool}{ks:List K}(he:a0g knd es1.toList)(hp:(es1.toList.map λe=>pj e.2).Perm ks)(hb:es1.size<Ye)(hf:t1.fits es1.size=Y_)(hj:Tj led t1)
 {g:Bool->Sem Unit}(hg:∀(b:Bool)(s₁:Rr)(Q':Unit->Rr->Prop),Q' () s₁->RG (RQ prog w) A (g b) Q' E s₁){R:Option Bool->Rr->Prop}
 (q:∀h',Ub a s.heap h'->SetL knd pj h' a led ks->R (Z_ Y_) { s with heap:=h' }) :
 RG (RQ prog w) A (storeSet a es1 t1 >>= λ_=>if(!wd&&t1.tooFull)=Y_ then(g (Zn t1 es1 (Wh es1.size)).2.2 >>= λ_=>storeSet a (Zn t1 es1 (Wh es1.size)).1 (Zn t1 es1 (Wh es1.size)).2.1 >>= λ_=>pure (Z_ Y_))else pure (Z_ Y_)) R E s:=by
 refine Rj (wpAny_storeSet_of ho hd ?_ (Yq hb));have u1:=Xj s.heap a (Zu es1 t1)
 by_cases c:(!wd&&t1.tooFull)=Y_
 .rw[if_pos c]
  have y1:=relayAll_perm t1 es1 (Wh es1.size);have y2:=relayAll_fits t1 es1 (Wh es1.size);have y3:=Ir hj es1 (Wh es1.size);generalize Zn t1 es1 (Wh es1.size)=r at *
  have y4:r.1.size=es1.size:=by have:=y1.length_eq;simpa using this
  refine Rj (hg _ _ _ (Rj (wpAny_storeSet_of (Fx ho hd) rfl ?_ (Yq (by omega)))));refine Rn (q _ (u1.trans (Xj _ a _)) ?_);exact xH hpj (Fx ho hd) hx rfl (he.perm y1) ((y1.map _).trans hp) (by omega) y2 y3
 .rw[if_neg c]
  exact Rn (q _ u1 (xH hpj ho hx hd he hp hb hf hj))
theorem PK(hk:knd.is k x=Y_)(hsc:x.scannable=Y_)(S:SetL knd pj s.heap a led ks)(hr:ks.length+1<Ye)
 (q:∀(b:Bool) h',Ub a s.heap h'->SetL knd pj h' a led (if k∈ks then ks else ks++[k])->Q b { s with heap:=h' }):RG (RQ prog w) A (setAddHashed a x (knd.hash k)) Q E s:=by
 obtain⟨o,es,ep,t,ho,hx,hd,he,hp,hb,hf,hj⟩:=S;have hin:=Il hpj he k;have hkm:k∈ks↔∃e∈es.toList,knd.is k e.2=Y_:=hp.mem_iff.symm.trans hin
 have hsz:es.size=ks.length:=by have:=hp.length_eq;simpa using this
 unfold setAddHashed setAddHashedIn;refine Uu (Rj (Vf ho hd hf ?_));simp only[byScan_of hsc hb he,↓reduceIte];unfold setAddByScan;refine Rj (Rj (UV (Rj (wpAny_setScan_of hk ho hd hf he ?_))))
 cases c:List.findIdx? (λe=>knd.is k e.2) es.toList with
 | some j=>
   obtain⟨c1,c2,_⟩:=List.findIdx?_eq_some_iff_getElem.mp c;have hm:k∈ks:=hkm.mpr ⟨_,Wy c1,c2⟩;have z:=q Zd s.heap (Ub.refl a s.heap) (by rw[if_pos hm];exact⟨o,es,ep,t,ho,hx,hd,he,hp,hb,hf,hj⟩);exact Rn (Rn z)
 | none=>
   have hm:k∉ks:=λz=>by
    obtain⟨e,c1,c2⟩:=hkm.mp z;have:=List.findIdx?_eq_none_iff.mp c e c1;rw[c2]at this;cases this
   simp only[if_neg hm]at q;have y1:=layNew_perm t es (knd.hash k) x;have y2:=layNew_fits t es (knd.hash k) x;have y3:=zL hj es (knd.hash k) x;dsimp only;generalize layNew t es (knd.hash k) x=r at *;obtain⟨es1,t1,wd,gv⟩:=r;dsimp only at y1 y2 y3 ⊢;rw[Y9]at y1
   have z1:es1.size=es.size+1:=by have:=y1.length_eq;simpa using this
   have z2:a0g knd es1.toList:=(he.push hk hsc).perm y1
   have z3:(es1.toList.map λe=>pj e.2).Perm (ks++[k]):=(y1.map _).trans (by
    rw[U3,Ro,Ti,hpj x k hk]
    exact UT.append hp (V4 _))
   have fin:∀(b:Bool)(g:Bool->Sem Unit),(∀(b:Bool)(s₁:Rr)(Q':Unit->Rr->Prop),Q' () s₁->RG (RQ prog w) A (g b) Q' E s₁)->_:=λb g hg=>N8 (s:=s) (E:=E) (A:=A) (wd:=wd) (t1:=if b=Y_ then t1 else{ t1 with plain:=Zd }) hpj ho hx hd z2 z3 (by omega) (by cases b<;>first | exact y2 | exact Ss.fits_plain_off y2) (by cases b<;>first | exact y3 | exact Hy y3) hg (R:=λr s'=>RG (RQ prog w) A (match r with | some added=>pure added | none=>setAddHashedIn a x (knd.hash k) 99999) Q E s') λh' w1 w2=>Rn (q Y_ h' w1 w2)
   cases gv
   .refine Rj (Rn ?_)
    by_cases c2:t1.plain=Y_
    .rw[if_pos c2,hashByValue_scannable 8 hsc]
     exact Rj (Rn (fin _ _ (by intro b s₁ Q' hq;cases b<;>first | exact Rn hq | exact UV hq)))
    .rw[if_neg c2]
     exact Rj (Rn (fin Y_ _ (by intro b s₁ Q' hq;cases b<;>first | exact Rn hq | exact UV hq)))
   .refine Rj (UV ?_)
    by_cases c2:t1.plain=Y_
    .rw[if_pos c2,hashByValue_scannable 8 hsc]
     exact Rj (Rn (fin _ _ (by intro b s₁ Q' hq;cases b<;>first | exact Rn hq | exact UV hq)))
    .rw[if_neg c2]
     exact Rj (Rn (fin Y_ _ (by intro b s₁ Q' hq;cases b<;>first | exact Rn hq | exact UV hq)))
end
open PySem.Spec PyProof.Rows
section
variable{prog:Sx}{w:Th}{K:Type} [DecidableEq K]{knd:KeyKind prog w K}{pj:Rm->K}
noncomputable def ded(f:Nat->K):Nat->List K
 | 0=>[]
 | i+1=>if f i∈ded f i then ded f i else ded f i++[f i]
theorem uc(f:Nat->K):∀i,(ded f i).length<=i
 | 0=>Rx _
 | i+1=>by
   have:=uc f i;rw[ded];split
   .omega
   .rw[RJ,Uk];omega
theorem vd(f:Nat->K):∀i,(ded f i).Nodup
 | 0=>Xe
 | i+1=>by
   have:=vd f i;rw[ded];split
   .exact this
   .rename_i h
    refine List.nodup_append.mpr ⟨this,List.pairwise_singleton _ _,λa ha b hb=>?_⟩;rw[Sv]at hb;subst hb
    exact λz=>h (z▸ha)
theorem wz(f:Nat->K)(k:K):∀i,k∈ded f i↔∃j,j<i/\f j=k
 | 0=>by simp[ded]
 | i+1=>by
   have ih:=wz f k i;rw[ded]
   constructor
   .intro h
    have h':k∈ded f i\/k=f i:=by
     split at h
     .exact .inl h
     .simpa using h
    rcases h' with h' | rfl
    .obtain⟨j,h1,h2⟩:=ih.mp h';exact⟨j,by omega,h2⟩
    .exact⟨i,by omega,rfl⟩
   .rintro⟨j,h1,h2⟩
    by_cases e:j=i
    .subst e
     split
     .rename_i h;exact h2▸h
     .rw[Tf,Sv];exact .inr h2.symm
    .have:=ih.mpr ⟨j,by omega,h2⟩
     split
     .exact this
     .exact Uo _ this
variable{A:Tu}{R:a0e->Rr->Prop}{I:Addr}{fp wr:List Addr}{G:Array a0m->Array a0m->Prop}{n:Nat}{P:Nat->Rm->Prop}{St:Nat->Rr->Prop}
theorem zf(hpj:∀v k,knd.is k v=Y_->pj v=k)(W:WalksS prog w A.in1 I fp wr G n P St){S:Addr}(hS:S∉fp)(f:Nat->K)(hf:∀i v,P i v->knd.is (f i) v=Y_/\v.scannable=Y_)(hb:n+1<Ye)(led:Bool) :
 ∀(d i:Nat)(s:Rr),n-i=d->i<=n->St i s->SetL knd pj s.heap S led (ded f i)->(∀s',Moved (S::wr) G s s'->SetL knd pj s'.heap S led (ded f n)->R (.ok (.ret .none)) s')->Yc (RQ prog w) A (.builtin "set.update.loop" ⟨[.ref S,.ref I],[]⟩) R s:=by
 have hw:S∉wr:=λh=>hS (W.sub _ h)
 have up:∀{s s':Rr},Moved wr G s s'->Moved (S::wr) G s s':=λm=>⟨λb o z=>m.heap b o λy=>z (.tail _ y),m.gens,m.drawn,m.os,m.toks⟩
 intro d
 induction d with
 | zero=>
   intro i s hd hi st hl q
   obtain rfl:i=n:=by omega
   refine V3 PyProof.Rows.F.entry_set_update_loop ?_;rw[U4 PyProof.Rows.F.plain_set_update_loop _];unfold S8.«set.update.loop»;dsimp only;refine Rj (W.done s _ _ st λs' m=>?_);exact Rn (q s' (up m) (hl.kept λo=>m.heap S o hw))
 | succ d ih=>
   intro i s hd hi st hl q;refine V3 PyProof.Rows.F.entry_set_update_loop ?_;rw[U4 PyProof.Rows.F.plain_set_update_loop _];unfold S8.«set.update.loop»;dsimp only;refine Rj (W.item i s _ _ (by omega) st λv s' hP st' m=>?_);obtain⟨hk,hsc⟩:=hf i v hP;dsimp only;refine Rj (Uu ?_);unfold setAdd;refine Uu (Rj (knd.pyHash hk ?_))
   have hl':SetL knd pj s'.heap S led (ded f i):=hl.kept λo=>m.heap S o hw
   refine PK (s:={ s' with toks:=s'.toks+1 }) hpj hk hsc hl' (by have:=uc f i;omega) λb h' sb hl2=>?_
   refine Rn ⟨VF PyProof.Rows.F.plain_set_update_loop _,ih (i+1) _ (by omega) (by omega) (W.frame (i+1) s' _ _ st' (Zi _) λb hb o e=>?_) hl2 λs'' m2 hl3=>?_⟩
   .rw[sb.2 b λz=>hS (z▸hb)];exact e
   .refine q s'' (Moved.trans W.gtrans ((up m).then_heap (Zi _) λb o hb e=>?_) m2) hl3
    rw[sb.2 b λz=>hb (z▸Ru)];exact e
end
section
variable{prog:Sx}{w:Th}{K:Type} [DecidableEq K]{knd:KeyKind prog w K}{pj:Rm->K}{A:Tu}{E:Rm->Rr->Prop}{s:Rr}
noncomputable def byT(w:Th):Bool:=w.params.followText "set-order"
noncomputable def newS(w:Th):Obj:={ cls:=.type "set",dict:=Yt,data:=.set #[] 0 (.fresh 0 0 (!byT w)) }
def Lq(h:Rz):SetL knd pj (h.push (newS w)) h.objs.size (!byT w) [] :=
 ⟨newS w,#[],0,_,RD _ rfl,⟨rfl,rfl,rfl⟩,rfl,λe he=>by simp at he,V4 _,by decide,rfl,⟨rfl,List.Pairwise.nil,rfl⟩⟩
def Hg(a:Rm)(h:Q (.ref s.heap.objs.size) { s with heap:=s.heap.push (newS w) }):Yc (RQ prog w) A (.call (.builtin "set.__new__") ⟨[.type "set",a],[]⟩) (wants Q E) s:=by
 refine codeAny_of_tree ?_;have e:=PySem.F.newCall_set_1 a;show RG _ A.in1 (checkBuiltinCall "set.__new__" ⟨[.type "set",a],[]⟩ >>= λ_=>again (.builtin "set.__new__" ⟨[.type "set",a],[]⟩)) _ _ s;rw[e];refine Rj (Rn (Rn ⟨VF PySem.F.plain_set_new _,V3 PySem.F.entry_set_new ?_⟩));rw[U4 PySem.F.plain_set_new _];unfold S8.«set.__new__» S8.Frozenset.newClass;have hs:=sub_set_self;obtain⟨hp,g,d,tk,os⟩:=s;dsimp only
 wp_walk
 refine wpAny_askSetting (Rn ?_);simp only[newObj];refine Rj (wpAny_alloc (Rn (Rn ?_)));exact h
set_option maxHeartbeats 3200000 in
theorem set_list(hpj:∀v k,knd.is k v=Y_->pj v=k)(f:Nat->K)(hh:A.handled=Yt)(hl:s.heap.IsList l items)(hf:∀i v,items[i]?=Z_ v->knd.is (f i) v=Y_/\v.scannable=Y_)(hb:items.size+1<Ye)
 (q:∀(h':Rz)(tk:Nat),s.toks<=tk->SetL knd pj h' s.heap.objs.size (!byT w) (ded f items.size)->(∀b o,s.heap.get? b=Z_ o->h'.get? b=Z_ o)->Q (.ref s.heap.objs.size) { s with heap:=h',toks:=tk }) :
 RG (RQ prog w) A (call (.type "set") [.ref l]) Q E s:=by
 obtain⟨mc,ml,hmro⟩:=Vh.mro;have y1:=Vh.made;have y2:=Vh.sub;have y3:=Vh.notType;have y4:=Vh.canCreate;have y5:=PySem.F.typeCall_set_1 (.ref l);have hn:=Lq (knd:=knd) (pj:=pj) (w:=w) s.heap;refine wpAny_call (codeAny_of_tree ?_);show RG _ _ (callAny (.type "set") _) _ _ _;refine Rn ⟨Code.quiet_builtin _ (by decide +kernel),V3 PySem.F.entry_type_call ?_⟩;rw[Tu.under_plain (weight_type_call_type "set" [.ref l] []) rfl]
 repeat (any_goals (first | assumption | wp_step))
 refine Yb (Hg (.ref l) (E:=E) (Q:=λob s1=>ob=.ref s.heap.objs.size/\s1={ s with heap:=s.heap.push (newS w) }) ⟨rfl,rfl⟩) λr s1 hr=>?_
 cases r with
 | error e=>exact hr
 | ok fl=>
   cases fl with
   | ret ob=>
     obtain⟨rfl,rfl⟩:=hr
     have hT:Rr.TypeIs { s with heap:=s.heap.push (newS w) } (.ref s.heap.objs.size) "set":=⟨newS w,RD _ rfl,rfl⟩
     have y6:=Vh.init.lookup;have y7:=Vh.init.bind (.ref s.heap.objs.size)
     repeat (any_goals (first | assumption | wp_step))
     refine Yb (codeAny_call_builtin (R:=wants (λr s2=>r=.none/\∃h' tk,s2={ s with heap:=h',toks:=tk }/\s.toks<=tk/\SetL knd pj h' s.heap.objs.size (!byT w) (ded f items.size)/\(∀b o,s.heap.get? b=Z_ o->h'.get? b=Z_ o)) E) Vh.init.plain PySem.F.entry_set_init (check_set_init_1 hT ?_)) λr2 s2 hr2=>?_
     .obtain⟨ol,o1,o2,nl,o3⟩:=hl
      obtain⟨oc,od,dt,os⟩:=ol;simp only at o2 o3;subst o2;subst o3;have hS0:(s.heap.push (newS w)).get? s.heap.objs.size=Z_ (newS w):=RD _ rfl;have o4:(s.heap.push (newS w)).get? l=Z_ { cls:=.type "list",dict:=od,data:=.seq items nl,slots:=os }:=Rk _ o1;have z1:=PySem.F.sub_list_set;have z2:=PySem.F.sub_list_frozenset
      have z3:(YW "list"==YW "dict")=Zd:=by decide
      have hl1:(s.heap.push (newS w)).IsList l items:=⟨_,o4,rfl,nl,rfl⟩
      unfold S8.«set.__init__» noKeywords S8.Frozenset.updateFrom newS at *;generalize hPI:ZX=PI
      wp_walk
      subst hPI;refine Yp hl1 (Rj (wpAny_runValue ?_));have b1:l<s.heap.objs.size:=RB o1
      have b2:A.in1.in1.in1.handled=Yt:=by simp[hh]
      have b3:l≠(s.heap.push ({ cls:=.type "set",dict:=Yt,data:=.set #[] 0 (.fresh 0 0 (!byT w)) }:Obj)).objs.size:=by
       rw[Vs];exact RX (TV b1)
      refine zf hpj (Walks.list b2 _ l b3 items).toS (S:=s.heap.objs.size) ?_ f hf hb (!byT w) items.size 0 _ (by omega) (Uj _) ⟨⟨_,RD _ rfl,rfl,rfl⟩,hl1.push _⟩ (hn.kept λo e=>Rk _ e) λs' m hl'=>?_
      .rw[Vs]
       simp only[Rp,Sd,or_false,not_or];exact⟨RX (WF _),Vq b1⟩
      .obtain⟨h',g',d',t',o'⟩:=s'
       obtain⟨m1,m2,m3,m4,m5⟩:=m;have m2:g'=s.gens:=m2;have m3:d'=s.drawn:=m3;have m4:o'=s.os:=m4;subst m2;subst m3;subst m4;refine Rn (Rn ⟨rfl,h',t',rfl,m5,hl',λb o e=>?_⟩);have:=RB e;refine m1 b o ?_ (Rk _ (Rk _ e));rw[Vs];simp only[Rp,Sd,or_false,not_or];exact⟨RX this,RX (TV this)⟩
     .cases r2 with
      | error e=>exact hr2
      | ok fl2=>
        cases fl2 with
        | ret v=>
          obtain⟨rfl,h',tk,rfl,a1,a2,a3⟩:=hr2
          repeat (any_goals (first | assumption | wp_step))
          exact q h' tk a1 a2 a3
        | _=>exact hr2.elim
   | _=>exact hr.elim
end
def slot_sin:PySem.Slot "set_iterator" "__next__" "set_iterator.__next__":=by
 refine .of (owner:="set_iterator") (n:="__next__") ?_ ?_ ?_ ?_ ?_ ?_
 .rw[typeLookup_type,builtinLookup_eq_fast];kernel_rfl
 .decide +kernel
 .decide +kernel
 .decide +kernel
 .first | exact .inl (by decide +kernel) | exact .inr (by decide +kernel)
 .rw[isSubtype_type];kernel_rfl
def sr:PySem.Slot "set_iterator" "__iter__" "set_iterator.__iter__":=by
 refine .of (owner:="set_iterator") (n:="__iter__") ?_ ?_ ?_ ?_ ?_ ?_
 .rw[typeLookup_type,builtinLookup_eq_fast];kernel_rfl
 .decide +kernel
 .decide +kernel
 .decide +kernel
 .first | exact .inl (by decide +kernel) | exact .inr (by decide +kernel)
 .rw[isSubtype_type];kernel_rfl
def lO:entryFor table "set_iterator.__next__"=Z_ S8.«set_iterator.__next__»:=entryFor_of_tree (by kernel_rfl)
def rO:Manifest.owners.lookup (String.ofList ['r','o','t','a','r','e','t','i','_','t','e','s'].reverse)=Z_ Manifest.sig_set_iterator:=by kernel_rfl
def qw(a:Rm):a0c "set_iterator.__next__" ⟨[a],[]⟩:=by
 unfold a0c;rw[signature?_of (id:="set_iterator.__next__") (n:=['_','_','t','x','e','n','_','_']) (o:=['r','o','t','a','r','e','t','i','_','t','e','s']) (by kernel_rfl) rO]
 kernel_rfl
def Ai(a:Rm):a0c "set_iterator.__iter__" ⟨[a],[]⟩:=by
 unfold a0c;rw[signature?_of (id:="set_iterator.__iter__") (n:=['_','_','r','e','t','i','_','_']) (o:=['r','o','t','a','r','e','t','i','_','t','e','s']) (by kernel_rfl) rO]
 kernel_rfl
def zH:entryFor table "set.__iter__"=Z_ S8.«frozenset.__iter__»:=entryFor_alias (id':="frozenset.__iter__") (by kernel_rfl) rfl (by decide +kernel) (by kernel_rfl)
def wR:entryFor table "set_iterator.__iter__"=Z_ S8.«dict_keyiterator.__iter__»:=entryFor_alias (id':="dict_keyiterator.__iter__") (by kernel_rfl) rfl (by decide +kernel) (by kernel_rfl)
noncomputable def sit(f:Rm)(i:Nat)(a:Addr)(n ep:Nat):Obj:={ cls:=.type "set_iterator",data:=.fields #[f,Uy i,.ref a,Uy n,Uy ep] }
section
variable{prog:Sx}{w:Th}{A:Tu}{E:Rm->Rr->Prop}{s:Rr}{I a:Addr}{o:Obj}{es:Array (Int×Rm)}{ep:Nat}{t:Ss}
def di(h:s.heap.get? I=Z_ (sit f i a n ep)):s.TypeIs (.ref I) "set_iterator":=⟨_,h,rfl⟩
def vR(h:s.heap.get? I=Z_ (sit f i a n ep))(q:Q (.ref I) s):RG (RQ prog w) A (ZX (.ref I)) Q E s:=by
 refine wpAny_pyIter_slot (di h) sr (Ux sr (di h) wR ?_ (Ai _));exact Rn ⟨_,rfl,"set_iterator",_,di h,slot_sin.lookup,q⟩
def qZ(h:s.heap.get? I=Z_ (sit (.int slot tk) i a es.size ep))(ho:s.heap.get? a=Z_ o)(hd:o.data=.set es ep t)(hf:t.fits es.size=Y_)
 (q:RG (RQ prog w) A.in1 (setNext a slot.toNat i ep >>= λr=>match r with
  | some (x,next)=>(Zm (.ref I) 0 (Uy next) >>= λ_=>Zm (.ref I) 1 (Uy (i+1)) >>= λ_=>ret x)
  | none=>(Zm (.ref I) 2 .none >>= λ_=>ZZ (.type "StopIteration") [] >>= ZG))
  (λfin s'=>∃r,fin=.done (.ret r)/\Q (Z_ r) s') (λe s'=>RG (RQ prog w) A (YF e (.type "StopIteration")) (λb s2=>if b then Q none s2 else E e s2) E s') s):RG (RQ prog w) A (Xw (.ref I)) Q E s:=by
 unfold Xw;refine Rj (Ys (Va (name:=Str.ofString "__next__") (di h) slot_sin (Ux slot_sin (di h) lO ?_ (qw _))));unfold S8.«set_iterator.__next__»;refine Rj (Rn (Rj (wpAny_fieldsOf h rfl ?_)));show RG _ _ (Zf a >>= _) _ _ s;refine Rj ?_;unfold Zf;refine Rj (Vf ho hd hf (Rn ?_));dsimp only;rw[if_neg (by simp)];simp only[Vd]
 exact V6 (Q':=λfin s'=>∃r,fin=.done (.ret r)/\RG (RQ prog w) A (pure (Z_ r)) Q E s') (E':=λe s'=>RG (RQ prog w) A (YF e (.type "StopIteration") >>= λb=>if b then pure none else throw e) Q E s') q (λfin s' ⟨r,e,hr⟩=>⟨r,e,Rn hr⟩) λe s' he=>Rj (V6 he (λb s2 hb=>by
  cases b
  .exact Zw hb
  .exact Rn hb) λ_ _ z=>z)
def rC{T:Addr}{oT:Obj}{pl:Array Rm}{c i:Nat}{Q:Option Rm->Rr->Prop}(h:s.heap.get? I=Z_ (sit (.ref T) i a es.size ep))(ho:s.heap.get? a=Z_ o)(hd:o.data=.set es ep t)(hf:t.fits es.size=Y_)(hT:s.heap.get? T=Z_ oT)(hTd:oT.data=.seq pl c)
 (q:RG (RQ prog w) A.in1 (match pl[i]? with
  | some (.int place _)=>(setNextDrawn a place.toNat ep >>= λx=>Zm (.ref I) 1 (Uy (i+1)) >>= λ_=>ret x)
  | some _=>UW "internal:set_iterator"
  | none=>(Zm (.ref I) 0 (Uy 0) >>= λ_=>Zm (.ref I) 2 .none >>= λ_=>ZZ (.type "StopIteration") [] >>= ZG))
  (λfin s'=>∃r,fin=.done (.ret r)/\Q (Z_ r) s') (λe s'=>RG (RQ prog w) A (YF e (.type "StopIteration")) (λb s2=>if b then Q none s2 else E e s2) E s') s):RG (RQ prog w) A (Xw (.ref I)) Q E s:=by
 unfold Xw;refine Rj (Ys (Va (name:=Str.ofString "__next__") (di h) slot_sin (Ux slot_sin (di h) lO ?_ (qw _))));unfold S8.«set_iterator.__next__»;refine Rj (Rn (Rj (wpAny_fieldsOf h rfl ?_)));show RG _ _ (Zf a >>= _) _ _ s;refine Rj ?_;unfold Zf;refine Rj (Vf ho hd hf (Rn ?_));dsimp only;rw[if_neg (by simp)];simp only[Vd];refine Rj (V1 hT hTd ?_)
 exact V6 (Q':=λfin s'=>∃r,fin=.done (.ret r)/\RG (RQ prog w) A (pure (Z_ r)) Q E s') (E':=λe s'=>RG (RQ prog w) A (YF e (.type "StopIteration") >>= λb=>if b then pure none else throw e) Q E s') q (λfin s' ⟨r,e,hr⟩=>⟨r,e,Rn hr⟩) λe s' he=>Rj (V6 he (λb s2 hb=>by
  cases b
  .exact Zw hb
  .exact Rn hb) λ_ _ z=>z)
def uJ{Q:Option Rm->Rr->Prop}{R:Fin->Rr->Prop}(hh:A.handled=Yt)(q:∀h',(∀b o,s.heap.get? b=Z_ o->h'.get? b=Z_ o)->Q none { s with heap:=h' }) :
 RG (RQ prog w) A.in1 (ZZ (.type "StopIteration") [] >>= ZG) R (λe s'=>RG (RQ prog w) A (YF e (.type "StopIteration")) (λb s2=>if b then Q none s2 else E e s2) E s') s:=by
 refine Rj ?_;simp only[ZZ,newTuple];refine Rj (U9 ?_ (by size_fits));refine Rj (m:=Z2 _ _) (wpAny_of_eq (a:=Wq) (by first | rfl | (simp only[Z2];rfl)) ?_);refine U9 ?_ (by size_fits);simp only[ZG];refine Rj (wpAny_handled ?_);rw[show A.in1.handled=Yt from hh];refine Rj (Rn (Zw ?_));refine wpAny_isInstance (T:="StopIteration") (b:=Y_) ⟨_,RD _ rfl,rfl⟩ isSubtype_stop ?_
 exact q _ λb o e=>Rk _ (Rk _ e)
end
theorem fP:∀(l:List α)(i:Nat)(h:i<l.length),(l[i]::l.eraseIdx i).Perm l
 | x::l,0,h=>V4 _
 | x::l,i+1,h=>by
   have:=fP l i (by simpa using h);exact(UT.swap _ _ _).trans (UT.cons _ this)
theorem uC(nx:Nat->Nat):∀(n k:Nat)(l:List α)(out:Array α),l.length<=n->(Z4.go nx n k l out).toList.Perm (out.toList++l)
 | 0,k,l,out,h=>by
   have:l=[]:=UG (by omega);subst this;rw[Z4.go,Ur]
 | n+1,k,l,out,h=>by
   rw[Z4.go]
   cases l with
   | nil=>simp
   | cons x l=>
     have hlt:nx k % (x::l).length<(x::l).length:=Nat.mod_lt _ (by simp);generalize nx k % (x::l).length=j at hlt;rw[RC hlt];dsimp only;refine(uC nx n (k+1) _ _ (by rw[List.length_eraseIdx_of_lt hlt];simp at h ⊢;omega)).trans ?_;rw[Y9,Um];exact UT.append_left _ (fP _ _ hlt)
def xJ(nx:Nat->Nat)(xs:Array α):(Z4 nx xs).toList.Perm xs.toList:=by
 have:=uC nx xs.size 0 xs.toList #[] (by simp);unfold Z4;simpa using this
section
variable{prog:Sx}{w:Th}{A:Tu}{E:Rm->Rr->Prop}{s:Rr}
def xO(hn:n≠0)(q:∀i,i<n->Q i { s with drawn:=s.drawn.bump src }):RG (RQ prog w) A (choose src n) Q E s:=fun Γ p hΓ=>by
 unfold choose;rw[Sem.wp_choose];exact⟨hn,by rw[Sem.wp_pure];exact q _ (Nat.mod_lt _ (by omega))⟩
theorem ul:∀(n:Nat)(xs:List α)(s:Rr)(Q:List α->Rr->Prop),xs.length<=n->(∀l d,l.Perm xs->Q l { s with drawn:=d })->RG (RQ prog w) A (drawOrder n xs) Q E s
 | 0,xs,s,Q,h,q=>by
   have:xs=[]:=UG (by omega);subst this;exact Rn (q [] s.drawn (V4 _))
 | n+1,[],s,Q,h,q=>Rn (q [] s.drawn (V4 _))
 | n+1,x::xs,s,Q,h,q=>by
   unfold drawOrder;refine Rj (xO (by simp) λi hi=>?_);rw[RC hi];dsimp only;refine Rj (ul n _ _ _ (by rw[List.length_eraseIdx_of_lt hi];simp at h ⊢;omega) λl d hl=>?_);exact Rn (q _ d ((UT.cons _ hl).trans (fP _ _ hi)))
def j5(q:Q (byT w) s):RG (RQ prog w) A setsByText Q E s:=by
 unfold setsByText;exact Rj (wpAny_askSetting (Rn q))
end
section
variable{prog:Sx}{w:Th}{A:Tu}{E:Rm->Rr->Prop}{s:Rr}{I a:Addr}{o:Obj}{es:Array (Int×Rm)}{ep:Nat}{t:Ss}
noncomputable def ordI(w:Th)(a:Addr)(ep:Nat)(es:Array (Int×Rm)):Array (Int×Rm):=if byT w then Z4 (w.params.setOrder a ep) es else es
noncomputable def slI(w:Th)(t:Ss)(i:Nat):Nat:=if byT w then 0 else if i=0 then 0 else t.place.getD (i-1) 0+1
def nj:(ordI w a ep es).toList.Perm es.toList:=by
 unfold ordI;split
 .exact xJ _ _
 .exact V4 _
def iJ:(ordI w a ep es).size=es.size:=by
 have:=(nj (w:=w) (a:=a) (ep:=ep) (es:=es)).length_eq;simpa using this
theorem za(hj:Tj led t)(hb:byT w=Zd)(hi:i<=t.place.size):Tq t.place (slI w t i)=i:=by
 unfold slI;rw[hb];have hb:=below_at hj.up
 have mono:∀x y,x<y->y<t.place.size->t.place.getD x 0<t.place.getD y 0:=λx y hxy hy=>by
  have:=WK.mp hj.up x y (by simpa using(by omega:x<t.place.size)) (by simpa using hy) hxy;simp only[VL]at this;rw[SQ,SQ,RZ (by omega),RZ hy];exact this
 by_cases h0:i=0
 .subst h0
  simp only[Rv,if_false,if_true];obtain⟨h1,h2,h3⟩:=hb 0;rcases Y6 (Tq t.place 0)with h | h
  .exact h
  .exact absurd (h2 0 h) (Nat.not_lt_zero _)
 .simp only[Rv,if_false,h0]
  obtain⟨h1,h2,h3⟩:=hb (t.place.getD (i-1) 0+1);generalize Tq t.place (t.place.getD (i-1) 0+1)=b at *
  have g1:i<=b:=by
   apply Classical.byContradiction
   intro z;have:=h3 (i-1) (by omega) (by omega);omega
  rcases Nat.lt_or_eq_of_le g1 with g | g
  .exfalso
   have:=h2 i g;have:=mono (i-1) i (by omega) (by omega);omega
  .exact g.symm
theorem CG(ho:s.heap.get? a=Z_ o)(hd:o.data=.set es ep t)(hf:t.fits es.size=Y_)(hj:Tj (!byT w) t)(hdr:byT w=Zd->(!t.plain&&decide (es.size>1))=Zd)(hi:i<=es.size)
 (q:Q ((ordI w a ep es)[i]?.map λe=>(e.2,slI w t (i+1))) s):RG (RQ prog w) A (setNext a (slI w t i) i ep) Q E s:=by
 have hps:t.place.size=es.size:=by
  simp only[Ss.fits,RT,beq_iff_eq]at hf;exact hf.1
 unfold setNext;refine Rj (Vf ho hd hf (Rj (j5 ?_)))
 cases hb:byT w with
 | true=>
   unfold ordI slI at *;rw[hb]at q;simp only[if_true]at q ⊢;rw[if_neg (by simp)];refine Rj ?_;unfold setWalk;refine Rj (Vf ho hd hf (Rj (j5 ?_)));rw[hb];exact Rj (wpAny_askSetting (Rn (Rn q)))
 | false=>
   have hb2:=za hj hb (i:=i) (by omega);rw[hb]at hj;have hdr:=hdr hb;unfold ordI at q;rw[hb]at q;simp only[Rv,if_false]at q ⊢;show RG _ _ (if(!t.plain&&decide (es.size>1))=Y_ then _ else _) _ _ _;rw[hdr];simp only[Rv,if_false];refine Rj ?_;show RG _ _ (if(!t.led&&!es.isEmpty)=Y_ then _ else pure ()) _ _ _;rw[hj.led];simp only[YD,Yg,Bool.false_and,Rv,if_false];refine Rn ?_;rw[hb2]
   by_cases hlt:i<es.size
   .rw[RZ hlt,RZ (by omega:i<t.place.size)]
    rw[RZ hlt]at q;refine Rn ?_
    have:slI w t (i+1)=t.place[i]'(by omega)+1:=by
     unfold slI;rw[hb];simp only[Rv,if_false,Nat.add_sub_cancel,Nat.succ_ne_zero,Nat.add_one_ne_zero];rw[SQ,RZ (by omega:i<t.place.size)];rfl
    rw[this]at q;exact q
   .rw[Vw (by omega)]at q ⊢
    exact Rn q
theorem Qz(hh:A.handled=Yt)(hne:a≠I)(hx:o.data=.set es ep t)(hf:t.fits es.size=Y_)(hj:Tj (!byT w) t)(hdr:byT w=Zd->(!t.plain&&decide (es.size>1))=Zd) :
 WalksS prog w A I [I,a] [I] (λx y=>y=x) es.size (λi v=>∃e,(ordI w a ep es)[i]?=Z_ e/\v=e.2) (λi s=>(∃tk,s.heap.get? I=Z_ (sit (.int (slI w t i) tk) i a es.size ep))/\s.heap.get? a=Z_ o)where
 sub:=λb hb=>by simp at hb;simp[hb]
 grefl:=λ_=>rfl
 gtrans:=λa b c h1 h2=>h2.trans h1
 frame:=λi s h' tk st _ hk=>⟨st.1.imp λ_ z=>hk I (by simp) _ z,hk a (by simp) _ st.2⟩
 item:=λi s Q E hi st q=>by
  obtain⟨⟨tk,h1⟩,h2⟩:=st;have hsz:=iJ (w:=w) (a:=a) (ep:=ep) (es:=es);refine qZ h1 h2 hx hf (Rj ?_);rw[Vd];refine CG h2 hx hf hj hdr (by omega) ?_;rw[RZ (by omega)];refine Rj (Wc h1 rfl (by simp) ?_)
  have g1:(s.heap.update I (Wi (·.setIfInBounds 0 (Uy (slI w t (i+1):Nat))))).get? I=Z_ (sit (.int (slI w t (i+1):Nat) 0) i a es.size ep):=by
   refine(TJ _ h1 (Wl (Wf rfl _))).trans ?_
   rfl
  refine Rj (Wc g1 rfl (by simp) (Rn ⟨_,rfl,?_⟩))
  have g2:((s.heap.update I (Wi (·.setIfInBounds 0 (Uy (slI w t (i+1):Nat))))).update I (Wi (·.setIfInBounds 1 (Uy ((i:Int)+1))))).get? I=Z_ (sit (.int (slI w t (i+1):Nat) 0) (i+1) a es.size ep):=by
   refine(TJ _ g1 (Wl (Wf rfl _))).trans ?_
   rfl
  have kp:∀b o,b≠I->s.heap.get? b=Z_ o->((s.heap.update I (Wi (·.setIfInBounds 0 (Uy (slI w t (i+1):Nat))))).update I (Wi (·.setIfInBounds 1 (Uy ((i:Int)+1))))).get? b=Z_ o:=λb o hb e=>by
   rw[Uw _ _ _ _ hb,Uw _ _ _ _ hb];exact e
  exact q _ _ ⟨_,RZ (by omega),rfl⟩ ⟨⟨0,g2⟩,kp a o hne h2⟩ ⟨λb o hb e=>kp b o (λz=>hb (by simp[z])) e,rfl,rfl,rfl,Rx _⟩
 done:=λs Q E st q=>by
  obtain⟨⟨tk,h1⟩,h2⟩:=st;have hsz:=iJ (w:=w) (a:=a) (ep:=ep) (es:=es);refine qZ h1 h2 hx hf (Rj ?_);rw[Vd];refine CG h2 hx hf hj hdr (Rx _) ?_;rw[Vw (by omega)];refine Rj (Wc h1 rfl (by simp) ?_)
  refine uJ hh λh' hk=>q _ ⟨λb o hb e=>hk b o ?_,rfl,rfl,rfl,Rx _⟩
  rw[Uw _ _ _ _ (λz=>hb (by simp[z]))];exact e
 self:=λi s Q E st q=>by
  obtain⟨⟨tk,h1⟩,h2⟩:=st;exact vR h1 q
end
section
variable{prog:Sx}{w:Th}{A:Tu}{E:Rm->Rr->Prop}{s:Rr}{I a T:Addr}{o oT:Obj}{es:Array (Int×Rm)}{ep:Nat}{t:Ss}
theorem Ql(hh:A.handled=Yt)(hne:a≠I)(hTI:T≠I)(hx:o.data=.set es ep t)(hf:t.fits es.size=Y_){p:List Nat}{c:Nat}(hp:p.Perm (TQ es.size))(hT:oT.data=.seq (p.map λ(i:Nat)=>Uy i).toArray c) :
 WalksS prog w A I [I,a,T] [I] (λx y=>y=x) es.size (λi v=>∃j e,p[i]?=Z_ j/\es[j]?=Z_ e/\v=e.2) (λi s=>s.heap.get? I=Z_ (sit (.ref T) i a es.size ep)/\s.heap.get? a=Z_ o/\s.heap.get? T=Z_ oT)where
 sub:=λb hb=>by simp at hb;simp[hb]
 grefl:=λ_=>rfl
 gtrans:=λa b c h1 h2=>h2.trans h1
 frame:=λi s h' tk st _ hk=>⟨hk I (by simp) _ st.1,hk a (by simp) _ st.2.1,hk T (by simp) _ st.2.2⟩
 item:=λi s Q E hi st q=>by
  obtain⟨h1,h2,h3⟩:=st
  have hl:p.length=es.size:=by have:=hp.length_eq;simpa using this
  have hi':i<p.length:=by omega
  have hj:p[i]<es.size:=XX.mp (hp.mem_iff.mp (Wy hi'));refine rC h1 h2 hx hf h3 hT ?_;rw[Xn,T8,RC hi'];simp only[Te,Uy];refine Rj ?_;unfold setNextDrawn;refine Rj (Vf h2 hx hf ?_);dsimp only;rw[if_neg (by simp),Vd,RZ hj];refine Rn (Rj (Wc h1 rfl (by simp) (Rn ⟨_,rfl,?_⟩)))
  have g2:(s.heap.update I (Wi (·.setIfInBounds 1 (.int ((i:Int)+1) 0)))).get? I=Z_ (sit (.ref T) (i+1) a es.size ep):=by
   refine(TJ _ h1 (Wl (Wf rfl _))).trans ?_
   rfl
  have kp:∀b o,b≠I->s.heap.get? b=Z_ o->(s.heap.update I (Wi (·.setIfInBounds 1 (.int ((i:Int)+1) 0)))).get? b=Z_ o:=λb o hb e=>by
   rw[Uw _ _ _ _ hb];exact e
  exact q _ _ ⟨_,_,RC hi',RZ hj,rfl⟩ ⟨g2,kp a o hne h2,kp T oT hTI h3⟩ ⟨λb o hb e=>kp b o (λz=>hb (by simp[z])) e,rfl,rfl,rfl,Rx _⟩
 done:=λs Q E st q=>by
  obtain⟨h1,h2,h3⟩:=st
  have hl:p.length=es.size:=by have:=hp.length_eq;simpa using this
  refine rC h1 h2 hx hf h3 hT ?_;rw[Xn,T8,Xo (by omega)];simp only[Option.map_none];refine Rj (Wc h1 rfl (by simp) ?_)
  have g1:(s.heap.update I (Wi (·.setIfInBounds 0 (Uy 0)))).get? I=Z_ (sit (Uy 0) es.size a es.size ep):=by
   refine(TJ _ h1 (Wl (Wf rfl _))).trans ?_
   rfl
  refine Rj (Wc g1 rfl (by simp) ?_)
  refine uJ hh λh' hk=>q _ ⟨λb o hb e=>hk b o ?_,rfl,rfl,rfl,Rx _⟩
  rw[Uw _ _ _ _ (λz=>hb (by simp[z])),Uw _ _ _ _ (λz=>hb (by simp[z]))];exact e
 self:=λi s Q E st q=>vR st.1 q
def BL(ho:s.heap.get? a=Z_ o)(hx:o.ExactSet)(hd:o.data=.set es ep t)(hf:t.fits es.size=Y_)(hb:es.size<Ye)
 (q1:(byT w=Zd->(!t.plain&&decide (es.size>1))=Zd)->Q (.ref s.heap.objs.size) { s with heap:=s.heap.push (sit (Uy 0) 0 a es.size ep) })
 (q2:∀(p:List Nat) d,p.Perm (TQ es.size)->Q (.ref (s.heap.push { cls:=.type "tuple",data:=.seq (p.map λ(i:Nat)=>Uy i).toArray }).objs.size) { s with heap:=(s.heap.push { cls:=.type "tuple",data:=.seq (p.map λ(i:Nat)=>Uy i).toArray }).push (sit (.ref s.heap.objs.size) 0 a es.size ep),drawn:=d }) :
 RG (RQ prog w) A (ZX (.ref a)) Q E s:=by
 have hT:s.TypeIs (.ref a) "set":=⟨o,ho,hx.1⟩
 refine wpAny_pyIter_slot hT PySem.F.slot_set_iter (Ux PySem.F.slot_set_iter hT zH ?_ (PySem.F.args_set_iter_1 _));unfold S8.«frozenset.__iter__»;refine Rj (m:=S8.Frozenset.slot0 _ _) (Rj (Rn (Rn ?_)));refine Rj (m:=S8.Frozenset.sizeOf a) ?_;unfold S8.Frozenset.sizeOf Zf;refine Rj (Rj (Vf ho hd hf (Rn (Rn ?_))));refine Rj ?_;unfold setDrawn;refine Rj (Vf ho hd hf (Rj (j5 (Rn ?_))))
 have fin:∀(f:Rm)(s1:Rr),s1.heap.get? a=Z_ o->Q (.ref s1.heap.objs.size) { s1 with heap:=s1.heap.push (sit f 0 a es.size ep) }->RG (RQ prog w) A.in1 (setEpoch a >>= λe=>newFields "set_iterator" [f,Uy 0,.ref a,Uy es.size,Uy e] >>= λv=>ret v) (λfin s'=>∃r,fin=.done (.ret r)/\∃T id,s'.TypeIs r T/\typeLookup (.type T) "__next__"=pure (Z_ id)/\Q r s') E s1:=λf s1 h1 q=>by
  refine Rj ?_;unfold setEpoch;refine Rj (Vf h1 hd hf (Rn (Rj ?_)));unfold newFields;refine U9 ?_;exact Rn ⟨_,rfl,"set_iterator",_,⟨_,RD _ rfl,rfl⟩,slot_sin.lookup,q⟩
 dsimp only;show RG _ _ (if(!byT w&&(!t.plain&&decide (es.size>1)))=Y_ then _ else _) _ _ _
 by_cases c:(!byT w&&(!t.plain&&decide (es.size>1)))=Y_
 .rw[if_pos c]
  refine Rj (ul es.size _ _ _ (by simp) λl d hl=>?_)
  have hz:l.length<=sizeLine:=by
   have:=hl.length_eq;rw[Yd]at this;rw[this];exact Yq hb
  refine Rj (wpAny_newTuple ?_ (by simpa using hz));exact fin (.ref s.heap.objs.size) _ (Rk _ ho) (q2 l d hl)
 .rw[if_neg c]
  refine Rj (Rn ?_);refine fin (Uy 0) s ho (q1 λz=>?_);rw[z]at c;simpa using c
def qj(hT:s.TypeIs (.ref a) "set")(q:Q Zd s):RG (RQ prog w) A (S8.List.listLengthHint (.ref a)) Q E s:=by
 unfold S8.List.listLengthHint;refine Rj (wpAny_specialOf hT (PySem.F.slot_set_len.lookup) ?_)
 have e:splitId "set.__len__"=Z_ ("set","__len__"):=by decide +kernel
 dsimp only;rw[e];dsimp only;refine Rj (wpAny_isInstance hT sub_set_self ?_);rw[if_neg (by decide)]
 refine wpAny_ite_split (λ_=>Rj (wpAny_typeOf hT (Rn q))) λz=>absurd (by decide +kernel) z
section
variable{K:Type} [DecidableEq K]{knd:KeyKind prog w K}{pj:Rm->K}
noncomputable def yI{L:Addr}{fp wr:List Addr}{n:Nat}{P:Nat->Rm->Prop}{St:Nat->Rr->Prop}{Q:List Rm->Rr->Prop}(W:WalksS prog w A.in1 I fp wr (λx y=>y=x) n P St)(hn:n<=sizeLine)(hL:L∉fp)(st:St 0 s)(hl:s.heap.get? L=Z_ { cls:=.type "list",data:=.seq #[] 0 }){hT:s.TypeIs (.ref a) "set"}
 (q:∀h' tk vs,s.toks<=tk->(∀b o,b∉L::wr->s.heap.get? b=Z_ o->h'.get? b=Z_ o)->vs.length=n->(∀j v,vs[j]?=Z_ v->P j v)->Q vs { s with heap:=h',toks:=tk })(b:Bool) :
 RG (RQ prog w) A.in1 (if(Zd||b)=Y_ then(rule "list.extend.makes-room" >>= λ_=>S8.List.listTouch (.ref L) >>= λ_=>again (.builtin "list.extend.loop" ⟨[.ref L,.ref I,.ref L],[]⟩))else again (.builtin "list.extend.loop" ⟨[.ref L,.ref I,.ref L],[]⟩))
  (λfin s'=>match fin with
   | .done f=>(match(Z7 f:a0e)with
     | .ok (.ret v)=>RG (RQ prog w) A (match v with | .ref a=>(load a >>= λob=>match ob.data with | .seq xs _=>pure xs.toList | _=>UW "internal:collect") | _=>UW "internal:collect") Q E s'
     | .ok _=>False
     | .error e=>E e s')
   | .again c'=>c'.quiet=Y_/\Yc (RQ prog w) A c' (λr s'=>match r with
     | .ok (.ret v)=>RG (RQ prog w) A (match v with | .ref a=>(load a >>= λob=>match ob.data with | .seq xs _=>pure xs.toList | _=>UW "internal:collect") | _=>UW "internal:collect") Q E s'
     | .ok _=>False
     | .error e=>E e s') s') (λe s'=>match(Except.error e:a0e)with
     | .ok (.ret v)=>RG (RQ prog w) A (match v with | .ref a=>(load a >>= λob=>match ob.data with | .seq xs _=>pure xs.toList | _=>UW "internal:collect") | _=>UW "internal:collect") Q E s'
     | .ok _=>False
     | .error e=>E e s') s:=by
 have key:∀(h1:Rz)(c:Nat),(∀b o,b≠L->s.heap.get? b=Z_ o->h1.get? b=Z_ o)->h1.get? L=Z_ { cls:=.type "list",data:=.seq #[] c }->Yc (RQ prog w) A (.builtin "list.extend.loop" ⟨[.ref L,.ref I,.ref L],[]⟩) (λr s'=>match r with
  | .ok (.ret v)=>RG (RQ prog w) A (match v with | .ref a=>(load a >>= λob=>match ob.data with | .seq xs _=>pure xs.toList | _=>UW "internal:collect") | _=>UW "internal:collect") Q E s'
  | .ok _=>False
  | .error e=>E e s') { s with heap:=h1 }:=λh1 c hk hl1=>by
  refine codeAny_extend_loopS W hn L hL (.ref L) n 0 _ #[] c rfl (Uj _) (W.frame 0 s h1 s.toks st (Rx _) λb hb o e=>hk b o (λz=>hL (z▸hb)) e) hl1 (ItemsOf.nil _) λs' acc c' m hl' hi=>?_
  refine Rj (wpAny_load hl' (Rn ?_));obtain⟨h',g',d',t',o'⟩:=s';obtain⟨m1,m2,m3,m4,m5⟩:=m;have m2:g'=s.gens:=m2;have m3:d'=s.drawn:=m3;have m4:o'=s.os:=m4;subst m2;subst m3;subst m4
  refine q h' t' acc.toList m5 (λb o hb e=>m1 b o hb (hk b o (λz=>hb (by simp[z])) e)) (by simpa using hi.1) λj v hv=>hi.2 j v (by simpa using hv)
 cases b with
 | false=>exact Rn ⟨VF PySem.F.plain_extend_loop _,key s.heap 0 (λ_ _ _ e=>e) hl⟩
 | true=>
   simp only[YZ,if_true];refine Rj (UV (Rj ?_));show RG _ _ (ZL L (·.push .none) >>= λ_=>ZL L (·.pop)) _ _ _;have g1:=TJ (Vz (·.push Wq)) hl rfl;have g2:=TJ (Vz (·.pop)) g1 rfl;refine Rj (Y5 hl rfl (Y5 (hz:=by seq_fits) g1 rfl (Rn ⟨VF PySem.F.plain_extend_loop _,key _ _ (λb o hb e=>?_) g2⟩)));rw[Uw _ _ _ _ hb,Uw _ _ _ _ hb];exact e
end
end
theorem xm{α β:Type}{vs:List β}{l:List α}{f:α->β}(hl:vs.length=l.length)(h:∀(j:Nat) v,vs[j]?=Z_ v->∃e,l[j]?=Z_ e/\v=f e):vs=l.map f:=by
 apply List.ext_getElem?
 intro j
 by_cases hj:j<vs.length
 .obtain⟨e,h1,h2⟩:=h j vs[j] (RC hj)
  rw[RC hj,T8,h1,h2];rfl
 .rw[Xo (by omega),Xo (by rw[Rq];omega)]
section
variable{prog:Sx}{w:Th}{A:Tu}{E:Rm->Rr->Prop}{s:Rr}{a:Addr}{K:Type} [DecidableEq K]{knd:KeyKind prog w K}{pj:Rm->K}
theorem iB{ks:List K}(hpj:∀v k,knd.is k v=Y_->pj v=k)(hh:A.handled=Yt)(S:SetL knd pj s.heap a (!byT w) ks){Q:List Rm->Rr->Prop}
 (q:∀h' d' tk vs,s.toks<=tk->(∀b o,s.heap.get? b=Z_ o->h'.get? b=Z_ o)->(vs.map pj).Perm ks->(∀v∈vs,knd.is (pj v) v=Y_)->Q vs { s with heap:=h',drawn:=d',toks:=tk }):RG (RQ prog w) A (a0b (.ref a)) Q E s:=by
 obtain⟨o,es,ep,t,ho,hx,hd,he,hp,hb,hf,hj⟩:=S;have hn:=Yq hb;have hlt:a<s.heap.objs.size:=RB ho
 have hend:∀(l:List (Int×Rm)),l.Perm es.toList->((l.map λe=>e.2).map pj).Perm ks/\∀v∈l.map (λe=>e.2),knd.is (pj v) v=Y_:=λl hl=>by
  refine⟨?_,λv hv=>?_⟩
  .rw[Sg];exact(hl.map _).trans hp
  .obtain⟨e,h1,rfl⟩:=Sw.mp hv
   obtain⟨⟨k,h2,_⟩,_⟩:=he e (hl.mem_iff.mp h1);exact(hpj _ _ h2)▸h2
 unfold a0b;refine Rj (wpAny_runValue (V3 PySem.F.entry_proto_collect ?_));rw[U4 PySem.F.plain_proto_collect _];show RG _ A.in1 (newList [] >>= λacc=>again (.builtin "list.__iadd__" ⟨[acc,.ref a],[]⟩)) _ _ s;refine Rj (U9 ?_);refine Rn ⟨VF WW _,V3 PySem.F.entry_list_iadd ?_⟩;rw[U4 WW _];show RG _ A.in1 (S8.List.listExtendWith (.ref s.heap.objs.size) (.ref a) (.ref s.heap.objs.size)) _ _ _;have hl0:(s.heap.push { cls:=.type "list",data:=.seq ([]:List Rm).toArray }).get? s.heap.objs.size=Z_ { cls:=.type "list",data:=.seq #[] 0 }:=RD _ rfl;have ha0:=Rk { cls:=.type "list",data:=.seq ([]:List Rm).toArray } ho
 have hkp:∀b o',s.heap.get? b=Z_ o'->(s.heap.push { cls:=.type "list",data:=.seq ([]:List Rm).toArray }).get? b=Z_ o':=λb o' e=>Rk _ e
 have hsz:(s.heap.push { cls:=.type "list",data:=.seq ([]:List Rm).toArray }).objs.size=s.heap.objs.size+1:=Vs _ _;generalize s.heap.push { cls:=.type "list",data:=.seq ([]:List Rm).toArray }=h1 at *
 have hT:∀h2:Rz,h2.get? a=Z_ o->∀d tk,Rr.TypeIs ⟨h2,s.gens,d,tk,s.os⟩ (.ref a) "set":=λh2 e d tk=>⟨o,e,hx.1⟩
 unfold S8.List.listExtendWith;refine Rj (wpAny_typeOf (T:="set") (hT h1 ha0 _ _) ?_)
 have c1:S8.List.listSameRef (.ref s.heap.objs.size) (.ref a)=Zd:=by simp[S8.List.listSameRef,Vq hlt]
 rw[c1];rw[if_neg (by decide)];refine Rj (BL (s:=⟨h1,s.gens,s.drawn,s.toks,s.os⟩) ha0 hx hd hf hb (λhdr=>?_) λp d hp'=>?_)
 .refine Rj (Uu (qj (hT _ (Rk _ ha0) _ _) ?_))
  have hne:a≠h1.objs.size:=by rw[hsz];exact RX (TV hlt)
  refine yI (s:=⟨h1.push (sit (Uy 0) 0 a es.size ep),s.gens,s.drawn,s.toks,s.os⟩) (hT:=hT _ (Rk _ ha0) _ _) (Qz (I:=h1.objs.size) (o:=o) hh hne hd hf hj hdr) hn (L:=s.heap.objs.size) ?_ ⟨⟨0,?_⟩,Rk _ ha0⟩ (Rk _ hl0) (λh' tk vs htk hk hl hv=>?_) _
  .rw[hsz]
   simp only[Rp,Sd,or_false,not_or];exact⟨RX (WF _),Vq hlt⟩
  .refine(RD _ rfl).trans ?_
   have:slI w t 0=0:=by unfold slI;split<;>rfl
   rw[this];rfl
  .have ev:vs=(ordI w a ep es).toList.map λe=>e.2:=xm (by rw[hl];have:=iJ (w:=w) (a:=a) (ep:=ep) (es:=es);simpa using this.symm) λj v hjv=>by
    obtain⟨e,h2,h3⟩:=hv j v hjv;exact⟨e,by simpa using h2,h3⟩
   subst ev;obtain⟨e1,e2⟩:=hend _ (nj (w:=w) (a:=a) (ep:=ep) (es:=es));refine q h' s.drawn tk _ htk (λb o' e=>hk b o' ?_ (Rk _ (hkp b o' e))) e1 e2;have:=RB e;rw[hsz];simp only[Rp,Sd,or_false,not_or];exact⟨RX this,RX (TV this)⟩
 .refine Rj (Uu (qj (hT _ (Rk _ (Rk _ ha0)) _ _) ?_))
  have hs2:=Vs h1 ({ cls:=.type "tuple",data:=.seq (p.map λ(i:Nat)=>Uy i).toArray }:Obj)
  have hne:a≠(h1.push ({ cls:=.type "tuple",data:=.seq (p.map λ(i:Nat)=>Uy i).toArray }:Obj)).objs.size:=by rw[hs2,hsz];exact RX (TV (TV hlt))
  have hT0:(h1.push ({ cls:=.type "tuple",data:=.seq (p.map λ(i:Nat)=>Uy i).toArray }:Obj)).get? h1.objs.size=Z_ _:=RD _ rfl
  have hk2:∀b o',h1.get? b=Z_ o'->(h1.push ({ cls:=.type "tuple",data:=.seq (p.map λ(i:Nat)=>Uy i).toArray }:Obj)).get? b=Z_ o':=λb o' e=>Rk _ e
  have hne2:h1.objs.size≠(h1.push ({ cls:=.type "tuple",data:=.seq (p.map λ(i:Nat)=>Uy i).toArray }:Obj)).objs.size:=by rw[hs2];exact RX (WF _)
  generalize h1.push ({ cls:=.type "tuple",data:=.seq (p.map λ(i:Nat)=>Uy i).toArray }:Obj)=h2 at *;refine yI (s:=⟨h2.push (sit (.ref h1.objs.size) 0 a es.size ep),s.gens,d,s.toks,s.os⟩) (hT:=hT _ (Rk _ (hk2 _ _ ha0)) _ _) (Ql (prog:=prog) (w:=w) (A:=A.in1) (I:=h2.objs.size) (T:=h1.objs.size) (o:=o) (oT:={ cls:=.type "tuple",data:=.seq (p.map λ(i:Nat)=>Uy i).toArray }) hh hne hne2 hd hf hp' rfl) hn (L:=s.heap.objs.size) ?_ ⟨RD _ rfl,Rk _ (hk2 _ _ ha0),Rk _ hT0⟩ (Rk _ (hk2 _ _ hl0)) (λh' tk vs htk hk hl hv=>?_) _
  .rw[hs2,hsz]
   simp only[Rp,Sd,or_false,not_or];exact⟨RX (TV (WF _)),Vq hlt,RX (WF _)⟩
  .have hpl:p.length=es.size:=by have:=hp'.length_eq;simpa using this
   have hin:∀j∈p,j<es.toList.length:=λj hj'=>by have:=XX.mp (hp'.mem_iff.mp hj');simpa using this
   have ev:vs=(p.map λj=>es.toList[j]?.getD (0,.none)).map λe=>e.2:=by
    rw[Sg]
    refine xm (by omega) λj v hjv=>?_
    obtain⟨i,e,h3,h4,h5⟩:=hv j v hjv;refine⟨i,h3,?_⟩;simp only[Function.comp_apply,UJ,h4,Wt,h5]
   have hperm:(p.map λj=>es.toList[j]?.getD (0,.none)).Perm es.toList:=by
    refine(hp'.map _).trans ?_
    have:(TQ es.size).map (λj=>es.toList[j]?.getD (0,.none))=es.toList:=by
     apply List.ext_getElem
     .simp
     .intro i h3 h4
      rw[List.getElem_map,List.getElem_range,RC h4];rfl
    rw[this]
   subst ev;obtain⟨e1,e2⟩:=hend _ hperm;refine q h' d tk _ htk (λb o' e=>hk b o' ?_ (Rk _ (hk2 _ _ (hkp b o' e)))) e1 e2;have:=RB e;rw[hs2,hsz];simp only[Rp,Sd,or_false,not_or];exact⟨RX this,RX (TV (TV this))⟩
end
open L2
noncomputable def pjS:Rm->Str
 | .str x _=>x
 | _=>⟨#[]⟩
noncomputable def pjI:Rm->Int
 | .int i _=>i
 | _=>0
section
variable{X:Cx}{pins:List (Addr×Obj)}{σ:L2.St}{H:Hp}{s:Rr}
def Ec(v:Rm)(k:Str)(h:(strKind X.prog X.w).is k v=Y_):pjS v=k:=by
 obtain⟨t,rfl⟩:=Rm.isStrOf_shape h;rfl
def DX(v:Rm)(k:Int)(h:(a0a X.prog X.w).is k v=Y_):pjI v=k:=by
 obtain⟨t,rfl⟩:=Rm.isInt_shape h;rfl
def m9(I:Inv X pins σ H s)(d:Drawn):Inv X pins σ H { s with drawn:=d }:=⟨I.ok,I.os,I.bare,I.base,I.loc,I.cell,I.free,I.freeC,I.pin,I.hok,I.len⟩
noncomputable def setS(X:Cx)(l:Addr)(ks:List Str):HO:=.ext λh=>SetL (strKind X.prog X.w) pjS h l (!byT X.w) ks
noncomputable def setI(X:Cx)(l:Addr)(ks:List Int):HO:=.ext λh=>SetL (a0a X.prog X.w) pjI h l (!byT X.w) ks
def pL{K:Type} [DecidableEq K]{knd:PySem.KeyKind X.prog X.w K}{pj:Rm->K}{h':Rz}{l:Addr}{ks:List K}(S:SetL knd pj h' l (!byT X.w) ks){H':Hp}:ObjOk X.prog X.w H' h' l (.ext λh=>SetL knd pj h l (!byT X.w) ks):=by
 obtain⟨o,es,ep,t,ho,r⟩:=id S;exact⟨S,⟨o,ho⟩,λh1 h2 a b=>a.kept b⟩
def rSet(X:Cx):List V->Hp->VK->Prop:=λxs H Q=>
 (∃(c:Addr)(ss:List Str),xs=[.ref c]/\SqL X.K H c (ss.map V.str)/\ss.length<4000/\∀(l:Addr)(ks:List Str),ks.Nodup->(∀k,k∈ks↔k∈ss)->H l=Yt->Q (.ref l) (upd H l (setS X l ks))) \/
 (∃(c:Addr)(ss:List Int),xs=[.ref c]/\SqL X.K H c (ss.map V.int)/\ss.length<4000/\∀(l:Addr)(ks:List Int),ks.Nodup->(∀k,k∈ks↔k∈ss)->H l=Yt->Q (.ref l) (upd H l (setI X l ks)))
theorem o7:∀{xs:List V}{us:List Rm}{i:Nat}{u:Rm},Vals xs us->us[i]?=Z_ u->∃x,xs[i]?=Z_ x/\RelV x u
 | _,_,i,u,.nil,h=>by simp at h
 | _,_,0,u,.cons r t,h=>by simp at h;subst h;exact⟨_,rfl,r⟩
 | _,_,i+1,u,.cons r t,h=>by simpa using o7 t (by simpa using h)
def qX{K:Type} [DecidableEq K] [Inhabited K](ss:List K)(k:K):k∈ded (λi=>ss.getD i default) ss.length↔k∈ss:=by
 rw[wz]
 constructor
 .rintro⟨j,h1,h2⟩
  rw[Tv,RC h1]at h2;exact h2▸Wy h1
 .intro h
  obtain⟨j,h1,h2⟩:=WP h;exact⟨j,h1,by rw[Tv,RC h1];exact h2⟩
theorem zX(hc:X.calm=Y_):CallR X (.type "set") (rSet X):=by
 intro pins s σ H xs us Q I r h;have h4:Ye=4096:=rfl;rcases h with⟨c,ss,rfl,hq,hn,q⟩ | ⟨c,ss,rfl,hq,hn,q⟩
 .obtain⟨u,rfl,rx⟩:=vals1 r
  cases rx;obtain⟨its,rv,pl,hz⟩:=I.list hq
  have hlen:its.length=ss.length:=by have:=rv.length;rw[Rq]at this;omega
  refine set_list (knd:=strKind X.prog X.w) (pj:=pjS) Ec (λi=>ss.getD i default) (I.ok.hd hc) pl.isList (λi v hv=>?_) (by rw[RM,hlen,h4];omega) λh' tk htk S hk=>?_
  .rw[Xn]at hv
   obtain⟨x,h1,h2⟩:=o7 rv hv;rw[T8]at h1;obtain⟨y,h3,rfl⟩:=U8.mp h1;obtain⟨t,rfl⟩:=h2;rw[Tv,h3];exact⟨strKind_is _ _ _ _,rfl⟩
  .rw[show its.toArray.size=ss.length by rw[RM];exact hlen]at S
   exact⟨.ref s.heap.objs.size,_,I.laid (a:=s.heap.objs.size) (o:=setS X s.heap.objs.size _) (t':=tk) hk (Rx _) (pL S),rfl,q _ _ (vd _ _) (qX ss) I.fresh⟩
 .obtain⟨u,rfl,rx⟩:=vals1 r
  cases rx;obtain⟨its,rv,pl,hz⟩:=I.list hq
  have hlen:its.length=ss.length:=by have:=rv.length;rw[Rq]at this;omega
  refine set_list (knd:=a0a X.prog X.w) (pj:=pjI) DX (λi=>ss.getD i default) (I.ok.hd hc) pl.isList (λi v hv=>?_) (by rw[RM,hlen,h4];omega) λh' tk htk S hk=>?_
  .rw[Xn]at hv
   obtain⟨x,h1,h2⟩:=o7 rv hv;rw[T8]at h1;obtain⟨y,h3,rfl⟩:=U8.mp h1;obtain⟨t,rfl⟩:=h2;rw[Tv,h3];exact⟨intKind_is _ _ _ _,rfl⟩
  .rw[show its.toArray.size=ss.length by rw[RM];exact hlen]at S
   exact⟨.ref s.heap.objs.size,_,I.laid (a:=s.heap.objs.size) (o:=setI X s.heap.objs.size _) (t':=tk) hk (Rx _) (pL S),rfl,q _ _ (vd _ _) (qX ss) I.fresh⟩
theorem uw:∀{vs:List Rm},(∀v∈vs,(strKind X.prog X.w).is (pjS v) v=Y_)->a0d vs (vs.map pjS)
 | [],_=>.nil
 | v::vs,h=>by
   obtain⟨t,e⟩:=Rm.isStrOf_shape (h v Ru)
   have ih:=uw λu hu=>h u (Rt _ hu)
   rw[Ro];generalize pjS v=k at e ⊢;subst e;exact .cons k t ih
theorem ints_of:∀{vs:List Rm},(∀v∈vs,(a0a X.prog X.w).is (pjI v) v=Y_)->Wz vs (vs.map pjI)
 | [],_=>.nil
 | v::vs,h=>by
   obtain⟨t,e⟩:=Rm.isInt_shape (h v Ru)
   have ih:=ints_of λu hu=>h u (Rt _ hu)
   rw[Ro];generalize pjI v=k at e ⊢;subst e;exact .cons k t ih
theorem dI:∀{ss:List Int}{its:List Rm},Wz its ss->Vals (ss.map V.int) its
 | _,_,.nil=>.nil
 | _,_,.cons x tk t=>by rw[Ro];exact .cons ⟨tk,rfl⟩ (dI t)
def yf(X:Cx):List V->Hp->VK->Prop:=λxs H Q=>
 (∃(c:Addr)(ks:List Str),xs=[.ref c]/\H c=Z_ (setS X c ks)/\ks.length<64/\∀(l:Addr)(ss:List Str),ss.Perm ks->W9 ss=Y_->H l=Yt->Q (.ref l) (upd H l (.lst (ss.map V.str)))) \/
 (∃(c:Addr)(ks:List Int),xs=[.ref c]/\H c=Z_ (setI X c ks)/\(ks.Nodup/\ks.length<128)/\∀(l:Addr)(ss:List Int),ss.Perm ks->ss.Pairwise (·<=·)->H l=Yt->Q (.ref l) (upd H l (.lst (ss.map V.int))))
theorem jn(hc:X.calm=Y_):CallR X (.builtin "sorted") (yf X):=by
 intro pins s σ H xs us Q I r h;rcases h with⟨c,ks,rfl,hH,h64,q⟩ | ⟨c,ks,rfl,hH,⟨hnd,h64⟩,q⟩
 .obtain⟨u,rfl,rx⟩:=vals1 r
  cases rx;have S:=(I.hok c _ hH).1
  refine L2.sorted_by PyProof.Rows.strKind_oneLt λE'=>?_
  refine iB (A:=X.A.in1) Ec (I.ok.hd hc) S λh' d' tk vs htk hk hp hv=>?_
  have hS:=uw hv
  have hl:vs.length=ks.length:=by have:=hp.length_eq;simpa using this
  have I1:Inv X pins σ H { s with heap:=h',drawn:=d',toks:=tk }:=m9 (I.kept (t':=tk) hk) d';refine⟨hS.keysOf,λv₁ v₂ rest e=>keyKind_strs (by rw[<-e];exact hS),by omega,λh2 st hk2 hp2 hs2 ho2=>?_⟩;obtain⟨ss,a1,a2,a3⟩:=sorted_out_str hS hp2 hs2;obtain⟨e,ho2⟩:=ho2;have hl2:=a2.length_eq;rw[Rq]at hl2;refine⟨.ref h'.objs.size,_,I1.laid (a:=h'.objs.size) (o:=.lst (ss.map V.str)) (t':=tk) hk2 (Rx _) ?_,rfl,q _ ss (a2.trans hp) a3 I1.fresh⟩;refine⟨by rw[Rq,Ut];omega,((Su st).map (·.2)).toList,e,j0 a1,?_⟩;rw[ho2]
 .obtain⟨u,rfl,rx⟩:=vals1 r
  cases rx;have S:=(I.hok c _ hH).1;refine Calls.call_function_entry kind_sorted plain_sorted entry_sorted (args_sorted1 _) ?_;unfold S8.«sorted»;refine Rj (m:=checkCount "sorted" 1 1 _) (Rn (Rj ?_))
  refine iB (A:=X.A.in1) DX (I.ok.hd hc) S λh' d' tk vs htk hk hp hv=>?_
  have hS:=ints_of hv
  have hl:vs.length=ks.length:=by have:=hp.length_eq;simpa using this
  have I1:Inv X pins σ H { s with heap:=h',drawn:=d',toks:=tk }:=m9 (I.kept (t':=tk) hk) d';refine Rj (Zc ?_ (by rw[Ut];omega));have hoL:(h'.push (Ww "list" vs.toArray 0)).get? h'.objs.size=Z_ (Ww "list" vs.toArray 0):=RD _ rfl;refine Rj (Uu (Ux slot_list_sort ⟨_,hoL,rfl⟩ entry_list_sort (TS.sort_any hoL hS (hp.nodup_iff.mpr hnd) (by omega) λout ns a1 a2 a3=>⟨_,rfl,?_⟩) (args_list_sort _)));have hl2:=a2.length_eq;rw[Rq]at hl2;obtain⟨e,ho2⟩:=sortedHeap_at (vs:=vs) (out:=out) hoL;refine Rn ⟨_,rfl,.ref h'.objs.size,_,I1.laid (a:=h'.objs.size) (o:=.lst (ns.map V.int)) (t':=tk) (λb o e'=>?_) (Rx _) ⟨by rw[Rq,Ut];omega,out.toList,e,dI a1,?_⟩,rfl,q _ ns (a2.trans hp) a3 I1.fresh⟩
  .have hlt:=RB e'
   rw[sortedHeap_old (RX hlt) (by rw[size_push'];exact TV hlt)];exact Rk _ e'
  .exact ho2
end
theorem cW [DecidableEq α](k:α):∀l:List α,k∈bB l↔k∈l
 | []=>by simp[bB]
 | x::l=>by
   have ih:=cW k l;rw[bB];split
   .rename_i h
    rw[ih,Rp];exact⟨.inr,λz=>z.elim (λe=>e▸h) id⟩
   .rw[Rp,Rp,ih]
theorem kY [DecidableEq α]:∀l:List α,(bB l).Nodup
 | []=>Xe
 | x::l=>by
   have ih:=kY l;rw[bB];split
   .exact ih
   .rename_i h
    exact Tg.mpr ⟨λz=>h ((cW x l).mp z),ih⟩
theorem insI_perm(x:Int):∀l,(insI x l).Perm (x::l)
 | []=>.refl _
 | y::l=>by
   simp only[insI];split
   .exact .refl _
   .exact((insI_perm x l).cons y).trans (.swap x y l)
theorem sortI_perm:∀l,(sortI l).Perm l
 | []=>.refl _
 | x::l=>(insI_perm x (sortI l)).trans ((sortI_perm l).cons x)
theorem vA(x:Int):∀{l:List Int},l.Pairwise (·<=·)->(insI x l).Pairwise (·<=·)
 | [],_=>by simp[insI]
 | y::l,h=>by
   obtain⟨h1,h2⟩:=Tr.mp h;simp only[insI];split
   .refine Tr.mpr ⟨λz hz=>?_,h⟩
    rcases Rp.mp hz with e | hz
    .omega
    .have:=h1 z hz;omega
   .refine Tr.mpr ⟨λz hz=>?_,vA x h2⟩
    rcases Rp.mp ((insI_perm x l).mem_iff.mp hz)with e | hz
    .omega
    .exact h1 z hz
theorem qU:∀l,(sortI l).Pairwise (·<=·)
 | []=>.nil
 | x::l=>vA x (qU l)
def nC(hp:ns.Perm x)(hs:ns.Pairwise (·<=·)):ns=sortI x :=
 UT.eq_of_pairwise (λa b _ _ h1 h2=>Int.le_antisymm h1 h2) hs (qU x) (hp.trans (sortI_perm x).symm)
section
variable{X:Cx}{W:Wd}
def uN(hs:Same H H1)(h:Res W P lk H1 H' Y_ d v):Res W P lk H H' Y_ d v:=by
 unfold Res at h ⊢;rw[if_pos rfl]at h ⊢;obtain⟨a,h1,h2,h3⟩:=h;refine⟨a,h1,?_,h3⟩
 cases e:H a with
 | none=>rfl
 | some o=>rw[hs a o e]at h2;cases h2
theorem Dt:∀{l:List D}{x:List Int}{vs:List V},intsOf l=Z_ x->Reps W G l vs->vs=x.map V.int
 | [],x,vs,h,r=>by
   simp only[intsOf,Ry]at h;subst h
   cases vs with
   | nil=>rfl
   | cons _ _=>simp only[Reps]at r
 | d::l,x,[],h,r=>by simp only[Reps]at r
 | d::l,x,v::vs,h,r=>by
   cases d with
   | int y=>
     simp only[intsOf]at h
     cases e:intsOf l with
     | none=>rw[e]at h;cases h
     | some x'=>
       rw[e]at h;cases h;simp only[Reps,Rep]at r;rw[r.1,Dt e r.2]
       rfl
   | _=>simp[intsOf]at h
theorem NQ:∀{l:List D}{x:List Int},intsOf l=Z_ x->l.length=x.length
 | [],x,h=>by cases h;rfl
 | d::l,x,h=>by
   cases d with
   | int y=>
     simp only[intsOf]at h;obtain⟨x',e,rfl⟩:=U8.mp h;rw[RK,RK,NQ e]
   | _=>simp[intsOf]at h
theorem DG:∀x:List Int,Reps W G (x.map a0p) (x.map V.int)
 | []=>by simp only[Ti,Reps]
 | y::x=>by
   simp only[Ro,Reps,Rep];exact⟨trivial,DG x⟩
def Fq{x:List (List Nat)}(h:x.Nodup):(x.map strV).Nodup:=by
 rw[List.Nodup,Xd]
 exact h.imp λ{a b} hab e=>hab (gY e)
theorem yQ(hk:W.K=X.K):Sem1 W (λxs H Q=>rSet X xs H λv H1=>yf X [v] H1 Q) (b1D .sortedSet):=by
 intro lk P H x dx Q w d hS hK hx e k
 cases dx<;>first | exact nope e | exact fD e | simp only[b1D]at e
 rename_i l;obtain⟨c,vs,rfl,q1,q2⟩:=hx;unfold ssD at e
 have keep:∀{l1 l2:Addr}{u1 u2:HO},H l1=Yt->upd H l1 u1 l2=Yt->Same H (upd (upd H l1 u1) l2 u2)/\(∀a,P a->∃o,upd H l1 u1 a=Z_ o)/\Same H (upd H l1 u1):=λ{l1 l2 u1 u2} h1 h2=>⟨(Same.upd h1).trans (Same.upd h2),λa ha=>by
  obtain⟨o,e⟩:=hK a ha
  exact⟨o,Same.upd h1 a o e⟩,Same.upd h1⟩
 cases e1:strsOf l with
 | some xs=>
   rw[e1]at e;dsimp only at e;split at e
   .rename_i hn
    cases e;have hall:=jR e1 q2;have ev:=iU e1 q2;have hl:l.length=xs.length:=ql e1;subst ev;refine .inl ⟨c,xs.map strV,rfl,by rw[Sg];exact hk▸q1,by rw[Rq];omega,λl1 ks nd mem h1=>?_⟩
    have hp:ks.Perm ((bB xs).map strV):=(List.perm_ext_iff_of_nodup nd (Fq (kY xs))).mpr λa=>by
     rw[mem a,Sw,Sw];exact⟨λ⟨b,h,e⟩=>⟨b,(cW b xs).mpr h,e⟩,λ⟨b,h,e⟩=>⟨b,(cW b xs).mp h,e⟩⟩
    refine .inl ⟨l1,ks,rfl,bf,by have:=hp.length_eq;rw[Rq]at this;omega,λl2 ss hp2 hs2 h2=>?_⟩;rw[fC (hp2.trans hp) hs2];obtain⟨k1,k2,k3⟩:=keep (u2:=.lst (((bF (bB xs)).map strV).map V.str)) h1 h2;refine k _ _ k1 (uN k3 (dH h2 (iH λy hy=>hall y ?_) k2));exact(cW y xs).mp ((sortS_perm _).mem_iff.mp hy)
   .cases e
 | none=>
   rw[e1]at e;dsimp only at e
   cases e2:intsOf l with
   | none=>rw[e2]at e;cases e
   | some xs=>
     rw[e2]at e;simp only[Sh]at e;split at e
     .rename_i hn
      cases e;have ev:=Dt e2 q2;have hl:l.length=xs.length:=NQ e2;subst ev;refine .inr ⟨c,xs,rfl,hk▸q1,by omega,λl1 ks nd mem h1=>?_⟩
      have hp:ks.Perm (bB xs):=(List.perm_ext_iff_of_nodup nd (kY xs)).mpr λa=>by rw[mem a,cW]
      refine .inr ⟨l1,ks,rfl,bf,⟨nd,by have:=hp.length_eq;omega⟩,λl2 ss hp2 hs2 h2=>?_⟩;rw[nC (hp2.trans hp) hs2];obtain⟨k1,k2,k3⟩:=keep (u2:=.lst ((sortI (bB xs)).map V.int)) h1 h2;exact k _ _ k1 (uN k3 (dH h2 (DG _) k2))
     .cases e
def JT(hk:W.K=X.K)(hc:X.calm=Y_)(hg:Gl X "sorted")(hm:X.mg "sorted"=Yt)(hg2:Gl X "set")(hm2:X.mg "set"=Yt)(ha:PE X a (tD X W Y_ fa))(hst:az a=Zd) :
 PE X (.Call (.Name "sorted" p) [.Call (.Name "set" p2) [a] [] pos2] [] pos) (tD X W lk fun δ=>(fa δ).bind λx=>b1D .sortedSet x.2) :=
 PE.imp (gH (jn hc) hg hm PyProof.Rows.boot_sorted (bJ (lM (zX hc) hg2 hm2 (by kernel_rfl) (bJ ha cT (bW hst)) (by decide +kernel) (by decide +kernel) (bW hst) rfl) cT rfl) (by decide +kernel) (by decide +kernel) rfl rfl) fun σ H Q h=>wH (yQ hk) (gU _) h
end
section
variable{X:Cx}{W:Wd}{lk lk':Bool}{σ:L2.St}{H H1 H':Hp}{me:Option Addr}{B:Addr->Prop}{δ:Dst}{Q Q':VK}{a b c:Expr}{pos p pos' apos cpos px spos:Pos}{o:Orc}
def GC:PE X (.Dict [] [] pos) (tD X W lk fun δ=>ev o δ lk (.dnew [] .nil)):=by
 refine PE.imp zF fun σ H Q h=>?_
 obtain⟨me,B,δ,S,h⟩:=tD_iff.mp h;simp only[ev,evL,a0u]at h;obtain⟨_,h⟩:=dB h;intro q ep hq;exact h _ _ (Same.upd hq) (Bb hq rfl ⟨Xe,λx hx=>by simp at hx⟩ (by simp only[Ti,Reps]))
noncomputable def Itd(a:Addr)(kvs:List (Key×V))(ep:Nat):It:=⟨λi H=>H a=Z_ (.dK kvs ep)/\i<kvs.length,λi H x H'=>H'=H/\∃p,kvs[i]?=Z_ p/\x=kV p.1,λi H=>H a=Z_ (.dK kvs ep)/\kvs.length<=i⟩
def Pg(h:(aV P w).is k u=Y_):RelV (kV k) u:=by
 rcases aX (show jo k u=Y_ from h)with⟨i,t,rfl,rfl⟩ | ⟨x,t,rfl,rfl⟩
 all_goals(exact⟨t,rfl⟩)
theorem vy{P:Sx}{w:Th}{K:Rw}{tg:Expr}(a it:Addr)(kvs:List (Key×V))(ep:Nat):Turn P w K tg (Itd a kvs ep) [it] it (λi h=>h.IsKeyIter it a i kvs.length ep)where
 mem:=by simp
 obj:=λi h st b hb=>by
  have e:b=it:=by simpa using hb
  subst e;obtain⟨o,e,c,d⟩:=st;exact⟨o,e,λv z=>by rw[d]at z;cases z⟩
 keep:=λi h h' st k=>st.at λo e=>k it (by simp) o e
 item:=by
  intro X hP hw hK hc i pins s σ H E I hf st hg;subst hP hw hK;obtain⟨hq,hi⟩:=hg
  obtain⟨_,lo,vs,rel,dd⟩:=(show ObjOk X.prog X.w H s.heap a (.dK kvs ep)from I.hok a _ hq)
  obtain⟨f0,f1,f2,f3,f4,f5⟩:=hf it (by simp);have hl:kvs.length=vs.length:=rel.length
  have hx:vs[i]?=Z_ (vs[i]'(by omega)):=by simp
  have hkeys:=rel.keys;rw[hl]at st ⊢
  refine wpAny_pyNext_dict_item st dd (k:=(vs[i]'(by omega)).1) (v:=(vs[i]'(by omega)).2) hx λkey h' hkey st' sb=>?_
  have I1:Inv X pins σ H { s with heap:=h' }:=I.turned (t':=s.toks) (λb o hb e=>(sb.2 b hb).trans e) f0 f1 f3 f4 f5;obtain⟨o,e,c,d⟩:=id st'
  have ek:(kvs[i]).1=(vs[i]'(by omega)).1:=by
   have:=congrArg (λl=>l[i]?) hkeys;simpa[hi,show i<vs.length by omega]using this
  exact⟨key,rfl,vD (s:={ s with heap:=h' }) e c d (by decide) ⟨kV (kvs[i]).1,H,I1,by rw[ek];exact Pg hkey,⟨rfl,kvs[i],by simp,rfl⟩,st',λb hb=>(hf b hb).1⟩⟩
 done:=by
  intro X hP hw hK hc i pins s σ H E I hf st hg;subst hP hw hK;obtain⟨hq,hi⟩:=hg
  obtain⟨_,lo,vs,rel,dd⟩:=(show ObjOk X.prog X.w H s.heap a (.dK kvs ep)from I.hok a _ hq)
  obtain⟨f0,f1,f2,f3,f4,f5⟩:=hf it (by simp);have hl:kvs.length=vs.length:=rel.length;rw[hl]at st
  exact wpAny_pyNext_dict_end (I.ok.hd hc) st dd (by simp;omega) λh' eb=>⟨rfl,I.turned (t':=s.toks) (λb o hb e=>eb b o hb e) f0 f1 f3 f4 f5⟩
 self:=λ_ _ _ _ _ st h=>wpAny_pyIter_keyiter st h
def iDct(tl:TE):L2.TI:=fun σ H R=>tl σ H λx H1=>∃a kvs ep,x=.ref a/\H1 a=Z_ (.dK kvs ep)/\R (Itd a kvs ep) H1
def Fp{tg l:Expr}{tl:TE}(hl:PE X l tl):PI X tg l (iDct tl):=by
 intro pins s σ H R I h
 refine thn (hl pins s σ H _ I h) λv s1 ⟨x,H1,I1,r1,q1⟩=>?_
 obtain⟨a,kvs,ep,e,hq,q⟩:=q1;subst e;cases r1
 obtain⟨_,lo,vs,rel,dd⟩:=(show ObjOk X.prog X.w H1 s1.heap a (.dK kvs ep)from I1.hok a _ hq)
 have hlen:kvs.length=vs.length:=rel.length;refine wpAny_pyIter_dict lo dd ?_;refine⟨s1.heap.objs.size,[s1.heap.objs.size],_,_,H1,rfl,I1.kept (t':=s1.toks) λb o e=>Rk _ e,vy a _ kvs ep,⟨_,RD _ rfl,rfl,by rw[hlen];rfl⟩,λb hb=>?_,q⟩
 have e:b=s1.heap.objs.size:=by simpa using hb
 subst e;exact I1.fpOk (Rx _) (I1.hok.fresh (Rx _))
def oE{H2:Hp}{a:Addr}{kvs:List (Key×V)}{ep:Nat}(h:H2 a=Z_ (.dK kvs ep)):Yields (Itd a kvs ep) H2 (kvs.map λp=>kV p.1)where
 go:=λi H' s hi=>⟨s _ _ h,by simpa using hi⟩
 yld:=λi H' x H'' s _ ⟨e,p,e1,e2⟩=>⟨e,by rw[T8,e1,e2];rfl⟩
 stop:=λH' s=>⟨s _ _ h,by simp⟩
theorem ji:∀{ks:List DK}{kvs:List (Key×V)},kvs.map (·.1)=ks.map keyV->(∀x,a0P x∈ks->x.length<=16777216)->Reps W G (ks.map keyD) (kvs.map λp=>kV p.1)
 | [],[],_,_=>by simp only[Ti,Reps]
 | [],_::_,e,_=>by simp at e
 | _::_,[],e,_=>by simp at e
 | k::ks,p::kvs,e,h=>by
   simp only[Ro,Xp]at e;simp only[Ro,Reps];refine⟨?_,ji e.2 λx hx=>h x (Rt _ hx)⟩;rw[e.1]
   cases k with
   | i n=>simp only[keyD,keyV,kV,Rep]
   | s x=>simp only[keyD,keyV,kV,Rep];exact⟨trivial,h x Ru⟩
noncomputable def Itx(x:Str):It:=⟨λi _=>i<x.cps.size,λi H v H'=>H'=H/\∃c,x.cps[i]?=Z_ c/\v=.str ⟨#[c]⟩,λi _=>x.cps.size<=i⟩
def yX{P:Sx}{w:Th}{A:Tu}{E:Rm->Rr->Prop}{s:Rr}{it:Addr}{x:Str}{t:Tok}{i c:Nat}{Q:Option Rm->Rr->Prop}(hit:s.heap.IsStrIter it (WR x) x t i)(hx:x.cps[i]?=Z_ c)
 (hQ:∀h',h'.IsStrIter it (WR x) x t (i+1)->Ub it s.heap h'->Q (Z_ (.str ⟨#[c]⟩ s.toks)) { s with heap:=h',toks:=s.toks+1 }):RG (RQ P w) A (Xw (.ref it)) Q E s:=by
 unfold WR at hit hQ;split at hit
 .exact wpAny_pyNext_ascii_item hit hx (by simpa only[*,if_true]using hQ)
 .exact wpAny_pyNext_wide_item hit hx (by simpa only[*,if_false,Rv]using hQ)
def end_str{P:Sx}{w:Th}{A:Tu}{E:Rm->Rr->Prop}{s:Rr}{it:Addr}{x:Str}{t:Tok}{i:Nat}{Q:Option Rm->Rr->Prop}(hh:A.handled=Yt)(hit:s.heap.IsStrIter it (WR x) x t i)(hx:x.cps[i]?=Yt)
 (hQ:∀h',Rz.ExtBut it s.heap h'->Q none { s with heap:=h' }):RG (RQ P w) A (Xw (.ref it)) Q E s:=by
 unfold WR at hit;split at hit
 .exact wpAny_pyNext_ascii_end hh hit hx hQ
 .exact wpAny_pyNext_wide_end hh hit hx hQ
def zP{P:Sx}{w:Th}{K:Rw}{tg:Expr}(it:Addr)(x:Str)(t:Tok):Turn P w K tg (Itx x) [it] it (λi h=>h.IsStrIter it (WR x) x t i)where
 mem:=by simp
 obj:=λi h st b hb=>by
  have e:b=it:=by simpa using hb
  subst e;obtain⟨o,e,c,d⟩:=st;exact⟨o,e,λv z=>by rw[d]at z;cases z⟩
 keep:=λi h h' st k=>by
  obtain⟨o,e,r⟩:=st;exact⟨o,k it (by simp) o e,r⟩
 item:=by
  intro X hP hw hK hc i pins s σ H E I hf st hg;subst hP hw hK;have hg:i<x.cps.size:=hg;obtain⟨f0,f1,f2,f3,f4,f5⟩:=hf it (by simp)
  have hx:x.cps[i]?=Z_ x.cps[i]:=by simp[hg]
  refine yX st hx λh' st' sb=>?_
  have I1:Inv X pins σ H { s with heap:=h',toks:=s.toks+1 }:=I.turned (t':=s.toks+1) (λb o hb e=>(sb.2 b hb).trans e) f0 f1 f3 f4 f5;obtain⟨o,e,c,d⟩:=id st'
  have hn:["enumerate","zip","dict_itemiterator","dict_reverseitemiterator","odict_iterator","itertools.zip_longest","itertools.pairwise"].contains (WR x)=Zd:=by unfold WR;split<;>decide
  exact⟨_,rfl,vD (s:={ s with heap:=h',toks:=s.toks+1 }) e c d hn ⟨.str ⟨#[x.cps[i]]⟩,H,I1,⟨_,rfl⟩,⟨rfl,_,hx,rfl⟩,st',λb hb=>(hf b hb).1⟩⟩
 done:=by
  intro X hP hw hK hc i pins s σ H E I hf st hg;subst hP hw hK;have hg:x.cps.size<=i:=hg;obtain⟨f0,f1,f2,f3,f4,f5⟩:=hf it (by simp)
  exact end_str (I.ok.hd hc) st (by simp;omega) λh' eb=>⟨rfl,I.turned (t':=s.toks) (λb o hb e=>eb b o hb e) f0 f1 f3 f4 f5⟩
 self:=λ_ _ _ _ _ st h=>by
  unfold WR at st;split at st
  .exact wpAny_pyIter_striter_ascii st h
  .exact wpAny_pyIter_striter_wide st h
def iStr(tl:TE):L2.TI:=fun σ H R=>tl σ H λx H1=>∃y,x=.str y/\R (Itx y) H1
def Js{tg l:Expr}{tl:TE}(hl:PE X l tl):PI X tg l (iStr tl):=by
 intro pins s σ H R I h
 refine thn (hl pins s σ H _ I h) λv s1 ⟨x,H1,I1,r1,q1⟩=>?_
 obtain⟨y,e,q⟩:=q1;subst e;obtain⟨t,rfl⟩:=r1;refine wpAny_pyIter_strU ?_;refine⟨s1.heap.objs.size,[s1.heap.objs.size],_,_,H1,rfl,I1.kept (t':=s1.toks) λb o e=>Rk _ e,zP _ y t,⟨_,RD _ rfl,rfl,rfl⟩,λb hb=>?_,q⟩
 have e:b=s1.heap.objs.size:=by simpa using hb
 subst e;exact I1.fpOk (Rx _) (I1.hok.fresh (Rx _))
def t7(x:List Nat):Yields (Itx (strV x)) H2 (x.map λc=>.str (strV [c]))where
 go:=λi H' s hi=>by
  show i<(strV x).cps.size;simpa[strV]using hi
 yld:=λi H' v H'' s _ ⟨e,c,e1,e2⟩=>⟨e,by
  have e3:x[i]?=Z_ c:=by simpa[strV]using e1
  rw[T8,e3,e2];rfl⟩
 stop:=λH' s=>by
  show(strV x).cps.size<=_;simp[strV]
theorem jr:∀(x:List Nat),Reps W G (x.map λc=>a0A [c]) (x.map λc=>.str (strV [c]))
 | []=>by simp only[Ti,Reps]
 | c::x=>by
   simp only[Ro,Reps];refine⟨?_,jr x⟩;simp only[Rep];exact⟨trivial,by simp⟩
def Ex(X:Cx)(W:Wd)(o:Orc)(it:TI)(wi:L2.TI):Prop:=∀σ H (K:It->Hp->Prop),(∃me B δ l,SR X W me B H σ δ/\evI o δ Y_ it=.ok l/\∀J H2,Same H H2->Ylds W J H2 (vis H2 (Hid B σ δ)) l->K J H2)->wi σ H K
section
variable{scope:Scope}{N:List Str}{elt tg iter:Expr}{ifs:List Expr}{m:Nat}{caps:List Nat}{tup:Bool}{g:TG}{it:TI}{tc te:T}
structure CompIn(X:Cx)(W:Wd)(o:Orc)(scope:Scope)(N:List Str)(elt tg iter:Expr)(ifs:List Expr)(m:Nat)(caps:List Nat)(tup:Bool)(g:TG)(it:TI)(tc te:T):Prop where
 hk:W.K=X.K
 hx:X.xe=fL
 hc:X.calm=Y_
 B:Blk scope
 C:Caps X scope N m caps
 hm:tup=Zd->m=1
 hi:∃wi,PI X tg iter wi/\Ex X W o it wi
 hg:∀fp pins s H,PG (cxC X scope N fp pins s H) tg g
 hr:∀H0,TgR { X with H₀:=H0 } W (TQ m) tup g
 ht:∀fp pins s H,PIf (cxC X scope N fp pins s H) ifs (tT (cxC X scope N fp pins s H) W fun δ=>ev o δ Y_ tc)
 he:∀fp pins s H,PE (cxC X scope N fp pins s H) elt (tD (cxC X scope N fp pins s H) W Zd fun δ=>ev o δ Zd te)
 hs:∀x,Vg iter X.env x=pure x
def PIf.imp(h:PIf X ifs t)(i:∀σ H Q,t' σ H Q->t σ H Q):PIf X ifs t':=λpins s σ H Q I hw=>h pins s σ H Q I (i σ H Q hw)
def CJ(A:CompIn X W o scope N elt tg iter ifs m caps tup g it tc te):PE X (.ListComp elt [⟨tg,iter,ifs,0⟩] scope pos) (tD X W lk fun δ=>ev o δ lk (.comp caps m tup it tc te)):=by
 obtain⟨wi,h1,h2⟩:=A.hi
 refine PE.imp (Ep (tc:=λH0=>tT { X with H₀:=H0 } W fun δ=>ev o δ Y_ tc) (te:=λH0=>tD { X with H₀:=H0 } W Zd fun δ=>ev o δ Zd te) A.hx A.hc A.B A.C h1 A.hg (λfp pins s H=>PIf.imp (A.ht fp pins s H) fun σ H' Q h=>tT.cx (X:={ X with H₀:=H }) rfl rfl h) (λfp pins s H=>PE.imp (A.he fp pins s H) fun σ H' Q h=>tD.cx (X:={ X with H₀:=H }) rfl rfl h) A.hs) fun σ H Q h=>?_
 exact mL A.hk A.hm h2 A.hr h
def Od(A:CompIn X W o scope N elt tg iter ifs m caps tup g it tc te)(hN:X.N.Nodup)(hi:X.N[i]?=Z_ x)(hx:Loc X.env.scope x)(hf:X.fn x=Y_\/X.env.scope.names.lookup x=Z_ .local)
 (hb:bsw=Y_->X.env.scope.names.lookup x=Z_ .local)(hsw:XH (.ListComp elt [⟨tg,iter,ifs,0⟩] scope pos) (Z_ (.Name x px)) spos.line X.env=pure bsw) :
 PS X (.Assign [.Name x px] (.ListComp elt [⟨tg,iter,ifs,0⟩] scope pos) spos) (tS X W (evS o (.set i (.comp caps m tup it tc te)))):=by
 cases bsw with
 | false=>exact O1 hN hi hx (CJ A) hsw hf
 | true=>
   obtain⟨wi,h1,h2⟩:=A.hi
   refine PS.imp (tU (tc:=λH0=>tT { X with H₀:=H0 } W fun δ=>ev o δ Y_ tc) (te:=λH0=>tD { X with H₀:=H0 } W Zd fun δ=>ev o δ Zd te) A.hx A.hc A.B A.C h1 A.hg (λfp pins s H=>PIf.imp (A.ht fp pins s H) fun σ H' Q h=>tT.cx (X:={ X with H₀:=H }) rfl rfl h) (λfp pins s H=>PE.imp (A.he fp pins s H) fun σ H' Q h=>tD.cx (X:={ X with H₀:=H }) rfl rfl h) A.hs hN hi (hb rfl) hsw) λD σ H ⟨me,B,δ,S,h⟩=>?_
   refine mL (lk:=Zd) A.hk A.hm h2 A.hr ?_;simp only[evS]at h;obtain⟨S1,e1⟩:=S.evF o (.comp caps m tup it tc te);obtain⟨r,e2,h⟩:=SO.of_ok h;obtain⟨q,e3,h⟩:=cR h
   cases e4:setSlot (evF o δ (.comp caps m tup it tc te)).1 i r.1 r.2 with
   | none=>rw[e4]at e3;cases e3
   | some δ'=>
     rw[e4]at e3;cases e3;obtain⟨h1,rfl⟩:=fV e4;refine tD_iff.mpr ⟨me,B,_,S1,?_⟩;rw[<-e1,e2];intro v H' s q;obtain⟨S2,s2⟩:=S1.store s q h1;exact h _ _ S2 ((aN (fZ o (.comp caps m tup it tc te))).trans s2)
end
end
section
variable{prog:Sx}{w:Th}{A:Tu}{E:Rm->Rr->Prop}{s:Rr}
def kE(hit:s.heap.IsTupleIter it t i)(ht:s.heap.IsTuple t items)(hx:items[i]?=Z_ x)(hQ:∀h',h'.IsTupleIter it t (i+1)->Ub it s.heap h'->Q x { s with heap:=h' }):RG (RQ prog w) A (TY (.ref it)) Q E s:=by
 obtain⟨o,ho,hc,hd⟩:=id hit;obtain⟨ol,hol,_,nl,hdl⟩:=ht;unfold TY;refine Rj (Va (name:=Str.ofString "__next__") hit.typeIs F.slot_tuple_iterator_next (Ux F.slot_tuple_iterator_next hit.typeIs F.entry_tuple_iterator_next ?_ (F.args_tuple_iterator_next_1 _)));show RG _ _ (ZM (.ref it) 0 >>= _) _ _ s;refine Rj (V9 ho hd (x:=.ref t) rfl ?_);show RG _ _ (if(Us t==Wq)=Y_ then _ else _) _ _ s;rw[if_neg (show ¬((Us t==Wq)=Y_)from S9)];show RG _ _ (ZM (.ref it) 1 >>= _) _ _ s;refine Rj (V9 ho hd (x:=.int i 0) rfl ?_);show RG _ _ (Zt (.ref t) >>= _) _ _ s;refine Rj (V1 hol hdl ?_);simp only[Vd,hx];refine Rj (Wc ho hd (by simp) (Rn ⟨x,rfl,Rn (hQ _ ⟨_,TJ _ ho (Wl (Wf hd _)),(Obj.cls_mapFields ..).trans hc,by rw[Wf hd];simp[Uy]⟩ (Xj ..))⟩))
def pX(hh:A.handled=Yt)(hit:s.heap.IsTupleIter it t i)(ht:s.heap.IsTuple t items)(hx:items[i]?=Yt)
 (hE:∀h' e,Rz.ExtBut it s.heap h'->(∃o,h'.get? e=Z_ o/\o.cls=.type "StopIteration")->E (.ref e) { s with heap:=h' }):RG (RQ prog w) A (TY (.ref it)) Q E s:=by
 obtain⟨o,ho,hc,hd⟩:=id hit;obtain⟨ol,hol,_,nl,hdl⟩:=ht;unfold TY;refine Rj (Va (name:=Str.ofString "__next__") hit.typeIs F.slot_tuple_iterator_next (Ux F.slot_tuple_iterator_next hit.typeIs F.entry_tuple_iterator_next ?_ (F.args_tuple_iterator_next_1 _)));show RG _ _ (ZM (.ref it) 0 >>= _) _ _ s;refine Rj (V9 ho hd (x:=.ref t) rfl ?_);show RG _ _ (if(Us t==Wq)=Y_ then _ else _) _ _ s;rw[if_neg (show ¬((Us t==Wq)=Y_)from S9)];show RG _ _ (ZM (.ref it) 1 >>= _) _ _ s;refine Rj (V9 ho hd (x:=.int i 0) rfl ?_);show RG _ _ (Zt (.ref t) >>= _) _ _ s;refine Rj (V1 hol hdl ?_);simp only[Vd,hx];refine Rj (UV (Rj (Wc ho hd (by simp) ?_)));show RG _ _ (ZZ (.type "StopIteration") [] >>= _) _ _ _;refine Rj ?_;simp only[ZZ,newTuple];refine Rj (U9 ?_ (by size_fits));refine Rj (m:=Z2 _ _) (wpAny_of_eq (a:=Wq) (by first | rfl | (simp only[Z2];rfl)) ?_);refine U9 ?_ (by size_fits);simp only[ZG];refine Rj (wpAny_handled ?_)
 first | rw[show A.in1.handled=Yt from hh] | rw[hh]
 exact Rj (Rn (Zw (hE _ _ (((Xj ..).extBut.push _).push _) ⟨_,RD _ rfl,rfl⟩)))
def zr(z TI TO i1 i2 t1 t2:Addr)(k:Nat)(h:Rz):Prop:=ZD h z TI TO .none/\YK h TI (.ref i1) (.ref i2)/\(∃a b,YK h TO a b)/\h.IsTupleIter i1 t1 k/\h.IsTupleIter i2 t2 k
def HY{z TI TO i1 i2 t1 t2:Addr}{k:Nat}{xs ys:Array Rm}{x y:Rm}{Q:Option Rm->Rr->Prop}(D:ZipApart z TI TO i1 i2 t1 t2)(st:zr z TI TO i1 i2 t1 t2 k s.heap)(ht1:s.heap.IsTuple t1 xs)(ht2:s.heap.IsTuple t2 ys)(hx:xs[k]?=Z_ x)(hy:ys[k]?=Z_ y)
 (hQ:∀h',ZD h' z TI TO (Uy s.heap.objs.size)->YK h' TI (.ref i1) (.ref i2)->(∃a b,YK h' TO a b)->h'.IsTupleIter i1 t1 (k+1)->h'.IsTupleIter i2 t2 (k+1)->YK h' s.heap.objs.size x y->(∀c o,c≠z->c≠TO->c≠i1->c≠i2->s.heap.get? c=Z_ o->h'.get? c=Z_ o)->Q (Z_ (.ref s.heap.objs.size)) { s with heap:=h' }) :
 RG (RQ prog w) A (Xw (.ref z)) Q E s:=by
 obtain⟨hz,hTI,⟨a,b,hTO⟩,h1,h2⟩:=st
 have hT:s.TypeIs (.ref z) "zip":=⟨_,hz,rfl⟩
 unfold Xw;refine Rj (Ys (Va (name:=Str.ofString "__next__") hT F.slot_zip_next (Ux F.slot_zip_next hT F.entry_zip_next ?_ (F.args_zip_next_1 _))));show RG _ _ (ZM (.ref z) 2 >>= _) _ _ _;refine Rj (V9 hz rfl (x:=.bool Zd) rfl ?_);show RG _ _ (ZM (.ref z) 3 >>= _) _ _ _;refine Rj (V9 hz rfl (x:=.ref TI) rfl ?_);refine Rj (V1 hTI rfl ?_);show RG _ _ (Vm (.ref z) >>= _) _ _ _;refine Rj ?_;unfold Vm;refine Rj (V9 hz rfl (x:=.none) rfl (Rn ?_));simp only[if_true];refine Rj (UV ?_);refine Rj (V9 hz rfl (x:=.ref TO) rfl ?_);refine Rj (Wk hz (by simp) λha hza hsa=>?_)
 replace hza:ZD ha z TI TO .ellipsis:=hza
 refine Rj ?_;simp only[List.zipIdx_cons,List.zipIdx_nil,Yw,List.forIn_nil];refine Rj (Rj (Zb ?_));show RG _ _ (TY (.ref i1) >>= _) _ _ _;refine Rj (kE (h1.extBut hsa.extBut D.i1z) (ht1.extBut hsa.extBut D.l1z) hx λhb h1b hsb=>Rn ?_);have hTOb:YK hb TO a b:=hsb.extBut _ _ D.TOi1 (hsa.extBut _ _ D.TOz hTO);refine Rj (V1 hTOb rfl ?_);refine Rj (wpAny_updateSeq_pair hTOb λhc hTOc hsc=>?_)
 replace hTOc:YK hc TO x b:=hTOc
 refine Rj (XN (Rn ?_));refine Rj (Rj (Zb ?_));show RG _ _ (TY (.ref i2) >>= _) _ _ _;refine Rj (kE (((h2.extBut hsa.extBut D.i2z).extBut hsb.extBut D.i12.symm).extBut hsc.extBut D.TOi2.symm) (((ht2.extBut hsa.extBut D.l2z).extBut hsb.extBut D.l2i1).extBut hsc.extBut D.l2TO) hy λhd h2d hsd=>Rn ?_);have hTOd:YK hd TO x b:=hsd.extBut _ _ D.TOi2 hTOc;refine Rj (V1 hTOd rfl ?_);refine Rj (wpAny_updateSeq_pair hTOd λhe hTOe hse=>?_)
 replace hTOe:YK he TO x y:=hTOe
 refine Rj (XN (Rn (Rn ?_)));refine Rj (V1 hTOe rfl ?_);refine Rj (wpAny_newTuple ?_)
 have sz:he.objs.size=s.heap.objs.size:=by rw[hse.1,hsd.1,hsc.1,hsb.1,hsa.1]
 have hze:ZD he z TI TO .ellipsis:=hse.extBut _ _ D.TOz.symm (hsd.extBut _ _ D.i2z.symm (hsc.extBut _ _ D.TOz.symm (hsb.extBut _ _ D.i1z.symm hza)))
 have hke:∀c o,c≠z->c≠TO->c≠i1->c≠i2->s.heap.get? c=Z_ o->he.get? c=Z_ o:=λc o c1 c2 c3 c4 e=>hse.extBut _ _ c2 (hsd.extBut _ _ c4 (hsc.extBut _ _ c2 (hsb.extBut _ _ c3 (hsa.extBut _ _ c1 e))))
 have h1e:he.IsTupleIter i1 t1 (k+1):=((h1b.extBut hsc.extBut D.TOi1.symm).extBut hsd.extBut D.i12).extBut hse.extBut D.TOi1.symm;have h2e:he.IsTupleIter i2 t2 (k+1):=h2d.extBut hse.extBut D.TOi2.symm;have ltz:z<he.objs.size:=RB hze;show RG _ _ (S8.SmallTypes.ownedTupleHandOut (.ref z) (.ref he.objs.size) >>= _) _ _ _;refine Rj ?_;unfold S8.SmallTypes.ownedTupleHandOut;have hzf:ZD (he.push { cls:=.type "tuple",data:=.seq #[x,y] }) z TI TO .ellipsis:=Rk _ hze;refine Rj (Wk hzf (by simp) λhg hzg hsg=>?_)
 replace hzg:ZD hg z TI TO (Uy he.objs.size):=hzg
 refine Wk hzg (by simp) λhi hzi hsi=>?_
 replace hzi:ZD hi z TI TO (Uy he.objs.size):=hzi
 have up:∀c o,c≠z->he.get? c=Z_ o->hi.get? c=Z_ o:=λc o c1 e=>hsi.extBut _ _ c1 (hsg.extBut _ _ c1 (Rk _ e))
 have hTi:YK hi he.objs.size x y:=hsi.extBut _ _ (Vq ltz) (hsg.extBut _ _ (Vq ltz) (RD _ rfl));rw[sz]at hzi hTi;refine Rn ⟨.ref he.objs.size,rfl,Rn ?_⟩;rw[sz]
 exact hQ hi hzi (up _ _ D.TIz (hke _ _ D.TIz D.TITO D.TIi1 D.TIi2 hTI)) ⟨x,y,up _ _ D.TOz hTOe⟩ (h1e.at λo e=>up _ o D.i1z e) (h2e.at λo e=>up _ o D.i2z e) hTi λc o c1 c2 c3 c4 e=>up c o c1 (hke c o c1 c2 c3 c4 e)
def Gj{z TI TO i1 i2 t1 t2:Addr}{k:Nat}{xs ys:Array Rm}{Q:Option Rm->Rr->Prop}(hh:A.handled=Yt)(D:ZipApart z TI TO i1 i2 t1 t2)(st:zr z TI TO i1 i2 t1 t2 k s.heap)(ht1:s.heap.IsTuple t1 xs)(ht2:s.heap.IsTuple t2 ys)(hend:xs[k]?=Yt\/ys[k]?=Yt)
 (hQ:∀h',(∀c o,c≠z->c≠TO->c≠i1->c≠i2->s.heap.get? c=Z_ o->h'.get? c=Z_ o)->Q none { s with heap:=h' }):RG (RQ prog w) A (Xw (.ref z)) Q E s:=by
 obtain⟨hz,hTI,⟨a,b,hTO⟩,h1,h2⟩:=st
 have hT:s.TypeIs (.ref z) "zip":=⟨_,hz,rfl⟩
 have fin:∀{h':Rz}{e:Addr},(∀c o,c≠z->c≠TO->c≠i1->c≠i2->s.heap.get? c=Z_ o->h'.get? c=Z_ o)->(∃o,h'.get? e=Z_ o/\o.cls=.type "StopIteration")->RG (RQ prog w) A (YF (.ref e) (.type "StopIteration") >>= λb=>if b=Y_ then pure none else throw (Us e)) Q E { s with heap:=h' }:=λ{h' e} hk ⟨o,ho,hc⟩=>
  Rj (wpAny_isInstance (T:="StopIteration") (b:=Y_) ⟨o,ho,hc⟩ isSubtype_stop (Rn (hQ _ hk)))
 unfold Xw;refine Rj (Ys (Va (name:=Str.ofString "__next__") hT F.slot_zip_next (Ux F.slot_zip_next hT F.entry_zip_next ?_ (F.args_zip_next_1 _))));show RG _ _ (ZM (.ref z) 2 >>= _) _ _ _;refine Rj (V9 hz rfl (x:=.bool Zd) rfl ?_);show RG _ _ (ZM (.ref z) 3 >>= _) _ _ _;refine Rj (V9 hz rfl (x:=.ref TI) rfl ?_);refine Rj (V1 hTI rfl ?_);show RG _ _ (Vm (.ref z) >>= _) _ _ _;refine Rj ?_;unfold Vm;refine Rj (V9 hz rfl (x:=.none) rfl (Rn ?_));simp only[if_true];refine Rj (UV ?_);refine Rj (V9 hz rfl (x:=.ref TO) rfl ?_);refine Rj (Wk hz (by simp) λha hza hsa=>?_)
 replace hza:ZD ha z TI TO .ellipsis:=hza
 refine Rj ?_;simp only[List.zipIdx_cons,List.zipIdx_nil,Yw,List.forIn_nil];refine Rj (Rj (Zb ?_));show RG _ _ (TY (.ref i1) >>= _) _ _ _
 cases hx:xs[k]? with
 | none=>
   refine Rj (pX hh (h1.extBut hsa.extBut D.i1z) (ht1.extBut hsa.extBut D.l1z) hx λhb e hsb he=>?_);obtain⟨oe,hoe,hce⟩:=he;have hzb:ZD hb z TI TO .ellipsis:=hsb _ _ D.i1z.symm hza
   have ez:e≠z:=λq=>by subst q;rw[hzb]at hoe;cases hoe;simp at hce
   exact Wk hzb (by simp) λhc _ hsc=>fin (λc o c1 _ c3 _ q=>hsc.extBut _ _ c1 (hsb _ _ c3 (hsa.extBut _ _ c1 q))) ⟨oe,hsc.extBut _ _ ez hoe,hce⟩
 | some x=>
   have hy:ys[k]?=Yt:=by rcases hend with q | q;rw[hx]at q;cases q;exact q
   refine Rj (kE (h1.extBut hsa.extBut D.i1z) (ht1.extBut hsa.extBut D.l1z) hx λhb h1b hsb=>Rn ?_);have hTOb:YK hb TO a b:=hsb.extBut _ _ D.TOi1 (hsa.extBut _ _ D.TOz hTO);refine Rj (V1 hTOb rfl ?_);refine Rj (wpAny_updateSeq_pair hTOb λhc hTOc hsc=>?_);refine Rj (XN (Rn ?_));refine Rj (Rj (Zb ?_));show RG _ _ (TY (.ref i2) >>= _) _ _ _;refine Rj (pX hh (((h2.extBut hsa.extBut D.i2z).extBut hsb.extBut D.i12.symm).extBut hsc.extBut D.TOi2.symm) (((ht2.extBut hsa.extBut D.l2z).extBut hsb.extBut D.l2i1).extBut hsc.extBut D.l2TO) hy λhd e hsd he=>?_);obtain⟨oe,hoe,hce⟩:=he;have hzd:ZD hd z TI TO .ellipsis:=hsd _ _ D.i2z.symm (hsc.extBut _ _ D.TOz.symm (hsb.extBut _ _ D.i1z.symm hza))
   have ez:e≠z:=λq=>by subst q;rw[hzd]at hoe;cases hoe;simp at hce
   exact Wk hzd (by simp) λhf _ hsf=>fin (λc o c1 c2 c3 c4 q=>hsf.extBut _ _ c1 (hsd _ _ c4 (hsc.extBut _ _ c2 (hsb.extBut _ _ c3 (hsa.extBut _ _ c1 q))))) ⟨oe,hsf.extBut _ _ ez hoe,hce⟩
noncomputable abbrev tit(t:Addr):Obj:={ cls:=.type "tuple_iterator",data:=.fields #[.ref t,.int 0 0] }
noncomputable abbrev zh2(h:Rz)(t1 t2:Addr):Rz:=(h.push (tit t1)).push (tit t2)
noncomputable abbrev zh4(h:Rz)(t1 t2:Addr):Rz:=((zh2 h t1 t2).push { cls:=.type "tuple",data:=.seq #[.ref h.objs.size,.ref (h.push (tit t1)).objs.size] }).push { cls:=.type "tuple",data:=.seq #[.none,.none] }
def wy(t1 t2:Addr)(xs ys:Array Rm):Meets (S8.«zip.__new__» ⟨[.type "zip",.ref t1,.ref t2],[]⟩) (λ_ R s=>s.heap.IsTuple t1 xs/\s.heap.IsTuple t2 ys /\
 R (.ok (.ret (.ref (zh4 s.heap t1 t2).objs.size))) { s with heap:=(zh4 s.heap t1 t2).push { cls:=.type "zip",data:=.fields #[.none,.bool Zd,.bool Zd,.ref (zh2 s.heap t1 t2).objs.size,.ref ((zh2 s.heap t1 t2).push { cls:=.type "tuple",data:=.seq #[.ref s.heap.objs.size,.ref (s.heap.push (tit t1)).objs.size] }).objs.size] } }) :=
 .of_wp λprog w A R s h=>by
  obtain⟨hp,g,d,tk,os⟩:=s;obtain⟨hl1,hl2,h⟩:=h;have hsub:=sub_zip;have hA:Rz.IsTuple (Rr.heap ⟨hp,g,d,tk,os⟩) t1 xs:=hl1
  have hB:Rz.IsTuple (Rr.heap ⟨hp.push { cls:=.type "tuple_iterator",data:=.fields #[.ref t1,.int 0 0] },g,d,tk,os⟩) t2 ys:=hl2.at λo e=>Rk _ e
  wp_walk using wpAny_pyIter_tuple hA,wpAny_pyIter_tuple hB
  exact⟨_,rfl,h⟩
def yR(ht1:s.heap.IsTuple t1 xs)(ht2:s.heap.IsTuple t2 ys)
 (h:∀h',zr (s.heap.objs.size+4) (s.heap.objs.size+2) (s.heap.objs.size+3) s.heap.objs.size (s.heap.objs.size+1) t1 t2 0 h'->(∀c o,s.heap.get? c=Z_ o->h'.get? c=Z_ o)->Q (.ref (s.heap.objs.size+4)) { s with heap:=h' }):RG (RQ prog w) A (call (.type "zip") [.ref t1,.ref t2]) Q E s:=by
 refine callType_new F.called_zip (by decide) (F.typeCall_zip_2 _ _) (F.newCall_zip_2 _ _) (λobj=>F.args_object_init_3 obj _ _) F.entry_zip_new (wy t1 t2 xs ys) ⟨ht1,ht2,?_⟩;have n1:(s.heap.push (tit t1)).objs.size=s.heap.objs.size+1:=Vs ..
 have n2:(zh2 s.heap t1 t2).objs.size=s.heap.objs.size+2:=by rw[Vs,n1]
 have n3:((zh2 s.heap t1 t2).push { cls:=.type "tuple",data:=.seq #[.ref s.heap.objs.size,.ref (s.heap.push (tit t1)).objs.size] }).objs.size=s.heap.objs.size+3:=by rw[Vs,n2]
 have n4:(zh4 s.heap t1 t2).objs.size=s.heap.objs.size+4:=by rw[Vs,n3]
 have p5:((zh4 s.heap t1 t2).push { cls:=.type "zip",data:=.fields #[.none,.bool Zd,.bool Zd,.ref (zh2 s.heap t1 t2).objs.size,.ref ((zh2 s.heap t1 t2).push { cls:=.type "tuple",data:=.seq #[.ref s.heap.objs.size,.ref (s.heap.push (tit t1)).objs.size] }).objs.size] }).get? (zh4 s.heap t1 t2).objs.size=Z_ _:=RD _ rfl;have p4:(zh4 s.heap t1 t2).get? ((zh2 s.heap t1 t2).push { cls:=.type "tuple",data:=.seq #[.ref s.heap.objs.size,.ref (s.heap.push (tit t1)).objs.size] }).objs.size=Z_ _:=RD _ rfl;have p3:((zh2 s.heap t1 t2).push { cls:=.type "tuple",data:=.seq #[.ref s.heap.objs.size,.ref (s.heap.push (tit t1)).objs.size] }).get? (zh2 s.heap t1 t2).objs.size=Z_ _:=RD _ rfl;have p2:(zh2 s.heap t1 t2).get? (s.heap.push (tit t1)).objs.size=Z_ _:=RD _ rfl;have p1:(s.heap.push (tit t1)).get? s.heap.objs.size=Z_ _:=RD _ rfl;show _/\_;rw[n2,n3,n4]at p5 ⊢;rw[n3]at p4;rw[n2]at p3;rw[n1]at p2;refine⟨⟨_,p5,rfl⟩,h _ ⟨p5,?_,⟨_,_,Rk _ p4⟩,⟨_,Rk _ (Rk _ (Rk _ (Rk _ p1))),rfl,rfl⟩,⟨_,Rk _ (Rk _ (Rk _ p2)),rfl,rfl⟩⟩ λc o e=>Rk _ (Rk _ (Rk _ (Rk _ (Rk _ e))))⟩;exact(Rk _ (Rk _ p3)).trans (by rw[n1])
end
section
variable{X:Cx}{pins:List (Addr×Obj)}{σ:L2.St}{H:Hp}{s:Rr}{h':Rz}{fp:List Addr}
def lY(I:Inv X pins σ H s)(hf:∀b∈fp,FpOk X pins H b)(k:∀b o,b∉fp->s.heap.get? b=Z_ o->h'.get? b=Z_ o):Inv X pins σ H { s with heap:=h',toks:=t' }:=by
 have nit:∀b u,H b=Z_ u->b∉fp:=λb u e z=>by have:=(hf b z).1;rw[this]at e;cases e
 refine I.step (g':=s.gens) (d':=s.drawn) (ch:=fp) (λb hb=>?_) (λb o _ _ hc e _=>k b o hc e) (λb o _ _ hc e _=>⟨o.slots,k b o hc e⟩) (λ_ _ _ _ n=>n) (λb o hc e=>⟨o,k b o hc e⟩) (λ_ _ e=>e) (λ_ _ _ e=>e) (λb ps e=>⟨#[],by rw[e];simp⟩) (λm hm=>?_) (λb u e=>?_) I.bare
 .obtain⟨_,f1,_,f3,f4,f5⟩:=hf b hb
  exact⟨f3,f1,f4,f5⟩
 .obtain⟨o,es,ep,ho,r⟩:=hm
  exact⟨o,es,ep,k _ o (λz=>(hf _ z).2.1 rfl) ho,r⟩
 .refine(I.hok b u e).stay (λc v hc q=>k c v ?_ q) (λ_ q=>q) λ_ _ q=>q
  rcases hc with z | z
  .rw[z];exact nit b u e
  .exact nit c _ z
def iz(I:Inv X pins σ H s)(hf:∀b∈fp,FpOk X pins H b)(k:∀b o,b∉fp->s.heap.get? b=Z_ o->h'.get? b=Z_ o)(hp:s.heap.objs.size<=a)(new:ObjOk X.prog X.w (upd H a ob) h' a ob):Inv X pins σ (upd H a ob) { s with heap:=h',toks:=t' }:=by
 have nit:∀b u,H b=Z_ u->b∉fp:=λb u e z=>by have:=(hf b z).1;rw[this]at e;cases e
 have hn:H a=Yt:=I.hok.fresh hp
 have up:∀{b:Addr}{u:HO},H b=Z_ u->upd H a ob b=Z_ u:=λ{b u} e=>by rw[aP (bA e hn)];exact e
 refine I.step (g':=s.gens) (d':=s.drawn) (ch:=fp) (λb hb=>?_) (λb o _ _ hc e _=>k b o hc e) (λb o _ _ hc e _=>⟨o.slots,k b o hc e⟩) (λb o _ e n=>?_) (λb o hc e=>⟨o,k b o hc e⟩) (λ_ _ e=>up e) (λ_ _ _ e=>up e) (λb ps e=>⟨#[],by rw[up e];simp⟩) (λm hm=>?_) (λb u e=>?_) I.bare
 .obtain⟨_,f1,_,f3,f4,f5⟩:=hf b hb
  exact⟨f3,f1,f4,f5⟩
 .have:b≠a:=RX (Td (RB e) hp)
  rw[aP this];exact n
 .obtain⟨o,es,ep,ho,r⟩:=hm
  exact⟨o,es,ep,k _ o (λz=>(hf _ z).2.1 rfl) ho,r⟩
 .by_cases hb:b=a
  .subst hb;rw[bf]at e;cases e;exact new
  .rw[aP hb]at e
   refine(I.hok b u e).stay (λc v hc q=>k c v ?_ q) (λ_ q=>up q) λ_ _ q=>up q
   rcases hc with z | z
   .rw[z];exact nit b u e
   .exact nit c _ z
end
noncomputable def Itp(ok:Hp->Prop)(ps:List (V×V)):It:=⟨λi H=>ok H/\i<ps.length,λi H x H'=>∃(p:Addr)(q:V×V),H p=Yt/\ps[i]?=Z_ q/\x=.ref p/\H'=upd H p (.tup [q.1,q.2]),λi H=>ok H/\ps.length<=i⟩
def vV(rx:RelV x u)(ry:RelV y v)(e:h.get? a=Z_ { cls:=.type "tuple",data:=.seq #[u,v] }):ObjOk P w H h a (.tup [x,y]) :=
 ⟨by show 2<=sizeLine;rw[Ut];omega,[u,v],.cons rx (.cons ry .nil),⟨_,e,rfl,_,rfl⟩⟩
theorem zx{P:Sx}{w:Th}{K:Rw}{elts:List Expr}{x1:Nat}{pos:Pos}{z TI TO i1 i2 t1 t2:Addr}(D:ZipApart z TI TO i1 i2 t1 t2)(xs ys:List V) :
 Turn P w K (.Tuple elts x1 pos) (Itp (λH=>SqT K H t1 xs/\SqT K H t2 ys) (xs.zip ys)) [z,TI,TO,i1,i2] z (zr z TI TO i1 i2 t1 t2)where
 mem:=by simp
 obj:=λi h st b hb=>by
  obtain⟨hz,hTI,⟨a,c,hTO⟩,⟨o1,e1,_,d1⟩,⟨o2,e2,_,d2⟩⟩:=st;simp only[Rp,Sd,or_false]at hb;rcases hb with rfl | rfl | rfl | rfl | rfl
  .exact⟨_,hz,λv q=>by cases q⟩
  .exact⟨_,hTI,λv q=>by cases q⟩
  .exact⟨_,hTO,λv q=>by cases q⟩
  .exact⟨o1,e1,λv q=>by rw[d1]at q;cases q⟩
  .exact⟨o2,e2,λv q=>by rw[d2]at q;cases q⟩
 keep:=λi h h' st k=>by
  obtain⟨hz,hTI,⟨a,c,hTO⟩,s1,s2⟩:=st;exact⟨k z (by simp) _ hz,k TI (by simp) _ hTI,⟨a,c,k TO (by simp) _ hTO⟩,s1.at λo e=>k i1 (by simp) o e,s2.at λo e=>k i2 (by simp) o e⟩
 item:=by
  intro X hP hw hK hc i pins s σ H E I hf st hg;subst hP hw hK;obtain⟨⟨hq1,hq2⟩,hi⟩:=hg;obtain⟨its1,rv1,p1,_⟩:=I.tuple hq1;obtain⟨its2,rv2,p2,_⟩:=I.tuple hq2
  have hl:i<xs.length/\i<ys.length:=by rw[List.length_zip]at hi;omega
  obtain⟨u,hu,ru⟩:=rv1.get (RC hl.1);obtain⟨v,hv,rv⟩:=rv2.get (RC hl.2)
  have old:∀b∈[z,TI,TO,i1,i2],b<s.heap.objs.size:=λb hb=>by
   obtain⟨hz,hTI,⟨a,c,hTO⟩,⟨o1,e1,_⟩,⟨o2,e2,_⟩⟩:=id st;simp only[Rp,Sd,or_false]at hb;rcases hb with rfl | rfl | rfl | rfl | rfl
   .exact RB hz
   .exact RB hTI
   .exact RB hTO
   .exact RB e1
   .exact RB e2
  refine HY D st (show s.heap.IsTuple t1 its1.toArray from p1) (show s.heap.IsTuple t2 its2.toArray from p2) (x:=u) (y:=v) (by simpa using hu) (by simpa using hv) λha a1 a2 a3 a4 a5 a6 ak=>?_
  refine⟨_,rfl,wpAny_letOwnedTupleGo_zip a1 λhb b1 bs=>?_⟩
  replace bs:Ub z ha hb:=bs
  have nz:s.heap.objs.size≠z:=Vq (old z (by simp));have e2:hb.get? s.heap.objs.size=Z_ { cls:=.type "tuple",data:=.seq #[u,v] }:=(bs.2 _ nz).trans a6;refine⟨.ref s.heap.objs.size,upd H s.heap.objs.size (.tup [xs[i]'hl.1,ys[i]'hl.2]),iz (s:=s) (h':=hb) (t':=s.toks) I hf (λb o hb' e=>?_) (Rx _) (vV ru rv e2),rfl,⟨_,(xs[i]'hl.1,ys[i]'hl.2),I.hok.fresh (Rx _),?_,rfl,rfl⟩,⟨b1,?_,?_,?_,?_⟩,λb hb'=>?_⟩
  .simp only[Rp,Sd,or_false,not_or]at hb'
   exact(bs.2 b hb'.1).trans (ak b o hb'.1 hb'.2.2.1 hb'.2.2.2.1 hb'.2.2.2.2 e)
  .rw[RC hi];simp
  .exact(bs.2 _ D.TIz).trans a2
  .obtain⟨c,d,q⟩:=a3
   exact⟨c,d,(bs.2 _ D.TOz).trans q⟩
  .exact a4.at λo e=>(bs.2 _ D.i1z).trans e
  .exact a5.at λo e=>(bs.2 _ D.i2z).trans e
  .rw[aP (RX (old b hb'))]
   exact(hf b hb').1
 done:=by
  intro X hP hw hK hc i pins s σ H E I hf st hg;subst hP hw hK;obtain⟨⟨hq1,hq2⟩,hi⟩:=hg;obtain⟨its1,rv1,p1,_⟩:=I.tuple hq1;obtain⟨its2,rv2,p2,_⟩:=I.tuple hq2;have l1:=rv1.length;have l2:=rv2.length;rw[List.length_zip]at hi
  refine Gj (I.ok.hd hc) D st (show s.heap.IsTuple t1 its1.toArray from p1) (show s.heap.IsTuple t2 its2.toArray from p2) ?_ λh' k=>⟨rfl,lY (t':=s.toks) I hf λb o hb e=>?_⟩
  .by_cases q:xs.length<=i
   .exact .inl (Vw (by simp;omega))
   .exact .inr (Vw (by simp;omega))
  .simp only[Rp,Sd,or_false,not_or]at hb
   exact k b o hb.1 hb.2.2.1 hb.2.2.2.1 hb.2.2.2.2 e
 self:=λ_ _ _ _ _ st h=>wpAny_pyIter_zip st.1 h
noncomputable def prsV(i:Nat):List V->List (V×V)
 | []=>[]
 | x::l=>(.int (i:Int),x)::prsV (i+1) l
theorem fK:∀(l:List V)(i:Nat),(prsV i l).length=l.length
 | [],_=>rfl
 | _::l,i=>by simp[prsV,fK l]
theorem jN:∀(l:List V)(i j:Nat)(x:V),l[j]?=Z_ x->(prsV i l)[j]?=Z_ (.int ((i+j:Nat):Int),x)
 | [],_,_,_,h=>by simp at h
 | y::l,i,0,x,h=>by simp at h;subst h;simp[prsV]
 | y::l,i,j+1,x,h=>by
   simp only[prsV,W5]at h ⊢;rw[jN l (i+1) j x h]
   congr 3
   omega
theorem uO{P:Sx}{w:Th}{K:Rw}{elts:List Expr}{x1:Nat}{pos:Pos}{e it a:Addr}(ne:e≠it)(xs:List V) :
 Turn P w K (.Tuple elts x1 pos) (Itp (λH=>SqL K H a xs) (prsV 0 xs)) [e,it] e (λi h=>(∃old,IsEnum h e it i old)/\h.IsListIter it a i)where
 mem:=by simp
 obj:=λi h st b hb=>by
  obtain⟨⟨old,he⟩,⟨o1,e1,_,d1⟩⟩:=st;simp only[Rp,Sd,or_false]at hb;rcases hb with rfl | rfl
  .exact⟨_,he,λv q=>by cases q⟩
  .exact⟨o1,e1,λv q=>by rw[d1]at q;cases q⟩
 keep:=λi h h' st k=>by
  obtain⟨⟨old,he⟩,s1⟩:=st;exact⟨⟨old,k e (by simp) _ he⟩,s1.at λo q=>k it (by simp) o q⟩
 item:=by
  intro X hP hw hK hc i pins s σ H E I hf st hg;subst hP hw hK;obtain⟨hq,hi⟩:=hg;rw[fK]at hi;obtain⟨its,rv,p,_⟩:=I.list hq;obtain⟨u,hu,ru⟩:=rv.get (RC hi);obtain⟨⟨old,he⟩,hit⟩:=st;have lt1:e<s.heap.objs.size:=RB he
  have lt2:it<s.heap.objs.size:=by obtain⟨_,q,_⟩:=id hit;exact RB q
  refine wpAny_pyNext_enum_item he hit p.isList (x:=u) (by simpa using hu) ne λha a1 a2 a3 _ ak=>?_
  refine⟨_,rfl,wpAny_letOwnedTupleGo_enum a1 λhb b1 bs=>?_⟩
  replace bs:Ub e ha hb:=bs
  have e2:hb.get? s.heap.objs.size=Z_ { cls:=.type "tuple",data:=.seq #[.int i s.toks,u] }:=(bs.2 _ (Vq lt1)).trans a3
  have ri:RelV (.int (i:Int)) (.int i s.toks):=⟨_,rfl⟩
  refine⟨.ref s.heap.objs.size,upd H s.heap.objs.size (.tup [.int (i:Int),xs[i]'hi]),iz (s:=s) (h':=hb) (t':=s.toks+1) I hf (λb o hb' q=>?_) (Rx _) (vV ri ru e2),rfl,⟨_,(.int (i:Int),xs[i]'hi),I.hok.fresh (Rx _),?_,rfl,rfl⟩,⟨⟨u,?_⟩,?_⟩,λb hb'=>?_⟩
  .simp only[Rp,Sd,or_false,not_or]at hb'
   exact(bs.2 b hb'.1).trans (ak b o hb'.1 hb'.2 q)
  .have:=jN xs 0 i _ (RC hi)
   rw[VP]at this;exact this
  .rw[show(((i+1:Nat)):Int)=(i:Int)+1 from by omega]
   exact b1
  .exact a2.at λo q=>(bs.2 _ (Vr ne)).trans q
  .simp only[Rp,Sd,or_false]at hb'
   have:b<s.heap.objs.size:=by rcases hb' with rfl | rfl;exact lt1;exact lt2
   rw[aP (RX this)];exact(hf b (by simp[hb'])).1
 done:=by
  intro X hP hw hK hc i pins s σ H E I hf st hg;subst hP hw hK;obtain⟨hq,hi⟩:=hg;rw[fK]at hi;obtain⟨its,rv,p,_⟩:=I.list hq;have hl:=rv.length;obtain⟨⟨old,he⟩,hit⟩:=st
  exact wpAny_pyNext_enum_end (I.ok.hd hc) he hit p.isList (Vw (by simp;omega)) λh' k=>⟨rfl,lY (t':=s.toks) I hf λb o hb q=>k b o (λz=>hb (by simp[z])) q⟩
 self:=λ_ _ _ _ _ st h=>by
  obtain⟨⟨old,he⟩,_⟩:=st;exact wpAny_pyIter_enum he h
section
variable{X:Cx}{elts:List Expr}{x1:Nat}{tpos p cpos:Pos}
def iZip(K:Rw)(ta:TA):L2.TI:=fun σ H R=>ta σ H λvs H1=>∃a b xs ys,vs=[.ref a,.ref b]/\SqT K H1 a xs/\SqT K H1 b ys/\R (Itp (λH=>SqT K H a xs/\SqT K H b ys) (xs.zip ys)) H1
theorem HF(hg:Gl X "zip")(hm:X.mg "zip"=Yt)(ha:PA X [a,b] ta)(hs:SJ [a,b] X.env=[(Zd,Vl a X.env),(Zd,Vl b X.env)])(hs2:SJ [b] X.env=[(Zd,Vl b X.env)]):PI X (.Tuple elts x1 tpos) (.Call (.Name "zip" p) [a,b] [] cpos) (iZip X.K ta):=by
 intro pins s σ H R I h;refine Call_ (jc I hg hm boot_zip (W7 (thn (ha cpos pins s σ H _ I h) λus s1 ⟨vs,H1,I1,r1,q1⟩=>?_) (by rw[hs,hs2]) (by rw[hs2];rfl)));obtain⟨a,b,xs,ys,rfl,hq1,hq2,q⟩:=q1
 cases r1 with
 | cons r rr=>
   cases rr with
   | cons r' rr=>
     cases rr;cases r;cases r';obtain⟨its1,rv1,p1,_⟩:=I1.tuple hq1;obtain⟨its2,rv2,p2,_⟩:=I1.tuple hq2
     refine yR (show s1.heap.IsTuple a its1.toArray from p1) (show s1.heap.IsTuple b its2.toArray from p2) λh' st hk=>?_
     refine wpAny_pyIter_zip st.1 ⟨_,[s1.heap.objs.size+4,s1.heap.objs.size+2,s1.heap.objs.size+3,s1.heap.objs.size,s1.heap.objs.size+1],_,_,H1,rfl,I1.kept (t':=s1.toks) hk,zx (zipApart_new (p1:s1.heap.IsTuple a its1.toArray).lt (p2:s1.heap.IsTuple b its2.toArray).lt) xs ys,st,λc hc=>?_,q⟩
     have:s1.heap.objs.size<=c:=by
      simp only[Rp,Sd,or_false]at hc;rcases hc with rfl | rfl | rfl | rfl | rfl<;>omega
     exact I1.fpOk this (I1.hok.fresh this)
def Qi(K:Rw)(ta:TA):L2.TI:=fun σ H R=>ta σ H λvs H1=>∃a xs,vs=[.ref a]/\SqL K H1 a xs/\R (Itp (λH=>SqL K H a xs) (prsV 0 xs)) H1
def Ca{a:Expr}{ta:TA}(hg:Gl X "enumerate")(hm:X.mg "enumerate"=Yt)(ha:PA X [a] ta)(hs:SJ [a] X.env=[(Zd,Vl a X.env)]):PI X (.Tuple elts x1 tpos) (.Call (.Name "enumerate" p) [a] [] cpos) (Qi X.K ta):=by
 intro pins s σ H R I h;refine Call_ (jc I hg hm boot_enumerate (W7 (thn (ha cpos pins s σ H _ I h) λus s1 ⟨vs,H1,I1,r1,q1⟩=>?_) hs rfl));obtain⟨a,xs,rfl,hq,q⟩:=q1
 cases r1 with
 | cons r rr=>
   cases rr;cases r;obtain⟨its,rv,p,_⟩:=I1.list hq
   refine call_enumerate_list p.isList λh' he hit _ hk=>?_
   refine wpAny_pyIter_enum he ⟨_,[s1.heap.objs.size+1,s1.heap.objs.size],_,_,H1,rfl,I1.kept (t':=s1.toks) hk,uO (e:=s1.heap.objs.size+1) (it:=s1.heap.objs.size) (a:=a) (Nat.succ_ne_self _) xs,⟨⟨_,he⟩,hit⟩,λc hc=>?_,q⟩
   have:s1.heap.objs.size<=c:=by
    simp only[Rp,Sd,or_false]at hc;rcases hc with rfl | rfl<;>omega
   exact I1.fpOk this (I1.hok.fresh this)
end
section
variable{X:Cx}{W:Wd}{lk:Bool}{σ:L2.St}{H H1 H':Hp}{me:Option Addr}{B:Addr->Prop}{δ:Dst}{o:Orc}{p cpos pos tpos:Pos}{tg:Expr}
def top(lk:Bool)(H2:Hp)(P:Addr->Prop):Hp:=if lk=Y_ then H2 else vis H2 P
def WalkL(X:Cx)(W:Wd)(o:Orc)(lk:Bool)(it:TI)(wi:L2.TI):Prop:=∀σ H (K:It->Hp->Prop),(∃me B δ l,SR X W me B H σ δ/\evI o δ lk it=.ok l/\∀J H2,Same H H2->Ylds W J (top lk H2 (Hid B σ δ)) (vis H2 (Hid B σ δ)) l->K J H2)->wi σ H K
def WalkL.comp(h:WalkL X W o Y_ it wi):Ex X W o it wi:=fun σ H K ⟨me,B,δ,l,S,e,k⟩=>h σ H K ⟨me,B,δ,l,S,e,λJ H2 s y=>k J H2 s (by simpa[top]using y)⟩
def top_le:Same (top lk H2 P) H2:=by
 unfold top;split
 .exact Same.refl _
 .exact aZ
def vY(h:Res W P lk H H' w (.lst l) v)(hp:∀a,P a->∃u,H a=Z_ u):∃a xs,v=.ref a/\SqL W.K (top lk H' P) a xs/\Reps W (vis H' P) l xs:=by
 cases lk with
 | true=>
   obtain⟨a,xs,rfl,q1,q2⟩:=h.look;exact⟨a,xs,rfl,by simpa[top]using q1,q2⟩
 | false=>
   have:=h.keep hp;simp only[Rep]at this;obtain⟨a,xs,rfl,q1,q2⟩:=this;exact⟨a,xs,rfl,by simpa[top]using q1,q2⟩
def Ey(h:Res W P lk H H' w (.dct ks vs) v)(hp:∀a,P a->∃u,H a=Z_ u):∃a kvs ep,v=.ref a/\top lk H' P a=Z_ (.dK kvs ep)/\Reps W (vis H' P) (ks.map keyD) (kvs.map λp=>kV p.1):=by
 cases lk with
 | true=>
   obtain⟨a,kvs,rfl,⟨ep,q1⟩,q2,q3,q4⟩:=h.look;exact⟨a,kvs,ep,rfl,by simpa[top]using q1,ji q2 q3.2⟩
 | false=>
   have:=h.keep hp;simp only[Rep]at this;obtain⟨a,kvs,rfl,⟨ep,q1⟩,q2,q3,q4⟩:=this;exact⟨a,kvs,ep,rfl,by simpa[top]using q1,ji q2 q3.2⟩
def pG(h:Res W P lk H H' w (.tup l) v):∃a xs,v=.ref a/\SqT W.K (vis H' P) a xs/\Reps W (vis H' P) l xs:=by
 have:=h.look;simp only[RepT,Rep]at this;exact this
def pB{K:Rw}{H2:Hp}{P:Addr->Prop}{a:Addr}{xs:List V}(h:SqT K (vis H2 P) a xs):SqT K (top lk H2 P) a xs:=by
 unfold top;split
 .exact aK aZ h
 .exact h
def Q9(hk:W.K=X.K)(he:PE X iter (tD X W lk fun δ=>ev o δ lk t)):∃wi,PI X tg iter wi/\WalkL X W o lk (.val t) wi:=by
 refine⟨_,PI.or (PI.or (PI.or (EY he) (Nh he)) (Fp he)) (Js he),fun σ H K ⟨me,B,δ,l,S,e,k⟩=>?_⟩;simp only[evI]at e
 cases e1:ev o δ lk t with
 | exc c=>rw[e1]at e;cases e
 | stuck=>rw[e1]at e;cases e
 | ok r=>
 rw[e1]at e;simp only[a0u]at e
 cases e2:r.2 with
 | lst l'=>
   rw[e2]at e;cases e;refine .inl (.inl (.inl (tD_iff.mpr ⟨me,B,δ,S,?_⟩)));rw[e1];intro v H1 s q;rw[e2]at q;obtain⟨c,xs,rfl,q1,q2⟩:=vY q S.know;exact⟨c,rfl,⟨xs,hk▸top_le.seq q1⟩,k _ _ s (.of (p6 (hk▸q1)) q2)⟩
 | tup l'=>
   rw[e2]at e;cases e;refine .inl (.inl (.inr (tD_iff.mpr ⟨me,B,δ,S,?_⟩)));rw[e1];intro v H1 s q;rw[e2]at q;obtain⟨c,xs,rfl,q1,q2⟩:=pG q;exact⟨c,rfl,⟨xs,hk▸aK aZ q1⟩,k _ _ s (.of (t8 (hk▸pB q1)) q2)⟩
 | dct ks vs=>
   rw[e2]at e;cases e;refine .inl (.inr (tD_iff.mpr ⟨me,B,δ,S,?_⟩));rw[e1];intro v H1 s q;rw[e2]at q;obtain⟨c,kvs,ep,rfl,q1,q2⟩:=Ey q S.know;exact⟨c,kvs,ep,rfl,top_le _ _ q1,k _ _ s (.of (oE q1) q2)⟩
 | str x=>
   rw[e2]at e;cases e;refine .inr (tD_iff.mpr ⟨me,B,δ,S,?_⟩);rw[e1];intro v H1 s q;have q:=q.look;rw[e2]at q;simp only[RepT,Rep]at q;obtain⟨rfl,q1⟩:=q;exact⟨_,rfl,k _ _ s (.of (t7 x) (jr x))⟩
 | _=>rw[e2]at e;cases e
theorem JM(hgl:Gl X "range")(hm:X.mg "range"=Yt)(h1:PE X e1 (tD X W Y_ fun δ=>ev o δ Y_ t))(hst:az e1=Zd):∃wi,PI X tg (.Call (.Name "range" p) [e1] [] cpos) wi/\WalkL X W o lk (.rng1 t) wi:=by
 refine⟨_,yc hgl hm (bJ h1 cT (bW hst)) (bW hst),fun σ H K ⟨me,B,δ,l,S,e,k⟩=>?_⟩;simp only[evI]at e;refine tD_iff.mpr ⟨me,B,δ,S,?_⟩
 cases e3:ev o δ Y_ t with
 | ok r=>
   rw[e3]at e;simp only[a0u]at e
   cases e4:r.2 with
   | int n=>
     rw[e4]at e;obtain⟨hc1,e⟩:=gA e;cases e;intro v H1 s1 q1;have q1:=q1.look;rw[e4]at q1;have hn:=Oc hc1;have:=aO q1;subst this;refine⟨n,rfl,by omega,by omega,k _ _ s1 (.of (nR 0 n.toNat) ?_)⟩
     have e5:rngD 0 n=(TQ n.toNat).map λ(k:Nat)=>a0p (0+(k:Int)):=by unfold rngD;rw[Int.sub_zero]
     rw[e5];exact Az 0 n.toNat
   | _=>rw[e4]at e;cases e
 | exc c=>rw[e3]at e;cases e
 | stuck=>rw[e3]at e;cases e
theorem kj:∀(l r:List D)(xs ys:List V),l.length=xs.length->r.length=ys.length->(zipD l r).length=(xs.zip ys).length
 | [],_,[],_,_,_=>rfl
 | _::_,[],_::_,[],_,_=>rfl
 | _::l,_::r,_::xs,_::ys,h1,h2=>by simp[zipD,kj l r xs ys (by simpa using h1) (by simpa using h2)]
 | [],_,_::_,_,h,_=>by simp at h
 | _::_,_,[],_,h,_=>by simp at h
 | _::_,[],_::_,_::_,_,h=>by simp at h
 | _::_,_::_,_::_,[],_,h=>by simp at h
theorem pN:∀(l r:List D)(i:Nat)(d:D),(zipD l r)[i]?=Z_ d->∃x y,l[i]?=Z_ x/\r[i]?=Z_ y/\d=.tup [x,y]
 | [],_,_,_,h=>by simp[zipD]at h
 | _::_,[],_,_,h=>by simp[zipD]at h
 | x::l,y::r,0,d,h=>by simp[zipD]at h;exact⟨x,y,rfl,rfl,h.symm⟩
 | x::l,y::r,i+1,d,h=>by
   simp only[zipD,W5]at h ⊢;exact pN l r i d h
theorem jf:∀(l:List D)(i:Nat),(dU i l).length=l.length
 | [],_=>rfl
 | _::l,i=>by simp[dU,jf l]
theorem mj:∀(l:List D)(i j:Nat)(d:D),(dU i l)[j]?=Z_ d->∃x,l[j]?=Z_ x/\d=.tup [.int ((i+j:Nat):Int),x]
 | [],_,_,_,h=>by simp[dU]at h
 | x::l,i,0,d,h=>by simp[dU]at h;exact⟨x,rfl,by rw[<-h];rfl⟩
 | x::l,i,j+1,d,h=>by
   simp only[dU,W5]at h ⊢;obtain⟨y,h1,h2⟩:=mj l (i+1) j d h;exact⟨y,h1,by rw[h2];congr 4;omega⟩
def Qs(hk:W.K=X.K)(hgl:Gl X "zip")(hm:X.mg "zip"=Yt)(h1:PE X e1 (tD X W lk fun δ=>ev o δ lk t1))(h2:PE X e2 (tD X W lk fun δ=>ev o δ lk t2))(hst1:az e1=Zd)(hst2:az e2=Zd) :
 ∃wi,PI X (.Tuple es x1 tpos) (.Call (.Name "zip" p) [e1,e2] [] cpos) wi/\WalkL X W o lk (.zip t1 t2) wi:=by
 have hs2:SJ [e2] X.env=[(Zd,Vl e2 X.env)]:=bW hst2;have hpa:=bJ h1 (bJ h2 cT hs2) (bW hst1)
 have hs1:SJ [e1,e2] X.env=[(Zd,Vl e1 X.env),(Zd,Vl e2 X.env)]:=by rw[bW hst1,hs2]
 refine⟨_,HF hgl hm hpa hs1 hs2,fun σ H K ⟨me,B,δ,l,S,e,k⟩=>?_⟩;simp only[evI]at e
 cases e3:ev o δ lk t1 with
 | exc c=>rw[e3]at e;cases e
 | stuck=>rw[e3]at e;cases e
 | ok r=>
 rw[e3]at e;simp only[a0u]at e
 cases e5:ev o δ lk t2 with
 | exc c=>rw[e5]at e;cases e
 | stuck=>rw[e5]at e;cases e
 | ok r2=>
 rw[e5]at e
 have go:∀{J:It}{xs ys:List V}{la lb:List D}{H2:Hp}{ok:Hp->Prop},Reps W (vis H2 (Hid B σ δ)) la xs->Reps W (vis H2 (Hid B σ δ)) lb ys->(∀G,Same (top lk H2 (Hid B σ δ)) G->ok G)->Ylds W (Itp ok (xs.zip ys)) (top lk H2 (Hid B σ δ)) (vis H2 (Hid B σ δ)) (zipD la lb):=λ{J xs ys la lb H2 ok} a2 b2 hok=>by
  refine⟨λi G s hi=>⟨hok G s,?_⟩,λi G x G' d s ed ⟨q,pr,z1,z2,z3,z4⟩=>?_,λG s=>⟨hok G s,?_⟩⟩
  .rw[<-kj la lb xs ys a2.length b2.length];exact hi
  .obtain⟨x',y',f1,f2,f3⟩:=pN la lb i d ed
   obtain⟨v1,g1,g2⟩:=a2.get f1;obtain⟨v2,g3,g4⟩:=b2.get f2
   have:pr=(v1,v2):=by
    have hz:(xs.zip ys)[i]?=Z_ (v1,v2):=by
     rw[List.getElem?_zip_eq_some];exact⟨g1,g3⟩
    rw[z2]at hz;exact U5 hz
   subst this;exact .inr ⟨q,x',y',v1,v2,f3,z3,z1,z4,g2,g4⟩
  .rw[<-kj la lb xs ys a2.length b2.length];exact Rx _
 obtain⟨la,lb,e4,e6,rfl⟩:=GJ e;refine tD_iff.mpr ⟨me,B,δ,S,?_⟩;rw[e3];intro v H1 s1 q1;refine tD_iff.mpr ⟨me,B,δ,S.mono s1,?_⟩;rw[e5];intro v2 H2 s2 q2;rw[e4]at q1;rw[e6]at q2;obtain⟨a,xs,rfl,a1,a2⟩:=pG q1;obtain⟨b,ys,rfl,b1,b2⟩:=pG q2;have up:Same (vis H1 (Hid B σ δ)) (vis H2 (Hid B σ δ)):=aC s2;have a1':=aK up a1;exact⟨a,b,xs,ys,rfl,hk▸aK aZ a1',hk▸aK aZ b1,k _ _ (s1.trans s2) (go (J:=Itp (λ_=>True) []) (a2.mono up) b2 λG s=>⟨hk▸aK s (pB a1'),hk▸aK s (pB b1)⟩)⟩
def JF(hk:W.K=X.K)(hgl:Gl X "enumerate")(hm:X.mg "enumerate"=Yt)(h1:PE X e1 (tD X W lk fun δ=>ev o δ lk t))(hst:az e1=Zd):∃wi,PI X (.Tuple es x1 tpos) (.Call (.Name "enumerate" p) [e1] [] cpos) wi/\WalkL X W o lk (.enum t) wi:=by
 refine⟨_,Ca hgl hm (bJ h1 cT (bW hst)) (bW hst),fun σ H K ⟨me,B,δ,l,S,e,k⟩=>?_⟩;simp only[evI]at e
 cases e3:ev o δ lk t with
 | ok r=>
   rw[e3]at e;simp only[a0u]at e
   cases e4:r.2 with
   | lst la=>
     rw[e4]at e;cases e;refine tD_iff.mpr ⟨me,B,δ,S,?_⟩;rw[e3];intro v H1 s1 q1;rw[e4]at q1;obtain⟨a,xs,rfl,a1,a2⟩:=vY q1 S.know;refine⟨a,xs,rfl,hk▸top_le.seq a1,k _ _ s1 ⟨λi G s hi=>⟨hk▸s.seq a1,?_⟩,λi G x G' d s ed ⟨q,pr,z1,z2,z3,z4⟩=>?_,λG s=>⟨hk▸s.seq a1,?_⟩⟩⟩
     .rw[fK,<-a2.length,<-jf la 0];exact hi
     .obtain⟨x',f1,f2⟩:=mj la 0 i d ed
      obtain⟨v1,g1,g2⟩:=a2.get f1;rw[jN xs 0 i v1 g1]at z2;cases z2;exact .inr ⟨q,_,x',_,v1,f2,z3,z1,z4,by simp only[Rep],g2⟩
     .rw[fK,<-a2.length,<-jf la 0];exact Rx _
   | _=>rw[e4]at e;cases e
 | exc c=>rw[e3]at e;cases e
 | stuck=>rw[e3]at e;cases e
theorem yU(hg:TgOk X W tg is tup g)(S:SR X W me B H σ δ)(Y:Ylds W J (vis H (Hid B σ δ)) (vis H (Hid B σ δ)) l)
 (h:AfterS X W me B (vis H (Hid B σ δ)) (bR (evSs o sb) is tup l δ) En) :
 ∃Wv:Nat->Nat->L2.St->Hp->Prop,(∃m,Wv 0 m σ H)/\∀i m σ H,Wv i m σ H ->
  (J.stop i H/\En.nx σ H)\/(J.go i H/\∃N:L2.St->Hp->Prop,(∀σ' H',N σ' H'->∃m',m'<m/\Wv (i+1) m' σ' H')/\∀x H',J.yld i H x H'->g x σ H' fun σ2 H2=>tS X W (evSs o sb) { En with nx:=N,ct:=N,bk:=En.nx } σ2 H2):=by
 let Pv:Nat->L2.St->Hp->Prop:=λi σ' H'=>∃δ',SR X W me B H' σ' δ'/\Same (vis H (Hid B σ δ)) (vis H' (Hid B σ' δ'))/\AfterS X W me B (vis H' (Hid B σ' δ')) (bR (evSs o sb) is tup (l.drop i) δ') En
 refine⟨λi m σ' H'=>m=l.length-i/\i<=l.length/\Pv i σ' H',⟨l.length,rfl,Uj _,δ,S,Same.refl _,h⟩,?_⟩
 rintro i m σ' H' ⟨rfl,hi,δ',S',s',h'⟩
 by_cases hlt:i<l.length
 .refine .inr ⟨Y.go i H' (s'.trans aZ) hlt,Pv (i+1),fun σ2 H2 q=>⟨l.length-(i+1),by omega,rfl,hlt,q⟩,λx H'' y=>?_⟩
  obtain⟨d,ed⟩:∃d,l[i]?=Z_ d:=⟨_,RC hlt⟩
  obtain⟨sy,rd⟩:=(Y.yld i H' x H'' d (s'.trans aZ) ed y).rep s' S'.know
  have hd:l.drop i=d::l.drop (i+1):=by
   obtain⟨hi,e⟩:=Sq.mp ed;rw[WL hi,e]
  rw[hd]at h';simp only[bR]at h';have S'':=S'.mono sy;have sv:Same (vis H' (Hid B σ' δ')) (vis H'' (Hid B σ' δ')):=aC sy
  replace h':=AfterS.mono h' sv
  cases e2:takes is.length tup d with
  | none=>simp only[e2]at h';exact h'.elim
  | some ds=>
    simp only[e2]at h'
    cases e3:aH δ' is ds with
    | none=>simp only[e3]at h';exact h'.elim
    | some δ1=>
      simp only[e3]at h'
      refine hg.2 S'' rd e2 e3 fun σ1 S1 s1=>⟨me,B,δ1,S1,?_⟩
      have h':=AfterS.mono h' s1
      cases e4:evSs o sb δ1 with
      | nx δ2=>rw[e4]at h';exact fun σ2 H2 S2 s2=>⟨δ2,S2,((s'.trans sv).trans s1).trans s2,AfterS.mono h' s2⟩
      | ct δ2=>rw[e4]at h';exact fun σ2 H2 S2 s2=>⟨δ2,S2,((s'.trans sv).trans s1).trans s2,AfterS.mono h' s2⟩
      | bk δ2=>rw[e4]at h';exact h'
      | rt w d δ2=>rw[e4]at h';exact h'
      | ex c δ2=>rw[e4]at h';exact h'
      | stuck=>rw[e4]at h';exact h'.elim
 .have e:i=l.length:=by omega
  subst e;refine .inl ⟨Y.stop H' (s'.trans aZ),?_⟩;rw[Yk]at h';simp only[bR,AfterS]at h';exact h' σ' H' S' (Same.refl _)
def zq(S:SR X W me B H σ δ)(it:TI):SR X W me B H σ (bU δ it)/\Same (vis H (Hid B σ δ)) (vis H (Hid B σ (bU δ it))):=by
 have one:∀i,SR X W me B H σ (Z.share1 δ i)/\Same (vis H (Hid B σ δ)) (vis H (Hid B σ (Z.share1 δ i))):=λi=>⟨S.share1 i,aN (fU i)⟩
 have two:∀e,SR X W me B H σ (cG δ e)/\Same (vis H (Hid B σ δ)) (vis H (Hid B σ (cG δ e))):=λe=>by
  unfold cG;split
  .exact one _
  .exact⟨S,Same.refl _⟩
 unfold bU;split
 .exact one _
 .exact one _
 .rename_i a b
  obtain⟨S1,s1⟩:=two a
  have one':∀i,SR X W me B H σ (Z.share1 (cG δ a) i)/\Same (vis H (Hid B σ (cG δ a))) (vis H (Hid B σ (Z.share1 (cG δ a) i))):=λi=>⟨S1.share1 i,aN (fU i)⟩
  have:SR X W me B H σ (cG (cG δ a) b)/\Same (vis H (Hid B σ (cG δ a))) (vis H (Hid B σ (cG (cG δ a) b))):=by
   cases b with
   | var i=>exact one' i
   | _=>exact⟨S1,Same.refl _⟩
  exact⟨this.1,s1.trans this.2⟩
 .exact⟨S,Same.refl _⟩
def HN(hp:YB (RQ X.prog X.w) X.A X.env X.xe)(hc:X.calm=Y_)(hg:TgOk X W tg is tup g)(hi:∃wi,PI X tg iter wi/\WalkL X W o Zd it wi)
 (hb:PSs X body (tS X W (evSs o sb)))(hs:∀x,Vg iter X.env x=pure x):PS X (.For tg iter body [] pos) (tS X W (evS o (.for_ is tup it sb))):=by
 obtain⟨wi,h1,h2⟩:=hi
 refine PS.imp (Jo hp hc h1 hg.1 hb hs) λEn σ H ⟨me,B,δ,S,h⟩=>?_
 simp only[evS]at h;obtain⟨S1,s1⟩:=zq S it;obtain⟨l,e,h⟩:=SO.of_ok h;refine h2 σ H _ ⟨me,B,_,l,S1,e,λJ H2 s y=>?_⟩
 have y':Ylds W J (vis H2 (Hid B σ (bU δ it))) (vis H2 (Hid B σ (bU δ it))) l:=by simpa[top]using y
 exact yU hg (S1.mono s) y' (AfterS.mono h (s1.trans (aC s)))
end
noncomputable def zR(m z:Int):Int:=if z>m then z else m
section
variable{prog:Sx}{w:Th}{A:Tu}{E:Rm->Rr->Prop}{s:Rr}{R:a0e->Rr->Prop}
def cmp_gt(h:Q (.bool (decide (a>b))) s):RG (RQ prog w) A (richCompare .Gt (.int a t) (.int b u)) Q E s :=
 richCompare_gives (op:=.Gt) (typeIs_int s _ t) (typeIs_int s _ u) PySem.F.slot_int_gt PySem.F.entry_int_gt (PySem.F.args_int_gt_2 _ _) (gives_int_gt _ _ t u) (λx=>nomatch x) h
theorem yG{I l S:Addr}{vs:List Rm}{ns:List Int}{kw:List (Str×Rm)}(hh:A.handled=Yt)(hi:Wz vs ns)(hlI:l≠I)(hSI:S≠I)(hSl:S≠l):∀(k j:Nat)(s:Rr)(m:Int)(t:Tok)(c:Nat),ns.length-j=k->j<=ns.length->s.heap.IsListIter I l j->s.heap.IsList l vs.toArray ->
 s.heap.get? S=Z_ { cls:=.type "list",dict:=Yt,data:=.seq #[.int m t,.int m t] c,slots:=#[] } ->
 (∀t' h' tk,(∀b o,b≠I->b≠S->s.heap.get? b=Z_ o->h'.get? b=Z_ o)->R (.ok (.ret (.int ((ns.drop j).foldl zR m) t'))) { s with heap:=h',toks:=tk }) ->
 Yc (RQ prog w) A (.builtin "max.loop" ⟨[.ref I,.none,.ref S],kw⟩) R s:=by
 have hname:(a0i "max"++a0i ".loop":String)="max.loop":=by decide
 have hlen:=hi.length;intro k
 induction k with
 | zero=>
   intro j s m t c hk hj hit hl hS hR
   have e:j=ns.length:=by omega
   refine V3 PySem.F.entry_max_loop ?_;rw[U4 V8 _];show RG _ A.in1 (Zt (.ref S) >>= _) _ _ s;refine Rj (V1 hS rfl ?_);show RG _ A.in1 (a0h (Xw (.ref I)) _ >>= _) _ _ s;refine Rj (Yh (wpAny_pyNext_list_end hh hit hl (Vw (by simp;omega)) λh' hx=>?_));have hS':=hx S _ hSI hS;show RG _ A.in1 (ZL S (λ_=>#[]) >>= _) _ _ _;refine Rj (Y5 hS' rfl (Rj (XN (Rn ?_))))
   have:=hR t (h'.update S (Vz λ_=>#[])) s.toks λb o b1 b2 q=>(Ua _ _ (Vr b2)).trans (hx b o b1 q)
   rw[e,Yk]at this;exact this
 | succ k ih=>
   intro j s m t c hk hj hit hl hS hR
   have hlt:j<ns.length:=by omega
   obtain⟨u,hu⟩:=hi.get j (ns[j]'hlt) (RC hlt);have hd:ns.drop j=ns[j]'hlt::ns.drop (j+1):=WL hlt;rw[hd]at hR;generalize ns[j]'hlt=z at hu hR;refine V3 PySem.F.entry_max_loop ?_;rw[U4 V8 _];show RG _ A.in1 (Zt (.ref S) >>= _) _ _ s;refine Rj (V1 hS rfl ?_);show RG _ A.in1 (a0h (Xw (.ref I)) _ >>= _) _ _ s;refine Rj (Yh (wpAny_pyNext_list_item hit hl (x:=.int z u) (by simpa using hu) λh' hit' hs'=>?_));have hS':=(hs'.2 S hSI).trans hS;have hl':=hl.extBut hs'.extBut hlI;show RG _ A.in1 (a0h (Xy [.int z u,.int z u] (richCompare .Gt (.int z u) (.int m t) >>= _)) _ >>= _) _ _ _;refine Rj (Yh (Uu (Rj (cmp_gt ?_))));refine Rj (Uu (W2 ?_));refine Rj (XN (Rn ?_))
   by_cases hb:z>m
   .simp only[decide_eq_true hb,if_true];refine Rj (Y5 hS' rfl (Rj (XN ?_)));rw[hname]
    refine Rn ⟨VF V8 _,ih (j+1) _ z u _ (by omega) hlt (hit'.at λo e=>(Ua _ _ hSI).trans e) (hl'.at λo e=>(Ua _ _ hSl).trans e) (TJ _ hS' rfl) λt' h'' tk hk''=>?_⟩
    have:=hR t' h'' tk λb o b1 b2 q=>hk'' b o b1 b2 ((Ua _ _ (Vr b2)).trans ((hs'.2 b b1).trans q))
    rw[Vv,show zR m z=z from if_pos hb]at this;exact this
   .simp only[decide_eq_false hb,Rv,if_false];refine Rj (XN ?_);rw[hname]
    refine Rn ⟨VF V8 _,ih (j+1) _ m t c (by omega) hlt hit' hl' hS' λt' h'' tk hk''=>?_⟩
    have:=hR t' h'' tk λb o b1 b2 q=>hk'' b o b1 b2 ((hs'.2 b b1).trans q)
    rw[Vv,show zR m z=m from if_neg hb]at this;exact this
def vh(a v:Rm):a0c "max" ⟨[a],[(Str.ofString "default",v)]⟩:=by unfold a0c;kernel_rfl
noncomputable def maxOf(d:Int):List Int->Int
 | []=>d
 | y::r=>r.foldl zR y
def uZ(hh:A.handled=Yt)(hl:s.heap.IsList l vs.toArray)(hi:Wz vs ns)
 (hQ:∀t h' tk,(∀b o,s.heap.get? b=Z_ o->h'.get? b=Z_ o)->Q (.int (maxOf d ns) t) { s with heap:=h',toks:=tk }):RG (RQ prog w) A (call (.builtin "max") [.ref l] [(Str.ofString "default",.int d td)]) Q E s:=by
 have hname:(a0i "max"++a0i ".loop":String)="max.loop":=by decide
 have hlen:=hi.length
 have ll:l<s.heap.objs.size:=by obtain⟨o,e,_⟩:=hl;exact RB e
 refine kmk_tree PySem.F.kind_max PySem.F.plain_max PySem.F.entry_max (vh _ _) ?_;show RG _ A.in1 (S8.Builtins.bindParams "max" ["key","default"] 0 ⟨[],[(Str.ofString "default",.int d td)]⟩ >>= _) _ _ s;refine Rj (wpAny_of_eq (show S8.Builtins.bindParams "max" ["key","default"] 0 ⟨[],[(Str.ofString "default",.int d td)]⟩=pure [none,some (.int d td)]from rfl) ?_);refine Rj (Rn ?_);refine Rj (Yp hl ?_);refine Rj (Zc ?_ (Uj _));rw[hname];generalize hh1:s.heap.push { cls:=.type "list_iterator",data:=.fields #[.ref l,.int 0 0] }=h1
 have n1:h1.objs.size=s.heap.objs.size+1:=by rw[<-hh1];exact Vs ..
 have old:∀b o,s.heap.get? b=Z_ o->(h1.push (Ww "list" #[] 0)).get? b=Z_ o:=λb o e=>Rk _ (by rw[<-hh1];exact Rk _ e)
 have gI:(h1.push (Ww "list" #[] 0)).IsListIter s.heap.objs.size l 0:=⟨_,Rk _ (by rw[<-hh1];exact RD _ rfl),rfl,rfl⟩
 have gS:(h1.push (Ww "list" #[] 0)).get? h1.objs.size=Z_ (Ww "list" #[] 0):=RD _ rfl
 have gl:(h1.push (Ww "list" #[] 0)).IsList l vs.toArray:=hl.at λo e=>old _ o e
 have lI:l≠s.heap.objs.size:=RX ll
 have SI:h1.objs.size≠s.heap.objs.size:=by rw[n1];exact Nat.succ_ne_self _
 have Sl:h1.objs.size≠l:=by rw[n1];exact Vq (TV ll)
 refine Rn ⟨VF V8 _,?_⟩;refine V3 PySem.F.entry_max_loop ?_;rw[U4 V8 _];show RG _ A.in1 (Zt (.ref h1.objs.size) >>= _) _ _ _;refine Rj (V1 gS rfl ?_);show RG _ A.in1 (a0h (Xw (.ref s.heap.objs.size)) _ >>= _) _ _ _
 cases ns with
 | nil=>
   cases hi;refine Rj (Yh (wpAny_pyNext_list_end hh gI gl (by simp) λh' hx=>?_));refine Rj (UV (Rn ?_))
   exact hQ td h' _ λb o e=>hx b o (RX (RB e)) (old b o e)
 | cons z ns=>
   obtain⟨u,hu⟩:=hi.get 0 z rfl;refine Rj (Yh (wpAny_pyNext_list_item gI gl (x:=.int z u) (by simpa using hu) λh' hit' hs'=>?_));have hS':=(hs'.2 _ SI).trans gS;have hl':=gl.extBut hs'.extBut lI;show RG _ A.in1 (ZL h1.objs.size (λ_=>#[.int z u,.int z u]) >>= _) _ _ _;refine Rj (Y5 hS' rfl ?_);rw[hname];refine Rn ⟨VF V8 _,yG hh hi lI SI Sl _ 1 _ z u _ rfl (by simp) (hit'.at λo e=>(Ua _ _ SI).trans e) (hl'.at λo e=>(Ua _ _ Sl).trans e) (TJ _ hS' rfl) λt' h'' tk hk''=>?_⟩
   exact hQ t' h'' tk λb o e=>hk'' b o (RX (RB e)) (λq=>by have:=RB e;rw[q,n1]at this;exact Nat.not_lt_of_le (Zi _) this) ((Ua _ _ (λq=>by have:=RB e;rw[<-q,n1]at this;exact Nat.not_lt_of_le (Zi _) this)).trans ((hs'.2 b (RX (RB e))).trans (old b o e)))
end
section
variable{X:Cx}{W:Wd}{lk:Bool}{σ:L2.St}{H H1 H':Hp}{me:Option Addr}{B:Addr->Prop}{δ:Dst}{o:Orc}{p cpos pos kp:Pos}{a b:Expr}
def Qj(K:Rw)(ta:TA)(td:TE):TE:=fun σ H Q=>ta σ H λvs H1=>∃x,vs=[x]/\td σ H1 λy H2=>∃l ns d,x=.ref l/\y=.int d/\SqL K H2 l (ns.map V.int)/\Q (.int (maxOf d ns)) H2
def G8(hc:X.calm=Y_)(hg:Gl X "max")(hm:X.mg "max"=Yt)(ha:PA X [a] ta)(hb:PE X b td)(hst:az a=Zd):PE X (.Call (.Name "max" p) [a] [⟨some "default",b,kp⟩] cpos) (Qj X.K ta td):=by
 intro pins s σ H Q I h;refine Yi (jc I hg hm boot_max ?_);have hs:SJ [a] X.env=[(Zd,Vl a X.env)]:=bW hst;refine callWith_kw (thn (ha cpos pins s σ H _ I h) λus s1 ⟨vs,H1,I1,r1,x,ex,q1⟩=>?_) (by rw[hs];rfl) (by rw[hs];rfl) rfl rfl;subst ex
 cases r1 with
 | cons r rr=>
   cases rr;refine kws_cons (thn (hb pins s1 σ H1 _ I1 q1) λv s2 ⟨y,H2,I2,r2,l,ns,d,e1,e2,hq,q⟩=>kws_nil ?_);subst e1 e2;cases r;obtain⟨t,rfl⟩:=r2;obtain⟨its,rv,pl,_⟩:=I2.list hq
   exact uZ (I2.ok.hd hc) pl.isList (intsAre_of rv) λt' h' tk hk=>⟨.int (maxOf d ns),H2,I2.kept hk,⟨_,rfl⟩,q⟩
theorem nQ:∀{l:List D}{ns:List Int}{xs:List V},intsOf l=Z_ ns->Reps W G l xs->xs=ns.map V.int
 | [],ns,xs,h,r=>by
   simp only[intsOf,Ry]at h;subst h
   cases xs with
   | nil=>rfl
   | cons _ _=>simp only[Reps]at r
 | d::l,ns,xs,h,r=>by
   cases d<;>first | exact nope h | simp only[intsOf]at h
   rename_i z
   cases e:intsOf l with
   | none=>rw[e]at h;cases h
   | some ms=>
     rw[e]at h;cases h
     cases xs with
     | nil=>simp only[Reps]at r
     | cons x xs=>
       simp only[Reps,Rep]at r;rw[Ro,r.1,nQ e r.2]
def Nb(hk:W.K=X.K)(hc:X.calm=Y_)(hg:Gl X "max")(hm:X.mg "max"=Yt)(ha:PE X a (tD X W Y_ fun δ=>ev o δ Y_ ta))(hb:PE X b (tD X W Y_ fun δ=>ev o δ Y_ tb))(hst:az a=Zd) :
 PE X (.Call (.Name "max" p) [a] [⟨some "default",b,kp⟩] cpos) (tD X W lk fun δ=>ev o δ lk (.b2 .maxd ta tb)):=by
 refine PE.imp (G8 hc hg hm (bJ ha cT (bW hst)) hb hst) fun σ H Q h=>?_
 obtain⟨me,B,δ,S,h⟩:=tD_iff.mp h;simp only[ev]at h
 refine tD.mono (part S h) λv H1 ⟨r1,e1,S1,s1,t1,_,h1⟩=>⟨v,rfl,?_⟩
 refine tD.mono (part S1 h1) λv2 H2 ⟨r2,e2,S2,s2,t2,_,h2⟩=>?_
 cases e3:r1.2 with
 | lst l=>
   cases e4:r2.2 with
   | int d=>
     rw[e3,e4]at h2;simp only[b2D]at h2
     cases e5:intsOf l with
     | none=>rw[e5]at h2;exact h2.elim
     | some ns=>
       rw[e5]at h2;simp only[Te,a0w]at h2;have t1:=t1.mono s2 (aC s2);rw[e3]at t1;rw[e4]at t2;obtain⟨c,xs,rfl,q1,q2⟩:=t1;have:=nQ e5 q2;subst this;exact⟨c,ns,d,rfl,aO t2,hk▸q1,h2 _ _ (Same.refl _) (.shared (by simp only[Rep];cases ns<;>rfl))⟩
   | _=>rw[e3,e4]at h2;exact h2.elim
 | _=>rw[e3]at h2;revert h2;cases r2.2<;>intro h2<;>exact h2.elim
end
section
variable{X:Cx}{W:Wd}{lk:Bool}{σ:L2.St}{H H1 H':Hp}{me:Option Addr}{B:Addr->Prop}{δ:Dst}{o:Orc}{p cpos pos kp:Pos}{a b:Expr}
def zp:Sem1 W (λxs H Q=>(∃i,xs=[.int i]/\Q (.int i) H)\/∃k,xs=[.bl k]/\Q (.int (if k then 1 else 0)) H) (b1D .int):=by
 intro lk P H x dx Q w d hS hK hx e k
 cases dx<;>simp only[b1D]at e<;>first | (cases e;done) | skip
 .rename_i b
  cases e;simp only[RepT,Rep]at hx;exact .inr ⟨b,by rw[hx],k _ H (Same.refl H) (.shared (by simp only[Rep]))⟩
 .rename_i i
  cases e;exact .inl ⟨i,by rw[aO hx],k _ H (Same.refl H) (.shared (by simp only[Rep]))⟩
end
section
variable{X:Cx}{W:Wd}{lk:Bool}{σ:L2.St}{H H1 H':Hp}{me:Option Addr}{B:Addr->Prop}{δ:Dst}{o:Orc}{p px cpos pos:Pos}{a b:Expr}
def Ju(hc:X.calm=Y_)(hg:Gl X "max")(hm:X.mg "max"=Yt)(ha:PE X a (tD X W Y_ fun δ=>ev o δ Y_ ta))(hb:PE X b (tD X W Y_ fun δ=>ev o δ Y_ tb))(hst1:az a=Zd)(hst2:az b=Zd) :
 PE X (.Call (.Name "max" p) [a,b] [] cpos) (tD X W lk fun δ=>ev o δ lk (.b2 .max ta tb)):=by
 have hs2:SJ [b] X.env=[(Zd,Vl b X.env)]:=bW hst2
 refine PE.imp (gH (v7 hc) hg hm boot_max (bJ ha (bJ hb cT hs2) (bW hst1)) (by decide) (by decide) (by rw[bW hst1,hs2]) (by rw[hs2];rfl)) fun σ H Q h=>?_
 obtain⟨me,B,δ,S,h⟩:=tD_iff.mp h;simp only[ev]at h
 refine tD.mono (part S h) λv H1 ⟨r1,e1,S1,s1,t1,_,h1⟩=>?_
 refine tD.mono (part S1 h1) λv2 H2 ⟨r2,e2,S2,s2,t2,_,h2⟩=>?_
 cases e3:r1.2 with
 | int i=>
   cases e4:r2.2 with
   | int j=>
     rw[e3,e4]at h2;simp only[b2D]at h2;have t1:=t1.mono s2 (aC s2);rw[e3]at t1;rw[e4]at t2;exact⟨i,j,by rw[aO t1,aO t2],h2 _ _ (Same.refl _) dF⟩
   | _=>rw[e3,e4]at h2;exact h2.elim
 | lst l=>
   rw[e3]at h2
   revert h2
   cases r2.2<;>intro h2<;>exact h2.elim
 | _=>rw[e3]at h2;revert h2;cases r2.2<;>intro h2<;>exact h2.elim
def KDct(P:Sx)(w:Th)(W:Wd)(ad:Addr)(ks:List DK)(vs:List D):Prop:=∃kvs:List (Key×Rm),(∀h:Rz,W.K.In h->h.DictOf (aV P w) ad kvs)/\(∀x d,look ks vs x=Z_ d->∃(u:Rm)(v:V),Xv kvs (keyV x)=Z_ u/\RelV v u/\∀G,Rep W G d v)/\(ad==Vx)=Zd/\∀x,(Xv kvs (keyV x)).isSome=decide (x∈ks)
def Lr{x:Str}{ad:Addr}{ks:List DK}{vs:List D}{ti:T}(hk:W.K=X.K)(hd:KDct X.prog X.w W ad ks vs)(hg:Gl X x)(hm:X.mg x=Z_ (.ref ad))(hdb:(x==("__debug__":Str))=Zd)(hi:PE X b (tD X W Y_ fun δ=>ev o δ Y_ ti))(hs:NoSl b) :
 PE X (.Subscript (.Name x px) b pos) (tD X W lk fun δ=>ev o δ lk (.kidx ks vs ti)):=by
 obtain⟨kvs,h1,h2,_,_⟩:=hd;intro pins s σ H Q I h;obtain⟨me,B,δ,S,h⟩:=tD_iff.mp h;simp only[ev]at h;refine uy PySem.F.slot_dict_getitem.lookup hs (jQ I hg hm ?_ hdb)
 refine thn (hi pins s σ H _ I (part S h)) λiv s2 ⟨y,H2,I2,ry,r1,e1,S1,s1,t1,_,q⟩=>?_
 have dd:=h1 s2.heap (hk▸I2.kIn)
 cases e5:keyOf r1.2 with
 | none=>rw[e5]at q;exact q.elim
 | some k=>
   rw[e5]at q;simp only[Sh]at q
   cases e6:look ks vs k with
   | none=>rw[e6]at q;exact q.elim
   | some d=>
     rw[e6]at q;obtain⟨u,v,g1,g2,g3⟩:=h2 k d e6;have ey:=eU e5 t1;subst ey;exact⟨dd.typeIs,wpAny_getItem_of (jZ ry) dd.mapOf g1 ⟨v,H2,I2.tok _,g2,q v H2 (Same.refl _) (.shared (g3 _))⟩⟩
end
section
variable{X:Cx}{W:Wd}{lk:Bool}{o:Orc}{p px cpos pos:Pos}{a b:Expr}
noncomputable def opK(neg:Bool):CmpOp:=if neg then .NotIn else .In
def Do(neg:Bool){x:Str}{ad:Addr}{ks:List DK}{vs:List D}{ti:T}(hk:W.K=X.K)(hd:KDct X.prog X.w W ad ks vs)(hg:Gl X x)(hm:X.mg x=Z_ (.ref ad))(hdb:(x==("__debug__":Str))=Zd)(hi:PE X a (tD X W Y_ fun δ=>ev o δ Y_ ti)) :
 PC X (opK neg) a (.Name x px) (tD X W lk fun δ=>ev o δ lk (.kin ks neg ti)):=by
 obtain⟨kvs,h1,_,h0,h2⟩:=hd;intro pins s σ H Q I h;obtain⟨me,B,δ,S,h⟩:=tD_iff.mp h;simp only[ev]at h
 refine thn (hi pins s σ H _ I (part S h)) λiv s2 ⟨y,H2,I2,ry,r1,e1,S1,s1,t1,_,q⟩=>jQ I2 hg hm ?_ hdb
 have dd:=h1 s2.heap (hk▸I2.kIn)
 cases e5:keyOf r1.2 with
 | none=>rw[e5]at q;exact q.elim
 | some k=>
   rw[e5]at q;have ey:=eU e5 t1;subst ey;have h3:=h2 k
   cases neg with
   | false=>
     refine wpAny_in_of (jZ ry) h0 dd.mapOf ?_;rw[h3];exact⟨.bl (decide (k∈ks)),H2,I2.tok _,rfl,by simpa using q _ H2 (Same.refl _) cA⟩
   | true=>
     refine wpAny_notIn_of (jZ ry) h0 dd.mapOf ?_;rw[h3];exact⟨.bl (!decide (k∈ks)),H2,I2.tok _,rfl,by simpa using q _ H2 (Same.refl _) cA⟩
def QT(neg:Bool){x:Str}{ad:Addr}{ks:List DK}{vs:List D}{ti:T}(hk:W.K=X.K)(hd:KDct X.prog X.w W ad ks vs)(hg:Gl X x)(hm:X.mg x=Z_ (.ref ad))(hdb:(x==("__debug__":Str))=Zd)(hi:PE X a (tD X W Y_ fun δ=>ev o δ Y_ ti))(hb:V2 (opK neg) (.Name x px)=Zd) :
 (∀lk,PE X (.Compare a [opK neg] [.Name x px] pos) (tD X W lk fun δ=>ev o δ lk (.kin ks neg ti)))/\PT X (.Compare a [opK neg] [.Name x px] pos) (tT X W fun δ=>ev o δ Y_ (.kin ks neg ti)) :=
 ⟨λlk=>uI (Do neg hk hd hg hm hdb hi) hb,PT.imp (uM (Do (lk:=Y_) neg hk hd hg hm hdb hi) hb) fun σ H Q h=>z7 (fun δ r e=>by
  simp only[ev]at e;obtain⟨y,_,e⟩:=eO e
  cases e2:keyOf y.2 with
  | none=>rw[e2]at e;cases e
  | some k=>rw[e2]at e;cases e;exact⟨_,rfl⟩) h⟩
noncomputable def sU:TL->T->TL
 | .nil,t=>.cons t .nil
 | .cons u l,t=>.cons u (sU l t)
theorem pZ:∀{l:TL},evL o δ (sU l (.cst d))=(evL o δ l).bind λr=>.ok (r.1,r.2++[d])
 | .nil=>by simp only[sU,evL,ev,bG,a0u];rfl
 | .cons u l=>by
   simp only[sU,evL];rw[pZ]
   cases ev o δ (bG δ u) u with
   | ok x=>
     simp only[a0u]
     cases evL o δ l with
     | ok y=>simp
     | exc c=>rfl
     | stuck=>rfl
   | exc c=>rfl
   | stuck=>rfl
theorem jx:∀{l:List D}{vs:List V},RepTs W H G l vs->RepTs W H G (l++[.int v]) (vs++[.int v])
 | [],[],_=>by simp only[X3,RepTs,RepT,Rep,and_true]
 | [],_::_,h=>by simp only[RepTs]at h
 | _::_,[],h=>by simp only[RepTs]at h
 | d::l,u::vs,h=>by
   simp only[RepTs,Xr]at h ⊢;exact⟨h.1,jx h.2⟩
theorem my:∀{l:List D}{vs:List V},Reps W G l vs->Reps W G (l++[.int v]) (vs++[.int v])
 | [],[],_=>by simp only[X3,Reps,Rep,and_true]
 | [],_::_,h=>by simp only[Reps]at h
 | _::_,[],h=>by simp only[Reps]at h
 | d::l,u::vs,h=>by
   simp only[Reps,Xr]at h ⊢;exact⟨h.1,my h.2⟩
def Je(hn:∀δ r,evL o δ l=.ok r->r.2.length+1=np)
 (F:FnOk X.prog X.w X.K X.mg X.base CX0 k fa fd ps (spFn W (o.fn f) np))(hr:Room k X.A)(hg:Gl X x)(hm:X.mg x=Z_ (.ref fa))(hk:Uz X.K (.ref fa)=Y_)(hb:Binds X.K fd ps vs)(hv:Vals [.int v] vs)
 (ha:PA X (e::es) (tL X W fun δ=>evL o δ l))(hdb:(x==("__debug__":Str))=Zd)(he:SJ (e::es) X.env=(Zd,Vl e X.env)::SJ es X.env)(hpl:(Xg pos (SJ es X.env)).any (·.1)=Zd) :
 PE X (.Call (.Name x p) (e::es) [] pos) (tD X W lk fun δ=>ev o δ lk (.call f (sU l (.cst (.int v))))):=by
 refine PE.imp (uT F hr hg hm hk hb hv Jk ha hdb he hpl) fun σ H Q h=>?_
 obtain⟨me,B,δ,S,h⟩:=tD_iff.mp h;simp only[ev]at h;rw[pZ]at h
 have e0:(((evL o δ l).bind λr=>a0S (r.1,r.2++[a0p v])).bind λx=>(o.fn f x.2).bind (lent x.1))=(evL o δ l).bind λr=>(o.fn f (r.2++[.int v])).bind (lent r.1):=by cases evL o δ l<;>rfl
 rw[e0]at h
 refine tL.mono (uY (fa:=fun δ=>evL o δ l) (C:=λr H=>After X W lk σ H (Hid B σ δ) r Q) S h (λr H1 s q=>q.mono s) (λc q=>q) (λq=>q)) λvs H1 ⟨r,e1,S1,s1,t1,q1,h1⟩=>?_
 exact JD S1 (by rw[RJ];exact hn δ r e1) (jx t1) (λz=>my (q1 z)) h1
end
end Z
namespace PySem.W
open PySem
end PySem.W
namespace Z
open PySem PySem.Spec PyProof.Rows L2
def uf:Bool:=Y_
def xU:Bool:=Zd
def xK:Bool:=Y_
def wA:Bool:=Zd
def yp:Bool:=Zd
def wk:Bool:=Zd
def Eg:Bool:=Y_
def yo:Bool:=Y_
def wj:Bool:=Y_
def oX:Bool:=Y_
def xg:Bool:=Zd
def v8:Bool:=Zd
def DR:Bool:=Zd
def DQ:Bool:=Zd
def xT:Bool:=Y_
def xq:Bool:=Zd
def mY:Bool:=Y_
def Dg:Bool:=Y_
def Dd:Bool:=Zd
def Dk:Bool:=Y_
def yh:Bool:=Zd
def qu:Bool:=Zd
def uX:Bool:=Y_
def m8:Bool:=Y_
section
variable{X:Cx}{W:Wd}{lk:Bool}{o:Orc}{p px cpos pos kp apos tpos:Pos}{a b c tg:Expr}
def O3(hft:uf=Y_)(hk:W.K=X.K)(hc:X.calm=Y_)(hg:Gl X "max")(hm:X.mg "max"=Yt)(ha:PE X a (tD X W Y_ fun δ=>ev o δ Y_ ta))(hb:PE X b (tD X W Y_ fun δ=>ev o δ Y_ tb))(hst:az a=Zd) :
 PE X (.Call (.Name "max" p) [a] [⟨some "default",b,kp⟩] cpos) (tD X W lk fun δ=>ev o δ lk (.b2 .maxd ta tb)):=Nb hk hc hg hm ha hb hst
def Mt(hft:xU=Y_)(hk:W.K=X.K)(hc:X.calm=Y_)(hg:Gl X "min")(hm:X.mg "min"=Yt)(ha:PE X a (tD X W Y_ fun δ=>ev o δ Y_ ta))(hb:PE X b (tD X W Y_ fun δ=>ev o δ Y_ tb))(hst:az a=Zd) :
 PE X (.Call (.Name "min" p) [a] [⟨some "default",b,kp⟩] cpos) (tD X W lk fun δ=>ev o δ lk (.b2 .mind ta tb)):=absurd hft (by decide)
def M6(hft:xK=Y_)(hc:X.calm=Y_)(hg:Gl X "max")(hm:X.mg "max"=Yt)(ha:PE X a (tD X W Y_ fun δ=>ev o δ Y_ ta))(hb:PE X b (tD X W Y_ fun δ=>ev o δ Y_ tb))(hst1:az a=Zd)(hst2:az b=Zd) :
 PE X (.Call (.Name "max" p) [a,b] [] cpos) (tD X W lk fun δ=>ev o δ lk (.b2 .max ta tb)):=Ju hc hg hm ha hb hst1 hst2
def LR(hft:wA=Y_)(hc:X.calm=Y_)(hg:Gl X "min")(hm:X.mg "min"=Yt)(ha:PE X a (tD X W Y_ fun δ=>ev o δ Y_ ta))(hb:PE X b (tD X W Y_ fun δ=>ev o δ Y_ tb))(hst1:az a=Zd)(hst2:az b=Zd) :
 PE X (.Call (.Name "min" p) [a,b] [] cpos) (tD X W lk fun δ=>ev o δ lk (.b2 .min ta tb)):=absurd hft (by decide)
def Ku(hft:yp=Y_)(hgl:Gl X "range")(hm:X.mg "range"=Yt)(h1:PE X e1 (tD X W Y_ fun δ=>ev o δ Y_ t1))(h2:PE X e2 (tD X W Y_ fun δ=>ev o δ Y_ t2))(hst1:az e1=Zd)(hst2:az e2=Zd) :
 ∃wi,PI X tg (.Call (.Name "range" p) [e1,e2] [] cpos) wi/\WalkL X W o lk (.rng2 t1 t2) wi:=absurd hft (by decide)
def JH(hft:wk=Y_)(hgl:Gl X "range")(hm:X.mg "range"=Yt)(h1:PE X e1 (tD X W Y_ fun δ=>ev o δ Y_ t1))(h2:PE X e2 (tD X W Y_ fun δ=>ev o δ Y_ t2))(h3:PE X e3 (tD X W Y_ fun δ=>ev o δ Y_ t3))(hst1:az e1=Zd)(hst2:az e2=Zd)(hst3:az e3=Zd) :
 ∃wi,PI X tg (.Call (.Name "range" p) [e1,e2,e3] [] cpos) wi/\WalkL X W o lk (.rng3 t1 t2 t3) wi:=absurd hft (by decide)
def Qo(hft:Eg=Y_)(hk:W.K=X.K)(hgl:Gl X "zip")(hm:X.mg "zip"=Yt)(h1:PE X e1 (tD X W lk fun δ=>ev o δ lk t1))(h2:PE X e2 (tD X W lk fun δ=>ev o δ lk t2))(hst1:az e1=Zd)(hst2:az e2=Zd) :
 ∃wi,PI X (.Tuple es x1 tpos) (.Call (.Name "zip" p) [e1,e2] [] cpos) wi/\WalkL X W o lk (.zip t1 t2) wi:=Qs hk hgl hm h1 h2 hst1 hst2
def Le(hft:yo=Y_)(hk:W.K=X.K)(hgl:Gl X "enumerate")(hm:X.mg "enumerate"=Yt)(h1:PE X e1 (tD X W lk fun δ=>ev o δ lk t))(hst:az e1=Zd):∃wi,PI X (.Tuple es x1 tpos) (.Call (.Name "enumerate" p) [e1] [] cpos) wi/\WalkL X W o lk (.enum t) wi:=JF hk hgl hm h1 hst
def Lz(hft:wj=Y_)(hu:X.A.units+1<Y8)(ha:PE X a (tD X W Y_ fun δ=>ev o δ Y_ ta))(hb:PE X b (tD X W Y_ fun δ=>ev o δ Y_ tb))(hc:PE X c (tD X W Zd fun δ=>ev o δ Zd tc))(m:M2 X a "get" apos b c cpos) :
 PE X (.Call (.Attribute a "get" apos) [b,c] [] cpos) (tD X W lk fun δ=>ev o δ lk (.get2 ta tb tc)):=uA hu ha hb hc m
def Mr(hft:oX=Y_){x:Str}{ad:Addr}{ks:List DK}{vs:List D}{ti:T}(hk:W.K=X.K)(hd:KDct X.prog X.w W ad ks vs)(hg:Gl X x)(hm:X.mg x=Z_ (.ref ad))(hdb:(x==("__debug__":Str))=Zd)(hi:PE X b (tD X W Y_ fun δ=>ev o δ Y_ ti))(hs:NoSl b) :
 PE X (.Subscript (.Name x px) b pos) (tD X W lk fun δ=>ev o δ lk (.kidx ks vs ti)):=Lr hk hd hg hm hdb hi hs
def f_list(hft:xT=Y_)(hk:W.K=X.K)(hc:X.calm=Y_):∃r,CallR X (.type "list") r/\Sem1 W r (b1D .list):=⟨_,mG,vK hk⟩
def Nv(hft:xq=Y_)(hk:W.K=X.K)(hc:X.calm=Y_):∃r,CallR X (.type "dict") r/\Sem1 W r (b1D .dict):=absurd hft (by decide)
def QF(hft:Dg=Y_)(hk:W.K=X.K)(hc:X.calm=Y_):∃r,CallR X (.builtin "all") r/\Sem1 W r (b1D .all):=⟨_,vO hc,GK hk⟩
def Ra(hft:DR=Y_)(hk:W.K=X.K)(hc:X.calm=Y_):∃r,CallR X (.builtin "any") r/\Sem1 W r (b1D .any):=absurd hft (by decide)
def Rb(hft:DQ=Y_)(hk:W.K=X.K)(hc:X.calm=Y_):∃r,CallR X (.builtin "sum") r/\Sem1 W r (b1D .sum):=absurd hft (by decide)
def R3(hft:Dd=Y_)(hk:W.K=X.K)(hc:X.calm=Y_):∃r,CallR X (.type "str") r/\Sem1 W r (b1D .str):=absurd hft (by decide)
def f_int(hft:Dk=Y_)(hk:W.K=X.K)(hc:X.calm=Y_):∃r,CallR X (.type "int") r/\Sem1 W r (b1D .int):=⟨_,xR,zp⟩
def Jp(hft:yh=Y_)(hk:W.K=X.K)(hc:X.calm=Y_):∃r,CallR X (.builtin "max") r/\Sem1 W r (b1D .max):=absurd hft (by decide)
def Aw(hft:mY=Y_)(hk:W.K=X.K)(hc:X.calm=Y_):∃r,CallR X (.builtin "sorted") r/\Sem1 W r (b1D .sorted):=⟨_,nM hc,tY hk⟩
def NZ(hft:xg=Y_)(hk:W.K=X.K)(ha:PE X a (tD X W Y_ fun δ=>ev o δ Y_ ta))(hb:PE X b (tD X W Y_ fun δ=>ev o δ Y_ tb))(h2:plainBase a=Y_)(hst:az b=Zd)(h1:(apos.endLine==cpos.line)=Y_):PE X (.Call (.Attribute a "join" apos) [b] [] cpos) (tD X W lk fun δ=>ev o δ lk (.m1 .join ta tb)):=absurd hft (by decide)
def HX(hft:qu=Y_)(ha:PE X a (tD X W Y_ fun δ=>ev o δ Y_ ta))(hb:PE X b (tD X W Y_ fun δ=>ev o δ Y_ tb))(h2:plainBase a=Y_)(hst:az b=Zd)(h1:(apos.endLine==cpos.line)=Y_):PE X (.Call (.Attribute a "startswith" apos) [b] [] cpos) (tD X W lk fun δ=>ev o δ lk (.m1 .startswith ta tb)):=absurd hft (by decide)
def Jy(hft:uX=Y_)(hk:W.K=X.K)(hc:X.calm=Y_)(hg:Gl X "sorted")(hm:X.mg "sorted"=Yt)(hg2:Gl X "set")(hm2:X.mg "set"=Yt)(ha:PE X a (tD X W Y_ fun δ=>ev o δ Y_ ta))(hst:az a=Zd):PE X (.Call (.Name "sorted" p) [.Call (.Name "set" px) [a] [] pos] [] cpos) (tD X W lk fun δ=>(ev o δ Y_ ta).bind λx=>b1D .sortedSet x.2):=JT hk hc hg hm hg2 hm2 ha hst
def Kw(hft:oX=Y_)(neg:Bool){x:Str}{ad:Addr}{ks:List DK}{vs:List D}{ti:T}(hk:W.K=X.K)(hd:KDct X.prog X.w W ad ks vs)(hg:Gl X x)(hm:X.mg x=Z_ (.ref ad))(hdb:(x==("__debug__":Str))=Zd)(hi:PE X a (tD X W Y_ fun δ=>ev o δ Y_ ti))(hb:V2 (if neg then .NotIn else .In) (.Name x px)=Zd):(∀lk,PE X (.Compare a [if neg then .NotIn else .In] [.Name x px] pos) (tD X W lk fun δ=>ev o δ lk (.kin ks neg ti)))/\PT X (.Compare a [if neg then .NotIn else .In] [.Name x px] pos) (tT X W fun δ=>ev o δ Y_ (.kin ks neg ti)):=QT neg hk hd hg hm hdb hi hb
def By(hft:m8=Y_)(hv:PE X (.Name x p) (tVar i))(he:PE X e (tD X W Zd fun δ=>ev o δ Zd te))(hst:az e=Zd)(hline:(apos.endLine==cpos.line)=Y_):PS X (.Expr (.Call (.Attribute (.Name x p) "extend" apos) [e] [] cpos) pos) (tS X W (evS o (.extend i te))):=xG hv he hst hline
end
inductive Gk where
 | fn (i np:Nat)
 | cls (c:Nat)
 | ocl (c:Nat)
 | val (d:D)
 | dct (ks:List DK) (vs:List D)
 | mark (l:List Nat)
 | dfl (x:Str) (v:Int)          -- "!d": the last parameter of x is v where it is left out
 | names (l:List (List Nat))      -- "!f": attributes,"!m": methods
structure Tc where
 N:List Str
 sc:Scope
 gl:List (Str×Gk)
noncomputable def bD:List Str->Str->Option Nat
 | [],_=>none
 | y::l,x=>if y=x then some 0 else(bD l x).map (·+1)
theorem bz:∀{N:List Str}{x:Str}{i:Nat},bD N x=Z_ i->N[i]?=Z_ x
 | [],_,_,h=>by simp[bD]at h
 | y::l,x,i,h=>by
   simp only[bD]at h;split at h
   .rename_i e
    cases h;simp[e]
   .cases e:bD l x with
    | none=>rw[e]at h;cases h
    | some j=>
      rw[e]at h;cases h;simpa using bz e
noncomputable def ixs(N:List Str):List Str->Option (List Nat)
 | []=>some []
 | x::l=>(bD N x).bind λi=>(ixs N l).map λr=>i::r
theorem vB:∀{l:List Str}{r:List Nat}{j k:Nat},ixs N l=Z_ r->r[j]?=Z_ k->∃x,l[j]?=Z_ x/\N[k]?=Z_ x
 | [],r,j,k,h,e=>by
   simp only[ixs,Ry]at h;subst h;simp at e
 | x::l,r,j,k,h,e=>by
   simp only[ixs]at h
   cases e1:bD N x with
   | none=>rw[e1]at h;cases h
   | some i=>
     cases e2:ixs N l with
     | none=>simp[e1,e2]at h
     | some r'=>
       simp[e1,e2]at h;subst h
       cases j with
       | zero=>simp at e;subst e;exact⟨x,rfl,bz e1⟩
       | succ j=>
         obtain⟨y,h1,h2⟩:=vB e2 (by simpa using e);exact⟨y,by simpa using h1,h2⟩
theorem vU:∀{l:List Str}{r:List Nat},ixs N l=Z_ r->r.length=l.length
 | [],r,h=>by simp only[ixs,Ry]at h;subst h;rfl
 | x::l,r,h=>by
   simp only[ixs]at h
   cases e1:bD N x with
   | none=>rw[e1]at h;cases h
   | some i=>
     cases e2:ixs N l with
     | none=>simp[e1,e2]at h
     | some r'=>simp[e1,e2]at h;subst h;simp[vU e2]
noncomputable def visB(sc:Scope)(x:Str):Bool:=(match sc.names.lookup x with | some .local=>true | some .cell=>true | some .free=>true | _=>false)&&!(x==("__debug__":Str))&&!(x==("__classdict__":Str))
noncomputable def locB(sc:Scope)(x:Str):Bool:=match sc.names.lookup x with | some .local=>true | some .cell=>true | _=>false
noncomputable def glB(sc:Scope)(x:Str):Bool:=decide (sc.names.lookup x=Z_ .globalImplicit)
noncomputable def trOp:Operator->Option O2
 | .Add=>some .add
 | .Sub=>some .sub
 | .Mult=>some .mul
 | .FloorDiv=>some .fdiv
 | .Mod=>some .mod
 | .Pow=>some .pow
 | _=>none
noncomputable def yW:CmpOp->Option O2
 | .Eq=>some .eq
 | .NotEq=>some .ne
 | .Lt=>some .lt
 | .LtE=>none
 | .Gt=>some .gt
 | .GtE=>none
 | .Is=>none
 | .IsNot=>none
 | .In=>some .in
 | .NotIn=>some .notin
noncomputable def fW:Const->Option D
 | .none=>some .non
 | .bool b=>some (.bl b)
 | .int i=>some (.int i)
 | .str s=>if s.length<=1000000 then some (.str s.cps.toList)else none
 | _=>none
noncomputable def trTy(x:Str):Option Ty :=
 if x="int" then some .int else if x="bool" then some .bool else if x="str" then some .str else if x="tuple" then some .tup else if x="list" then some .lst else if x="dict" then some .dct else none
noncomputable def trL(f:Expr->Option T):List Expr->Option TL
 | []=>some .nil
 | e::es=>(f e).bind λt=>(trL f es).map λl=>.cons t l
noncomputable def trB(f:Expr->Option T)(k:T->T->T):List Expr->Option T
 | []=>none
 | [e]=>f e
 | e::es=>(f e).bind λt=>(trB f k es).map λu=>k t u
noncomputable def oW(f:Expr->Option T):Option Expr->Option T
 | none=>some (.cst .non)
 | some e=>(f e).bind λt=>match t with
   | .cst .non=>none
   | t=>some t
noncomputable def isSlice:Expr->Bool
 | .Slice _ _ _ _=>true
 | _=>false
noncomputable def isSet:Expr->Bool
 | .Set ..=>true
 | _=>false
noncomputable def fn1(x:Str):Option B1 :=
 if x="abs" then some .abs else if x="len" then some .len else if x="tuple" then some .tuple else if x="list"/\xT=Y_ then some .list else if x="dict"/\xq=Y_ then some .dict else
 if x="all"/\Dg=Y_ then some .all else if x="any"/\DR=Y_ then some .any else if x="sum"/\DQ=Y_ then some .sum else if x="sorted"/\mY=Y_ then some .sorted else if x="str"/\Dd=Y_ then some .str else if x="int"/\Dk=Y_ then some .int  else none
noncomputable def fn1x(x:Str):Option B1:=match fn1 x with
 | some b=>some b
 | none=>if x="max"/\yh=Y_ then some .max else none
noncomputable def trSS(tc:Tc)(f:Expr->Option T)(x:Str)(a:Expr):Option T:=match a with
 | .Call (.Name y _) [b] [] _=>if x="sorted"/\uX=Y_/\y="set"/\glB tc.sc "set"=Y_/\(tc.gl.lookup ("set":Str)).isNone=Y_/\az b=Zd then(f b).map λt=>.b1 .sortedSet t else none
 | _=>none
noncomputable def wY(tc:Tc)(f:Expr->Option T)(x:Str)(args:List Expr):Option T :=
 if glB tc.sc x&&!(x==("__debug__":Str))&&!(args.any az)then(match tc.gl.lookup x with
  | some (.fn i np)=>if args.length=np/\args≠[]then(trL f args).map λl=>.call i l else if args.length+1=np/\args≠[]then(match tc.gl.lookup ("!d":Str)with
    | some (.dfl y v)=>if y=x then(trL f args).map λl=>.call i (sU l (.cst (.int v)))else none
    | _=>none)else none
  | some _=>none
  | none=>match args with
    | [a]=>(match trSS tc f x a with
      | some t=>some t
      | none=>(fn1x x).bind λb=>(f a).map λt=>.b1 b t)
    | [a,b]=>if x="max"/\xK=Y_ then(f a).bind λt=>(f b).map λu=>.b2 .max t u else if x="min"/\wA=Y_ then(f a).bind λt=>(f b).map λu=>.b2 .min t u else(match b with
      | .Name y _=>if x="isinstance"/\glB tc.sc y=Y_/\(tc.gl.lookup y).isNone=Y_ then(if y="ValueError" then none else(f a).bind λt=>(trTy y).map λty=>.isin t ty)else
        none
      | _=>none)
    | _=>none)else none
noncomputable def uR(tc:Tc)(f:Expr->Option T)(x:Str)(a b:Expr):Option T:=if x="max"/\uf=Y_/\glB tc.sc "max"=Y_/\(tc.gl.lookup ("max":Str)).isNone=Y_/\az a=Zd then(f a).bind λt=>(f b).map λu=>.b2 .maxd t u else
 if x="min"/\xU=Y_/\glB tc.sc "min"=Y_/\(tc.gl.lookup ("min":Str)).isNone=Y_/\az a=Zd then(f a).bind λt=>(f b).map λu=>.b2 .mind t u else none
noncomputable def oF(tc:Tc)(e:Expr):Option (List DK×List D):=match e with
 | .Name x _=>if oX&&glB tc.sc x&&!(x==("__debug__":Str))then(match tc.gl.lookup x with | some (.dct ks vs)=>some (ks,vs) | _=>none)else none
 | _=>none
noncomputable def Ar(tc:Tc)(f:Expr->Option T)(op:CmpOp)(a b:Expr):Option T:=match oF tc b with
 | some q=>(match op with
   | .In=>(f a).map λt=>.kin q.1 Zd t
   | .NotIn=>(f a).map λt=>.kin q.1 Y_ t
   | _=>none)
 | none=>none
noncomputable def trCs:List Expr->Option (List D)
 | []=>some []
 | .Constant c _ _::l=>(fW c).bind λd=>(trCs l).map λr=>d::r
 | _=>none
noncomputable def trKs:List (Option Expr)->Option (List DK)
 | []=>some []
 | some (.Constant c _ _)::l=>(fW c).bind λd=>(keyOf d).bind λk=>(trKs l).map λr=>k::r
 | _=>none
noncomputable def cstL:List D->TL
 | []=>.nil
 | d::l=>.cons (.cst d) (cstL l)
noncomputable def Mi(ks:List (Option Expr))(vs:List Expr):Option T:=(trKs ks).bind λk=>(trCs vs).bind λd=>if k.length=d.length/\k.length<=15/\k≠[]/\k.Nodup then some (.dnew k (cstL d))else none
noncomputable def ik:Expr->Bool
 | .Tuple ..=>true
 | _=>false
noncomputable def xP(f:Expr->Option T)(a:Expr)(name:Str)(args:List Expr)(ok:Bool):Option T :=
 if ok&&plainBase a&&!(args.any az)then(match args with
  | [b]=>if name="join"/\xg=Y_ then(f a).bind λta=>(f b).map λtb=>.m1 .join ta tb else
    if name="startswith"/\qu=Y_ then(f a).bind λta=>(f b).map λtb=>.m1 .startswith ta tb else none
  | [b,c]=>if name="get"/\wj=Y_ then(f a).bind λta=>(f b).bind λtb=>(f c).map λtc=>.get2 ta tb tc else none
  | _=>none)else none
noncomputable def namesOf(tc:Tc)(k:Str):List (List Nat):=match tc.gl.lookup k with
 | some (.names l)=>l
 | _=>[]
noncomputable def Iu(f:Expr->Option T)(a:Expr)(name:Str)(args:List Expr)(ok:Bool):Option T:=Yt
noncomputable def trI(tc:Tc)(f:Expr->Option T)(tp:Bool)(e:Expr):Option TI:=match e with
 | .Call (.Name x _) [a] [] _=>if x="range" then(if glB tc.sc "range"&&(tc.gl.lookup ("range":Str)).isNone&&!az a then(f a).map .rng1 else none)else
   if x="enumerate" then(if yo&&tp&&glB tc.sc "enumerate"&&(tc.gl.lookup ("enumerate":Str)).isNone&&!az a then(f a).map .enum else none)else(f e).map .val
 | .Call (.Name x _) [a,b] [] _=>if x="range" then(if yp&&glB tc.sc "range"&&(tc.gl.lookup ("range":Str)).isNone&&!az a&&!az b then(f a).bind λta=>(f b).map λtb=>.rng2 ta tb else none)else
   if x="zip" then(if Eg&&tp&&glB tc.sc "zip"&&(tc.gl.lookup ("zip":Str)).isNone&&!az a&&!az b then(f a).bind λta=>(f b).map λtb=>.zip ta tb else none)else(f e).map .val
 | .Call (.Name x _) [a,b,c] [] _=>if x="range" then(if wk&&glB tc.sc "range"&&(tc.gl.lookup ("range":Str)).isNone&&!az a&&!az b&&!az c then(f a).bind λta=>(f b).bind λtb=>(f c).map λtd=>.rng3 ta tb td else none)else(f e).map .val
 | e=>if isSet e then none else(f e).map .val
noncomputable def iC:List Expr->Option (List Str)
 | []=>some []
 | .Name x _::es=>(iC es).map λl=>x::l
 | _=>none
noncomputable def nZ:Expr->Option (List Str×Bool)
 | .Name x _=>some ([x],Zd)
 | .Tuple es _ _=>(iC es).map λl=>(l,Y_)
 | _=>none
noncomputable def frees(scope:Scope):List Str:=(scope.names.filter λy=>y.2==.free).map (·.1)
noncomputable def eV(scope sc:Scope):Scope:={ scope with names:=scope.names.map λ(n,k)=>if(k==.free&&sc.kind==.function&&sc.names.lookup n==Z_ .cell)then(n,.cell)else(n,k) }
noncomputable def blkB(scope:Scope):Bool:=decide (scope.kind=.function)&&scope.names.all λy=>!(y.2==.cell)&&(!(y.2==.local)||decide (scope.names.lookup y.1=Z_ .local))&&(!(y.2==.free)||decide (scope.names.lookup y.1=Z_ .free))
noncomputable def Kv(tc:Tc)(scope:Scope)(tn cn:List Str):Bool:=blkB scope&&decide (tn++cn).Nodup&&(tn.all λx=>decide (scope.names.lookup x=Z_ .local)) &&
 cn.all λx=>decide (tc.sc.names.lookup x=Z_ .cell)||decide (tc.sc.names.lookup x=Z_ .free)
noncomputable def uF(f:Expr->Option T):List Expr->Option T
 | []=>some (.cst (.bl Y_))
 | [c]=>f c
 | _=>none
noncomputable def pK(tc:Tc)(f:Tc->Expr->Option T)(elt tg iter:Expr)(ifs:List Expr)(scope:Scope):Option T :=
 (nZ tg).bind λq=>if Kv tc scope q.1 (frees scope)then
  (ixs tc.N (frees scope)).bind λcaps=>(trI tc (f tc) (ik tg) iter).bind λit=>(uF (f ⟨q.1++frees scope,eV scope tc.sc,tc.gl⟩) ifs).bind λc=>
   (f ⟨q.1++frees scope,eV scope tc.sc,tc.gl⟩ elt).map λe=>.comp caps q.1.length q.2 it c e else none
noncomputable def trJ(f:Expr->Option T)(vs:List Expr):Option T:=Yt
noncomputable def trEb(f:Tc->Expr->Option T)(tc:Tc)(e:Expr):Option T:=match e with
 | .Name x _=>if visB tc.sc x then(bD tc.N x).map .var else if glB tc.sc x&&!(x==("__debug__":Str))then(match tc.gl.lookup x with | some (.val d)=>some (.cst d) | _=>none)else none
 | .IfExp c a b _=>(f tc c).bind λtc'=>(f tc a).bind λta=>(f tc b).map λtb=>.ite tc' ta tb
 | .Constant c _ _=>(fW c).map .cst
 | .BinOp a op b _=>(trOp op).bind λp=>(f tc a).bind λta=>(f tc b).map λtb=>.op2 p ta tb
 | .UnaryOp .Not a _=>(f tc a).map .not
 | .UnaryOp .USub a _=>(f tc a).map .neg
 | .Compare a [op] [b] _=>if V2 op b then none else(match Ar tc (f tc) op a b with
   | some t=>some t
   | none=>(yW op).bind λp=>(f tc a).bind λta=>(f tc b).map λtb=>.op2 p ta tb)
 | .BoolOp .And vs _=>trB (f tc) .and vs
 | .BoolOp .Or vs _=>trB (f tc) .or vs
 | .Tuple es _ _=>if es.any az then none else(trL (f tc) es).map .tup
 | .List es _=>if es.any az then none else(trL (f tc) es).map .lst
 | .Dict [] [] _=>some (.dnew [] .nil)
 | .Dict (k0::ks) vs _=>if v8 then Mi (k0::ks) vs else none
 | .Subscript a (.Slice lo hi none _) _=>(f tc a).bind λt=>(oW (f tc) lo).bind λl=>(oW (f tc) hi).map λh=>.slc t l h
 | .Subscript a b _=>if isSlice b then none else(match oF tc a with
   | some q=>(f tc b).map λi=>.kidx q.1 q.2 i
   | none=>(f tc a).bind λt=>(f tc b).map λi=>.idx t i)
 | .Call (.Name x _) args [] _=>wY tc (f tc) x args
 | .Call (.Name x _) [a] [⟨some kw,b,_⟩] _=>if kw="default" then uR tc (f tc) x a b else none
 | .Call (.Attribute a name apos) args [] cpos=>if(namesOf tc "!m").contains name.cps.toList then Iu (f tc) a name args (apos.endLine==cpos.line)else xP (f tc) a name args (apos.endLine==cpos.line)
 | .Attribute a name _=>none
 | .JoinedStr vs _=>trJ (f tc) vs
 | .ListComp elt [g] scope _=>if g.is_async=0 then pK tc f elt g.target g.iter g.ifs scope else none
 | _=>none
noncomputable def trE:Nat->Tc->Expr->Option T
 | 0,_,_=>none
 | k+1,tc,e=>trEb (λtc' e'=>trE k tc' e') tc e
def aY:trE (k+1) tc e=trEb (trE k) tc e:=rfl
def yN:trE (k+1) tc (.ListComp elt [g] scope pos)=if g.is_async=0 then pK tc (λtc' e=>trE k tc' e) elt g.target g.iter g.ifs scope else none:=rfl
def BR:trE (k+1) tc (.Name x pos)=if visB tc.sc x then(bD tc.N x).map .var else if glB tc.sc x&&!(x==("__debug__":Str))then(match tc.gl.lookup x with | some (.val d)=>some (.cst d) | _=>none)else none:=rfl
noncomputable def c7:List Str:=["abs","len","isinstance","int","bool","str","tuple","list","dict","all","any","sorted","range","max","zip","enumerate","sum","min","ValueError","set"]
def BW(P:Sx)(w:Th)(K:Rw)(mg:Str->Option Rm)(base:Rz)(W:Wd)(gl:List (Str×Gk))(o:Orc)(k:Nat):Prop:=True
structure Fits(X:Cx)(W:Wd)(tc:Tc)(o:Orc)(k:Nat):Prop where
 N:X.N=tc.N
 nd:tc.N.Nodup
 sc:X.env.scope=tc.sc
 K:W.K=X.K
 room:Room k X.A
 calm:X.calm=Y_
 gf:∀x i np,tc.gl.lookup x=Z_ (.fn i np)->∃f fd ps,X.mg x=Z_ (.ref f)/\Uz X.K (.ref f)=Y_/\Binds X.K fd ps []/\FnOk X.prog X.w X.K X.mg X.base CX0 k f fd ps (spFn W (o.fn i) np)
 gb:∀x,x∈c7->tc.gl.lookup x=Yt->X.mg x=Yt
 gv:∀x d,tc.gl.lookup x=Z_ (.val d)->∃u v,X.mg x=Z_ u/\RelV v u/\∀G,Rep W G d v
 gd:∀x ks vs,tc.gl.lookup x=Z_ (.dct ks vs)->∃ad,X.mg x=Z_ (.ref ad)/\KDct X.prog X.w W ad ks vs
 xf:True
 gdf:∀x v i np,tc.gl.lookup ("!d":Str)=Z_ (.dfl x v)->tc.gl.lookup x=Z_ (.fn i np)->∃f fd ps vs,X.mg x=Z_ (.ref f)/\Uz X.K (.ref f)=Y_/\Binds X.K fd ps vs/\Vals [.int v] vs/\FnOk X.prog X.w X.K X.mg X.base CX0 k f fd ps (spFn W (o.fn i) np)
 ob:BW X.prog X.w X.K X.mg X.base W tc.gl o k
def Fits.comp{X:Cx}{W:Wd}{tc:Tc}{o:Orc}{k:Nat}(F:Fits X W tc o k){scope:Scope}{N:List Str}(hN:N.Nodup)(fp:List Addr)(pins:List (Addr×Obj))(s:Rr)(H:Hp):Fits (cxC X scope N fp pins s H) W ⟨N,eV scope tc.sc,tc.gl⟩ o k where
 N:=rfl
 nd:=hN
 sc:=by
  show Zo scope X.env=_;rw[<-F.sc]
  rfl
 K:=F.K
 room:=F.room
 calm:=F.calm
 gf:=F.gf
 gb:=F.gb
 gv:=F.gv
 gd:=F.gd
 xf:=F.xf
 gdf:=F.gdf
 ob:=F.ob
theorem pH:∀{es:List Expr}{l:TL},trL f es=Z_ l->∀δ r,evL o δ l=.ok r->r.2.length=es.length
 | [],l,h,δ,r,e=>by
   simp only[trL,Ry]at h;subst h;simp only[evL]at e;cases e;rfl
 | x::es,l,h,δ,r,e=>by
   simp only[trL]at h
   cases e1:f x with
   | none=>rw[e1]at h;cases h
   | some t=>
     rw[e1]at h
     cases e2:trL f es with
     | none=>simp[e2]at h
     | some l'=>
       simp[e2]at h;subst h;simp only[evL]at e
       cases e3:ev o δ (bG δ t) t with
       | ok y=>
         rw[e3]at e
         cases e4:evL o δ l' with
         | ok z=>
           simp only[e4,a0u]at e;cases e;simp[pH e2 δ z e4]
         | exc c=>simp only[e4,a0u]at e;cases e
         | stuck=>simp only[e4,a0u]at e;cases e
       | exc c=>rw[e3]at e;cases e
       | stuck=>rw[e3]at e;cases e
def sE(h:es.any az=Zd):(Xg pos (SJ es env)).any (·.1)=Zd:=by
 induction es with
 | nil=>rfl
 | cons e es ih=>
   simp only[Ue,Vt]at h;rw[bW h.1];show(Zd||(Xg pos (SJ es env)).any (·.1))=Zd;rw[ih h.2];rfl
section
variable{X:Cx}{W:Wd}{tc:Tc}{o:Orc}{k:Nat}
def fQ(h:PE X e (tD X W lk f))(hf:∀δ,f δ=ev o δ lk t):PE X e (tD X W lk fun δ=>ev o δ lk t):=by
 have:f=fun δ=>ev o δ lk t:=funext hf
 rw[<-this];exact h
def BK(h:PT X e (tT X W f))(hf:∀δ,f δ=ev o δ Y_ t):PT X e (tT X W fun δ=>ev o δ Y_ t):=by
 have:f=fun δ=>ev o δ Y_ t:=funext hf
 rw[<-this];exact h
def iT(F:Fits X W tc o k)(h:visB tc.sc x=Y_):Vis X.env.scope x/\(x==("__debug__":Str))=Zd/\(x==("__classdict__":Str))=Zd:=by
 unfold visB at h;simp only[RT,Sy]at h;refine⟨?_,h.1.2,h.2⟩;rw[F.sc];unfold Vis;have h1:=h.1.1;split at h1
 .rename_i e;exact .inl e
 .rename_i e;exact .inr (.inl e)
 .rename_i e;exact .inr (.inr e)
 .cases h1
theorem iG(hf:∀e t,f e=Z_ t->∀lk,PE X e (tD X W lk fun δ=>ev o δ lk t)):∀{es:List Expr}{l:TL},trL f es=Z_ l->es.any az=Zd->PA X es (tL X W fun δ=>evL o δ l)
 | [],l,h,_=>by
   simp only[trL,Ry]at h;subst h;exact Mp o
 | x::es,l,h,hs=>by
   simp only[trL]at h;simp only[Ue,Vt]at hs
   cases e1:f x with
   | none=>rw[e1]at h;cases h
   | some t=>
     rw[e1]at h
     cases e2:trL f es with
     | none=>simp[e2]at h
     | some l'=>
       simp[e2]at h;subst h;exact Ih (hf x t e1) (iG hf e2 hs.2) (bW hs.1)
def Bl(x:R (Bool×D)):Prop:=∀r,x=.ok r->∃b,r=(Zd,.bl b)
def Ik:Bl (.ok (Zd,.bl b)):=λ_ h=>by cases h;exact⟨_,rfl⟩
def yx:Bl .stuck:=λ_ h=>nomatch h
def MF{x:Option Bool}{f:Bool->Bool}:Bl (.of (x.map λt=>(Zd,.bl (f t)))):=by cases x<;>first | exact yx | exact Ik
def zY{p:O2}(hp:p=.eq\/p=.ne\/p=.lt\/p=.le\/p=.gt\/p=.ge\/p=.is\/p=.isnot):∀x y r,o2 p x y=.ok r->∃b,r=(Zd,.bl b):=by
 intro x y;show Bl (o2 p x y);rcases hp with rfl | rfl | rfl | rfl | rfl | rfl | rfl | rfl
 .exact MF (f:=id)
 .exact MF (f:=not)
 iterate 4
  .cases x<;>first | exact yx | (cases y<;>first | exact yx | exact Ik)
 iterate 2
  .cases y<;>first | exact yx | (cases x<;>first | exact Ik | exact yx)
def Jh(F:Fits X W tc o k)(h:trOp op=Z_ p)(ha:PE X a (tD X W Y_ fun δ=>ev o δ Y_ ta))(hb:PE X b (tD X W Y_ fun δ=>ev o δ Y_ tb))(lk:Bool) :
 PE X (.BinOp a op b pos) (tD X W lk fun δ=>ev o δ lk (.op2 p ta tb)):=by
 have fin:∀{r:R2},OpR X (We op) r->Sem2 W r (o2 p)->PE X (.BinOp a op b pos) (tD X W lk fun δ=>ev o δ lk (.op2 p ta tb)):=λh1 h2=>fQ (Qf h1 h2 (lr p) ha hb) fun δ=>by simp only[ev]
 cases op<;>simp[trOp]at h<;>subst h
 .exact fin vQ (Jd F.K)
 .exact fin Nj Ha
 .exact fin J1 HR
 .exact fin Ij Ip
 .exact fin K9 GQ
 .exact fin zE Ba
def O9(F:Fits X W tc o k)(h:yW op=Z_ p)(hm:V2 op b=Zd)(ha:PE X a (tD X W Y_ fun δ=>ev o δ Y_ ta))(hb:PE X b (tD X W Y_ fun δ=>ev o δ Y_ tb)) :
 (∀lk,PE X (.Compare a [op] [b] pos) (tD X W lk fun δ=>ev o δ lk (.op2 p ta tb)))/\PT X (.Compare a [op] [b] pos) (tT X W fun δ=>ev o δ Y_ (.op2 p ta tb)):=by
 have fin:∀{r:R2},OpR X (Vj op) r->Sem2 W r (o2 p)->(∀x y r,o2 p x y=.ok r->∃b,r=(Zd,.bl b)) ->
  (∀lk,PE X (.Compare a [op] [b] pos) (tD X W lk fun δ=>ev o δ lk (.op2 p ta tb)))/\PT X (.Compare a [op] [b] pos) (tT X W fun δ=>ev o δ Y_ (.op2 p ta tb)):=λh1 h2 h4=>
  ⟨λlk=>fQ (Rh h1 h2 (lr p) ha hb hm) fun δ=>by simp only[ev],BK (Ko h1 h2 (lr p) h4 ha hb hm) fun δ=>by simp only[ev]⟩
 cases op<;>simp[yW]at h<;>subst h
 .exact fin QJ Ov (zY (by simp))
 .exact fin Q4 Jx (zY (by simp))
 .exact fin zJ JX (zY (by simp))
 .exact fin R5 KY (zY (by simp))
 .obtain⟨h1,h2⟩:=d_in (pos:=pos) F.K (vL F.room) ha hb hm
  exact⟨λlk=>fQ (h1 lk) fun δ=>by simp only[ev],BK h2 fun δ=>by simp only[ev]⟩
 .obtain⟨h1,h2⟩:=Ei (pos:=pos) F.K (vL F.room) ha hb hm
  exact⟨λlk=>fQ (h1 lk) fun δ=>by simp only[ev],BK h2 fun δ=>by simp only[ev]⟩
end
def Px(hft:v8=Y_)(h:Mi ks vs=Z_ t)(lk:Bool):PE X (.Dict ks vs pos) (tD X W lk fun δ=>ev o δ lk t):=absurd hft (by decide)
section
variable{X:Cx}{W:Wd}{tc:Tc}{o:Orc}{k:Nat}
def Right(X:Cx)(W:Wd)(o:Orc)(e:Expr)(t:T):Prop:=(∀lk,PE X e (tD X W lk fun δ=>ev o δ lk t))/\PT X e (tT X W fun δ=>ev o δ Y_ t)
def Cz(δ:Dst)(lk:Bool)(a b:T):((ev o δ Y_ a).bind λx=>andD x.2 (ev o δ Y_ b))=ev o δ lk (.and a b):=by
 simp only[ev]
 rfl
def vM(δ:Dst)(lk:Bool)(a b:T):((ev o δ Y_ a).bind λx=>orD x.2 (ev o δ Y_ b))=ev o δ lk (.or a b):=by
 simp only[ev]
 rfl
theorem qR(hf:∀e t,f e=Z_ t->Right X W o e t):∀{vs:List Expr}{t:T},trB f .and vs=Z_ t ->
 (∀lk,PE X (.BoolOp .And vs pos) (tD X W lk fun δ=>ev o δ lk t))/\PW X (.BoolOp .And vs pos) (tT X W fun δ=>ev o δ Y_ t)
 | [],t,h=>by simp[trB]at h
 | [e],t,h=>by
   simp only[trB]at h;exact⟨λlk=>La ((hf e t h).1 lk),DW (hf e t h).2⟩
 | e::e'::es,t,h=>by
   simp only[trB]at h
   cases e1:f e with
   | none=>rw[e1]at h;cases h
   | some u=>
     rw[e1]at h
     cases e2:trB f .and (e'::es)with
     | none=>simp[e2]at h
     | some v=>
       simp[e2]at h;subst h;obtain⟨h1,h2⟩:=qR hf e2
       exact⟨λlk=>fQ (R4 ((hf e u e1).1 Y_) (h1 Y_)) fun δ=>Cz δ lk u v,by
        have:=Nq (hf e u e1).2 h2;rw[show(fun δ=>(ev o δ Y_ u).bind λx=>andD x.2 (ev o δ Y_ v))=fun δ=>ev o δ Y_ (.and u v)from funext fun δ=>Cz δ Y_ u v]at this
        exact this⟩
theorem ux(hf:∀e t,f e=Z_ t->Right X W o e t):∀{vs:List Expr}{t:T},trB f .or vs=Z_ t ->
 (∀lk,PE X (.BoolOp .Or vs pos) (tD X W lk fun δ=>ev o δ lk t))/\PW X (.BoolOp .Or vs pos) (tT X W fun δ=>ev o δ Y_ t)
 | [],t,h=>by simp[trB]at h
 | [e],t,h=>by
   simp only[trB]at h;exact⟨λlk=>La ((hf e t h).1 lk),DW (hf e t h).2⟩
 | e::e'::es,t,h=>by
   simp only[trB]at h
   cases e1:f e with
   | none=>rw[e1]at h;cases h
   | some u=>
     rw[e1]at h
     cases e2:trB f .or (e'::es)with
     | none=>simp[e2]at h
     | some v=>
       simp[e2]at h;subst h;obtain⟨h1,h2⟩:=ux hf e2
       exact⟨λlk=>fQ (d_or ((hf e u e1).1 Y_) (h1 Y_)) fun δ=>vM δ lk u v,by
        have:=Qg (hf e u e1).2 h2;rw[show(fun δ=>(ev o δ Y_ u).bind λx=>orD x.2 (ev o δ Y_ v))=fun δ=>ev o δ Y_ (.or u v)from funext fun δ=>vM δ Y_ u v]at this
        exact this⟩
def aM(h:∀lk,PE X e (tD X W lk fun δ=>ev o δ lk t))(he:∀whole,isTrue e X.env whole=(do let v <-whole;ZF e.pos;Xy [v] (truthy v))):Right X W o e t:=⟨h,Ln (h Y_) he⟩
def Dh(hf:∀e t,f e=Z_ t->Right X W o e t)(h:oW f e=Z_ t):IsO t e X W o:=by
 cases e with
 | none=>
   simp only[oW,Ry]at h;exact .inl ⟨rfl,h.symm⟩
 | some e=>
   simp only[oW]at h
   cases e1:f e with
   | none=>rw[e1]at h;cases h
   | some u=>
     rw[e1]at h;simp only[Sh]at h;split at h
     .cases h
     .rename_i hne
      cases h;exact .inr ⟨e,rfl,λz=>hne z,(hf e t e1).1⟩
def cJ(F:Fits X W tc o k)(h:glB tc.sc x=Y_):Gl X x:=by
 unfold glB at h;have:=of_decide_eq_true h;show X.env.scope.names.lookup x=_;rw[F.sc];exact this
theorem Hh(h:trTy y=Z_ ty):∃T,cL ty=Z_ T/\Vu y=Z_ (.type T)/\y≠"__name__"/\(y==("__debug__":Str))=Zd/\y∈c7:=by
 unfold trTy at h;split at h
 .rename_i e;cases h;subst e;exact⟨"int",rfl,by kernel_rfl,by decide +kernel,by decide +kernel,by decide +kernel⟩
 .split at h
  .rename_i e;cases h;subst e;exact⟨"bool",rfl,by kernel_rfl,by decide +kernel,by decide +kernel,by decide +kernel⟩
  .split at h
   .rename_i e;cases h;subst e;exact⟨"str",rfl,by kernel_rfl,by decide +kernel,by decide +kernel,by decide +kernel⟩
   .split at h
    .rename_i e;cases h;subst e;exact⟨"tuple",rfl,by kernel_rfl,by decide +kernel,by decide +kernel,by decide +kernel⟩
    .split at h
     .rename_i e;cases h;subst e;exact⟨"list",rfl,by kernel_rfl,by decide +kernel,by decide +kernel,by decide +kernel⟩
     .split at h
      .rename_i e;cases h;subst e;exact⟨"dict",rfl,by kernel_rfl,by decide +kernel,by decide +kernel,by decide +kernel⟩
      .cases h
set_option maxHeartbeats 1000000 in
theorem K5(F:Fits X W tc o k)(h:fn1 x=Z_ b)(hg:Gl X x)(e:tc.gl.lookup x=Yt)(ha:PE X a (tD X W Y_ fun δ=>ev o δ Y_ u))(hst:az a=Zd) :
 PE X (.Call (.Name x p) [a] [] pos) (tD X W lk fun δ=>ev o δ lk (.b1 b u)):=by
 have fb:∀{id:String}{r:List V->Hp->VK->Prop},CallR X (.builtin id) r->Sem1 W r (b1D b)->Vu x=Z_ (.builtin id)->x≠"__name__"->(x==("__debug__":Str))=Zd->x∈c7->PE X (.Call (.Name x p) [a] [] pos) (tD X W lk fun δ=>ev o δ lk (.b1 b u)) :=
  λh1 h2 h3 h4 h5 h6=>fQ (d_b1 h1 h2 (gU b) hg (F.gb _ h6 e) h3 ha h4 h5 (bW hst)) fun δ=>by simp only[ev]
 have ft:∀{id:String}{r:List V->Hp->VK->Prop},CallR X (.type id) r->Sem1 W r (b1D b)->Vu x=Z_ (.type id)->x≠"__name__"->(x==("__debug__":Str))=Zd->x∈c7->PE X (.Call (.Name x p) [a] [] pos) (tD X W lk fun δ=>ev o δ lk (.b1 b u)) :=
  λh1 h2 h3 h4 h5 h6=>fQ (QV h1 h2 (gU b) hg (F.gb _ h6 e) h3 ha h4 h5 (bW hst)) fun δ=>by simp only[ev]
 unfold fn1 at h;split at h
 .rename_i ex;subst ex;cases h
  exact fb z6 Ff PyProof.Rows.boot_abs (by decide +kernel) (by decide +kernel) (by decide +kernel)
 split at h
 .rename_i ex;subst ex;cases h
  exact fb (CallR.or (CallR.or lQ nF) xV) (Ii F.K) PySem.boot_len (by decide +kernel) (by decide +kernel) (by decide +kernel)
 split at h
 .rename_i ex;subst ex;cases h
  exact ft lA (wN F.K) (by kernel_rfl) (by decide +kernel) (by decide +kernel) (by decide +kernel)
 split at h
 .rename_i ex;obtain⟨rfl,hq⟩:=ex;cases h
  obtain⟨r,c1,c2⟩:=f_list (X:=X) (W:=W) hq F.K F.calm;exact ft c1 c2 (by kernel_rfl) (by decide +kernel) (by decide +kernel) (by decide +kernel)
 split at h
 .rename_i ex;obtain⟨rfl,hq⟩:=ex;cases h
  obtain⟨r,c1,c2⟩:=Nv (X:=X) (W:=W) hq F.K F.calm;exact ft c1 c2 (by kernel_rfl) (by decide +kernel) (by decide +kernel) (by decide +kernel)
 split at h
 .rename_i ex;obtain⟨rfl,hq⟩:=ex;cases h
  obtain⟨r,c1,c2⟩:=QF (X:=X) (W:=W) hq F.K F.calm;exact fb c1 c2 (by kernel_rfl) (by decide +kernel) (by decide +kernel) (by decide +kernel)
 split at h
 .rename_i ex;obtain⟨rfl,hq⟩:=ex;cases h
  obtain⟨r,c1,c2⟩:=Ra (X:=X) (W:=W) hq F.K F.calm;exact fb c1 c2 (by kernel_rfl) (by decide +kernel) (by decide +kernel) (by decide +kernel)
 split at h
 .rename_i ex;obtain⟨rfl,hq⟩:=ex;cases h
  obtain⟨r,c1,c2⟩:=Rb (X:=X) (W:=W) hq F.K F.calm;exact fb c1 c2 (by kernel_rfl) (by decide +kernel) (by decide +kernel) (by decide +kernel)
 split at h
 .rename_i ex;obtain⟨rfl,hq⟩:=ex;cases h
  obtain⟨r,c1,c2⟩:=Aw (X:=X) (W:=W) hq F.K F.calm;exact fb c1 c2 PyProof.Rows.boot_sorted (by decide +kernel) (by decide +kernel) (by decide +kernel)
 split at h
 .rename_i ex;obtain⟨rfl,hq⟩:=ex;cases h
  obtain⟨r,c1,c2⟩:=R3 (X:=X) (W:=W) hq F.K F.calm;exact ft c1 c2 (by kernel_rfl) (by decide +kernel) (by decide +kernel) (by decide +kernel)
 split at h
 .rename_i ex;obtain⟨rfl,hq⟩:=ex;cases h
  obtain⟨r,c1,c2⟩:=f_int (X:=X) (W:=W) hq F.K F.calm;exact ft c1 c2 (by kernel_rfl) (by decide +kernel) (by decide +kernel) (by decide +kernel)
 .cases h
def Fg(F:Fits X W tc o k)(h:fn1x x=Z_ b)(hg:Gl X x)(e:tc.gl.lookup x=Yt)(ha:PE X a (tD X W Y_ fun δ=>ev o δ Y_ u))(hst:az a=Zd) :
 PE X (.Call (.Name x p) [a] [] pos) (tD X W lk fun δ=>ev o δ lk (.b1 b u)):=by
 unfold fn1x at h;split at h
 .rename_i b' e0
  cases h;exact K5 F e0 hg e ha hst
 .split at h
  .rename_i ex
   obtain⟨rfl,hq⟩:=ex;cases h;obtain⟨r,c1,c2⟩:=Jp (X:=X) (W:=W) hq F.K F.calm
   exact fQ (d_b1 c1 c2 (gU _) hg (F.gb _ (by decide +kernel) e) (by kernel_rfl) ha (by decide +kernel) (by decide +kernel) (bW hst)) fun δ=>by simp only[ev]
  .cases h
def JQ(F:Fits X W tc o k)(hf:∀e t,f e=Z_ t->Right X W o e t)(h:Iu f a name args ok=Z_ t)(hok:ok=(apos.endLine==cpos.line))(lk:Bool) :
 PE X (.Call (.Attribute a name apos) args [] cpos) (tD X W lk fun δ=>ev o δ lk t):=by unfold Iu at h;cases h
def IK(F:Fits X W tc o k)(hf:∀e t,f e=Z_ t->∀lk,PE X e (tD X W lk fun δ=>ev o δ lk t))(h:trSS tc f x a=Z_ t)(hg:Gl X x)(e:tc.gl.lookup x=Yt)(lk:Bool):PE X (.Call (.Name x p) [a] [] pos) (tD X W lk fun δ=>ev o δ lk t):=by
 unfold trSS at h;split at h
 .split at h
  .rename_i hc
   obtain⟨rfl,hq,rfl,h1,h2,h3⟩:=hc;obtain⟨u,e1,rfl⟩:=U8.mp h
   exact fQ (Jy hq F.K F.calm hg (F.gb _ (by decide +kernel) e) (cJ F h1) (F.gb _ (by decide +kernel) (by simpa using h2)) (hf _ u e1 Y_) h3) fun δ=>by simp only[ev]
  .cases h
 .cases h
def KQ(F:Fits X W tc o k)(hf:∀e t,f e=Z_ t->Right X W o e t)(h:Ar tc f op a b=Z_ t)(hm:V2 op b=Zd):Right X W o (.Compare a [op] [b] pos) t:=by
 unfold Ar at h
 cases e0:oF tc b with
 | none=>rw[e0]at h;cases h
 | some q=>
 rw[e0]at h
 cases b<;>first | exact nope e0 | simp only[oF]at e0
 split at e0
 .rename_i hc
  simp only[RT,Sy]at hc;split at e0
  .rename_i ks vs el
   cases e0;obtain⟨ad,m1,m2⟩:=F.gd _ ks vs el
   cases op<;>first | exact nope h | skip
   .obtain⟨u,e1,rfl⟩:=U8.mp h
    exact Kw hc.1.1 Zd F.K m2 (cJ F hc.1.2) m1 hc.2 ((hf a u e1).1 Y_) hm
   .obtain⟨u,e1,rfl⟩:=U8.mp h
    exact Kw hc.1.1 Y_ F.K m2 (cJ F hc.1.2) m1 hc.2 ((hf a u e1).1 Y_) hm
  .cases e0
 .cases e0
def J0(F:Fits X W tc o k)(hf:∀e t,f e=Z_ t->Right X W o e t)(h:wY tc f x args=Z_ t)(lk:Bool) :
 PE X (.Call (.Name x p) args [] pos) (tD X W lk fun δ=>ev o δ lk t):=by
 unfold wY at h;split at h
 .rename_i hc
  simp only[RT,Sy]at hc;obtain⟨⟨hg,hdb⟩,hst⟩:=hc;have hg:=cJ F hg;split at h
  .rename_i i np e
   split at h
   .rename_i hn
    cases e1:trL f args with
    | none=>rw[e1]at h;cases h
    | some l=>
      rw[e1]at h;cases h;obtain⟨fa,fd,ps,h1,h2,h3,h4⟩:=F.gf x i np e
      cases args with
      | nil=>exact absurd rfl hn.2
      | cons a as=>
        have hst':=hst;simp only[Ue,Vt]at hst';exact Mf (fun δ r e=>by rw[pH e1 δ r e];exact hn.1) h4 F.room hg h1 h2 h3 (iG (λe t h=>(hf e t h).1) e1 hst) hdb (bW hst'.1) (sE hst'.2)
   .split at h
    .rename_i hn
     split at h
     .rename_i y v ed
      split at h
      .rename_i ey
       subst ey
       cases e1:trL f args with
       | none=>rw[e1]at h;cases h
       | some l=>
         rw[e1]at h;cases h;obtain⟨fa,fd,ps,vs,h1,h2,h3,h5,h4⟩:=F.gdf y v i np ed e
         cases args with
         | nil=>exact absurd rfl hn.2
         | cons a as=>
           have hst':=hst;simp only[Ue,Vt]at hst';exact Je (fun δ r e=>by rw[pH e1 δ r e];exact hn.1) h4 F.room hg h1 h2 h3 h5 (iG (λe t h=>(hf e t h).1) e1 hst) hdb (bW hst'.1) (sE hst'.2)
      .cases h
     .cases h
    .cases h
  .cases h
  .rename_i e
   split at h
   .rename_i a
    simp only[Ue,Yr,WX]at hst
    cases e00:trSS tc f x a with
    | some t'=>
      rw[e00]at h;cases h;exact IK F (λe t h=>(hf e t h).1) e00 hg e lk
    | none=>
    rw[e00]at h;dsimp only at h
    cases e0:fn1x x with
    | none=>rw[e0]at h;cases h
    | some b=>
      rw[e0]at h
      cases e1:f a with
      | none=>simp[e1]at h
      | some u=>
        simp[e1]at h;subst h;exact Fg F e0 hg e ((hf a u e1).1 Y_) hst
   .rename_i a b
    simp only[Ue,Yr,WX,Vt]at hst;split at h
    .rename_i ex
     obtain⟨rfl,hq⟩:=ex
     cases e1:f a with
     | none=>rw[e1]at h;cases h
     | some u=>
       cases e2:f b with
       | none=>simp[e1,e2]at h
       | some u2=>
         simp[e1,e2]at h;subst h;exact M6 hq F.calm hg (F.gb _ (by decide +kernel) e) ((hf a u e1).1 Y_) ((hf b u2 e2).1 Y_) hst.1 hst.2
    split at h
    .rename_i ex
     obtain⟨rfl,hq⟩:=ex
     cases e1:f a with
     | none=>rw[e1]at h;cases h
     | some u=>
       cases e2:f b with
       | none=>simp[e1,e2]at h
       | some u2=>
         simp[e1,e2]at h;subst h;exact LR hq F.calm hg (F.gb _ (by decide +kernel) e) ((hf a u e1).1 Y_) ((hf b u2 e2).1 Y_) hst.1 hst.2
    .split at h
     .rename_i y py
      split at h
      .rename_i hc2
       obtain⟨ex,hgy,hly⟩:=hc2;subst ex;split at h
       .cases h
       cases e1:f a with
       | none=>rw[e1]at h;cases h
       | some u=>
         rw[e1]at h
         cases e2:trTy y with
         | none=>simp[e2]at h
         | some ty=>
           simp[e2]at h;subst h;obtain⟨T,hT,hb,hn,hd,hm⟩:=Hh e2
           have hly:tc.gl.lookup y=Yt:=by simpa using hly
           exact fQ (Kl (o:=o) F.K hT hg (F.gb _ (by decide +kernel) e) (cJ F hgy) (F.gb _ hm hly) hb hn hd ((hf a u e1).1 Y_) (bW hst.1)) fun δ=>by simp only[ev]
      .cases h
     .cases h
   .cases h
 .cases h
def Fj(F:Fits X W tc o k)(hf:∀e t,f e=Z_ t->Right X W o e t)(h:uR tc f x a b=Z_ t)(lk:Bool):PE X (.Call (.Name x p) [a] [⟨some "default",b,kp⟩] pos) (tD X W lk fun δ=>ev o δ lk t):=by
 unfold uR at h;split at h
 .rename_i hc
  obtain⟨rfl,hq,hg,hl,hst⟩:=hc
  cases e1:f a with
  | none=>rw[e1]at h;cases h
  | some u=>
    cases e2:f b with
    | none=>simp[e1,e2]at h
    | some u2=>
      simp[e1,e2]at h;subst h;exact O3 hq F.K F.calm (cJ F hg) (F.gb _ (by decide +kernel) (by simpa using hl)) ((hf a u e1).1 Y_) ((hf b u2 e2).1 Y_) hst
 split at h
 .rename_i hc
  obtain⟨rfl,hq,hg,hl,hst⟩:=hc
  cases e1:f a with
  | none=>rw[e1]at h;cases h
  | some u=>
    cases e2:f b with
    | none=>simp[e1,e2]at h
    | some u2=>
      simp[e1,e2]at h;subst h;exact Mt hq F.K F.calm (cJ F hg) (F.gb _ (by decide +kernel) (by simpa using hl)) ((hf a u e1).1 Y_) ((hf b u2 e2).1 Y_) hst
 .cases h
def Hv(F:Fits X W tc o k)(hf:∀e t,f e=Z_ t->Right X W o e t)(h:xP f a name args ok=Z_ t)(hok:ok=(apos.endLine==cpos.line))(lk:Bool) :
 PE X (.Call (.Attribute a name apos) args [] cpos) (tD X W lk fun δ=>ev o δ lk t):=by
 unfold xP at h;split at h
 .rename_i hc
  simp only[RT,Sy]at hc;obtain⟨⟨h1,h2⟩,hst⟩:=hc;rw[hok]at h1;split at h
  .rename_i b
   simp only[Ue,Yr,WX]at hst;split at h
   .rename_i ex
    obtain⟨rfl,hq⟩:=ex
    cases e1:f a with
    | none=>rw[e1]at h;cases h
    | some ta=>
      cases e2:f b with
      | none=>simp[e1,e2]at h
      | some tb=>
        simp[e1,e2]at h;subst h;exact NZ hq F.K ((hf a ta e1).1 Y_) ((hf b tb e2).1 Y_) h2 hst h1
   .split at h
    .rename_i ex
     obtain⟨rfl,hq⟩:=ex
     cases e1:f a with
     | none=>rw[e1]at h;cases h
     | some ta=>
       cases e2:f b with
       | none=>simp[e1,e2]at h
       | some tb=>
         simp[e1,e2]at h;subst h;exact HX hq ((hf a ta e1).1 Y_) ((hf b tb e2).1 Y_) h2 hst h1
    .cases h
  .rename_i b c
   simp only[Ue,Yr,WX,Vt]at hst;split at h
   .rename_i ex
    obtain⟨rfl,hq⟩:=ex
    cases e1:f a with
    | none=>rw[e1]at h;cases h
    | some ta=>
      cases e2:f b with
      | none=>simp[e1,e2]at h
      | some tb=>
        cases e3:f c with
        | none=>simp[e1,e2,e3]at h
        | some tcc=>
          simp[e1,e2,e3]at h;subst h;exact Lz hq (vL F.room) ((hf a ta e1).1 Y_) ((hf b tb e2).1 Y_) ((hf c tcc e3).1 Zd) (Qh h2 hst.1 hst.2 h1)
   .cases h
  .cases h
 .cases h
def uW(h:isSet e=Zd)(x:Rm):Vg e env x=pure x:=by
 cases e<;>first | rfl | (simp[isSet]at h)
def j8:("range":Str)∈c7:=by decide +kernel
def Hm:("zip":Str)∈c7:=by decide +kernel
def Bx:("enumerate":Str)∈c7:=by decide +kernel
def tupE(h:ik tg=Y_):∃es x1 p,tg=.Tuple es x1 p:=by
 cases tg<;>first | (simp[ik]at h;done) | exact⟨_,_,_,rfl⟩
def vH(F:Fits X W tc o k)(hf:∀e t,f e=Z_ t->Right X W o e t)(tg:Expr)(h:trI tc f (ik tg) e=Z_ it)(lk:Bool):(∃wi,PI X tg e wi/\WalkL X W o lk it wi)/\∀x,Vg e X.env x=pure x:=by
 have val:isSet e=Zd->(f e).map a0F=Z_ it->(∃wi,PI X tg e wi/\WalkL X W o lk it wi)/\∀x,Vg e X.env x=pure x:=λhs h=>by
  cases e1:f e with
  | none=>rw[e1]at h;cases h
  | some t=>
    rw[e1]at h;cases h;exact⟨Q9 F.K ((hf e t e1).1 lk),uW hs⟩
 unfold trI at h;split at h
 .rename_i x px a pc
  split at h
  .rename_i ex
   subst ex;split at h
   .rename_i hc
    simp only[RT,Sy,VG]at hc
    cases e1:f a with
    | none=>rw[e1]at h;cases h
    | some t=>
      rw[e1]at h;cases h;exact⟨JM (cJ F hc.1.1) (F.gb _ j8 hc.1.2) ((hf a t e1).1 Y_) hc.2,λ_=>rfl⟩
   .cases h
  .split at h
   .rename_i ex
    subst ex;split at h
    .rename_i hc
     simp only[RT,Sy,VG]at hc;obtain⟨es,x1,p,rfl⟩:=tupE hc.1.1.1.2
     cases e1:f a with
     | none=>rw[e1]at h;cases h
     | some t=>
       rw[e1]at h;cases h;exact⟨Le hc.1.1.1.1 F.K (cJ F hc.1.1.2) (F.gb _ Bx hc.1.2) ((hf a t e1).1 lk) hc.2,λ_=>rfl⟩
    .cases h
   .exact val rfl h
 .rename_i x px a b pc
  split at h
  .rename_i ex
   subst ex;split at h
   .rename_i hc
    simp only[RT,Sy,VG]at hc
    cases e1:f a with
    | none=>rw[e1]at h;cases h
    | some t=>
      cases e2:f b with
      | none=>simp[e1,e2]at h
      | some t2=>
        simp[e1,e2]at h;subst h;exact⟨Ku hc.1.1.1.1 (cJ F hc.1.1.1.2) (F.gb _ j8 hc.1.1.2) ((hf a t e1).1 Y_) ((hf b t2 e2).1 Y_) hc.1.2 hc.2,λ_=>rfl⟩
   .cases h
  .split at h
   .rename_i ex
    subst ex;split at h
    .rename_i hc
     simp only[RT,Sy,VG]at hc;obtain⟨es,x1,p,rfl⟩:=tupE hc.1.1.1.1.2
     cases e1:f a with
     | none=>rw[e1]at h;cases h
     | some t=>
       cases e2:f b with
       | none=>simp[e1,e2]at h
       | some t2=>
         simp[e1,e2]at h;subst h;exact⟨Qo hc.1.1.1.1.1 F.K (cJ F hc.1.1.1.2) (F.gb _ Hm hc.1.1.2) ((hf a t e1).1 lk) ((hf b t2 e2).1 lk) hc.1.2 hc.2,λ_=>rfl⟩
    .cases h
   .exact val rfl h
 .rename_i x px a b c pc
  split at h
  .rename_i ex
   subst ex;split at h
   .rename_i hc
    simp only[RT,Sy,VG]at hc
    cases e1:f a with
    | none=>rw[e1]at h;cases h
    | some t=>
      cases e2:f b with
      | none=>simp[e1,e2]at h
      | some t2=>
        cases e3:f c with
        | none=>simp[e1,e2,e3]at h
        | some t3=>
          simp[e1,e2,e3]at h;subst h;exact⟨JH hc.1.1.1.1.1 (cJ F hc.1.1.1.1.2) (F.gb _ j8 hc.1.1.1.2) ((hf a t e1).1 Y_) ((hf b t2 e2).1 Y_) ((hf c t3 e3).1 Y_) hc.1.1.2 hc.1.2 hc.2,λ_=>rfl⟩
   .cases h
  .exact val rfl h
 .split at h
  .cases h
  .rename_i hs
   exact val (by simpa using hs) h
def Ce(h:blkB scope=Y_):Blk scope:=by
 unfold blkB at h;simp only[RT,decide_eq_true_eq,Ym,X4,Sy]at h;refine⟨h.1,λy hy z=>?_,λy hy z=>?_,λy hy z=>?_⟩
 .have:=(h.2 y hy).1.1
  rw[z]at this;cases this
 .rcases(h.2 y hy).1.2 with q | q
  .rw[z]at q;cases q
  .exact q
 .rcases(h.2 y hy).2 with q | q
  .rw[z]at q;cases q
  .exact q
def frees_mem:x∈frees scope↔(x,Vk)∈scope.names:=by
 unfold frees
 constructor
 .intro h
  obtain⟨y,hy,rfl⟩:=Sw.mp h;obtain⟨h1,h2⟩:=Ve.mp hy
  have:y.2=.free:=by simpa using h2
  rw[<-this];exact h1
 .exact λh=>Sw.mpr ⟨_,Ve.mpr ⟨h,by simp⟩,rfl⟩
theorem Cw{X':Cx}{tl:List Str}(hN:X'.N.Nodup)(hloc:∀x∈tl,X'.env.scope.names.lookup x=Z_ .local):∀{es:List Expr}{l:List Str}{i:Nat},iC es=Z_ l->(∀(j:Nat) x,l[j]?=Z_ x->X'.N[i+j]?=Z_ x/\x∈tl) ->
 PGs X' es (eE (List.range' i l.length))/\(V7 es X'.env).length=l.length/\(V7 es X'.env).findIdx? (·.1)=Yt
 | [],l,i,h,_=>by
   simp only[iC,Ry]at h;subst h;exact⟨vN,rfl,rfl⟩
 | e::es,l,i,h,hl=>by
   cases e<;>first | exact nope h | simp only[iC]at h
   rename_i x p
   cases e1:iC es with
   | none=>rw[e1]at h;cases h
   | some l'=>
     rw[e1]at h;cases h
     obtain⟨h1,h2,h3⟩:=Cw hN hloc (i:=i+1) e1 λj y hj=>by
      have:=hl (j+1) y (by simpa using hj);rw[show i+(j+1)=i+1+j by omega]at this;exact this
     obtain⟨k1,k2⟩:=hl 0 x rfl;rw[Nat.add_zero]at k1;have kl:=hloc x k2;refine⟨?_,?_,?_⟩
     .rw[RK,List.range'_succ]
      exact rM (jU hN k1 (.inl kl) (.inr kl)) h1
     .show(V7 es X'.env).length+1=_
      rw[h2];rfl
     .show List.findIdx? (·.1) ((Zd,Yj (.Name x p) X'.env)::V7 es X'.env)=Yt
      rw[List.findIdx?_cons,h3];rfl
def sX{K:Rw}{n:Nat}:gTup K n (eE (TQ n))=gTup K (TQ n).length (eE (TQ n)):=by rw[Yd]
def wF(hx:X.xe=λ_ _=>False)(F:Fits X W tc o k){f:Tc->Expr->Option T}(hf:∀(X':Cx)(tc':Tc),(X'.xe=λ_ _=>False)->Fits X' W tc' o k->∀e t,f tc' e=Z_ t->Right X' W o e t){elt tg iter:Expr}{ifs:List Expr}{scope:Scope}{t:T}(h:pK tc f elt tg iter ifs scope=Z_ t) :
 ∃N m caps tup g it c e,t=.comp caps m tup it c e/\CompIn X W o scope N elt tg iter ifs m caps tup g it c e:=by
 unfold pK at h
 cases e1:nZ tg with
 | none=>rw[e1]at h;cases h
 | some q=>
 obtain⟨tn,tup⟩:=q;rw[e1]at h;simp only[Sh]at h;split at h
 .rename_i hb
  cases e2:ixs tc.N (frees scope)with
  | none=>rw[e2]at h;cases h
  | some caps=>
  cases e3:trI tc (f tc) (ik tg) iter with
  | none=>simp[e2,e3]at h
  | some it=>
  cases e4:uF (f ⟨tn++frees scope,eV scope tc.sc,tc.gl⟩) ifs with
  | none=>simp[e2,e3,e4]at h
  | some c=>
  cases e5:f ⟨tn++frees scope,eV scope tc.sc,tc.gl⟩ elt with
  | none=>simp[e2,e3,e4,e5]at h
  | some e=>
  simp[e2,e3,e4,e5]at h;subst h;unfold Kv at hb;simp only[RT,decide_eq_true_eq,Ym,X4]at hb;obtain⟨⟨⟨b1,b2⟩,b3⟩,b4⟩:=hb
  have FC:=λfp pins s H=>F.comp (scope:=scope) b2 fp pins s H
  obtain⟨⟨wi,hi1,hi2⟩,hs⟩:=vH F (λe t h=>hf X tc hx F e t h) tg e3 Y_
  have hi:∃wi,PI X tg iter wi/\Ex X W o it wi:=⟨wi,hi1,hi2.comp⟩
  have hloc:∀(X0:Cx),X0.env=X.env->∀x∈tn,(Zo scope X.env).names.lookup x=Z_ .local:=λ_ _ x hx=>lookup_relabel_local (b3 x hx)
  have hg:∃g,(∀fp pins s H,PG (cxC X scope (tn++frees scope) fp pins s H) tg g)/\(∀H0,TgR { X with H₀:=H0 } W (TQ tn.length) tup g)/\(tup=Zd->tn.length=1):=by
   cases tg<;>first | exact nope e1 | simp only[nZ]at e1
   .rename_i x p
    cases e1;exact⟨t6 0,λfp pins s H=>jU (X:=cxC X scope ([x]++frees scope) fp pins s H) b2 rfl (.inl (hloc X rfl x Ru)) (.inr (hloc X rfl x Ru)),λH0=>zu,λ_=>rfl⟩
   .rename_i es kk p
    cases e6:iC es with
    | none=>rw[e6]at e1;cases e1
    | some l=>
      rw[e6]at e1;cases e1;refine⟨gTup X.K tn.length (eE (TQ tn.length)),λfp pins s H=>?_,λH0=>?_,λz=>by cases z⟩
      .obtain⟨k1,k2,k3⟩:=Cw (X':=cxC X scope (tn++frees scope) fp pins s H) (tl:=tn) b2 (hloc X rfl) (i:=0) e6 λj x hj=>⟨by
        rw[VP];show(tn++frees scope)[j]?=Z_ x
        rw[Vi (Sq.mp hj).1];exact hj,S5 hj⟩
       rw[<-List.range_eq_range']at k1;exact Cj (X:=cxC X scope (tn++frees scope) fp pins s H) F.calm k1 k2 k3
      .rw[sX]
       exact Fi (X:={ X with H₀:=H0 }) F.K
  obtain⟨g,g1,g2,g3⟩:=hg;refine⟨tn++frees scope,tn.length,caps,tup,g,it,c,e,rfl,F.K,hx,F.calm,Ce b1,⟨?_,λj kk x hj hx=>?_,λy hy hk=>?_⟩,g3,hi,g1,g2,λfp pins s H=>?_,λfp pins s H=>(hf (cxC X scope (tn++frees scope) fp pins s H) _ hx (FC fp pins s H) elt e e5).1 Zd,hs⟩
  .rw[RJ,vU e2]
  .obtain⟨y,y1,y2⟩:=vB e2 hj
   rw[Uq (by omega),Nat.add_sub_cancel_left,y1]at hx;cases hx;have hm:=S5 y1;rw[F.N,F.sc];exact⟨y2,(Ce b1).fre _ (frees_mem.mp hm) rfl,b4 x hm⟩
  .rw[F.sc]
   exact b4 y.1 (frees_mem.mpr (by rw[<-hk];exact hy))
  .cases ifs with
   | nil=>
     simp only[uF,Ry]at e4;subst e4
     refine PIf.imp FN fun σ H' Q ⟨me,B,δ,S,q⟩=>?_
     simp only[ev,a0u,truth,a0w]at q;exact q H' (Same.refl _)
   | cons c1 rest=>
     cases rest with
     | nil=>
       simp only[uF]at e4;exact Hi (hf (cxC X scope (tn++frees scope) fp pins s H) _ hx (FC fp pins s H) c1 c e4).2
     | cons _ _=>simp[uF]at e4
 .cases h
theorem z9(h:fW c=Z_ d)(lk:Bool):PE X (.Constant c j pos) (tD X W lk fun δ=>ev o δ lk (.cst d)):=by
 cases c<;>first | exact nope h | simp only[fW]at h
 .cases h;exact yz LC (λG=>by simp only[Rep]) o
 .cases h;exact yz QB (λG=>by simp only[Rep]) o
 .cases h;exact yz NB (λG=>by simp only[Rep]) o
 .split at h
  .rename_i s hl
   cases h;refine yz M8 (λG=>?_) o;simp only[Rep,strV];refine⟨trivial,?_⟩
   have:s.cps.toList.length=s.length:=by simp[Str.length]
   omega
  .cases h
def Io(h:isSlice b=Zd):yH b:=λo i=>by cases b<;>first | rfl | (simp[isSlice]at h)
def Qc(F:Fits X W tc o k)(ha:PE X a (tD X W Y_ fun δ=>ev o δ Y_ ta))(hb:PE X b (tD X W Y_ fun δ=>ev o δ Y_ tb))(hs:isSlice b=Zd)(lk:Bool) :
 PE X (.Subscript a b pos) (tD X W lk fun δ=>ev o δ lk (.idx ta tb)):=by
 have nosl:NoSl b:=by intro x y;cases b<;>first | rfl | (simp[isSlice]at hs)
 refine PE.imp (PE.or (Qt Ng ha hb (Io hs)) (Ie (vL F.room) ha hb nosl)) fun σ H Q h=>?_
 obtain⟨me,B,δ,S,h⟩:=tD_iff.mp h;simp only[ev]at h
 by_cases hd:∃r ks vs,ev o δ Y_ ta=.ok r/\r.2=.dct ks vs
 .obtain⟨r,ks,vs,e,e2⟩:=hd
  refine .inr ?_
  refine tD.mono (part (fa:=fun δ=>ev o δ Y_ ta) S h) λv H1 ⟨r1,e1,S1,s1,t1,_,h1⟩=>?_
  have:r1=r:=by rw[e]at e1;cases e1;rfl
  subst this
  refine tD.mono (part (fa:=fun δ=>ev o δ Y_ tb) (g:=λy=>idxD r1.2 y.2) S1 h1) λu H2 ⟨r2,e3,S2,s2,t2,_,h2⟩=>?_
  rw[e2]at t1 h2;obtain⟨a,kvs,rfl,q1,q2,q3,q4⟩:=t1;simp only[idxD]at h2
  cases e4:keyOf r2.2 with
  | none=>rw[e4]at h2;exact h2.elim
  | some x=>
    rw[e4]at h2;simp only[Sh]at h2
    cases e5:look ks vs x with
    | none=>rw[e5]at h2;exact h2.elim
    | some d=>
      rw[e5]at h2;obtain⟨v,h3,h4⟩:=gO q2 (q4.mono (aC s2)) e5;refine⟨a,v,rfl,?_,h2 v H2 (Same.refl _) (.shared h4)⟩;rw[eU e4 t2,<-h3];obtain⟨ep,q1⟩:=q1;exact DGet.k (s2 _ _ q1)
 .refine .inl (lN (lk:=lk) (Et F.K) (by intro x y c;cases x<;>simp only[jD]<;>first | (intro z;cases z;done) | exact tK _ _ _) ?_)
  refine tD_iff.mpr ⟨me,B,δ,S,?_⟩
  have e:((ev o δ Y_ ta).bind λx=>(ev o δ Y_ tb).bind λy=>jD x.2 y.2)=((ev o δ Y_ ta).bind λx=>(ev o δ Y_ tb).bind λy=>idxD x.2 y.2):=by
   cases e:ev o δ Y_ ta with
   | ok r=>
     show((ev o δ Y_ tb).bind λy=>jD r.2 y.2)=((ev o δ Y_ tb).bind λy=>idxD r.2 y.2)
     congr 1
     funext y
     cases e2:r.2 with
     | dct ks vs=>exact absurd ⟨r,ks,vs,e,e2⟩ hd
     | _=>rfl
   | exc c=>rfl
   | stuck=>rfl
  show After X W lk σ H (Hid B σ δ) ((ev o δ Y_ ta).bind λx=>(ev o δ Y_ tb).bind λy=>jD x.2 y.2) Q;rw[e];exact h
def uz(hf:∀e t,f e=Z_ t->Right X W o e t)(h:trJ f vs=Z_ t)(lk:Bool):PE X (.JoinedStr vs pos) (tD X W lk fun δ=>ev o δ lk t):=by unfold trJ at h;cases h
def sndE:∀(n:Nat){X:Cx}{tc:Tc},(X.xe=λ_ _=>False)->Fits X W tc o k->∀(e:Expr)(t:T),trE n tc e=Z_ t->Right X W o e t:=by
 intro n
 induction n with
 | zero=>intro X tc hx F e t h;exact nope h
 | succ n ih'=>
   intro X tc hx F e t h
   have ih:=λe t h=>ih' hx F e t h
   cases e with
   | Name x pos=>
     rw[aY]at h;delta trEb at h;dsimp only at h;split at h
     .rename_i hv
      obtain⟨h1,h2,h3⟩:=iT F hv
      cases e1:bD tc.N x with
      | none=>rw[e1]at h;cases h
      | some i=>
        rw[e1]at h;cases h;exact aM (λlk=>Qu (by rw[F.N];exact bz e1) h1 h2 h3 o) (λ_=>rfl)
     .split at h
      .rename_i hc
       simp only[RT,Sy]at hc;split at h
       .rename_i d e1
        cases h;obtain⟨u,v,m1,m2,m3⟩:=F.gv x d e1;exact aM (λlk=>yz (Gd (cJ F hc.1) m1 m2 hc.2) m3 o) (λ_=>rfl)
       .cases h
      .cases h
   | IfExp c a b pos=>
     rw[aY]at h;delta trEb at h;dsimp only at h
     cases e1:trE n tc c with
     | none=>rw[e1]at h;cases h
     | some u1=>
       cases e2:trE n tc a with
       | none=>simp[e1,e2]at h
       | some u2=>
         cases e3:trE n tc b with
         | none=>simp[e1,e2,e3]at h
         | some u3=>
           simp[e1,e2,e3]at h;subst h;exact⟨λlk=>Qn (ih c u1 e1).2 ((ih a u2 e2).1 lk) ((ih b u3 e3).1 lk),K8 (ih c u1 e1).2 (ih a u2 e2).2 (ih b u3 e3).2⟩
   | Constant c j pos=>
     rw[aY]at h;delta trEb at h;dsimp only at h
     cases e1:fW c with
     | none=>rw[e1]at h;cases h
     | some d=>
       rw[e1]at h;cases h;exact aM (λlk=>z9 e1 lk) (λ_=>rfl)
   | BinOp a op b pos=>
     rw[aY]at h;delta trEb at h;dsimp only at h
     cases e1:trOp op with
     | none=>rw[e1]at h;cases h
     | some p=>
       cases e2:trE n tc a with
       | none=>simp[e1,e2]at h
       | some ta=>
         cases e3:trE n tc b with
         | none=>simp[e1,e2,e3]at h
         | some tb=>
           simp[e1,e2,e3]at h;subst h;exact aM (λlk=>Jh F e1 ((ih a ta e2).1 Y_) ((ih b tb e3).1 Y_) lk) (λ_=>rfl)
   | UnaryOp op a pos=>
     cases op<;>first | exact nope h | (rw[aY]at h;delta trEb at h;dsimp only at h)
     all_goals
      cases e1:trE n tc a with
      | none=>rw[e1]at h;cases h
      | some ta=>
        rw[e1]at h;cases h
        first
         | exact⟨λlk=>fQ (Qy ((ih a ta e1).1 Y_)) fun δ=>by simp only[ev],BK (M3 (ih a ta e1).2) fun δ=>by simp only[ev]⟩
         | exact aM (λlk=>Qq ((ih a ta e1).1 Y_)) (λ_=>rfl)
   | Compare a ops cs pos=>
     match ops,cs,h with
     | [op],[b],h=>
       rw[aY]at h;delta trEb at h;dsimp only at h;split at h
       .cases h
       .rename_i hm
        cases ek:Ar tc (trE n tc) op a b with
        | some t'=>
          rw[ek]at h;cases h;exact KQ F ih ek (by simpa using hm)
        | none=>
        rw[ek]at h;dsimp only at h
        cases e1:yW op with
        | none=>rw[e1]at h;cases h
        | some p=>
          cases e2:trE n tc a with
          | none=>simp[e1,e2]at h
          | some ta=>
            cases e3:trE n tc b with
            | none=>simp[e1,e2,e3]at h
            | some tb=>
              simp[e1,e2,e3]at h;subst h;exact O9 F e1 (by simpa using hm) ((ih a ta e2).1 Y_) ((ih b tb e3).1 Y_)
     | [],_,h=>exact nope h
     | _::_::_,_,h=>exact nope h
     | [_],[],h=>exact nope h
     | [_],_::_::_,h=>exact nope h
   | BoolOp op vs pos=>
     cases op with
     | And=>
       rw[aY]at h;delta trEb at h;dsimp only at h;obtain⟨h1,h2⟩:=qR (pos:=pos) ih h;exact⟨h1,h2.pt⟩
     | Or=>
       rw[aY]at h;delta trEb at h;dsimp only at h;obtain⟨h1,h2⟩:=ux (pos:=pos) ih h;exact⟨h1,h2.pt⟩
   | Tuple es kk pos=>
     rw[aY]at h;delta trEb at h;dsimp only at h;split at h
     .cases h
     .rename_i hst
      cases e1:trL (trE n tc) es with
      | none=>rw[e1]at h;cases h
      | some l=>
        rw[e1]at h;cases h;exact aM (λlk=>QZ (iG (λe t h=>(ih e t h).1) e1 (by simpa using hst))) (λ_=>rfl)
   | List es pos=>
     rw[aY]at h;delta trEb at h;dsimp only at h;split at h
     .cases h
     .rename_i hst
      cases e1:trL (trE n tc) es with
      | none=>rw[e1]at h;cases h
      | some l=>
        rw[e1]at h;cases h;exact aM (λlk=>Qx (iG (λe t h=>(ih e t h).1) e1 (by simpa using hst))) (λ_=>rfl)
   | Dict ks vs pos=>
     match ks,vs,h with
     | [],[],h=>
       rw[aY]at h;delta trEb at h;simp only[Ry]at h;subst h;exact aM (λlk=>GC) (λ_=>rfl)
     | [],_::_,h=>exact nope h
     | k0::ks,vs,h=>
       rw[aY]at h;delta trEb at h;dsimp only at h;split at h
       .rename_i hq
        exact aM (λlk=>Px hq h lk) (λ_=>rfl)
       .cases h
   | ListComp elt gens scope pos=>
     match gens,h with
     | [g],h=>
       rw[aY]at h;delta trEb at h;dsimp only at h;split at h
       .rename_i h0
        obtain⟨tg,iter,ifs,as⟩:=g;simp only at h0 h;subst h0;obtain⟨N,m,caps,tup,g,it,c,e,rfl,A⟩:=wF hx F (λX' tc' hx' F' e t h=>ih' hx' F' e t h) h;exact aM (λlk=>CJ A) (λ_=>rfl)
       .cases h
     | [],h=>exact nope h
     | _::_::_,h=>exact nope h
   | Subscript a b pos=>
     by_cases hs:∃lo hi p2,b=.Slice lo hi none p2
     .obtain⟨lo,hi,p2,rfl⟩:=hs
      rw[aY]at h;delta trEb at h;dsimp only at h
      cases e1:trE n tc a with
      | none=>rw[e1]at h;cases h
      | some ta=>
        cases e2:oW (trE n tc) lo with
        | none=>simp[e1,e2]at h
        | some tl=>
          cases e3:oW (trE n tc) hi with
          | none=>simp[e1,e2,e3]at h
          | some th=>
            simp[e1,e2,e3]at h;subst h;exact aM (λlk=>fQ (R9 Mq (Ia F.K) ((ih a ta e1).1 Y_) (Dh ih e2) (Dh ih e3)) fun δ=>by simp only[ev]) (λ_=>rfl)
     .have h':(if isSlice b then none else(match oF tc a with
       | some q=>(trE n tc b).map λi=>T.kidx q.1 q.2 i
       | none=>(trE n tc a).bind λt=>(trE n tc b).map λi=>a0x t i))=Z_ t:=by
       cases b<;>first | exact h | skip
       rename_i lo hi st p2
       cases st with
       | none=>exact absurd ⟨lo,hi,p2,rfl⟩ hs
       | some st=>exact nope h
      cases hsl:isSlice b with
      | true=>simp[hsl]at h'
      | false=>
        simp only[hsl,Rv,if_false]at h'
        cases e0:oF tc a with
        | some q=>
          rw[e0]at h'
          cases e2:trE n tc b with
          | none=>simp[e2]at h'
          | some tb=>
            simp[e2]at h';subst h'
            cases a<;>first | exact nope e0 | simp only[oF]at e0
            all_goals
             rename_i x px;split at e0
             .rename_i hc
              simp only[RT,Sy]at hc;split at e0
              .rename_i ks vs e1
               cases e0;obtain⟨ad,m1,m2⟩:=F.gd x ks vs e1;exact aM (λlk=>Mr hc.1.1 F.K m2 (cJ F hc.1.2) m1 hc.2 ((ih b tb e2).1 Y_) (by intro x y;cases b<;>first | rfl | (simp[isSlice]at hsl))) (λ_=>rfl)
              .cases e0
             .cases e0
        | none=>
        rw[e0]at h';simp only at h'
        cases e1:trE n tc a with
        | none=>rw[e1]at h';cases h'
        | some ta=>
          cases e2:trE n tc b with
          | none=>simp[e1,e2]at h'
          | some tb=>
            simp[e1,e2]at h';subst h';exact aM (λlk=>Qc F ((ih a ta e1).1 Y_) ((ih b tb e2).1 Y_) hsl lk) (λ_=>rfl)
   | Call f args kws pos=>
     match f,kws,h with
     | .Name x p,[],h=>
       rw[aY]at h;delta trEb at h;dsimp only at h;exact aM (λlk=>J0 F ih h lk) (λ_=>rfl)
     | .Attribute a name apos,[],h=>
       rw[aY]at h;delta trEb at h;dsimp only at h;split at h
       .exact aM (λlk=>JQ F ih h rfl lk) (λ_=>rfl)
       .exact aM (λlk=>Hv F ih h rfl lk) (λ_=>rfl)
     | .Name x p,[kw],h=>
       match args,kw,h with
       | [a],⟨some nm,b,kp⟩,h=>
         rw[aY]at h;delta trEb at h;dsimp only at h;split at h
         .rename_i ex
          subst ex;exact aM (λlk=>Fj F ih h lk) (λ_=>rfl)
         .cases h
       | [_],⟨none,_,_⟩,h=>exact nope h
       | [],⟨some _,_,_⟩,h | [],⟨none,_,_⟩,h=>exact nope h
       | _::_::_,⟨some _,_,_⟩,h | _::_::_,⟨none,_,_⟩,h=>exact nope h
     | .Name x p,⟨some _,_,_⟩::_::_,h | .Name x p,⟨none,_,_⟩::_::_,h=>rcases args with _ | ⟨_,_ | _⟩<;>exact nope h
     | .Attribute ..,_::_,h=>exact nope h
     | .BoolOp ..,_,h=>exact nope h
     | .NamedExpr ..,_,h=>exact nope h
     | .BinOp ..,_,h=>exact nope h
     | .UnaryOp ..,_,h=>exact nope h
     | .Lambda ..,_,h=>exact nope h
     | .IfExp ..,_,h=>exact nope h
     | .Dict ..,_,h=>exact nope h
     | .Set ..,_,h=>exact nope h
     | .ListComp ..,_,h=>exact nope h
     | .SetComp ..,_,h=>exact nope h
     | .DictComp ..,_,h=>exact nope h
     | .GeneratorExp ..,_,h=>exact nope h
     | .Await ..,_,h=>exact nope h
     | .Yield ..,_,h=>exact nope h
     | .YieldFrom ..,_,h=>exact nope h
     | .Compare ..,_,h=>exact nope h
     | .Call ..,_,h=>exact nope h
     | .FormattedValue ..,_,h=>exact nope h
     | .JoinedStr ..,_,h=>exact nope h
     | .Constant ..,_,h=>exact nope h
     | .Subscript ..,_,h=>exact nope h
     | .Starred ..,_,h=>exact nope h
     | .List ..,_,h=>exact nope h
     | .Tuple ..,_,h=>exact nope h
     | .Slice ..,_,h=>exact nope h
   | JoinedStr vs pos=>
     rw[aY]at h;delta trEb at h;dsimp only at h;exact aM (λlk=>uz ih h lk) (λ_=>rfl)
   | _=>exact nope h
end
noncomputable def iY:Expr->Bool
 | .ListComp ..=>true
 | .SetComp ..=>true
 | .DictComp ..=>true
 | _=>false
noncomputable def aJ(tc:Tc):List Expr->Option (List Nat)
 | []=>some []
 | .Name x _::es=>if locB tc.sc x then(bD tc.N x).bind λi=>(aJ tc es).map λl=>i::l else none
 | _=>none
noncomputable def trTg(tc:Tc):Expr->Option (List Nat×Bool)
 | .Name x _=>if locB tc.sc x then(bD tc.N x).map λi=>([i],Zd)else none
 | .Tuple es _ _=>(aJ tc es).map λl=>(l,Y_)
 | _=>none
noncomputable def trSs(f:Stmt->Option S):List Stmt->Option SL
 | []=>some .nil
 | s::ss=>(f s).bind λt=>(trSs f ss).map λl=>.cons t l
noncomputable def isName:Expr->Bool
 | .Name ..=>true
 | _=>false
noncomputable def Nx:T->Bool
 | .var _=>true
 | _=>false
def bI:Nat:=40
noncomputable def pF:Expr->Bool
 | .ListComp _ [g] _ _=>decide (g.is_async=0)
 | _=>false
noncomputable def trA(tc:Tc)(tgs:List Expr)(e:Expr):Option S:=match tgs with
 | [.Name x _]=>if locB tc.sc x&&(!iY e||pF e)then(bD tc.N x).bind λi=>(trE bI tc e).map λt=>.set i t else none
 | [.Subscript (.Name x _) k _]=>if visB tc.sc x&&!isSlice k&&!iY e then(bD tc.N x).bind λi=>(trE bI tc k).bind λtk=>(trE bI tc e).map λt=>.seti i tk t else none
 | [.Attribute (.Name x _) fn _]=>none
 | _=>none
noncomputable def HQ(tc:Tc)(tgs:List Expr)(e:Expr):Option S:=Yt
noncomputable def trSx(tc:Tc)(tgs:List Expr)(e:Expr):Option S:=Yt
noncomputable def trA2(tc:Tc)(tgs:List Expr)(e:Expr):Option S:=match trSx tc tgs e with
 | some t=>some t
 | none=>match HQ tc tgs e with
   | some t=>some t
   | none=>trA tc tgs e
noncomputable def Ib(tc:Tc)(x:Str)(e:Expr)(ok:Bool):Option S:=Yt
noncomputable def trX(tc:Tc)(e:Expr):Option S:=match e with
 | .Call (.Attribute (.Name x _) m apos) [e] [] cpos=>if m="append" then(if visB tc.sc x&&!az e&&(apos.endLine==cpos.line)then(bD tc.N x).bind λi=>(trE bI tc e).map λt=>.append i t else none)else(if m="update" then Ib tc x e (apos.endLine==cpos.line)else if m="extend"/\m8=Y_ then(if visB tc.sc x&&!az e&&(apos.endLine==cpos.line)then(bD tc.N x).bind λi=>(trE bI tc e).map λt=>.extend i t else none)else none)
 | .Call (.Attribute (.Name x _) m apos) [] [] cpos=>none
 | _=>none
noncomputable def oR(tc:Tc)(e:Option Expr)(cs:Option Expr):Option S:=Yt
noncomputable def Ew(f:Stmt->Option S)(tc:Tc)(body:List Stmt)(hs:List ExceptHandler):Option S:=Yt
noncomputable def JW:TL->Bool
 | .nil=>false
 | .cons (.var _) _=>true
 | .cons _ l=>JW l
noncomputable def Gm:TL->Bool
 | .nil=>false
 | .cons (.lst l) r=>JW l||Gm r
 | .cons _ r=>Gm r
def lstV:T->Bool
 | .not (.call _ l)=>Gm l
 | _=>false
noncomputable def trSb(f:Stmt->Option S)(tc:Tc)(st:Stmt):Option S:=match st with
 | .Assign tgs e _=>trA2 tc tgs e
 | .If c a b _=>(trE bI tc c).bind λt=>(trSs f a).bind λu=>(trSs f b).map λv=>if lstV t then .ifq t u v else .ifs t u v
 | .For tg iter body [] _=>(trTg tc tg).bind λg=>(trI tc (trE bI tc) (ik tg) iter).bind λit=>(trSs f body).map λb=>.for_ g.1 g.2 it b
 | .While c body [] _=>(trE bI tc c).bind λt=>(trSs f body).map λb=>.while_ t b
 | .Return (Z_ e) _=>(trE bI tc e).bind λt=>if Nx t&&!isName e then none else some (.ret t)
 | .Return none _=>some .retn
 | .Expr e _=>trX tc e
 | .Raise e c _=>oR tc e c
 | .Try body hs [] [] _=>Ew f tc body hs
 | .Pass _=>some .pass
 | .Break _=>some .brk
 | .Continue _=>some .cont
 | _=>none
noncomputable def trS:Nat->Tc->Stmt->Option S
 | 0,_,_=>none
 | n+1,tc,st=>some ((trSb (trS n tc) tc st).getD oN)
def zO{n:Nat}{tc:Tc}{st:Stmt}{t:S}(h:trS (n+1) tc st=Z_ t):trSb (trS n tc) tc st=Z_ t\/t=oN:=by
 have h:some ((trSb (trS n tc) tc st).getD oN)=Z_ t:=h
 cases e:trSb (trS n tc) tc st with
 | none=>rw[e]at h;cases h;exact .inr rfl
 | some u=>rw[e]at h;cases h;exact .inl rfl
structure FitsS(X:Cx)(W:Wd)(tc:Tc)(o:Orc)(k:Nat):Prop extends Fits X W tc o k where
 fn:∀x,X.fn x=Y_
 pass:YB (RQ X.prog X.w) X.A X.env X.xe
 stk:X.stack=X.env::X.outer
 frm:X.env.frame=Z_ X.env.locals
def Fits.nox{X:Cx}{W:Wd}{tc:Tc}{o:Orc}{k:Nat}(F:Fits X W tc o k):Fits X.nox W tc o k:=⟨F.N,F.nd,F.sc,F.K,F.room,F.calm,F.gf,F.gb,F.gv,F.gd,F.xf,F.gdf,F.ob⟩
def Right.lift{X:Cx}{W:Wd}{o:Orc}{e:Expr}{t:T}(h:Right X.nox W o e t):Right X W o e t:=⟨λlk=>PE.lift (h.1 lk),PT.lift h.2⟩
def sndX(n:Nat){X:Cx}{W:Wd}{tc:Tc}{o:Orc}{k:Nat}(F:Fits X W tc o k)(e:Expr)(t:T)(h:trE n tc e=Z_ t):Right X W o e t:=Right.lift (sndE n rfl F.nox e t h)
section
variable{X:Cx}{W:Wd}{tc:Tc}{o:Orc}{k:Nat}
def jL(F:Fits X W tc o k){x:Str}(h:locB tc.sc x=Y_):Loc X.env.scope x:=by
 unfold locB at h;rw[F.sc];unfold L2.Loc;split at h
 .rename_i e;exact .inl e
 .rename_i e;exact .inr e
 .cases h
def passes(F:FitsS X W tc o k):YB (RQ X.prog X.w) X.A X.env X.xe:=F.pass
def BX{i:Nat}{e:T}:∀δ c δ',evS o (.set i e) δ≠.ex c δ':=fun δ c δ' h=>by
 simp only[evS]at h
 cases e1:(evF o δ e).2 with
 | ok r=>
   rw[e1]at h;have h:aF ((setSlot (evF o δ e).1 i r.1 r.2).map .nx)=.ex c δ':=h
   cases e2:setSlot (evF o δ e).1 i r.1 r.2 with
   | none=>rw[e2]at h;cases h
   | some δ1=>rw[e2]at h;cases h
 | exc c=>rw[e1]at h;cases h
 | stuck=>rw[e1]at h;cases h
def Bu{e:Expr}{t:Option Expr}{l:Nat}{env:Env}(h:iY e=Zd):XH e t l env=pure Zd:=by
 cases e<;>first | rfl | (simp[iY]at h)
theorem qC(F:FitsS X W tc o k):∀{es:List Expr}{is:List Nat},aJ tc es=Z_ is->PGs X es (eE is)/\(V7 es X.env).length=is.length/\(V7 es X.env).findIdx? (·.1)=Yt
 | [],is,h=>by
   simp only[aJ,Ry]at h;subst h;exact⟨vN,rfl,rfl⟩
 | .Name x p::es,is,h=>by
   simp only[aJ]at h;split at h
   .rename_i hl
    cases e1:bD tc.N x with
    | none=>rw[e1]at h;cases h
    | some i=>
      cases e2:aJ tc es with
      | none=>simp[e1,e2]at h
      | some l=>
        simp[e1,e2]at h;subst h;obtain⟨h1,h2,h3⟩:=qC F e2;refine⟨rM (jU (by rw[F.N];exact F.nd) (by rw[F.N];exact bz e1) (jL F.toFits hl) (.inl (F.fn x))) h1,?_,?_⟩
        .show(V7 es X.env).length+1=_
         rw[h2];rfl
        .show List.findIdx? (·.1) ((Zd,Yj (.Name x p) X.env)::V7 es X.env)=Yt
         rw[List.findIdx?_cons,h3];rfl
   .cases h
 | .BoolOp ..::_,_,h=>by simp[aJ]at h
 | .NamedExpr ..::_,_,h=>by simp[aJ]at h
 | .BinOp ..::_,_,h=>by simp[aJ]at h
 | .UnaryOp ..::_,_,h=>by simp[aJ]at h
 | .Lambda ..::_,_,h=>by simp[aJ]at h
 | .IfExp ..::_,_,h=>by simp[aJ]at h
 | .Dict ..::_,_,h=>by simp[aJ]at h
 | .Set ..::_,_,h=>by simp[aJ]at h
 | .ListComp ..::_,_,h=>by simp[aJ]at h
 | .SetComp ..::_,_,h=>by simp[aJ]at h
 | .DictComp ..::_,_,h=>by simp[aJ]at h
 | .GeneratorExp ..::_,_,h=>by simp[aJ]at h
 | .Await ..::_,_,h=>by simp[aJ]at h
 | .Yield ..::_,_,h=>by simp[aJ]at h
 | .YieldFrom ..::_,_,h=>by simp[aJ]at h
 | .Compare ..::_,_,h=>by simp[aJ]at h
 | .Call ..::_,_,h=>by simp[aJ]at h
 | .FormattedValue ..::_,_,h=>by simp[aJ]at h
 | .JoinedStr ..::_,_,h=>by simp[aJ]at h
 | .Constant ..::_,_,h=>by simp[aJ]at h
 | .Attribute ..::_,_,h=>by simp[aJ]at h
 | .Subscript ..::_,_,h=>by simp[aJ]at h
 | .Starred ..::_,_,h=>by simp[aJ]at h
 | .List ..::_,_,h=>by simp[aJ]at h
 | .Tuple ..::_,_,h=>by simp[aJ]at h
 | .Slice ..::_,_,h=>by simp[aJ]at h
def Qw(F:FitsS X W tc o k){tg:Expr}{g:List Nat×Bool}(h:trTg tc tg=Z_ g):∃gg,TgOk X W tg g.1 g.2 gg:=by
 cases tg<;>first | exact nope h | simp only[trTg]at h
 .split at h
  .rename_i hl
   rename_i x p
   cases e1:bD tc.N x with
   | none=>rw[e1]at h;cases h
   | some i=>
     rw[e1]at h;cases h;exact⟨_,Fw (by rw[F.N];exact F.nd) (by rw[F.N];exact bz e1) (jL F.toFits hl) (.inl (F.fn x))⟩
  .cases h
 .rename_i es kk p
  cases e1:aJ tc es with
  | none=>rw[e1]at h;cases h
  | some l=>
    rw[e1]at h;cases h;obtain⟨h1,h2,h3⟩:=qC F e1;exact⟨_,Ol F.K F.calm h1 h2 h3⟩
theorem nT{f:Stmt->Option S}(hf:∀s t,f s=Z_ t->PS X s (tS X W (evS o t))):∀{ss:List Stmt}{l:SL},trSs f ss=Z_ l->PSs X ss (tS X W (evSs o l))
 | [],l,h=>by
   simp only[trSs,Ry]at h;subst h;exact Nm o
 | s::ss,l,h=>by
   simp only[trSs]at h
   cases e1:f s with
   | none=>rw[e1]at h;cases h
   | some t=>
     rw[e1]at h
     cases e2:trSs f ss with
     | none=>simp[e2]at h
     | some l'=>
       simp[e2]at h;subst h;exact Gx (hf s t e1) (nT hf e2)
def sG{o' k:Expr}{pp:Pos}{env:Env}(h:isSlice k=Zd)(v:Rm):Yj (.Subscript o' k pp) env v=(do
 let ov <-Xy [v] (Vl o' env)
 let iv <-Xy [v,ov] (Vl k env)
 ZF pp
 Xy [v,ov,iv] (ZV ov iv v)
 release [v,ov,iv] []):=by
 cases k<;>first | rfl | (simp[isSlice]at h)
def Ge{o' k e:Expr}{pp:Pos}{l:Nat}{env:Env}(h:iY e=Zd):swapsWithSole [.Subscript o' k pp] e l env=pure Zd:=by
 cases e<;>first | rfl | (simp[iY]at h)
def wu{o' k e:Expr}{pp:Pos}{env:Env}:swappedStores [.Subscript o' k pp] e env=pure none:=by
 cases e<;>rfl
def JV(F:FitsS X W tc o k){tgs:List Expr}{e:Expr}{t:S}{pos:Pos}(h:trA tc tgs e=Z_ t):PS X (.Assign tgs e pos) (tS X W (evS o t)):=by
 have E:=λe t h=>sndX bI F.toFits e t h
 unfold trA at h;split at h
 .rename_i x px
  split at h
  .rename_i hc
   simp only[RT,X4,Sy]at hc
   cases e1:bD tc.N x with
   | none=>rw[e1]at h;cases h
   | some i=>
     cases e2:trE bI tc e with
     | none=>simp[e1,e2]at h
     | some u=>
       simp[e1,e2]at h;subst h
       have hnd:X.N.Nodup:=by rw[F.N];exact F.nd
       have hni:X.N[i]?=Z_ x:=by rw[F.N];exact bz e1
       by_cases hcomp:iY e=Y_
       .have hc1:pF e=Y_:=by
         rcases hc.2 with z | z
         .rw[hcomp]at z;cases z
         .exact z
        unfold pF at hc1;split at hc1
        .rename_i elt g scope epos
         have hg0:g.is_async=0:=of_decide_eq_true hc1;obtain⟨tg,iter,ifs,as⟩:=g;simp only at hg0;subst hg0;rw[show bI=39+1 from rfl,yN,if_pos rfl]at e2;obtain⟨N,m,caps,tup,g,it,c,e,rfl,A⟩:=wF (X:=X.nox) rfl F.toFits.nox (λX' tc' hx' F' e t h=>sndE 39 hx' F' e t h) e2;refine PS.lift (Od (bsw:=X.env.blockKind==.function&&X.env.kindOf x==Z_ .local&&px.line==epos.line&&!(scope.names.any λ(n,k)=>n==x&&(k==.local||k==.cell))) A hnd hni (jL F.toFits hc.1) (.inl (F.fn x)) (λhb=>?_) rfl) BX;simp only[RT,beq_iff_eq]at hb;exact hb.1.1.2
        .cases hc1
       .exact O1 hnd hni (jL F.toFits hc.1) ((E e u e2).1 Zd) (Bu (by simpa using hcomp)) (.inl (F.fn x))
  .cases h
 .rename_i x p kx pos'
  split at h
  .rename_i hc
   simp only[RT,Sy]at hc;obtain⟨⟨hv,hsl⟩,hcp⟩:=hc
   cases e1:bD tc.N x with
   | none=>rw[e1]at h;cases h
   | some i=>
     cases e2:trE bI tc kx with
     | none=>simp[e1,e2]at h
     | some tk=>
       cases e3:trE bI tc e with
       | none=>simp[e1,e2,e3]at h
       | some u=>
         simp[e1,e2,e3]at h;subst h;obtain⟨h1,h2,h3⟩:=iT F.toFits hv;exact Ft F.K (vL F.room) (mq (by rw[F.N];exact bz e1) h1 h2 h3) ((E kx tk e2).1 Y_) ((E e u e3).1 Zd) (sG hsl) (Ge hcp) wu rfl
  .cases h
 all_goals(cases h)
def zB(F:FitsS X W tc o k){tgs:List Expr}{e:Expr}{t:S}{pos:Pos}(h:HQ tc tgs e=Z_ t):PS X (.Assign tgs e pos) (tS X W (evS o t)):=by unfold HQ at h;cases h
def Fo(F:FitsS X W tc o k){tgs:List Expr}{e:Expr}{t:S}{pos:Pos}(h:trSx tc tgs e=Z_ t):PS X (.Assign tgs e pos) (tS X W (evS o t)):=by unfold trSx at h;cases h
def J4(F:FitsS X W tc o k){tgs:List Expr}{e:Expr}{t:S}{pos:Pos}(h:trA2 tc tgs e=Z_ t):PS X (.Assign tgs e pos) (tS X W (evS o t)):=by
 unfold trA2 at h;split at h
 .rename_i t' e1
  cases h;exact Fo F e1
 .split at h
  .rename_i t' e1
   cases h;exact zB F e1
  .exact JV F h
def K7(F:FitsS X W tc o k){x:Str}{e:Expr}{ok:Bool}{t:S}{p apos cpos pos:Pos}(h:Ib tc x e ok=Z_ t)(hok:ok=(apos.endLine==cpos.line)):PS X (.Expr (.Call (.Attribute (.Name x p) "update" apos) [e] [] cpos) pos) (tS X W (evS o t)):=by unfold Ib at h;cases h
def Lj(F:FitsS X W tc o k){e:Expr}{t:S}{pos:Pos}(h:trX tc e=Z_ t):PS X (.Expr e pos) (tS X W (evS o t)):=by
 have E:=λe t h=>sndX bI F.toFits e t h
 unfold trX at h;split at h
 .rename_i x p m apos e cpos
  split at h
  .rename_i ex
   subst ex;split at h
   .rename_i hc
    simp only[RT,Sy]at hc;obtain⟨h1,h2,h3⟩:=iT F.toFits hc.1.1
    cases e1:bD tc.N x with
    | none=>rw[e1]at h;cases h
    | some i=>
      cases e2:trE bI tc e with
      | none=>simp[e1,e2]at h
      | some u=>
        simp[e1,e2]at h;subst h;exact ug (mq (by rw[F.N];exact bz e1) h1 h2 h3) ((E e u e2).1 Zd) hc.1.2 hc.2
   .cases h
  .split at h
   .rename_i ex
    subst ex;exact K7 F h rfl
   .split at h
    .rename_i ex
     obtain⟨rfl,hq⟩:=ex;split at h
     .rename_i hc
      simp only[RT,Sy]at hc;obtain⟨h1,h2,h3⟩:=iT F.toFits hc.1.1
      cases e1:bD tc.N x with
      | none=>rw[e1]at h;cases h
      | some i=>
        cases e2:trE bI tc e with
        | none=>simp[e1,e2]at h
        | some u=>
          simp[e1,e2]at h;subst h;exact By hq (mq (by rw[F.N];exact bz e1) h1 h2 h3) ((E e u e2).1 Zd) hc.1.2 hc.2
     .cases h
    .cases h
 all_goals(cases h)
def tE(F:FitsS X W tc o k){e cs:Option Expr}{t:S}{pos:Pos}(h:oR tc e cs=Z_ t):PS X (.Raise e cs pos) (tS X W (evS o t)):=by unfold oR at h;cases h
def zW(F:FitsS X W tc o k){f:Stmt->Option S}(hf:∀{Y:Cx},FitsS Y W tc o k->∀s t,f s=Z_ t->PS Y s (tS Y W (evS o t))){body:List Stmt}{hs:List ExceptHandler}{t:S}{pos:Pos}(h:Ew f tc body hs=Z_ t):PS X (.Try body hs [] [] pos) (tS X W (evS o t)):=by unfold Ew at h;cases h
def Es{st:Stmt}:PS X st (tS X W (evS o oN)):=λpins s σ H D I hw=>by
 obtain⟨_,_,_,_,h⟩:=hw;simp only[oN,evS,ev,SO.of,AfterS]at h
def sndS:∀(n:Nat){X:Cx}{tc:Tc},FitsS X W tc o k->∀(st:Stmt)(t:S),trS n tc st=Z_ t->PS X st (tS X W (evS o t)):=by
 intro n
 induction n with
 | zero=>intro X tc F st t h;exact nope h
 | succ n ih'=>
   intro X tc F st t h0
   have ih:=λst t h=>ih' F st t h
   have E:=λe t h=>sndX bI F.toFits e t h
   rcases zO h0 with h | rfl
   case inr=>exact Es
   cases st with
   | Assign tgs e pos=>
     delta trSb at h;dsimp only at h;exact J4 F h
   | Raise e c pos=>
     delta trSb at h;dsimp only at h;exact tE F h
   | Try body hs orelse fin pos=>
     cases orelse with
     | cons _ _=>exact nope h
     | nil=>
       cases fin with
       | cons _ _=>exact nope h
       | nil=>
         delta trSb at h;dsimp only at h;exact zW F (λ{Y} FY s t h=>ih' FY s t h) h
   | Expr e pos=>
     delta trSb at h;dsimp only at h;exact Lj F h
   | If c a b pos=>
     delta trSb at h;dsimp only at h
     cases e1:trE bI tc c with
     | none=>rw[e1]at h;cases h
     | some u=>
       cases e2:trSs (trS n tc) a with
       | none=>simp[e1,e2]at h
       | some sa=>
         cases e3:trSs (trS n tc) b with
         | none=>simp[e1,e2,e3]at h
         | some sb=>
           simp only[e1,e2,e3,Sh,Te,Ry]at h;split at h
           .subst h;exact MP (E c u e1).2 (nT ih e2) (nT ih e3)
           .subst h;exact QQ (E c u e1).2 (nT ih e2) (nT ih e3)
   | For tg iter body orelse pos=>
     cases orelse with
     | cons _ _=>exact nope h
     | nil=>
       delta trSb at h;dsimp only at h
       cases e1:trTg tc tg with
       | none=>rw[e1]at h;cases h
       | some g=>
         cases e2:trI tc (trE bI tc) (ik tg) iter with
         | none=>simp[e1,e2]at h
         | some it=>
           cases e3:trSs (trS n tc) body with
           | none=>simp[e1,e2,e3]at h
           | some sb=>
             simp[e1,e2,e3]at h;subst h;obtain⟨gg,hg⟩:=Qw F e1;obtain⟨hi,hs⟩:=vH F.toFits E tg e2 Zd;exact HN (passes F) F.calm hg hi (nT ih e3) hs
   | While c body orelse pos=>
     cases orelse with
     | cons _ _=>exact nope h
     | nil=>
       delta trSb at h;dsimp only at h
       cases e1:trE bI tc c with
       | none=>rw[e1]at h;cases h
       | some u=>
         cases e3:trSs (trS n tc) body with
         | none=>simp[e1,e3]at h
         | some sb=>
           simp[e1,e3]at h;subst h;exact zj (passes F) (E c u e1).2 (nT ih e3)
   | Return v pos=>
     cases v with
     | none=>
       delta trSb at h;simp only[Ry]at h;subst h;exact Hd
     | some e=>
       delta trSb at h;dsimp only at h
       cases e1:trE bI tc e with
       | none=>rw[e1]at h;cases h
       | some u=>
         rw[e1]at h;simp only[Sh]at h;split at h
         .cases h
         rename_i hc;cases h
         by_cases hv:∃i,u=.var i
         .obtain⟨i,rfl⟩:=hv
          cases e with
          | Name x px=>
            rw[show bI=39+1 from rfl,BR]at e1;split at e1
            .rename_i hv
             obtain⟨h1,h2,h3⟩:=iT F.toFits hv
             cases e2:bD tc.N x with
             | none=>rw[e2]at e1;cases e1
             | some j=>
               rw[e2]at e1;cases e1;exact Fv (by rw[F.N];exact bz e2) h1 h2 h3
            .split at e1
             .split at e1<;>cases e1
             .cases e1
          | _=>simp[Nx,isName]at hc
         .exact M4 (λi z=>hv ⟨i,z⟩) ((E e u e1).1 Zd)
   | Pass pos=>delta trSb at h;simp only[Ry]at h;subst h;exact Ig
   | Break pos=>delta trSb at h;simp only[Ry]at h;subst h;exact JG
   | Continue pos=>delta trSb at h;simp only[Ry]at h;subst h;exact Hq
   | _=>exact nope h
end
structure Df where
 name:Str
 qual:Str
 st:Stmt
 N:List Str
 ps:List Str
 fd:Fd
noncomputable def glOf:Nat->List Df->List (Str×Gk)
 | _,[]=>[]
 | i,d::l=>(d.name,.fn i d.ps.length)::glOf (i+1) l
theorem qT:∀{l:List Df}{i:Nat},(glOf i l).lookup x=Z_ (.fn j np)->∃d k,j=i+k/\l[k]?=Z_ d/\d.name=x/\d.ps.length=np
 | [],_,h=>by simp[glOf]at h
 | d::l,i,h=>by
   simp only[glOf,Vo]at h
   cases e:(x==d.name)with
   | true=>
     rw[e]at h;simp only[Ry,Gk.fn.injEq]at h;exact⟨d,0,by omega,rfl,(ZP e).symm,h.2⟩
   | false=>
     rw[e]at h;obtain⟨d',k,h1,h2,h3⟩:=qT h;exact⟨d',k+1,by omega,by simpa using h2,h3⟩
def NoFn(cs:List (Str×Gk)):Prop:=∀p∈cs,∀i np,p.2≠.fn i np
theorem lookup_append:∀{l m:List (Str×α)},(l++m).lookup x=(l.lookup x).or (m.lookup x)
 | [],m=>by simp
 | (y,g)::l,m=>by
   simp only[Xr,Vo];cases (x==y)
   .exact lookup_append
   .rfl
theorem lookup_mem:∀{l:List (Str×α)},l.lookup x=Z_ v->(x,v)∈l
 | [],h=>by simp at h
 | (y,g)::l,h=>by
   simp only[Vo]at h
   cases e:(x==y)with
   | true=>
     rw[e]at h;cases h;have:=ZP e;subst this;exact Ru
   | false=>rw[e]at h;exact Rt _ (lookup_mem h)
def mX(hc:NoFn cs)(h:(glOf 0 l++cs).lookup x=Z_ (.fn j np)):∃d k,j=0+k/\l[k]?=Z_ d/\d.name=x/\d.ps.length=np:=by
 rw[lookup_append]at h
 cases e:(glOf 0 l).lookup x with
 | some q=>
   rw[e]at h;cases h;exact qT e
 | none=>
   rw[e]at h;exact absurd rfl (hc _ (lookup_mem h) j np)
structure DfOk(gl:List (Str×Gk))(d:Df):Prop where
 sc:FnScope d.N d.ps (aD d.st)
 np:d.ps.length=d.fd.np
 ns:d.N.length=d.fd.ns
 tr:trSs (trS 40 ⟨d.N,aD d.st,gl⟩) (b8 d.st)=Z_ d.fd.body\/d.fd.body=FP
section
variable{P:Sx}{w:Th}{K:Rw}{mg:Str->Option Rm}{base:Rz}{W:Wd}{p:Prg}{w0:Nat}{gl:List (Str×Gk)}
def DfAt(K:Rw)(mg:Str->Option Rm)(d:Df):Prop:=∃f fd,Fun K d.name d.qual d.st f fd/\Binds K fd d.ps []/\mg d.name=Z_ (.ref f)
def Fb(P:Sx)(w:Th)(K:Rw)(mg:Str->Option Rm)(base:Rz)(W:Wd)(p:Prg)(w0:Nat)(gl:List (Str×Gk))(n:Nat):Prop :=
 (∀x i np,gl.lookup x=Z_ (.fn i np)->∃f fd ps,mg x=Z_ (.ref f)/\Uz K (.ref f)=Y_/\Binds K fd ps []/\FnOk P w K mg base CX0 n f fd ps (spFn W ((orc p w0 n).fn i) np)) /\
 ∀x v i np,gl.lookup ("!d":Str)=Z_ (.dfl x v)->gl.lookup x=Z_ (.fn i np)->∃f fd ps vs,mg x=Z_ (.ref f)/\Uz K (.ref f)=Y_/\Binds K fd ps vs/\Vals [.int v] vs/\FnOk P w K mg base CX0 n f fd ps (spFn W ((orc p w0 n).fn i) np)
def Bh(o:Orc)(np ns:Nat)(args:List D):bc o ⟨np,ns,FP⟩ args=.stuck:=by
 unfold bc;split
 .simp[FP,oN,evSs,evS,ev,SO.of]
 .rfl
structure Ground(P:Sx)(w:Th)(K:Rw)(mg:Str->Option Rm)(W:Wd)(p:Prg)(gl:List (Str×Gk)):Prop where
 hk:W.K=K
 hgb:∀x∈c7,gl.lookup x=Yt->mg x=Yt
 hgv:∀x d,gl.lookup x=Z_ (.val d)->∃u v,mg x=Z_ u/\RelV v u/\∀G,Rep W G d v
 hgd:∀x ks vs,gl.lookup x=Z_ (.dct ks vs)->∃ad,mg x=Z_ (.ref ad)/\KDct P w W ad ks vs
 hdf:∀x v i np,gl.lookup ("!d":Str)=Z_ (.dfl x v)->gl.lookup x=Z_ (.fn i np)->∃d f fd vs,p.fns[i]?=Z_ d.fd/\DfOk gl d/\d.ps.length=np/\Fun K d.name d.qual d.st f fd/\Binds K fd d.ps vs/\Vals [.int v] vs/\mg x=Z_ (.ref f)
def Jb(G:Ground P w K mg W p gl)(ok:DfOk gl d)(tr:trSs (trS 40 ⟨d.N,aD d.st,gl⟩) (b8 d.st)=Z_ d.fd.body)(ih:Fb P w K mg base W p w0 gl n)
 (cdv:Rm)(A:Tu)(outer:List Env)(s:Rr)(H:Hp)(E:XK)(hr:Room n (A.deeper (YG d.qual (aD d.st) s.heap.objs.size f cdv))) :
 PSs (cxOf CX0 P w K mg base d.N d.qual (aD d.st) f cdv A outer s H E).nox (b8 d.st) (tS (cxOf CX0 P w K mg base d.N d.qual (aD d.st) f cdv A outer s H E).nox W (evSs (orc p w0 n) d.fd.body)):=by
 have FT:FitsS (cxOf CX0 P w K mg base d.N d.qual (aD d.st) f cdv A outer s H E).nox W ⟨d.N,aD d.st,gl⟩ (orc p w0 n) n :=
  ⟨⟨rfl,ok.sc.nd,rfl,G.hk,hr,rfl,ih.1,G.hgb,G.hgv,G.hgd,trivial,ih.2,trivial⟩,λ_=>rfl,YB.never,rfl,rfl⟩
 exact nT (sndS 40 FT) tr
def oK(G:Ground P w K mg W p gl)(F:Fun K d.name d.qual d.st f fd)(ok:DfOk gl d)(hi:p.fns[i]?=Z_ d.fd)(ih:Fb P w K mg base W p w0 gl n) :
 FnOk P w K mg base CX0 (n+1) f fd d.ps (spFn W ((orc p w0 (n+1)).fn i) d.ps.length):=by
 have e:(orc p w0 (n+1)).fn i=bc (orc p w0 n) ⟨d.ps.length,d.N.length,d.fd.body⟩:=by
  funext a
  have e2:d.fd=⟨d.ps.length,d.N.length,d.fd.body⟩:=by
   rw[ok.np,ok.ns]
  show(match p.fns[i]? with | some d=>bc (orc p w0 n) d a | none=>.stuck)=_;rw[hi,<-e2]
 rw[e];rcases ok.tr with tr | hole
 case inr=>
  refine⟨λvs H Q E q=>q.1,λA outer s H args us vs Q E _ _ _ _ q=>?_⟩;obtain⟨_,_,_,_,_,_,r,e,_⟩:=q;rw[hole,Bh]at e;cases e
 exact Br F ok.sc rfl rfl (λcdv A outer s H E hr=>Jb G ok tr ih cdv A outer s H E hr) G.hk
def Ma(hp:np=ps.length)(h:∀a,g a=.stuck):FnOk P w K mg base CX0 k f fd ps (spFn W g np):=by
 refine⟨λvs H Q E q=>by rw[<-hp];exact q.1,λA outer s H args us vs Q E _ _ _ _ q=>?_⟩;obtain⟨_,_,_,_,_,_,r,e,_⟩:=q;rw[h]at e;cases e
theorem qI(hcs:NoFn cs)(G:Ground P w K mg W p (glOf 0 ds++cs))(hp:p.fns=ds.map (·.fd))(hok:∀d∈ds,DfOk (glOf 0 ds++cs) d)(hat:∀d∈ds,DfAt K mg d) :
 ∀n,Fb P w K mg base W p w0 (glOf 0 ds++cs) n
 | 0=>by
   refine⟨λx i np h=>?_,λx v i np h h'=>?_⟩
   .obtain⟨d,k,h1,h2,h3,h4⟩:=mX hcs h
    obtain⟨f,fd,F,b,m⟩:=hat d (S5 h2);exact⟨f,fd,d.ps,by rw[<-h3];exact m,F.kp,b,Ma h4.symm λ_=>rfl⟩
   .obtain⟨d,f,fd,vs,h1,h2,h3,F,b,hv,m⟩:=G.hdf x v i np h h'
    exact⟨f,fd,d.ps,vs,m,F.kp,b,hv,Ma h3.symm λ_=>rfl⟩
 | n+1=>by
   have a1:=qI hcs G hp hok hat n;refine⟨λx i np h=>?_,λx v i np h h'=>?_⟩
   .obtain⟨d,k,h1,h2,h3,h4⟩:=mX hcs h
    obtain⟨f,fd,F,b,m⟩:=hat d (S5 h2);refine⟨f,fd,d.ps,by rw[<-h3];exact m,F.kp,b,?_⟩;have:=oK (i:=i) G F (hok d (S5 h2)) (by rw[hp,T8,h1,VP,h2];rfl) a1;rw[h4]at this;exact this
   .obtain⟨d,f,fd,vs,h1,h2,h3,F,b,hv,m⟩:=G.hdf x v i np h h'
    refine⟨f,fd,d.ps,vs,m,F.kp,b,hv,?_⟩;have:=oK (i:=i) G F h2 h1 a1;rw[h3]at this;exact this
def Ou(hcs:NoFn cs)(G:Ground P w K mg W p (glOf 0 ds++cs))(hp:p.fns=ds.map (·.fd))(hok:∀d∈ds,DfOk (glOf 0 ds++cs) d)(hat:∀d∈ds,DfAt K mg d)
 (F:Fun K d.name d.qual d.st f fd)(ok:DfOk (glOf 0 ds++cs) d)(hi:p.fns[i]?=Z_ d.fd):FnOk P w K mg base CX0 (n+1) f fd d.ps (spFn W ((orc p w0 (n+1)).fn i) d.ps.length) :=
 oK G F ok hi (qI (base:=base) (w0:=w0) hcs G hp hok hat n)
end
structure CsOk(P:Sx)(w:Th)(W:Wd)(mg:Str->Option Rm)(q:Str×Gk):Prop where
 val:∀d,q.2=.val d->∃u v,mg q.1=Z_ u/\RelV v u/\∀G,Rep W G d v
 dct:∀ks vs,q.2=.dct ks vs->∃ad,mg q.1=Z_ (.ref ad)/\KDct P w W ad ks vs
theorem jA:∀{l:List Df}{i:Nat},(glOf i l).lookup x=Z_ g->∃j np,g=.fn j np
 | [],_,h=>by simp[glOf]at h
 | d::l,i,h=>by
   simp only[glOf,Vo]at h
   cases e:(x==d.name)with
   | true=>rw[e]at h;cases h;exact⟨_,_,rfl⟩
   | false=>rw[e]at h;exact jA h
def Lb(h:∀q∈cs,CsOk P w W mg q):(∀x d,(glOf 0 ds++cs).lookup x=Z_ (.val d)->∃u v,mg x=Z_ u/\RelV v u/\∀G,Rep W G d v) /\
 ∀x ks vs,(glOf 0 ds++cs).lookup x=Z_ (.dct ks vs)->∃ad,mg x=Z_ (.ref ad)/\KDct P w W ad ks vs:=by
 have key:∀x g,(glOf 0 ds++cs).lookup x=Z_ g->(∀j np,g≠.fn j np)->(x,g)∈cs:=λx g e hn=>by
  rw[lookup_append]at e
  cases e1:(glOf 0 ds).lookup x with
  | some q=>
    rw[e1]at e;cases e;obtain⟨j,np,rfl⟩:=jA e1;exact absurd rfl (hn j np)
  | none=>rw[e1]at e;exact lookup_mem e
 exact⟨λx d e=>(h _ (key x _ e (by simp))).val d rfl,λx ks vs e=>(h _ (key x _ e (by simp))).dct ks vs rfl⟩
def Bo(h:x.length<=1000):∀G,Rep W G (.str x) (.str (strV x)):=λG=>by
 simp only[Rep];exact⟨trivial,by omega⟩
noncomputable def entK(w:Th)(q:DK×Tok×Rm×D):DictEntry:=match q.1 with
 | .s x=>⟨Xb w.params (strV x),.str (strV x) q.2.1,q.2.2.1⟩
 | .i n=>⟨hashInt n,.int n q.2.1,q.2.2.1⟩
def Lg(W:Wd):List (DK×Tok×Rm×D)->Prop
 | []=>True
 | q::l=>(∃v,RelV v q.2.2.1/\∀G,Rep W G q.2.2.2 v)/\Lg W l
def rP(q:DK×Tok×Rm×D):(aV P w).is (keyV q.1) (entK w q).key=Y_/\(aV P w).hash (keyV q.1)=(entK w q).hash/\(entK w q).val=q.2.2.1:=by
 obtain⟨k,t,u,d⟩:=q
 cases k with
 | i n=>exact⟨by simp[aV,jo,entK,keyV,Rm.isInt],rfl,rfl⟩
 | s x=>exact⟨by simp[aV,jo,entK,keyV,Rm.isStrOf],rfl,rfl⟩
def Q5(h:W.K.lookup a=Z_ { cls:=.type "dict",data:=.dict es ep })(he:es.toList=qs.map (entK w))(hn:(qs.map (·.1)).Nodup)(hs:(a==Vx)=Zd)(hl:Lg W qs) :
 KDct P w W a (qs.map (·.1)) (qs.map (·.2.2.2)):=by
 have hnk:((qs.map λq=>(keyV q.1,q.2.2.1)).map (·.1)).Nodup:=by
  rw[Sg];exact Xd.mpr ((Xd.mp hn).imp λz e=>z (dg e))
 refine⟨qs.map λq=>(keyV q.1,q.2.2.1),λhp hK=>⟨_,es,ep,hK a _ h,⟨rfl,rfl,rfl⟩,rfl,λe hm=>?_,?_,hnk⟩,λx d e=>?_,hs,λx=>?_⟩
 .have:e∈es.toList:=by simpa using hm
  rw[he]at this;obtain⟨q,_,rfl⟩:=Sw.mp this;exact⟨keyV q.1,(rP q).1,(rP (P:=P) q).2.1.symm⟩
 .rw[he]
  clear he hn hl hnk h
  induction qs with
  | nil=>exact .nil
  | cons q qs ih=>exact .cons (rP q).1 (rP (P:=P) q).2.2 ih
 .clear he hnk h
  induction qs with
  | nil=>simp[look]at e
  | cons q qs ih=>
    simp only[Ro,look]at e;split at e
    .rename_i ex
     subst ex;cases e;obtain⟨v,h1,h2⟩:=hl.1;exact⟨q.2.2.1,v,by simp[Xv],h1,h2⟩
    .rename_i ex
     obtain⟨u,v,h1,h2,h3⟩:=ih (Tg.mp hn).2 hl.2 e;refine⟨u,v,?_,h2,h3⟩;simp only[Xv,Ro,VH]at h1 ⊢;rw[show decide (keyV q.1=keyV x)=Zd from decide_eq_false λz=>ex (dg z)];exact h1
 .clear he hnk h hl hn
  induction qs with
  | nil=>simp[Xv]
  | cons q qs ih=>
    simp only[Xv,Ro,VH]at ih ⊢
    by_cases z:keyV q.1=keyV x
    .rw[decide_eq_true z]
     simp[dg z]
    .rw[decide_eq_false z]
     have:¬x=q.1:=λe=>z (by rw[e])
     simp only[Rp,this,false_or];exact ih
theorem n6:∀ns:List Int,Reps W G (ns.map .int) (ns.map V.int)
 | []=>by simp only[Ti,Reps]
 | n::ns=>by simp only[Ro,Reps,Rep];exact⟨trivial,n6 ns⟩
def spZ(K:Rw)(p:Prg)(n i:Nat):Sp:=λvs H Q E=>∃w0,∀CT,spFn ⟨K,CT⟩ ((orc p w0 n).fn i) 1 vs H Q E
def Eu{K:Rw}{p:Prg}{n i:Nat}{H:Hp}{a:Addr}{ns:List Int}(hp:∃w0,(orc p w0 n).fn i [.lst (ns.map .int)]=.ok (Zd,.bl Y_))(hS:SqL K H a (ns.map V.int)):spZ K p n i [.ref a] H (λv _=>v=.bl Y_) λ_ _ _=>False:=by
 obtain⟨w0,e⟩:=hp;refine⟨w0,λCT=>⟨rfl,λ_=>False,[.lst (ns.map .int)],λ_ z=>z.elim,λ_ z=>z.elim,?_,_,e,λv H' s q=>?_⟩⟩
 .simp only[Reps,Rep]
  refine⟨⟨a,_,rfl,?_,n6 ns⟩,trivial⟩
  have:Same H (vis H λ_=>False):=λb o h=>bT h λz=>z
  exact this.seq hS
 .have:=q.look
  simp only[RepT,Rep]at this;exact this
def walkZ{l:PySem.W.OpenLaw}{q:Sx}{loose:List Str}{XP:(Str->Option Rm)->Rz->Prop}{YP:Th->Rz->Prop}{d:DefRec}{K:Params->Rw}{p:Prg}{n i:Nat}{x:Str}
 (hn:l.most=Z_ 63)(hdf:d.params.defaults=[])(hr:Room n Z6)(hY:∀(w:Th)(h:Rz),YP w h->(K w.params).In h)
 (F:∀(w:Th)(mg:Str->Option Rm)(fa:Addr)(h:Rz),(K w.params).In h->h.Ns Vb mg->mg d.name=Z_ (.ref fa) ->
  ∃(fd:Wr)(CT:Nat->Addr),(∀(s:Rr)(u:Rm),Zr s fd ⟨[u],[]⟩ [(x,u)])/\∀(base:Rz)(w0:Nat),FnOk l.prog w (K w.params) mg base CX0 n fa fd [x] (spFn ⟨K w.params,CT⟩ ((orc p w0 n).fn i) 1))
 (hp:∀ns:List Int,ns.length<=63->∃w0,(orc p w0 n).fn i [.lst (ns.map .int)]=.ok (Zd,.bl Y_)) :
 PySem.W.WalkO q loose XP YP l.row.toRowW d [] (λf vs=>PySem.call f vs):=by
 refine L2.walk_of (n:=63) (k:=n) (x:=x) (CX:=λ_=>CX0) (sp:=λw=>spZ (K w.params) p n i) hn (by decide) hdf hr hY (λw mg fa h KX G hm=>?_) (λw H a ns hl _ hS=>Eu (hp ns hl) hS) λ_ _ _ _ _ z=>z
 obtain⟨fd,CT,hb,hF⟩:=F w mg fa h KX G hm;refine⟨fd,hb,λbase _ _=>⟨λvs H Q E ⟨w0,q⟩=>(hF base w0).len vs H Q E (q CT),λA outer s H args us vs Q E hr he hb hv ⟨w0,hs⟩=>(hF base w0).run A outer s H args us vs Q E hr he hb hv (hs CT)⟩⟩
def us1{α:Type}{P:List α->Prop}(h:∀a,P [a]):∀us:List α,us.length=1->P us
 | [a],_=>h a
def us2{α:Type}{P:List α->Prop}(h:∀a b,P [a,b]):∀us:List α,us.length=2->P us
 | [a,b],_=>h a b
def us3{α:Type}{P:List α->Prop}(h:∀a b c,P [a,b,c]):∀us:List α,us.length=3->P us
 | [a,b,c],_=>h a b c
def us4{α:Type}{P:List α->Prop}(h:∀a b c d,P [a,b,c,d]):∀us:List α,us.length=4->P us
 | [a,b,c,d],_=>h a b c d
def pD(d:Df):Prop:=∀(kV doc pm:Rm)(an:Option Addr)(cdv ct:Rm)(us:List Rm),us.length=d.ps.length->XR (Ui d.name d.qual (bH d.st) (b8 d.st) (aD d.st) .none kV doc pm an cdv ct) ⟨us,[]⟩=pure (d.ps.zip us)
def KH(hn:d.ps.length=1)(h:∀(kV doc pm:Rm)(an:Option Addr)(cdv ct:Rm)(a:Rm),XR (Ui d.name d.qual (bH d.st) (b8 d.st) (aD d.st) .none kV doc pm an cdv ct) ⟨[a],[]⟩=pure (d.ps.zip [a])):pD d:=λkV doc pm an cdv ct us hl=>us1 (P:=λus=>XR (Ui d.name d.qual (bH d.st) (b8 d.st) (aD d.st) .none kV doc pm an cdv ct) ⟨us,[]⟩=pure (d.ps.zip us)) (h kV doc pm an cdv ct) us (hl.trans hn)
def O7(hn:d.ps.length=2)(h:∀(kV doc pm:Rm)(an:Option Addr)(cdv ct:Rm)(a b:Rm),XR (Ui d.name d.qual (bH d.st) (b8 d.st) (aD d.st) .none kV doc pm an cdv ct) ⟨[a,b],[]⟩=pure (d.ps.zip [a,b])):pD d:=λkV doc pm an cdv ct us hl=>us2 (P:=λus=>XR (Ui d.name d.qual (bH d.st) (b8 d.st) (aD d.st) .none kV doc pm an cdv ct) ⟨us,[]⟩=pure (d.ps.zip us)) (h kV doc pm an cdv ct) us (hl.trans hn)
def KD(hn:d.ps.length=3)(h:∀(kV doc pm:Rm)(an:Option Addr)(cdv ct:Rm)(a b c:Rm),XR (Ui d.name d.qual (bH d.st) (b8 d.st) (aD d.st) .none kV doc pm an cdv ct) ⟨[a,b,c],[]⟩=pure (d.ps.zip [a,b,c])):pD d:=λkV doc pm an cdv ct us hl=>us3 (P:=λus=>XR (Ui d.name d.qual (bH d.st) (b8 d.st) (aD d.st) .none kV doc pm an cdv ct) ⟨us,[]⟩=pure (d.ps.zip us)) (h kV doc pm an cdv ct) us (hl.trans hn)
def MK(hn:d.ps.length=4)(h:∀(kV doc pm:Rm)(an:Option Addr)(cdv ct:Rm)(a b c e:Rm),XR (Ui d.name d.qual (bH d.st) (b8 d.st) (aD d.st) .none kV doc pm an cdv ct) ⟨[a,b,c,e],[]⟩=pure (d.ps.zip [a,b,c,e])):pD d:=λkV doc pm an cdv ct us hl=>us4 (P:=λus=>XR (Ui d.name d.qual (bH d.st) (b8 d.st) (aD d.st) .none kV doc pm an cdv ct) ⟨us,[]⟩=pure (d.ps.zip us)) (h kV doc pm an cdv ct) us (hl.trans hn)
def Rf{K:Rw}{h:Rz}{mg:Str->Option Rm}{d:Df}{f:Addr}{od an:Option Addr}{sl:Array (Option Rm)}{oc kV dc pm cd ct:Rm}(X:K.In h)(G:h.Ns Vb mg)
 (a:PySem.W.nsIn K Vb d.name=Z_ (Z_ (.ref f)))(l:K.lookup f=Z_ ⟨oc,od,.func (Ui d.name d.qual (bH d.st) (b8 d.st) (aD d.st) .none kV dc pm an cd ct),sl⟩)(c:Yv K cd d.qual=Y_)(k:Uz K (.ref f)=Y_)
 (hb:pD d):DfAt K mg d :=
 ⟨f,_,Dl l c k,Binds.all (hb kV dc pm an cd ct),PySem.W.mg_of X G a⟩
end Z
namespace KG
open Z
def dj{o:Orc}{s:S}{l:SL}{δ δ':Dst}(h:evS o s δ=.nx δ'):evSs o (.cons s l) δ=evSs o l δ':=by simp only[evSs,h]
def aB(a b:Int)(hb:0<b):0<=a.fmod b/\a.fmod b<b:=⟨Int.fmod_nonneg_of_pos a hb,Int.fmod_lt_of_pos a hb⟩
noncomputable def L26:List Nat:=[97,98,99,100,101,102,103,104,105,106,107,108,109,110,111,112,113,114,115,116,117,118,119,120,121,122]
noncomputable def S36:List Nat:=L26++[48,49,50,51,52,53,54,55,56,57]
def lt(j:Int):Nat:=L26.getD (j.fmod 26).toNat 0
def sg(j:Int):Nat:=S36.getD (j.fmod 36).toNat 0
theorem um(x:List Nat)(j:Int)(h0:0<=j)(h1:j<x.length):idxD (.str x) (.int j)=.ok (Zd,.str [x.getD j.toNat 0]):=by
 have hn:j.toNat<x.length:=by omega
 simp only[idxD,place,if_pos h0,if_pos h1,Sh,a0w];rw[RC hn];simp[Tv,RC hn]
theorem comp_map{f c:List D->R (Bool×D)}{g:D->D}:∀{l:List D},(∀d∈l,c [d]=.ok (Zd,.bl Y_))->(∀d∈l,∃w,f [d]=.ok (w,g d))->aR f c 1 Zd l=.ok (l.map g)
 | [],_,_=>rfl
 | d::l,hc,hf=>by
   obtain⟨w,e⟩:=hf d Ru;have ih:=comp_map (λd h=>hc d (Rt _ h)) (λd h=>hf d (Rt _ h));simp only[aR,takes,Rv,if_false,a0w,a0u,hc d Ru,truth,if_true,e,ih,Ro]
theorem iI{f c:List D->R (Bool×D)}{g:D->D}{q:D->Bool}:∀{l:List D},(∀d∈l,c [d]=.ok (Zd,.bl (q d)))->(∀d∈l,q d=Y_->∃w,f [d]=.ok (w,g d))->aR f c 1 Zd l=.ok ((l.filter q).map g)
 | [],_,_=>rfl
 | d::l,hc,hf=>by
   have ih:=iI (λd h=>hc d (Rt _ h)) (λd h=>hf d (Rt _ h))
   cases hq:q d with
   | true=>
     obtain⟨w,e⟩:=hf d Ru hq;simp only[aR,takes,Rv,if_false,a0w,a0u,hc d Ru,truth,hq,if_true,e,ih,List.filter_cons_of_pos hq,Ro]
   | false=>
     simp only[aR,takes,Rv,if_false,a0w,a0u,hc d Ru,truth,hq,ih,List.filter_cons_of_neg (show ¬q d=Y_ by simp[hq])]
theorem lE{f c:List D->R (Bool×D)}{m:Nat}{g:List D->D}:∀{l:List (List D)},(∀x∈l,x.length=m)->(∀x∈l,c x=.ok (Zd,.bl Y_))->(∀x∈l,∃w,f x=.ok (w,g x))->aR f c m Y_ (l.map D.tup)=.ok (l.map g)
 | [],_,_,_=>rfl
 | x::l,hm,hc,hf=>by
   obtain⟨w,e⟩:=hf x Ru;have ih:=lE (λd h=>hm d (Rt _ h)) (λd h=>hc d (Rt _ h)) (λd h=>hf d (Rt _ h));simp only[Ro,aR,takes,if_true,hm x Ru,a0w,a0u,hc x Ru,truth,e,ih]
noncomputable def CK(cell base:Int):Int:=if(base.fdiv 8).fmod 2=1 then 1+(base+cell).fmod 8 else 1+base.fmod 8
noncomputable def Mm(cell base:Int):List Nat:=((TQ (CK cell base).toNat).map λ(k:Nat)=>sg (base.fdiv 3+5*(k:Int))).set 0 (lt (base.fdiv 3))
def wO(cell base:Int):Int:=(base.fdiv 16).fmod (CK cell base)
noncomputable def yj(cell base:Int):List Nat:=if wO cell base=0 then(Mm cell base).set 0 (lt (base.fdiv 5+cell))else(Mm cell base).set (wO cell base).toNat (sg (base.fdiv 5+cell))
noncomputable def KZ:List (List Nat):=[[97,110,100],[111,114],[110,111,116],[115,111,109,101],[97,108,108],[97,108,105,107,101],[98,121]]
noncomputable def nm(cell base:Int):List Nat:=if yj cell base∈KZ then yj cell base++[57]else yj cell base
def mul5(k:Int):cC 5 k=Y_:=by
 have:bits 5<=64:=by decide
 simp[cC,this]
section
variable(o:Orc)(cell base:Int)
theorem gQ(x:List Nat):∀l:List (List Nat),inS (.str x) (l.map a0A)=Z_ (decide (x∈l))
 | []=>rfl
 | y::l=>by
   simp only[Ro,inS,gQ x l,eqS]
   by_cases h:y=x
   .simp[h]
   .have:¬x=y:=λz=>h z.symm
    simp[h,this]
end
def aq(ha:args.length=f.np)(h0:args.map (λd=>some (Own.sh,d))++Uc (f.ns-f.np) none=δ0)(h:∃δ,evSs o f.body δ0=.rt w d δ):bc o f args=.ok (w,d):=by
 obtain⟨δ,h⟩:=h;simp only[bc,ha,if_true,h0,h]
def stp(δ':Dst)(h:evS o s δ=.nx δ')(k:∃δ1,evSs o l δ'=.rt w d δ1):∃δ1,evSs o (.cons s l) δ=.rt w d δ1:=by
 obtain⟨δ1,k⟩:=k;exact⟨δ1,(dj h).trans k⟩
def stpR(h:evS o s δ=.rt w d δ'):∃δ1,evSs o (.cons s l) δ=.rt w d δ1:=⟨δ',by simp only[evSs,h]⟩
noncomputable def isV:T->Bool
 | .var _=>true
 | _=>false
def retE(hv:isV e=Zd):evS o (.ret e) δ=SO.of (evF o δ e).1 (evF o δ e).2 λr=>.rt r.1 r.2 (evF o δ e).1:=by cases e<;>first | rfl | exact nomatch hv
def forE(h:bU δ it=δ1):evS o (.for_ tg tp it b) δ=SO.of δ1 (evI o δ1 Zd it) λl=>bR (evSs o b) tg tp l δ1:=by subst h;simp only[evS]
noncomputable def cellFd:Fd:=⟨2,2,(a0s (a0H (a0q .lt (a0n 1) (a0D .len (a0n 0))) (a0s (a0B (a0x (a0n 0) (a0n 1))) a0v) a0v) (a0s (a0B (a0o (a0p 0))) a0v))⟩
theorem qF(o:Orc)(ns:List Int)(k:Nat):bc o cellFd [.lst (ns.map .int),.int (k:Int)]=.ok (Zd,.int (ns.getD k 0)):=by
 by_cases h:k<ns.length
 .have h':(k:Int)<(ns.length:Int):=by omega
  have h0:(0:Int)<=k:=by omega
  simp[bc,cellFd,evSs,evS,evF,ev,a0u,o2,b1D,arith,truth,a0w,SO.of,h,h',idxD,place,h0,Tv,RC h]
 .have h':¬(k:Int)<(ns.length:Int):=by omega
  have h2:ns[k]?=Yt:=Xo (by omega);simp[bc,cellFd,evSs,evS,evF,ev,a0u,o2,b1D,arith,truth,a0w,SO.of,h,h',Tv,h2]
theorem gr:∀n:Nat,boolsOf (Uc n (.bl Y_))=Z_ (Uc n Y_)
 | 0=>rfl
 | n+1=>by simp[List.replicate_succ,boolsOf,gr n]
theorem fJ:∀x y,ltS x y=Y_->ltS y x=Zd
 | [],[],h=>by simp[ltS]at h
 | [],_::_,_=>by simp[ltS]
 | _::_,[],h=>by simp[ltS]at h
 | a::x,b::y,h=>by
   simp only[ltS]at h ⊢
   by_cases h1:a<b
   .have:¬b<a:=by omega
    simp[this,h1]
   .by_cases h2:b<a
    .simp[h1,h2]at h
    .simp only[h1,h2,if_false]at h ⊢
     exact fJ x y h
theorem cU:∀x y,ltS x y=Zd->ltS y x=Zd->x=y
 | [],[],_,_=>rfl
 | [],_::_,h,_=>by simp[ltS]at h
 | _::_,[],_,h=>by simp[ltS]at h
 | a::x,b::y,h,h'=>by
   simp only[ltS]at h h'
   by_cases h1:a<b
   .simp[h1]at h
   .by_cases h2:b<a
    .simp[h2]at h'
    .simp only[h1,h2,if_false]at h h'
     rw[cU x y h h',show a=b by omega]
theorem fB:∀x y z,ltS x y=Y_->ltS y z=Y_->ltS x z=Y_
 | [],[],_,h,_=>by simp[ltS]at h
 | [],_::_,[],_,h=>by simp[ltS]at h
 | [],_::_,_::_,_,_=>rfl
 | _::_,[],_,h,_=>by simp[ltS]at h
 | _::_,_::_,[],_,h=>by simp[ltS]at h
 | a::x,b::y,c::z,h,h'=>by
   simp only[ltS]at h h' ⊢
   by_cases h1:a<b
   .by_cases h3:b<c
    .have:a<c:=by omega
     simp[this]
    .by_cases h4:c<b
     .simp[h3,h4]at h'
     .have:a<c:=by omega
      simp[this]
   .by_cases h2:b<a
    .simp[h1,h2]at h
    .simp only[h1,h2,if_false]at h
     by_cases h3:b<c
     .have:a<c:=by omega
      simp[this]
     .by_cases h4:c<b
      .simp[h3,h4]at h'
      .simp only[h3,h4,if_false]at h'
       have e1:¬a<c:=by omega
       have e2:¬c<a:=by omega
       simp only[e1,e2,if_false];exact fB x y z h h'
theorem mC(x y:List Nat):∀l,insS x (insS y l)=insS y (insS x l)
 | []=>by
   simp only[insS];cases h1:ltS x y<;>cases h2:ltS y x<;>simp[insS]
   .exact⟨(cU _ _ h1 h2).symm,cU _ _ h1 h2⟩
   .have:=fJ _ _ h1;simp[this]at h2
 | a::l=>by
   have ih:=mC x y l;simp only[insS];cases hx:ltS x a<;>cases hy:ltS y a<;>simp only[insS,hx,hy,Rv,if_false,if_true]
   .rw[ih]
   .cases h:ltS x y with
    | true=>have:=fB _ _ _ h hy;simp[this]at hx
    | false=>simp[insS,hx]
   .cases h:ltS y x with
    | true=>have:=fB _ _ _ h hx;simp[this]at hy
    | false=>simp[insS,hy]
   .cases h1:ltS x y<;>cases h2:ltS y x<;>simp[insS,hx,hy]
    .exact⟨(cU _ _ h1 h2).symm,cU _ _ h1 h2⟩
    .have:=fJ _ _ h1;simp[this]at h2
def Be(h:l.Perm l'):bF l=bF l':=by
 induction h with
 | nil=>rfl
 | cons x _ ih=>simp only[bF,ih]
 | swap x y l=>simp only[bF,mC]
 | trans _ _ h1 h2=>exact h1.trans h2
theorem cD(x:List Nat):∀l,(insS x l).Perm (x::l)
 | []=>V4 _
 | y::l=>by
   simp only[insS];split
   .exact V4 _
   .exact((cD x l).cons y).trans (UT.swap x y l)
theorem sortS_perm:∀l,(bF l).Perm l
 | []=>V4 _
 | x::l=>(cD x _).trans ((sortS_perm l).cons x)
theorem iZ [DecidableEq α]:∀{l m:List α},l.Nodup->(∀x∈l,x∈m)->l.length<=m.length
 | [],_,_,_=>by simp
 | a::l,m,hn,hs=>by
   have ha:a∈m:=hs a Ru;have hn':=Tg.mp hn
   have:=iZ (m:=m.erase a) hn'.2 λx hx=>(List.mem_erase_of_ne (show x≠a from λe=>hn'.1 (e▸hx))).mpr (hs x (Rt _ hx))
   rw[List.length_erase_of_mem ha]at this;have hp:0<m.length:=List.length_pos_of_mem ha;simp only[RK];omega
def lK{α:Type} [DecidableEq α]{l m:List α}(h1:l.Nodup)(h2:m.Nodup)(h:∀x,x∈l↔x∈m):l.Perm m:=by
 rw[List.perm_iff_count];intro a
 by_cases ha:a∈l
 .rw[h1.count,h2.count,if_pos ha,if_pos ((h a).mp ha)]
 .rw[List.count_eq_zero_of_not_mem ha,List.count_eq_zero_of_not_mem λx=>ha ((h a).mpr x)]
abbrev Pair:=List Nat×Int
noncomputable def addP:List Pair->Pair->List Pair
 | [],p=>[p]
 | (x,v)::m,p=>if x=p.1 then(x,v+p.2)::m else(x,v)::addP m p
noncomputable def ksD(m:List Pair):List DK:=m.map λp=>.s p.1
noncomputable def vsD(m:List Pair):List D:=m.map λp=>.int p.2
noncomputable def cI:List Pair->List Nat->Option Int
 | [],_=>none
 | (x,v)::m,n=>if x=n then some v else cI m n
theorem uq(n:List Nat):∀m:List Pair,look (ksD m) (vsD m) (.s n)=(cI m n).map .int
 | []=>rfl
 | (x,v)::m=>by
   have ih:=uq n m;simp only[ksD,vsD,Ro,look,cI]at ih ⊢
   by_cases h:x=n
   .simp[h]
   .simp[h,ih]
theorem ur(p:Pair):∀m:List Pair,dq (ksD m) (.s p.1)=ksD (addP m p)
 | []=>rfl
 | (x,v)::m=>by
   have ih:=ur p m;simp only[ksD,Ro,dq,addP]at ih ⊢
   by_cases h:x=p.1
   .simp[h]
   .simp[h,ih]
theorem CN(p:Pair):∀m:List Pair,putV (ksD m) (vsD m) (.s p.1) (.int ((cI m p.1).getD 0+p.2))=vsD (addP m p)
 | []=>by simp[ksD,vsD,putV,addP,cI]
 | (x,v)::m=>by
   have ih:=CN p m;simp only[ksD,vsD,Ro,putV,addP,cI]at ih ⊢
   by_cases h:x=p.1
   .simp[h]
   .simp[h,ih]
noncomputable def tot(l:List Pair)(n:List Nat):Int:=((l.filter λp=>p.1=n).map (·.2)).sum
def gather(l:List Pair):List Pair:=l.foldl addP []
theorem jB(p:Pair)(n:List Nat):∀m,cI (addP m p) n=if p.1=n then some ((cI m n).getD 0+p.2)else cI m n
 | []=>by simp[addP,cI]
 | (x,v)::m=>by
   have ih:=jB p n m;simp only[addP]
   by_cases h:x=p.1
   .simp only[h,if_true,cI]
    by_cases h2:p.1=n<;>simp[h2]
   .simp only[h,if_false,cI]
    by_cases h2:x=n
    .have:¬p.1=n:=λe=>h (h2.trans e.symm)
     simp[h2,this]
    .simp[h2,ih]
theorem iK(p:Pair)(n:List Nat):∀m:List Pair,n∈(addP m p).map (·.1)↔n=p.1\/n∈m.map (·.1)
 | []=>by simp[addP]
 | (x,v)::m=>by
   have ih:=iK p n m;simp only[addP]
   by_cases h:x=p.1
   .simp[h]
   .simp only[h,if_false,Ro,Rp,ih]
    constructor
    all_goals(rintro(h | h | h)<;>simp[h])
theorem jG(p:Pair):∀m:List Pair,(m.map (·.1)).Nodup->((addP m p).map (·.1)).Nodup
 | [],_=>by simp[addP]
 | (x,v)::m,hn=>by
   have hn':=Tg.mp (by simpa using hn:(x::m.map (·.1)).Nodup);simp only[addP]
   by_cases h:x=p.1
   .simpa[h]using hn
   .simp only[h,if_false,Ro]
    refine Tg.mpr ⟨?_,jG p m hn'.2⟩;rw[iK]
    rintro(e | e)
    .exact h e
    .exact hn'.1 e
theorem pQ(p:Pair):∀m:List Pair,(addP m p).length<=m.length+1
 | []=>by simp[addP]
 | (x,v)::m=>by
   have:=pQ p m;simp only[addP];split<;>simp only[RK]<;>omega
theorem dN:∀(l m:List Pair),(m.map (·.1)).Nodup->((l.foldl addP m).map (·.1)).Nodup/\(∀n,n∈(l.foldl addP m).map (·.1)↔n∈l.map (·.1)\/n∈m.map (·.1))/\∀n,(cI (l.foldl addP m) n).getD 0=(cI m n).getD 0+tot l n
 | [],m,hn=>by simp[hn,tot]
 | p::l,m,hn=>by
   obtain⟨h1,h2,h3⟩:=dN l (addP m p) (jG p m hn);refine⟨h1,λn=>?_,λn=>?_⟩
   .rw[Vv,h2,iK]
    simp only[Ro,Rp]
    constructor
    .rintro(h | h | h)<;>simp[h]
    .rintro((h | h) | h)<;>simp[h]
   .rw[Vv,h3,jB]
    by_cases h:p.1=n
    .simp[h,tot];omega
    .simp[h,tot]
theorem lU(n:List Nat):∀m:List Pair,n∈m.map (·.1)->∃v,cI m n=Z_ v
 | [],h=>by simp at h
 | (x,v)::m,h=>by
   simp only[cI]
   by_cases e:x=n
   .exact⟨v,by simp[e]⟩
   .obtain⟨v',h'⟩:=lU n m (by
     simp only[Ro,Rp]at h;rcases h with h | h
     .exact absurd h.symm e
     .exact h)
    exact⟨v',by simp[e,h']⟩
def keysOf(l:List Pair):List (List Nat):=(gather l).map (·.1)
def gF(l:List Pair):(keysOf l).Nodup:=(dN l [] (by simp)).1
def jq(l:List Pair)(n:List Nat):n∈keysOf l↔n∈l.map (·.1):=by
 have:=(dN l [] (by simp)).2.1 n;simpa[keysOf,gather]using this
def oA(l:List Pair)(n:List Nat)(h:n∈keysOf l):cI (gather l) n=Z_ (tot l n):=by
 obtain⟨v,hv⟩:=lU n (gather l) h;have:=(dN l [] (by simp)).2.2 n;rw[show l.foldl addP []=gather l from rfl,hv]at this;simp[cI]at this;rw[hv,this]
noncomputable def prD(p:Pair):D:=.tup [.str p.1,.int p.2]
def sumL(l:List Pair):List Pair:=((bF (keysOf l)).filter λn=>tot l n≠0).map λn=>(n,tot l n)
def sumD(c:Int)(l:List Pair):D:=.tup [.int c,.tup ((sumL l).map prD)]
theorem je:∀m:List Pair,strsOf ((ksD m).map keyD)=Z_ (m.map (·.1))
 | []=>rfl
 | p::m=>by
   have:=je m;simp only[ksD,Ro,Sg,keyD,strsOf]at this ⊢;rw[this];rfl
abbrev Srt(l:List (List Nat)):Prop:=l.Pairwise λa b=>ltS b a=Zd
theorem pP(x:List Nat):∀l,Srt l->Srt (insS x l)
 | [],_=>by simp[insS]
 | y::l,h=>by
   obtain⟨h1,h2⟩:=Tr.mp h;simp only[insS]
   cases e:ltS x y with
   | true=>
     simp only[if_true];refine Tr.mpr ⟨λz hz=>?_,h⟩;rcases Rp.mp hz with rfl | hz
     .exact fJ _ _ e
     .cases e2:ltS z x with
      | false=>rfl
      | true=>
        have:=fB _ _ _ e2 e;rw[h1 z hz]at this;cases this
   | false=>
     simp only[Rv,if_false];refine Tr.mpr ⟨λz hz=>?_,pP x l h2⟩;rcases Rp.mp ((cD x l).mem_iff.mp hz)with rfl | hz
     .exact e
     .exact h1 z hz
theorem nH:∀l,Srt (bF l)
 | []=>by simp[bF]
 | x::l=>pP x _ (nH l)
theorem wg(x:List Nat):∀l,(∀y∈l,ltS y x=Zd)->insS x l=x::l
 | [],_=>rfl
 | y::l,h=>by
   simp only[insS]
   cases e:ltS x y with
   | true=>rfl
   | false=>
     have hy:=cU _ _ e (h y Ru);subst hy;simp only[Rv,if_false];rw[wg x l λz hz=>h z (Rt _ hz)]
theorem rE:∀l,Srt l->bF l=l
 | [],_=>rfl
 | x::l,h=>by
   obtain⟨h1,h2⟩:=Tr.mp h;simp only[bF];rw[rE l h2,wg x l h1]
def qx(p:Pair)(l:List Pair)(n:List Nat):tot (p::l) n=(if p.1=n then p.2 else 0)+tot l n:=by
 by_cases h:p.1=n<;>simp[tot,h]
def HJ(l:List Pair)(n:List Nat)(h:n∉l.map (·.1)):tot l n=0:=by
 induction l with
 | nil=>rfl
 | cons p l ih=>
   simp only[Ro,Rp,not_or]at h;rw[qx,ih h.2,if_neg λe=>h.1 e.symm];rfl
theorem pI(l:List Pair)(hn:(l.map (·.1)).Nodup):∀p∈l,tot l p.1=p.2:=by
 induction l with
 | nil=>simp
 | cons q l ih=>
   obtain⟨h1,h2⟩:=Tg.mp (by simpa using hn:(q.1::l.map (·.1)).Nodup);intro p hp;rw[qx];rcases Rp.mp hp with rfl | hp
   .rw[if_pos rfl,HJ l _ h1];omega
   .have:q.1≠p.1:=λe=>h1 (e▸U0 hp)
    rw[if_neg this,ih h2 p hp];omega
def Iw(h1:Srt (L.map (·.1)))(h2:(L.map (·.1)).Nodup)(h3:∀p∈L,p.2≠0):sumL L=L:=by
 have hk:bF (keysOf L)=L.map (·.1):=by
  rw[<-rE _ h1]
  apply Be
  apply lK (gF _) h2
  intro x;rw[jq]
 unfold sumL;rw[hk,Yx,Sg]
 have hf:L.filter ((λn=>decide (tot L n≠0))∘λp=>p.1)=L:=by
  apply List.filter_eq_self.mpr
  intro p hp;simp[pI L h2 p hp,h3 p hp]
 have hf':L.filter ((λn=>!decide (tot L n=0))∘λp=>p.1)=L:=by
  apply List.filter_eq_self.mpr
  intro p hp;simp[pI L h2 p hp,h3 p hp]
 first | rw[hf] | rw[hf'] | simp only[hf,hf']
 conv=>rhs;rw[<-List.map_id L]
 apply WN
 intro p hp;simp[pI L h2 p hp]
def Bd(x:Int):Prop:=x.natAbs<2 ^ 70
noncomputable abbrev dctP(m:List Pair):D:=.dct (ksD m) (vsD m)
def KJ(m:List Pair)(n:List Nat):p7 (dctP m) (.str n) (.int 0)=.ok (Zd,.int ((cI m n).getD 0)):=by
 simp only[p7,keyOf,Te,a0w,uq];cases cI m n<;>rfl
def Qe(m:List Pair)(p:Pair)(hm:m.length<=100000):putItem (dctP m) (.str p.1) (.int ((cI m p.1).getD 0+p.2))=Z_ (dctP (addP m p)):=by
 have:(ksD m).length<=100000:=by simpa[ksD]using hm
 simp only[putItem,keyOf,Sh,this,if_true,ur,CN]
def pO(m:List Pair)(hm:m.length<64):b1D .sorted (dctP m)=.ok (Y_,.lst ((bF (m.map (·.1))).map .str)):=by
 have:(m.map (·.1)).length<64:=by simpa using hm
 simp only[b1D,rQ,Sh,je,this,if_true,a0w]
noncomputable def cmC:T:=(a0q .ne (a0x (a0n 1) (a0n 0)) (a0o (a0p 0)))
noncomputable def cmE:T:=(a0E (a0r (a0n 0) (a0r (a0x (a0n 1) (a0n 0)) a0t)))
def Ow(l:List Pair)(n:List Nat)(h:n∈keysOf l):idxD (dctP (gather l)) (.str n)=.ok (Zd,.int (tot l n)):=by
 simp only[idxD,keyOf,Sh,uq,oA l n h,Te,a0w]
def Gz:size 2=Y_:=by decide
noncomputable def Aj(o:Orc)(l:List Pair):aR (λx=>ev o ((x++[dctP (gather l)]).map λd=>some (Own.sh,d)) Zd cmE) (λx=>ev o ((x++[dctP (gather l)]).map λd=>some (Own.sh,d)) Y_ cmC) 1 Zd ((bF (keysOf l)).map .str)=.ok ((sumL l).map prD):=by
 rw[iI (g:=λd=>match d with | .str n=>prD (n,tot l n) | _=>.non) (q:=λd=>match d with | .str n=>decide (tot l n≠0) | _=>false)]
 .rw[Yx]
  simp[sumL,V5]
 .intro d hd
  obtain⟨n,hn,rfl⟩:=Sw.mp hd;have hk:n∈keysOf l:=(sortS_perm _).mem_iff.mp hn;have hi:=Ow l n hk;generalize dctP (gather l)=X at hi;simp[cmC,ev,a0u,hi,o2,eqA,eqS,a0w]
 .intro d hd _
  obtain⟨n,hn,rfl⟩:=Sw.mp hd;have hk:n∈keysOf l:=(sortS_perm _).mem_iff.mp hn;have hi:=Ow l n hk;generalize dctP (gather l)=X at hi;refine⟨false,?_⟩;simp[cmE,ev,evL,bG,isOwn,a0u,hi,a0C,Gz,prD]
theorem qK:∀l:List Pair,immL (l.map prD)=Y_
 | []=>rfl
 | p::l=>by simp[immL,prD,D.imm,qK l]
def zc(l:List Pair):(sumL l).length<=(keysOf l).length:=by
 unfold sumL;rw[Rq];refine RW (TF _ _) ?_;rw[(sortS_perm _).length_eq];exact Rx _
def An(p:Pair):takes 2 Y_ (prD p)=Z_ [.str p.1,.int p.2]:=by simp[takes,prD]
noncomputable def soB:SL:=(a0s (S.seti 2 (a0n 3) (a0q .add (T.get2 (a0n 2) (a0n 3) (a0o (a0p 0))) (a0n 4))) a0v)
noncomputable def soE:T:=(a0E (a0r (a0n 0) (a0r (a0D .tuple (a0G [2] 1 Zd (a0F (a0D .sorted (a0n 2))) cmC cmE)) a0t)))
noncomputable def soFd:Fd:=⟨2,5,(a0s (a0y 2 (T.dnew [] a0t)) (a0s (a0O [3,4] Y_ (a0F (a0n 1)) soB) (a0s (a0B soE) a0v)))⟩
def Hs(o:Orc)(a b:Option Slot)(m:List Pair)(p:Pair)(hm:m.length<=100000):evSs o soB [a,b,some (.ow,dctP m),some (.sh,.str p.1),some (.sh,.int p.2)]=.nx [a,b,some (.ow,dctP (addP m p)),some (.sh,.str p.1),some (.sh,.int p.2)]:=by
 have h1:=KJ m p.1;have h2:=Qe m p hm;generalize dctP m=X at h1 h2 ⊢;generalize dctP (addP m p)=Y at h2 ⊢;generalize (cI m p.1).getD 0=v at h1 h2
 have he:ev o [a,b,some (.ow,X),some (.sh,.str p.1),some (.sh,.int p.2)] Zd (a0q .add (T.get2 (a0n 2) (a0n 3) (a0o (a0p 0))) (a0n 4))=.ok (Zd,.int (v+p.2)):=by
  simp[ev,a0u,h1,o2,arith]
 generalize v+p.2=z at he h2;simp only[soB,evSs,evS,evF,he,SO.of];simp[ev,ownD,h2,aF]
theorem Dw(o:Orc)(a b:Option Slot):∀(l m:List Pair)(c d:Option Slot),m.length+l.length<=100000->∃c' d',bR (evSs o soB) [3,4] Y_ (l.map prD) [a,b,some (.ow,dctP m),c,d]=.nx [a,b,some (.ow,dctP (l.foldl addP m)),c',d']
 | [],m,c,d,_=>⟨c,d,rfl⟩
 | p::l,m,c,d,h=>by
   simp only[RK]at h;have hl:=pQ p m;obtain⟨c',d',ih⟩:=Dw o a b l (addP m p) (Z_ (.sh,.str p.1)) (Z_ (.sh,.int p.2)) (by omega);refine⟨c',d',?_⟩
   have hs:aH [a,b,some (.ow,dctP m),c,d] [3,4] [.str p.1,.int p.2]=Z_ [a,b,some (.ow,dctP m),some (.sh,.str p.1),some (.sh,.int p.2)]:=by simp[aH,setSlot]
   simp only[Ro,bR,RK,V0,VP,Nat.reduceAdd,An,hs,Hs o a b m p (by omega),Vv];exact ih
theorem JP(o:Orc)(c:Int)(b d e:Option Slot)(l:List Pair)(hk:(keysOf l).length<64):ev o [some (.sh,.int c),b,some (.ow,dctP (gather l)),d,e] Zd soE=.ok (Zd,sumD c l):=by
 have hg:=Aj o l;have hs:=pO (gather l) (by simpa[keysOf]using hk);have hi:=qK (sumL l)
 have hz:size ((sumL l).map prD).length=Y_:=by
  have:=zc l;simp[size];omega
 have hx:ev o [some (.sh,.int c),b,some (.ow,dctP (gather l)),d,e] Y_ (a0G [2] 1 Zd (a0F (a0D .sorted (a0n 2))) cmC cmE)=.ok (Y_,.lst ((sumL l).map prD)):=by
  rw[show(gather l).map (·.1)=keysOf l from rfl]at hs;rw[ev]
  have h1:evI o [some (.sh,.int c),b,some (.ow,dctP (gather l)),d,e] Y_ (a0F (a0D .sorted (a0n 2)))=.ok ((bF (keysOf l)).map .str):=by
   generalize dctP (gather l)=X at hs;simp[evI,ev,a0u,hs,gk,a0w]
  have h2:cQ [some (.sh,.int c),b,some (.ow,dctP (gather l)),d,e] [2]=Z_ [dctP (gather l)]:=by simp[cQ,Ax]
  rw[h1,h2];simp only[a0u,a0w];rw[hg];simp only[a0C,hz,hi,Z8,Z1,if_true]
 unfold sumD;generalize (sumL l).map prD=L at hx;generalize dctP (gather l)=X at hx
 have hb:ev o [some (.sh,.int c),b,some (.ow,X),d,e] Zd (a0D .tuple (a0G [2] 1 Zd (a0F (a0D .sorted (a0n 2))) cmC cmE))=.ok (Zd,.tup L):=by
  rw[ev,hx];rfl
 have h0:ev o [some (.sh,.int c),b,some (.ow,X),d,e] Zd (a0n 0)=.ok (Zd,.int c):=by simp[ev]
 rw[soE,ev,evL,evL,evL];simp only[bG,isOwn,hb,h0,a0u,a0C,RK,V0,Gz,X8];simp[Gz]
def GP(o:Orc)(c:Int)(l:List Pair)(x:D)(hx:gk x=Z_ (l.map prD))(hl:l.length<=1000)(hk:(keysOf l).length<64):bc o soFd [.int c,x]=.ok (Zd,sumD c l):=by
 refine aq rfl (δ0:=[some (.sh,.int c),some (.sh,x),none,none,none]) rfl ?_;refine stp [some (.sh,.int c),some (.sh,x),some (.ow,dctP []),none,none] ?_ ?_
 .simp[evS,evF,ev,evL,a0u,a0C,SO.of,setSlot,aF,ksD,vsD]
 obtain⟨c',d',hf⟩:=Dw o (Z_ (.sh,.int c)) (Z_ (.sh,x)) l [] none none (by simp;omega);refine stp [some (.sh,.int c),some (.sh,x),some (.ow,dctP (gather l)),c',d'] ?_ ?_
 .rw[evS]
  have h1:bU [some (.sh,.int c),some (.sh,x),some (.ow,dctP []),none,none] (a0F (a0n 1))=[some (.sh,.int c),some (.sh,x),some (.ow,dctP []),none,none]:=by simp[cG,bU,cG,share1]
  have h2:evI o [some (.sh,.int c),some (.sh,x),some (.ow,dctP []),none,none] Zd (a0F (a0n 1))=.ok (l.map prD):=by simp[evI,ev,a0u,hx,a0w]
  rw[h1];simp only[h2,SO.of];exact hf
 refine stpR (δ':=[some (.sh,.int c),some (.sh,x),some (.ow,dctP (gather l)),c',d']) ?_;have:=JP o c (Z_ (.sh,x)) c' d' l hk;rw[retE rfl];simp only[evF,this,SO.of]
theorem dM:∀{l:List α},(∀d∈l,c [a d]=.ok (Zd,.bl Y_))->(∀d∈l,∃w,f [a d]=.ok (w,g d))->aR f c 1 Zd (l.map a)=.ok (l.map g)
 | [],_,_=>rfl
 | d::l,hc,hf=>by
   obtain⟨w,h⟩:=hf d Ru;have ih:=dM (l:=l) (λx hx=>hc x (Rt _ hx)) (λx hx=>hf x (Rt _ hx));simp only[Ro,aR,takes,Rv,if_false,a0w,a0u,hc d Ru,truth,if_true,h,ih]
def jX(o:Orc)(δ:Dst)(lk:Bool)(it:TI)(caps:List Nat)(cs l r:List D)(m:Nat)(tg:Bool)(c e:T)(hI:evI o δ Y_ it=.ok l)(hs:cQ δ caps=Z_ cs)(ho:(caps.all λi=>!isOwn δ i)=Y_)(hr:r.length<=1000)
 (hc:aR (λx=>ev o ((x++cs).map λd=>some (Own.sh,d)) Zd e) (λx=>ev o ((x++cs).map λd=>some (Own.sh,d)) Y_ c) m tg l=.ok r):ev o δ lk (a0G caps m tg it c e)=.ok (Y_,.lst r):=by
 rw[ev,hI,hs];simp only[a0u,a0w];rw[hc]
 have hz:size r.length=Y_:=by simp[size];omega
 simp only[ho,hz,a0C];simp
def b7(h:ev o δ Zd e=.ok (w,d))(hs:setSlot δ i w d=Z_ δ'):evS o (.set i e) δ=.nx δ':=by
 simp only[evS,evF,h,SO.of,hs,Te,aF]
def wQ(h:ev o δ Y_ c=.ok (w,.bl b)):evS o (.ifs c x y) δ=if b=Y_ then evSs o x δ else evSs o y δ:=by
 simp only[evS,h,a0u,truth,a0w,SO.of]
def rA(w:List Nat)(m:Nat):slcD (.str w) none (Z_ (m:Int))=Z_ (Zd,.str (w.take m)):=by
 have:clip w.length (m:Int)=min m w.length:=by unfold clip;rw[if_pos (Xa m),Vd]
 simp only[slcD,cV,bQ,this,cut,List.drop_zero,List.take_eq_take_iff,Ry,Prod.mk.injEq,a0A.injEq,true_and]
 exact Nat.min_assoc .. |>.trans (by rw[Nat.min_self])
def eqi(h:ev o δ Y_ a=.ok (w,.int x)):ev o δ Y_ (a0q .eq a (a0o (a0p y)))=.ok (Zd,.bl (decide (x=y))):=by
 simp only[ev,h,a0u,o2,eqA,eqS,Te,a0w]
def aG(ha:ev o δ Y_ a=.ok (w1,x))(hb:ev o δ Y_ b=.ok (w2,y)):ev o δ lk (a0q p a b)=o2 p x y:=by
 simp only[ev,ha,hb,a0u]
def vW(h:a.length+b.length<=1000):o2 .add (.str a) (.str b)=.ok (Zd,.str (a++b)):=by
 have:size (a.length+b.length)=Y_:=decide_eq_true (RW h (by decide));simp only[o2,this,a0C,if_true]
def Ab(w:List Nat)(m:Nat):slcD (.str w) (Z_ (m:Int)) none=Z_ (Zd,.str (w.drop m)):=by
 have:clip w.length (m:Int)=min m w.length:=by unfold clip;rw[if_pos (Xa m),Vd]
 simp only[slcD,cV,bQ,this,cut,List.take_length]
 congr 3
 by_cases h:m<=w.length
 .rw[Nat.min_eq_left h]
 .rw[Nat.min_eq_right (Nat.le_of_not_le h),Yk,List.drop_eq_nil_of_le (Nat.le_of_not_le h)]
def ao(h:δ[i]?=Z_ (Z_ (.sh,d))):ev o δ lk (a0n i)=.ok (Zd,d):=by simp only[ev,h]
def au:ev o δ lk (a0o d)=.ok (Zd,d):=by simp only[ev]
def mulE(h:cC a b=Y_):o2 .mul (.int a) (.int b)=.ok (Zd,.int (a*b)):=by simp only[o2,arith,h,a0C,if_true]
section
variable{o:Orc}{δ:Dst}{lk:Bool}
def aj(hk:bG δ t=Zd)(h:ev o δ Zd t=.ok (w,x))(hl:evL o δ l=.ok (Zd,xs)):evL o δ (.cons t l)=.ok (Zd,x::xs):=by
 simp only[evL,hk,h,hl,a0u,WX]
def aA(hl:evL o δ l=.ok (Zd,xs))(h:o.fn f xs=.ok (w,x)):ev o δ lk (a0z f l)=.ok (w,x):=by
 simp only[ev,hl,a0u,h,lent,Rv,if_false]
def bu(hl:evL o δ l=.ok (Zd,xs))(hz:size xs.length=Y_):ev o δ lk (a0E l)=.ok (Zd,.tup xs):=by
 simp only[ev,hl,a0u,hz,YD,Z1,a0C,if_true]
def cN(hl:evL o δ l=.ok (Zd,xs))(hz:size xs.length=Y_):ev o δ lk (a0J l)=.ok (Y_,.lst xs):=by
 simp only[ev,hl,a0u,hz,YD,Z1,a0C,if_true]
def ifN(h:ev o δ Y_ c=.ok (w,.bl Zd)):evS o (.ifs c x .nil) δ=.nx δ:=by rw[wQ h];rfl
def vz(h:a.length+b.length<=1000):o2 .add (.lst a) (.lst b)=.ok (Y_,.lst (a++b)):=by
 have:size (a.length+b.length)=Y_:=decide_eq_true (RW h (by decide));simp only[o2,this,a0C,if_true]
def retR(h:ev o δ Zd e=.ok (w,d))(hv:isV e=Zd):evS o (.ret e) δ=.rt w d δ:=by
 rw[retE hv];simp only[evF,h,SO.of]
def ifR(h:ev o δ Y_ c=.ok (b,.bl Y_))(k:evS o s δ=.rt w d δ'):evS o (.ifs c (.cons s l) y) δ=.rt w d δ':=by
 rw[wQ h];simp only[if_true,evSs,k]
end
def sz1:size 1=Y_:=by decide
def sz2:size 2=Y_:=by decide
def g8(ha:ev o δ Y_ a=.ok (w1,x))(hl:ev o δ Y_ lo=.ok (w2,y))(hh:ev o δ Y_ hi=.ok (w3,z))(bl:bnd lo y=Z_ l)(bh:bnd hi z=Z_ h)(hr:slcD x l h=Z_ r):ev o δ lk (a0K a lo hi)=.ok r:=by
 simp only[ev,ha,hl,hh,a0u,bl,bh,Sh,hr,a0w]
def zm(ha:ev o δ Y_ a=.ok (w1,x))(hc:ev o δ Y_ c=.ok (w2,y)):ev o δ lk (a0V b a c)=b2D b x y:=by simp only[ev,ha,hc,a0u]
def sY(ha:ev o δ Y_ a=.ok (w1,x)):ev o δ lk (a0D b a)=b1D b x:=by simp only[ev,ha,a0u]
noncomputable def namesFd:Fd:=⟨1,6,(a0s (a0y 1 (a0o (a0A [122,120,119,118,117,116,115,114,113,112,110,109,108,107,106,105,104,103,102,101,100,99,98]))) (a0s (a0y 2 (a0x (a0n 1) (a0q .mod (a0q .fdiv (a0n 0) (a0o (a0p 2))) (a0o (a0p 23))))) (a0s (a0O [3] Zd (a0Q (a0o (a0p 6))) (a0s (a0y 2 (a0q .add (a0n 2) (a0x (a0q .add (a0n 1) (a0o (a0A [48,49,50,51,52,53,54,55,56,57]))) (a0q .mod (a0q .mod (a0q .mul (a0q .mul (a0q .add (a0q .mod (a0n 0) (a0q .pow (a0o (a0p 10)) (a0o (a0p 9)))) (a0n 3)) (a0q .add (a0n 3) (a0o (a0p 7)))) (a0o (a0p 48271))) (a0o (a0p 65521))) (a0o (a0p 33)))))) a0v)) (a0s (a0H (a0q .eq (a0q .mod (a0n 0) (a0o (a0p 2))) (a0o (a0p 1))) (a0s (a0y 4 (a0q .mod (a0q .fdiv (a0n 0) (a0o (a0p 46))) (a0o (a0p 4)))) (a0s (a0B (a0G [4,2] 1 Zd (a0Q (a0o (a0p 4))) (a0o (a0I Y_)) (a0K (a0n 2) (a0o a0M) (a0q .add (a0q .add (a0n 1) (a0n 0)) (a0o (a0p 1)))))) a0v)) a0v) (a0s (a0y 2 (a0K (a0n 2) (a0o a0M) (a0q .mod (a0q .fdiv (a0n 0) (a0o (a0p 46))) (a0o (a0p 8))))) (a0s (a0y 5 (a0q .mod (a0q .fdiv (a0n 0) (a0o (a0p 368))) (a0q .add (a0D .len (a0n 2)) (a0o (a0p 1))))) (a0s (a0B (a0G [5,0,1,2] 1 Zd (a0Q (a0o (a0p 4))) (a0o (a0I Y_)) (a0q .add (a0q .add (a0K (a0n 4) (a0o a0M) (a0n 1)) (a0x (a0n 3) (a0q .mod (a0q .add (a0q .fdiv (a0n 2) (a0o (a0p 3312))) (a0q .mul (a0o (a0p 5)) (a0n 0))) (a0o (a0p 23))))) (a0K (a0n 4) (a0n 1) (a0o a0M))))) a0v)))))))⟩
noncomputable def numbFd:Fd:=⟨1,1,(a0s (a0H (a0q .eq (a0q .mod (a0n 0) (a0o (a0p 3))) (a0o (a0p 0))) (a0s (a0B (a0q .sub (a0q .mod (a0q .fdiv (a0n 0) (a0o (a0p 3))) (a0o (a0p 15))) (a0o (a0p 7)))) a0v) a0v) (a0s (a0B (a0q .sub (a0q .mod (a0q .fdiv (a0n 0) (a0o (a0p 3))) (a0q .add (a0q .mul (a0o (a0p 2)) (a0q .pow (a0o (a0p 10)) (a0o (a0p 60)))) (a0o (a0p 1)))) (a0q .pow (a0o (a0p 10)) (a0o (a0p 60))))) a0v))⟩
noncomputable def pointFd(inumber:Nat)(icell_at:Nat):Fd:=⟨2,5,(a0s (a0y 2 (T.dnew [] a0t)) (a0s (a0O [3,4] Y_ (a0X (a0n 1)) (a0s (S.seti 2 (a0n 4) (a0z inumber (a0r (a0z icell_at (a0r (a0n 0) (a0r (a0q .add (a0o (a0p 1)) (a0n 3)) a0t))) a0t))) a0v)) (a0s (a0B (a0n 2)) a0v)))⟩
noncomputable def manyFd:Fd:=⟨2,2,(a0s (a0H (a0q .eq (a0q .mod (a0n 0) (a0o (a0p 5))) (a0o (a0p 1))) (a0s (a0B (a0q .mul (a0q .add (a0n 1) (a0o (a0p 1))) (a0q .sub (a0o (a0p 1)) (a0q .mul (a0o (a0p 2)) (a0q .mod (a0q .fdiv (a0n 0) (a0o (a0p 5))) (a0o (a0p 2))))))) a0v) a0v) (a0s (a0B (a0q .mul (a0q .sub (a0q .mod (a0q .fdiv (a0n 0) (a0o (a0p 5))) (a0o (a0p 7))) (a0o (a0p 3))) (a0q .add (a0o (a0p 1)) (a0q .mod (a0q .fdiv (a0n 0) (a0o (a0p 35))) (a0o (a0p 4)))))) a0v))⟩
noncomputable def nearFd:Fd:=⟨1,1,(a0s (a0H (a0q .eq (a0q .mod (a0n 0) (a0o (a0p 4))) (a0o (a0p 3))) (a0s (a0B (a0q .sub (a0q .mod (a0q .fdiv (a0n 0) (a0o (a0p 4))) (a0q .add (a0q .mul (a0o (a0p 2)) (a0q .pow (a0o (a0p 10)) (a0o (a0p 20)))) (a0o (a0p 1)))) (a0q .pow (a0o (a0p 10)) (a0o (a0p 20))))) a0v) a0v) (a0s (a0B (a0q .sub (a0q .mod (a0q .fdiv (a0n 0) (a0o (a0p 4))) (a0o (a0p 5))) (a0o (a0p 2)))) a0v))⟩
noncomputable def lsumFd(inear:Nat)(imany:Nat):Fd:=⟨3,9,(a0s (a0y 3 (a0J a0t)) (a0s (a0y 4 (a0z inear (a0r (a0q .fdiv (a0n 0) (a0o (a0p 16))) a0t))) (a0s (a0O [5,6] Y_ (a0X (a0D .sorted (a0n 1))) (a0s (a0y 7 (a0q .mod (a0q .mul (a0q .mul (a0q .add (a0q .mod (a0n 0) (a0n 2)) (a0n 5)) (a0q .add (a0q .mul (a0o (a0p 2)) (a0n 5)) (a0o (a0p 3)))) (a0o (a0p 48271))) (a0o (a0p 1000003)))) (a0s (a0y 8 (a0q .mul (a0z imany (a0r (a0n 7) (a0r (a0q .mod (a0n 0) (a0n 2)) a0t))) (a0q .sub (a0o (a0p 1)) (a0q .mul (a0o (a0p 2)) (a0q .mod (a0q .fdiv (a0n 0) (a0o (a0p 48))) (a0o (a0p 2))))))) (a0s (a0H (a0q .ne (a0n 8) (a0o (a0p 0))) (a0s (a0Z 3 (a0E (a0r (a0n 6) (a0r (a0n 8) a0t)))) (a0s (a0y 4 (a0q .sub (a0n 4) (a0q .mul (a0n 8) (a0x (a0n 1) (a0n 6))))) a0v)) a0v) a0v)))) (a0s (a0B (a0E (a0r (a0n 4) (a0r (a0D .tuple (a0n 3)) a0t)))) a0v))))⟩
noncomputable def atomFd(isum:Nat):Fd:=⟨3,4,(a0s (a0y 3 (a0z isum (a0r (a0n 0) (a0r (a0n 1) (a0r (a0n 2) a0t))))) (a0s (a0H (a0q .eq (a0q .mod (a0n 0) (a0o (a0p 2))) (a0o (a0p 0))) (a0s (a0B (a0E (a0r (a0o (a0A [108,101,97,115,116])) (a0r (a0n 3) a0t)))) a0v) a0v) (a0s (a0H (a0q .eq (a0q .mod (a0q .fdiv (a0n 0) (a0o (a0p 2))) (a0o (a0p 8))) (a0o (a0p 7))) (a0s (a0B (a0E (a0r (a0o (a0A [114,101,115,116])) (a0r (a0q .add (a0q .mod (a0n 0) (a0n 2)) (a0o (a0p 1))) (a0r (a0n 3) a0t))))) a0v) a0v) (a0s (a0B (a0E (a0r (a0o (a0A [114,101,115,116])) (a0r (a0q .add (a0q .mod (a0q .fdiv (a0n 0) (a0o (a0p 2))) (a0o (a0p 8))) (a0o (a0p 1))) (a0r (a0n 3) a0t))))) a0v))))⟩
noncomputable def grpFd:Fd:=⟨4,6,(a0s (a0y 4 (a0K (a0n 1) (a0V .max (a0o (a0p 0)) (a0q .sub (a0D .len (a0n 1)) (a0n 2))) (a0o a0M))) (a0s (a0y 5 (a0q .add (a0o (a0p 1)) (a0V .maxd (a0G [] 1 Zd (a0F (a0n 4)) (a0o (a0I Y_)) (a0x (a0n 0) (a0o (a0p 1)))) (a0o (a0p 0))))) (a0s (a0H (a0q .gt (a0n 5) (a0o (a0p 17))) (a0s (a0B (a0q .add (a0n 1) (a0J (a0r (a0E (a0r (a0n 3) (a0r (a0o (a0p 0)) a0t))) a0t)))) a0v) a0v) (a0s (a0B (a0q .add (a0K (a0n 1) (a0o a0M) (a0V .max (a0o (a0p 0)) (a0q .sub (a0D .len (a0n 1)) (a0n 2)))) (a0J (a0r (a0E (a0r (a0E (a0r (a0n 0) (a0r (a0D .tuple (a0G [] 1 Zd (a0F (a0n 4)) (a0o (a0I Y_)) (a0x (a0n 0) (a0o (a0p 0))))) a0t))) (a0r (a0n 5) a0t))) a0t)))) a0v))))⟩
noncomputable def stepFd(iatom:Nat)(igrouped:Nat):Fd:=⟨4,6,(a0s (a0y 4 (a0z iatom (a0r (a0q .fdiv (a0n 1) (a0o (a0p 10))) (a0r (a0n 2) (a0r (a0n 3) a0t))))) (a0s (a0H (a0q .lt (a0q .mod (a0n 1) (a0o (a0p 10))) (a0o (a0p 2))) (a0s (a0B (a0z igrouped (a0r (a0o (a0A [97,110,100])) (a0r (a0n 0) (a0r (a0q .mod (a0q .fdiv (a0n 1) (a0o (a0p 10))) (a0o (a0p 4))) (a0r (a0n 4) a0t)))))) a0v) a0v) (a0s (a0H (a0q .lt (a0q .mod (a0n 1) (a0o (a0p 10))) (a0o (a0p 4))) (a0s (a0B (a0z igrouped (a0r (a0o (a0A [111,114])) (a0r (a0n 0) (a0r (a0q .mod (a0q .fdiv (a0n 1) (a0o (a0p 10))) (a0o (a0p 4))) (a0r (a0n 4) a0t)))))) a0v) a0v) (a0s (a0H (a0N (a0q .eq (a0q .mod (a0n 1) (a0o (a0p 10))) (a0o (a0p 4))) (a0N (a0q .gt (a0D .len (a0n 0)) (a0o (a0p 0))) (a0q .lt (a0x (a0x (a0n 0) (a0L (a0o (a0p 1)))) (a0o (a0p 1))) (a0o (a0p 17))))) (a0s (a0B (a0q .add (a0K (a0n 0) (a0o a0M) (a0L (a0o (a0p 1)))) (a0J (a0r (a0E (a0r (a0E (a0r (a0o (a0A [110,111,116])) (a0r (a0x (a0x (a0n 0) (a0L (a0o (a0p 1)))) (a0o (a0p 0))) a0t))) (a0r (a0q .add (a0x (a0x (a0n 0) (a0L (a0o (a0p 1)))) (a0o (a0p 1))) (a0o (a0p 1))) a0t))) a0t)))) a0v) a0v) (a0s (a0H (a0N (a0q .gt (a0q .mod (a0n 1) (a0o (a0p 10))) (a0o (a0p 7))) (a0N (a0q .gt (a0D .len (a0n 0)) (a0o (a0p 0))) (a0q .lt (a0x (a0x (a0n 0) (a0L (a0o (a0p 1)))) (a0o (a0p 1))) (a0o (a0p 17))))) (a0s (a0y 5 (a0E (a0r (a0x (a0J (a0r (a0o (a0A [115,111,109,101])) (a0r (a0o (a0A [97,108,108])) a0t))) (a0q .mod (a0n 1) (a0o (a0p 2)))) (a0r (a0x (a0D .sorted (a0n 2)) (a0q .mod (a0q .fdiv (a0n 1) (a0o (a0p 10))) (a0o (a0p 4)))) (a0r (a0x (a0x (a0n 0) (a0L (a0o (a0p 1)))) (a0o (a0p 0))) a0t))))) (a0s (a0B (a0q .add (a0K (a0n 0) (a0o a0M) (a0L (a0o (a0p 1)))) (a0J (a0r (a0E (a0r (a0n 5) (a0r (a0q .add (a0x (a0x (a0n 0) (a0L (a0o (a0p 1)))) (a0o (a0p 1))) (a0o (a0p 1))) a0t))) a0t)))) a0v)) a0v) (a0s (a0B (a0q .add (a0n 0) (a0J (a0r (a0E (a0r (a0n 4) (a0r (a0o (a0p 0)) a0t))) a0t)))) a0v))))))⟩
noncomputable def treeFd(istep:Nat):Fd:=⟨4,6,(a0s (a0y 4 (a0J a0t)) (a0s (a0O [5] Zd (a0F (a0n 0)) (a0s (a0y 4 (a0z istep (a0r (a0n 4) (a0r (a0n 5) (a0r (a0n 1) (a0r (a0n 2) a0t)))))) a0v)) (a0s (a0H (a0q .eq (a0D .len (a0n 4)) (a0o (a0p 1))) (a0s (a0B (a0x (a0x (a0n 4) (a0o (a0p 0))) (a0o (a0p 0)))) a0v) a0v) (a0s (a0B (a0E (a0r (a0n 3) (a0r (a0D .tuple (a0G [] 1 Zd (a0F (a0n 4)) (a0o (a0I Y_)) (a0x (a0n 0) (a0o (a0p 0))))) a0t)))) a0v))))⟩
noncomputable def samezFd(isame:Nat):Fd:=⟨2,2,(a0s (a0H (a0R (a0n 1) .tup) (a0s (a0H (a0W (a0U (a0R (a0n 0) .tup)) (a0q .ne (a0D .len (a0n 0)) (a0D .len (a0n 1)))) (a0s (a0B (a0o (a0I Zd))) a0v) a0v) (a0s (a0B (a0D .all (a0G [] 2 Y_ (TI.zip (a0n 0) (a0n 1)) (a0o (a0I Y_)) (a0z isame (a0r (a0n 0) (a0r (a0n 1) a0t)))))) a0v)) a0v) (a0s (a0H (a0R (a0n 1) .str) (a0s (a0B (a0N (a0R (a0n 0) .str) (a0q .eq (a0n 0) (a0n 1)))) a0v) a0v) (a0s (a0B (a0N (a0R (a0n 0) .int) (a0N (a0U (a0R (a0n 0) .bool)) (a0q .eq (a0n 0) (a0n 1))))) a0v)))⟩
noncomputable def L23:List Nat:=[122,120,119,118,117,116,115,114,113,112,110,109,108,107,106,105,104,103,102,101,100,99,98]
noncomputable def L33:List Nat:=L23++[48,49,50,51,52,53,54,55,56,57]
def oY:L23.length=23:=rfl
def Gg:L33.length=33:=rfl
def wK:L23.Nodup:=by decide
def jK(c:Int)(n:Nat)(h0:n≠0)(h:n.log2<9000):arith .fdiv c (n:Int)=.ok (Zd,.int (c.fdiv n)):=by
 have:(n:Int)≠0:=by omega
 simp[arith,a0C,h0,h]
def oh(c m:Int)(h:m≠0):arith .mod c m=.ok (Zd,.int (c.fmod m)):=by simp[arith,a0C,h]
def modE(c m:Int)(h:m≠0):o2 .mod (.int c) (.int m)=.ok (Zd,.int (c.fmod m)):=oh c m h
def Pb(c:Int):o2 .fdiv (.int c) (.int 48)=.ok (Zd,.int (c.fdiv 48)):=jK c 48 (by decide) (by decide)
theorem jP(h:b.natAbs<2 ^ 60):cC a b=Y_:=by
 have:bits b<=64:=by
  unfold bits;split
  .omega
  .rename_i hb
   have:b.natAbs.log2<60:=(Wx (by omega)).mpr h;omega
 simp[cC,this]
def uo(a b:Int)(h:b.natAbs<2 ^ 60):arith .mul a b=.ok (Zd,.int (a*b)):=by simp[arith,a0C,jP h]
noncomputable def nsB:SL:=(a0s (a0y 2 (a0q .add (a0n 2) (a0x (a0q .add (a0n 1) (a0o (a0A [48,49,50,51,52,53,54,55,56,57]))) (a0q .mod (a0q .mod (a0q .mul (a0q .mul (a0q .add (a0q .mod (a0n 0) (a0q .pow (a0o (a0p 10)) (a0o (a0p 9)))) (a0n 3)) (a0q .add (a0n 3) (a0o (a0p 7)))) (a0o (a0p 48271))) (a0o (a0p 65521))) (a0o (a0p 33)))))) a0v)
noncomputable def sg33(j:Int):Nat:=L33.getD (j.fmod 33).toNat 0
theorem Ji(j:Int):idxD (.str L33) (.int (j.fmod 33))=.ok (Zd,.str [sg33 j]):=by
 have:=aB j 33 (by omega);exact um L33 _ this.1 (by rw[Gg];omega)
noncomputable def lt23(j:Int):Nat:=L23.getD (j.fmod 23).toNat 0
theorem Cy(j:Int):idxD (.str L23) (.int (j.fmod 23))=.ok (Zd,.str [lt23 j]):=by
 have:=aB j 23 (by omega);exact um L23 _ this.1 (by rw[oY];omega)
theorem FZ(o:Orc)(c:Int)(w:List Nat)(k:Nat)(hk:k<1000)(hw:w.length<=100)(e f:Option Slot) :
 evSs o nsB [some (.sh,.int c),some (.sh,.str L23),some (.sh,.str w),some (.sh,.int (k:Int)),e,f]=.nx [some (.sh,.int c),some (.sh,.str L23),some (.sh,.str (w++[sg33 (((c.fmod 1000000000+k)*(k+7)*48271).fmod 65521)])),some (.sh,.int (k:Int)),e,f]:=by
 have m1:arith .mul (c.fmod 1000000000+k) (k+7)=.ok (Zd,.int ((c.fmod 1000000000+k)*(k+7))):=uo _ _ (by omega)
 have m2:∀x,arith .mul x 48271=.ok (Zd,.int (x*48271)):=λx=>uo _ _ (by decide)
 have r1:∀x,arith .mod x 1000000000=.ok (Zd,.int (x.fmod 1000000000)):=λx=>oh _ _ (by decide)
 have r2:∀x,arith .mod x 65521=.ok (Zd,.int (x.fmod 65521)):=λx=>oh _ _ (by decide)
 have r3:∀x,arith .mod x 33=.ok (Zd,.int (x.fmod 33)):=λx=>oh _ _ (by decide)
 have ad:∀x y,arith .add x y=.ok (Zd,.int (x+y)):=λx y=>rfl
 have cat:o2 .add (.str L23) (.str [48,49,50,51,52,53,54,55,56,57])=.ok (Zd,.str L33):=rfl;have i33:=Ji (((c.fmod 1000000000+k)*(k+7)*48271).fmod 65521)
 have o2i:∀p a b,(p=.add\/p=.mul\/p=.mod\/p=.pow)->o2 p (.int a) (.int b)=arith p a b:=by
  intro p a b h;rcases h with rfl | rfl | rfl | rfl<;>rfl
 have p9:o2 .pow (.int 10) (.int 9)=.ok (Zd,.int 1000000000):=by rfl
 have e1:ev o [some (.sh,.int c),some (.sh,.str L23),some (.sh,.str w),some (.sh,.int (k:Int)),e,f] Y_ (a0q .mod (a0q .mod (a0q .mul (a0q .mul (a0q .add (a0q .mod (a0n 0) (a0q .pow (a0o (a0p 10)) (a0o (a0p 9)))) (a0n 3)) (a0q .add (a0n 3) (a0o (a0p 7)))) (a0o (a0p 48271))) (a0o (a0p 65521))) (a0o (a0p 33)))=.ok (Zd,.int ((((c.fmod 1000000000+k)*(k+7)*48271).fmod 65521).fmod 33)):=by
  generalize h9:(1000000000:Int)=T9 at *;simp[ev,a0u,p9,o2i,ad,m1,m2,r1,r2,r3]
 have e2:ev o [some (.sh,.int c),some (.sh,.str L23),some (.sh,.str w),some (.sh,.int (k:Int)),e,f] Y_ (a0q .add (a0n 1) (a0o (a0A [48,49,50,51,52,53,54,55,56,57])))=.ok (Zd,.str L33):=by
  simp only[ev,a0u,X8,W5];exact cat
 have e3:ev o [some (.sh,.int c),some (.sh,.str L23),some (.sh,.str w),some (.sh,.int (k:Int)),e,f] Zd (a0q .add (a0n 2) (a0x (a0q .add (a0n 1) (a0o (a0A [48,49,50,51,52,53,54,55,56,57]))) (a0q .mod (a0q .mod (a0q .mul (a0q .mul (a0q .add (a0q .mod (a0n 0) (a0q .pow (a0o (a0p 10)) (a0o (a0p 9)))) (a0n 3)) (a0q .add (a0n 3) (a0o (a0p 7)))) (a0o (a0p 48271))) (a0o (a0p 65521))) (a0o (a0p 33)))))=.ok (Zd,.str (w++[sg33 (((c.fmod 1000000000+k)*(k+7)*48271).fmod 65521)])):=by
  rw[ev];rw[show ev o [some (.sh,.int c),some (.sh,.str L23),some (.sh,.str w),some (.sh,.int (k:Int)),e,f] Y_ (a0n 2)=.ok (Zd,.str w)from rfl];rw[ev,e2,e1];simp only[a0u];rw[i33]
  have hs:size (w.length+1)=Y_:=by simp[size];omega
  simp[o2,a0C,hs]
 simp only[nsB,evSs,evS,evF,e3];simp[SO.of,setSlot,aF]
theorem Eb(o:Orc)(c:Int)(e f:Option Slot):∀(l:List Nat)(w:List Nat)(d:Option Slot),(∀k∈l,k<1000)->w.length+l.length<=100->∃w' d',w'.length=w.length+l.length /\
 bR (evSs o nsB) [3] Zd (l.map λ(k:Nat)=>a0p (k:Int)) [some (.sh,.int c),some (.sh,.str L23),some (.sh,.str w),d,e,f]=.nx [some (.sh,.int c),some (.sh,.str L23),some (.sh,.str w'),d',e,f]
 | [],w,d,_,_=>⟨w,d,by simp,rfl⟩
 | k::l,w,d,h,hl=>by
   simp only[RK]at hl;have hb:=FZ o c w k (h k Ru) (by omega) e f;generalize hw2:w++[sg33 (((c.fmod 1000000000+(k:Int))*(k+7)*48271).fmod 65521)]=w2 at hb
   have hw2l:w2.length=w.length+1:=by rw[<-hw2];simp
   obtain⟨w',d',h1,h2⟩:=Eb o c e f l w2 (Z_ (.sh,.int (k:Int))) (λx hx=>h x (Rt _ hx)) (by omega);refine⟨w',d',by simp only[RK];omega,?_⟩;simp only[Ro,bR,takes,Rv,if_false,aH];rw[show setSlot [some (.sh,.int c),some (.sh,.str L23),some (.sh,.str w),d,e,f] 3 Zd (.int (k:Int))=Z_ [some (.sh,.int c),some (.sh,.str L23),some (.sh,.str w),some (.sh,.int (k:Int)),e,f]from by simp[setSlot]];simp only[Sh];rw[hb];exact h2
def Hw:namesFd=⟨1,6,(a0s (a0y 1 (a0o (a0A L23))) (a0s (a0y 2 (a0x (a0n 1) (a0q .mod (a0q .fdiv (a0n 0) (a0o (a0p 2))) (a0o (a0p 23))))) (a0s (a0O [3] Zd (a0Q (a0o (a0p 6))) nsB)
 (a0s (a0H (a0q .eq (a0q .mod (a0n 0) (a0o (a0p 2))) (a0o (a0p 1))) (a0s (a0y 4 (a0q .mod (a0q .fdiv (a0n 0) (a0o (a0p 46))) (a0o (a0p 4)))) (a0s (a0B (a0G [4,2] 1 Zd (a0Q (a0o (a0p 4))) (a0o (a0I Y_)) (a0K (a0n 2) (a0o a0M) (a0q .add (a0q .add (a0n 1) (a0n 0)) (a0o (a0p 1)))))) a0v)) a0v)
 (a0s (a0y 2 (a0K (a0n 2) (a0o a0M) (a0q .mod (a0q .fdiv (a0n 0) (a0o (a0p 46))) (a0o (a0p 8))))) (a0s (a0y 5 (a0q .mod (a0q .fdiv (a0n 0) (a0o (a0p 368))) (a0q .add (a0D .len (a0n 2)) (a0o (a0p 1)))))
 (a0s (a0B (a0G [5,0,1,2] 1 Zd (a0Q (a0o (a0p 4))) (a0o (a0I Y_)) (a0q .add (a0q .add (a0K (a0n 4) (a0o a0M) (a0n 1)) (a0x (a0n 3) (a0q .mod (a0q .add (a0q .fdiv (a0n 2) (a0o (a0p 3312))) (a0q .mul (a0o (a0p 5)) (a0n 0))) (a0o (a0p 23))))) (a0K (a0n 4) (a0n 1) (a0o a0M))))) a0v)))))))⟩:=rfl
def NmOk(N:List (List Nat)):Prop:=N.length=4/\N.Nodup/\∀x∈N,1<=x.length/\x.length<=8
theorem Ly(o:Orc)(c:Int)(w:List Nat)(hw:w.length=7)(hc:c.fmod 2=1)(d f:Option Slot):∃N,NmOk N/\∃δ,evS o (a0H (a0q .eq (a0q .mod (a0n 0) (a0o (a0p 2))) (a0o (a0p 1))) (a0s (a0y 4 (a0q .mod (a0q .fdiv (a0n 0) (a0o (a0p 46))) (a0o (a0p 4)))) (a0s (a0B (a0G [4,2] 1 Zd (a0Q (a0o (a0p 4))) (a0o (a0I Y_)) (a0K (a0n 2) (a0o a0M) (a0q .add (a0q .add (a0n 1) (a0n 0)) (a0o (a0p 1)))))) a0v)) a0v) [some (.sh,.int c),some (.sh,.str L23),some (.sh,.str w),d,none,f]=.rt Y_ (.lst (N.map .str)) δ:=by
 have r4:=aB (c.fdiv 46) 4 (by decide)
 obtain⟨j,hj,hs⟩:∃j:Nat,j<4/\(c.fdiv 46).fmod 4=(j:Int):=⟨((c.fdiv 46).fmod 4).toNat,by omega,by omega⟩
 have ln:∀k,k<4->(w.take (j+k+1)).length=j+k+1:=λk hk=>by rw[Vp,hw];omega
 have dif:∀a b,a<b->b<4->w.take (j+a+1)≠w.take (j+b+1):=λa b h1 h2 e=>by
  have:=congrArg VM e;rw[ln a (VR h1 h2),ln b h2]at this;omega
 have hl:∀k,k<4->1<=(w.take (j+k+1)).length/\(w.take (j+k+1)).length<=8:=λk hk=>by rw[ln k hk];omega
 refine⟨[0,1,2,3].map λk=>w.take (j+k+1),⟨rfl,?_,?_⟩,[some (.sh,.int c),some (.sh,.str L23),some (.sh,.str w),d,some (.sh,.int j),f],?_⟩
 .simp only[Ro,Ti,Tg,Rp,Sd,or_false,not_or,not_false_eq_true,Xe,and_true]
  exact⟨⟨dif 0 1 (by decide) (by decide),dif 0 2 (by decide) (by decide),dif 0 3 (by decide) (by decide)⟩,⟨dif 1 2 (by decide) (by decide),dif 1 3 (by decide) (by decide)⟩,dif 2 3 (by decide) (by decide)⟩
 .intro x hx
  obtain⟨k,hk,rfl⟩:=Sw.mp hx;exact hl k ((by decide:∀k∈[0,1,2,3],k<4) k hk)
 .have e1:ev o [some (.sh,.int c),some (.sh,.str L23),some (.sh,.str w),d,none,f] Y_ (a0q .mod (a0n 0) (a0o (a0p 2)))=.ok (Zd,.int 1):=by rw[<-hc];exact oh c 2 (by decide)
  have e2:ev o [some (.sh,.int c),some (.sh,.str L23),some (.sh,.str w),d,none,f] Zd (a0q .mod (a0q .fdiv (a0n 0) (a0o (a0p 46))) (a0o (a0p 4)))=.ok (Zd,.int j):=by
   rw[<-hs];simp only[ev,X8,a0u,o2];rw[show arith .fdiv c 46=_ from jK c 46 (by decide) (by decide)];exact oh _ 4 (by decide)
  have hcg:aR (λx=>ev o ((x++[a0p j,a0A w]).map λd=>some (Own.sh,d)) Zd (a0K (a0n 2) (a0o a0M) (a0q .add (a0q .add (a0n 1) (a0n 0)) (a0o (a0p 1))))) (λx=>ev o ((x++[a0p j,a0A w]).map λd=>some (Own.sh,d)) Y_ (a0o (a0I Y_))) 1 Zd ([0,1,2,3].map λ(k:Nat)=>a0p (k:Int))=.ok ([0,1,2,3].map λk=>.str (w.take (j+k+1))) :=
   dM (λ_ _=>rfl) λk _=>⟨false,(congrArg (λq=>a0w q) (rA w (j+k+1)):_)⟩
  have he:=jX o [some (.sh,.int c),some (.sh,.str L23),some (.sh,.str w),d,some (.sh,.int j),f] Zd (a0Q (a0o (a0p 4))) [4,2] [.int j,.str w] _ _ 1 Zd _ _ rfl rfl rfl (by show 4<=1000;decide) hcg;have s1:=b7 (i:=4) (δ':=[some (.sh,.int c),some (.sh,.str L23),some (.sh,.str w),d,some (.sh,.int j),f]) e2 rfl;rw[wQ (eqi e1)];simp only[evSs,s1,decide_true,if_true];simp only[evS,evF,he,SO.of]
  rfl
theorem Fe(q:Int)(a b:Nat)(ha:a<b)(hb:b<4):lt23 (q+5*(a:Int))≠lt23 (q+5*(b:Int)):=by
 have r1:=aB (q+5*(a:Int)) 23 (by omega);have r2:=aB (q+5*(b:Int)) 23 (by omega);intro e;unfold lt23 at e
 have hx:((q+5*(a:Int)).fmod 23).toNat<L23.length:=by rw[oY];omega
 have hy:((q+5*(b:Int)).fmod 23).toNat<L23.length:=by rw[oY];omega
 rw[Tv,Tv,RC hx,RC hy]at e;have:=(List.getElem_inj wK).mp (by simpa using e)
 have e2:(q+5*(a:Int)).fmod 23=(q+5*(b:Int)).fmod 23:=by omega
 have f1:=Int.emod_add_mul_ediv (q+5*(a:Int)) 23;have f2:=Int.emod_add_mul_ediv (q+5*(b:Int)) 23;rw[Int.fmod_eq_emod_of_nonneg _ (by omega),Int.fmod_eq_emod_of_nonneg _ (by omega)]at e2;omega
def Ox(h:x≠y):u++[x]++v≠u++[y]++v:=λe=>h (by simpa using e)
theorem J9(o:Orc)(c:Int)(w:List Nat)(hw:w.length<=7)(p:Int)(hp:0<=p/\p<=w.length)(d e:Option Slot):∃N,NmOk N/\ev o [some (.sh,.int c),some (.sh,.str L23),some (.sh,.str w),d,e,some (.sh,.int p)] Zd (a0G [5,0,1,2] 1 Zd (a0Q (a0o (a0p 4))) (a0o (a0I Y_)) (a0q .add (a0q .add (a0K (a0n 4) (a0o a0M) (a0n 1)) (a0x (a0n 3) (a0q .mod (a0q .add (a0q .fdiv (a0n 2) (a0o (a0p 3312))) (a0q .mul (a0o (a0p 5)) (a0n 0))) (a0o (a0p 23))))) (a0K (a0n 4) (a0n 1) (a0o a0M))))=.ok (Y_,.lst (N.map .str)):=by
 obtain⟨q,rfl⟩:∃q:Nat,p=(q:Int):=⟨p.toNat,by omega⟩
 have ne:∀a b:Nat,a<b->b<4->w.take q++[lt23 (c.fdiv 3312+5*(a:Int))]++w.drop q≠w.take q++[lt23 (c.fdiv 3312+5*(b:Int))]++w.drop q:=λa b h1 h2=>Ox (Fe _ a b h1 h2)
 have lt:(w.take q).length+(w.drop q).length=w.length:=by rw[<-RJ,Tz]
 have ln:∀k:Nat,(w.take q++[lt23 (c.fdiv 3312+5*(k:Int))]++w.drop q).length=w.length+1:=λk=>by
  rw[RJ,RJ,Uk];omega
 refine⟨[0,1,2,3].map λ(k:Nat)=>w.take q++[lt23 (c.fdiv 3312+5*(k:Int))]++w.drop q,⟨rfl,?_,?_⟩,?_⟩
 .simp only[Ro,Ti,Tg,Rp,Sd,or_false,not_or,not_false_eq_true,Xe,and_true]
  exact⟨⟨ne 0 1 (by decide) (by decide),ne 0 2 (by decide) (by decide),ne 0 3 (by decide) (by decide)⟩,⟨ne 1 2 (by decide) (by decide),ne 1 3 (by decide) (by decide)⟩,ne 2 3 (by decide) (by decide)⟩
 .intro x hx
  obtain⟨k,_,rfl⟩:=Sw.mp hx;rw[ln k];exact⟨Nat.le_add_left ..,Nat.succ_le_succ hw⟩
 .refine jX o _ Zd (a0Q (a0o (a0p 4))) [5,0,1,2] [.int (q:Int),.int c,.str L23,.str w] ([0,1,2,3].map λ(k:Nat)=>a0p (k:Int)) _ 1 Zd _ _ rfl rfl rfl (by show 4<=1000;decide) ?_
  rw[Sg]
  refine dM (λ_ _=>rfl) λk _=>⟨false,?_⟩
  have hm:o2 .mul (.int 5) (.int (k:Int))=.ok (Zd,.int (5*(k:Int))):=by simp only[o2,arith,mul5,a0C,if_true]
  have hf:o2 .fdiv (.int c) (.int 3312)=.ok (Zd,.int (c.fdiv 3312)):=jK c 3312 (by decide) (by decide)
  have eJ:ev o ([a0p (k:Int),a0p (q:Int),a0p c,a0A L23,a0A w].map λd=>some (Own.sh,d)) Y_ (a0q .mod (a0q .add (a0q .fdiv (a0n 2) (a0o (a0p 3312))) (a0q .mul (a0o (a0p 5)) (a0n 0))) (a0o (a0p 23)))=.ok (Zd,.int ((c.fdiv 3312+5*(k:Int)).fmod 23)) :=
   (aG (w1:=Zd) (w2:=Zd) (x:=.int (c.fdiv 3312+5*(k:Int))) (y:=.int 23) ((aG (w1:=Zd) (w2:=Zd) (x:=.int (c.fdiv 3312)) (y:=.int (5*(k:Int))) ((aG (w1:=Zd) (w2:=Zd) (x:=.int c) (y:=.int 3312) rfl rfl).trans hf) ((aG (w1:=Zd) (w2:=Zd) (x:=.int 5) (y:=.int (k:Int)) rfl rfl).trans hm)).trans rfl) rfl).trans (oh _ 23 (by decide))
  have eI:ev o ([a0p (k:Int),a0p (q:Int),a0p c,a0A L23,a0A w].map λd=>some (Own.sh,d)) Y_ (a0x (a0n 3) (a0q .mod (a0q .add (a0q .fdiv (a0n 2) (a0o (a0p 3312))) (a0q .mul (a0o (a0p 5)) (a0n 0))) (a0o (a0p 23))))=.ok (Zd,.str [lt23 (c.fdiv 3312+5*(k:Int))]) :=
   (congrArg (λr:R (Bool×D)=>r.bind λy=>idxD (.str L23) y.2) eJ).trans (Cy _)
  have eA:ev o ([a0p (k:Int),a0p (q:Int),a0p c,a0A L23,a0A w].map λd=>some (Own.sh,d)) Y_ (a0K (a0n 4) (a0o a0M) (a0n 1))=.ok (Zd,.str (w.take q)):=congrArg a0w (rA w q);have eB:ev o ([a0p (k:Int),a0p (q:Int),a0p c,a0A L23,a0A w].map λd=>some (Own.sh,d)) Y_ (a0K (a0n 4) (a0n 1) (a0o a0M))=.ok (Zd,.str (w.drop q)):=congrArg a0w (Ab w q);exact(aG ((aG eA eI).trans (vW (by rw[Uk];omega))) eB).trans (vW (by rw[RJ,Uk];omega))
theorem uH(o:Orc)(c:Int):∃N,NmOk N/\bc o namesFd [.int c]=.ok (Y_,.lst (N.map .str)):=by
 rw[Hw]
 have l2:Yn 2<9000:=by decide
 have l46:Yn 46<9000:=by decide
 have l368:Yn 368<9000:=by decide
 have i23:=Cy (c.fdiv 2);generalize hq:[lt23 (c.fdiv 2)]=q at i23
 have hql:q.length=1:=by rw[<-hq];rfl
 obtain⟨w,d',hw,hf⟩:=Eb o c none none [0,1,2,3,4,5] q none (by simp) (by simp[hql])
 have hw7:w.length=7:=by rw[hw,hql];rfl
 have s0:evS o (a0y 1 (a0o (a0A L23))) [some (.sh,.int c),none,none,none,none,none]=.nx [some (.sh,.int c),some (.sh,.str L23),none,none,none,none]:=rfl
 have s1:evS o (a0y 2 (a0x (a0n 1) (a0q .mod (a0q .fdiv (a0n 0) (a0o (a0p 2))) (a0o (a0p 23))))) [some (.sh,.int c),some (.sh,.str L23),none,none,none,none]=.nx [some (.sh,.int c),some (.sh,.str L23),some (.sh,.str q),none,none,none]:=by
  simp[evS,evF,ev,a0u,o2,arith,a0C,l2,i23,SO.of,setSlot,aF]
 have s2:evS o (a0O [3] Zd (a0Q (a0o (a0p 6))) nsB) [some (.sh,.int c),some (.sh,.str L23),some (.sh,.str q),none,none,none]=.nx [some (.sh,.int c),some (.sh,.str L23),some (.sh,.str w),d',none,none]:=by
  rw[evS];simp only[bU];rw[show evI o [some (.sh,.int c),some (.sh,.str L23),some (.sh,.str q),none,none,none] Zd (a0Q (a0o (a0p 6)))=.ok ([0,1,2,3,4,5].map λ(k:Nat)=>a0p (k:Int))from rfl];exact hf
 by_cases hc:c.fmod 2=1
 .obtain⟨N,hN,δ,h3⟩:=Ly o c w hw7 hc d' none
  refine⟨N,hN,aq rfl (δ0:=[some (.sh,.int c),none,none,none,none,none]) rfl ?_⟩;exact stp _ s0 (stp _ s1 (stp _ s2 (stpR h3)))
 .have r8:=aB (c.fdiv 46) 8 (by omega)
  generalize hj:(c.fdiv 46).fmod 8=j at r8
  have cj:clip w.length j=min j.toNat 7:=by unfold clip;rw[if_pos r8.1,hw7]
  generalize hw2:w.take (min j.toNat 7)=w2
  have hl2:w2.length<=7:=by rw[<-hw2];simp;omega
  have rp:=aB (c.fdiv 368) (w2.length+1) (by omega);generalize hp:(c.fdiv 368).fmod (w2.length+1)=p at rp;obtain⟨N,hN,h6⟩:=J9 o c w2 hl2 p ⟨rp.1,by omega⟩ d' none;refine⟨N,hN,aq rfl (δ0:=[some (.sh,.int c),none,none,none,none,none]) rfl ?_⟩;refine stp _ s0 (stp _ s1 (stp _ s2 (stp [some (.sh,.int c),some (.sh,.str L23),some (.sh,.str w),d',none,none] ?_ (stp [some (.sh,.int c),some (.sh,.str L23),some (.sh,.str w2),d',none,none] ?_ (stp [some (.sh,.int c),some (.sh,.str L23),some (.sh,.str w2),d',none,some (.sh,.int p)] ?_ (stpR (δ':=[some (.sh,.int c),some (.sh,.str L23),some (.sh,.str w2),d',none,some (.sh,.int p)]) ?_))))))
  .simp[evS,evSs,ev,a0u,o2,arith,a0C,eqA,eqS,a0w,truth,SO.of,hc]
  .simp[evS,evF,ev,a0u,o2,arith,a0C,l46,hj,bnd,slcD,cV,bQ,cut,cj,hw2,a0w,SO.of,setSlot,aF]
  .have nz:¬((w2.length:Int)+1=0):=by omega
   simp[evS,evF,ev,a0u,o2,arith,a0C,l368,b1D,nz,hp,SO.of,setSlot,aF]
  .simp only[evS,evF,h6,SO.of]
noncomputable def jl(c:Int):Int:=if c.fmod 3=0 then(c.fdiv 3).fmod 15-7 else(c.fdiv 3).fmod 2000000000000000000000000000000000000000000000000000000000001-1000000000000000000000000000000000000000000000000000000000000
def Bs(o:Orc)(c:Int):bc o numbFd [.int c]=.ok (Zd,.int (jl c)):=by
 unfold jl
 have l3:Yn 3<9000:=by decide
 by_cases h:c.fmod 3=0
 .rw[if_pos h]
  simp[bc,numbFd,evSs,evS,evF,ev,a0u,o2,arith,a0C,eqA,eqS,a0w,truth,SO.of,h,l3]
 .rw[if_neg h]
  have p60:arith .pow 10 60=.ok (Zd,.int 1000000000000000000000000000000000000000000000000000000000000):=by rfl
  have mu:arith .mul 2 1000000000000000000000000000000000000000000000000000000000000=.ok (Zd,.int 2000000000000000000000000000000000000000000000000000000000000):=by rfl
  have ad:arith .add 2000000000000000000000000000000000000000000000000000000000000 1=.ok (Zd,.int 2000000000000000000000000000000000000000000000000000000000001):=by rfl
  have md:∀x,arith .mod x 2000000000000000000000000000000000000000000000000000000000001=.ok (Zd,.int (x.fmod 2000000000000000000000000000000000000000000000000000000000001)):=λx=>by simp[arith,a0C]
  have sb:∀x y,arith .sub x y=.ok (Zd,.int (x-y)):=λx y=>rfl
  have d3:arith .fdiv c 3=.ok (Zd,.int (c.fdiv 3)):=by simp[arith,a0C,l3]
  have m3:arith .mod c 3=.ok (Zd,.int (c.fmod 3)):=by simp[arith,a0C]
  generalize (2000000000000000000000000000000000000000000000000000000000001:Int)=A at *;generalize (2000000000000000000000000000000000000000000000000000000000000:Int)=A' at *;generalize (1000000000000000000000000000000000000000000000000000000000000:Int)=B at *;simp[bc,numbFd,evSs,evS,evF,ev,a0u,o2,p60,mu,ad,md,sb,d3,m3,eqA,eqS,a0w,truth,SO.of,h]
def Bq(x:Int):Prop:=x.natAbs<2 ^ 1000
theorem uP(h:Bq x):bits x<=1000:=by
 unfold bits;split
 .omega
 .rename_i hb
  have:x.natAbs.log2<1000:=(Wx (by omega)).mpr h;omega
theorem Jt(hx:Bq x)(hy:Bq y):cC x y=Y_:=by
 have h1:=uP hx;have h2:=uP hy;unfold cC;simp only[X4,decide_eq_true_eq];omega
set_option exponentiation.threshold 400 in
def Mx(h:x.natAbs<=2 ^ 300):Bq x:=TX h (XF (by omega) (by omega))
set_option exponentiation.threshold 400 in
theorem BV(c:Int):Bq (jl c):=by
 refine Mx ?_;unfold jl;have r1:=aB (c.fdiv 3) 15 (by omega);have r2:=aB (c.fdiv 3) 2000000000000000000000000000000000000000000000000000000000001 (by decide)
 have e:(2:Nat) ^ 300=2037035976334486086268445688409378161051468393665936250636140449354381299763336706183397376:=by decide +kernel
 rw[e];split<;>omega
theorem dG(m:List Pair)(n:List Nat)(h:n∉m.map (·.1)):dq (ksD m) (.s n)=ksD m++[.s n]/\∀v,putV (ksD m) (vsD m) (.s n) v=vsD m++[v]:=by
 induction m with
 | nil=>exact⟨rfl,λv=>rfl⟩
 | cons p m ih=>
   simp only[Ro,Rp,not_or]at h;obtain⟨i1,i2⟩:=ih h.2
   have ne:¬(a0P p.1=a0P n):=λe=>h.1 (by cases e;rfl)
   refine⟨?_,λv=>?_⟩
   .show(if a0P p.1=a0P n then _ else _)=_
    rw[if_neg ne];show a0P p.1::dq (ksD m) (.s n)=_;rw[i1];rfl
   .show(if a0P p.1=a0P n then _ else _)=_
    rw[if_neg ne];show a0p p.2::putV (ksD m) (vsD m) (.s n) v=_;rw[i2 v];rfl
def G9(m:List Pair)(n:List Nat)(v:Int)(h:n∉m.map (·.1))(hm:m.length<=100000):putItem (dctP m) (.str n) (.int v)=Z_ (dctP (m++[(n,v)])):=by
 obtain⟨h1,h2⟩:=dG m n h
 have hl:(ksD m).length<=100000:=by simpa[ksD]using hm
 show(if(ksD m).length<=100000 then some (D.dct (dq (ksD m) (.s n)) (putV (ksD m) (vsD m) (.s n) (.int v)))else none)=_;rw[if_pos hl,h1,h2];simp[dctP,ksD,vsD]
noncomputable def ptB(inumber icell_at:Nat):SL:=(a0s (S.seti 2 (a0n 4) (a0z inumber (a0r (a0z icell_at (a0r (a0n 0) (a0r (a0q .add (a0o (a0p 1)) (a0n 3)) a0t))) a0t))) a0v)
def Eo(inumber icell_at:Nat):pointFd inumber icell_at=⟨2,5,(a0s (a0y 2 (T.dnew [] a0t)) (a0s (a0O [3,4] Y_ (a0X (a0n 1)) (ptB inumber icell_at)) (a0s (a0B (a0n 2)) a0v)))⟩:=rfl
section
variable{o:Orc}{inum icell:Nat}{ns:List Int}(hc:∀k:Nat,o.fn icell [.lst (ns.map .int),.int (k:Int)]=.ok (Zd,.int (ns.getD k 0)))(hn:∀c,o.fn inum [.int c]=.ok (Zd,.int (jl c)))
include hc hn
theorem FQ(b:Option Slot)(m:List Pair)(i:Nat)(n:List Nat)(h:n∉m.map (·.1))(hm:m.length<=100000) :
 evSs o (ptB inum icell) [some (.sh,.lst (ns.map .int)),b,some (.ow,dctP m),some (.sh,.int (i:Int)),some (.sh,.str n)]=.nx [some (.sh,.lst (ns.map .int)),b,some (.ow,dctP (m++[(n,jl (ns.getD (1+i) 0))])),some (.sh,.int (i:Int)),some (.sh,.str n)]:=by
 have hp:=G9 m n (jl (ns.getD (1+i) 0)) h hm;have h1:=hc (1+i);rw[show((1+i:Nat):Int)=1+(i:Int)from by omega]at h1;generalize hL:a0T (ns.map .int)=L at *;have h2:=hn (ns.getD (1+i) 0);generalize ns.getD (1+i) 0=y at *;generalize jl y=v at *
 have e:ev o [some (.sh,L),b,some (.ow,dctP m),some (.sh,.int (i:Int)),some (.sh,.str n)] Zd (a0z inum (a0r (a0z icell (a0r (a0n 0) (a0r (a0q .add (a0o (a0p 1)) (a0n 3)) a0t))) a0t))=.ok (Zd,.int v):=by
  simp[ev,evL,a0u,o2,arith,bG,isOwn,h1,h2,lent]
 simp only[ptB,evSs,evS,evF,e,SO.of];simp[ev,SO.of,ownD,hp,aF]
theorem Dz(b:Option Slot):∀(l:List (List Nat))(i:Nat)(m:List Pair)(c d:Option Slot),(∀n∈l,n∉m.map (·.1))->l.Nodup->m.length+l.length<=1000->(∀p∈m,Bq p.2) ->
 ∃m' c' d',m'.map (·.1)=m.map (·.1)++l/\(∀p∈m',Bq p.2)/\bR (evSs o (ptB inum icell)) [3,4] Y_ (dU i (l.map .str)) [some (.sh,.lst (ns.map .int)),b,some (.ow,dctP m),c,d]=.nx [some (.sh,.lst (ns.map .int)),b,some (.ow,dctP m'),c',d']
 | [],i,m,c,d,_,_,_,hb=>⟨m,c,d,by simp,hb,rfl⟩
 | n::l,i,m,c,d,h,hnd,hl,hb=>by
   simp only[RK]at hl;have hn0:n∉m.map (·.1):=h n Ru;have hbd:=FQ hc hn b m i n hn0 (by omega);generalize BV (ns.getD (1+i) 0)=hvb at *;generalize jl (ns.getD (1+i) 0)=v at *
   obtain⟨m',c',d',e1,e2,e3⟩:=Dz b l (i+1) (m++[(n,v)]) (Z_ (.sh,.int (i:Int))) (Z_ (.sh,.str n)) (λx hx=>by
    simp only[U3,Ro,Ti,Tf,Sv,not_or];refine⟨h x (Rt _ hx),λe=>?_⟩;subst e
    exact(Tg.mp hnd).1 hx) (Tg.mp hnd).2 (by simp;omega) (λp hp=>by
     rcases Tf.mp hp with hp | hp
     .exact hb p hp
     .simp only[Sv]at hp;subst hp;exact hvb)
   refine⟨m',c',d',by rw[e1];simp,e2,?_⟩;simp only[Ro,dU,bR,takes,if_true,RK,V0];rw[show aH [some (.sh,.lst (ns.map .int)),b,some (.ow,dctP m),c,d] [3,4] [.int (i:Int),.str n]=Z_ [some (.sh,.lst (ns.map .int)),b,some (.ow,dctP m),some (.sh,.int (i:Int)),some (.sh,.str n)]from by simp[aH,setSlot]];simp only[hbd];exact e3
theorem wV(N:List (List Nat))(hN:NmOk N):∃m:List Pair,m.map (·.1)=N/\(∀p∈m,Bq p.2)/\bc o (pointFd inum icell) [.lst (ns.map .int),.lst (N.map .str)]=.ok (Y_,dctP m):=by
 obtain⟨m,c',d',e1,e2,e3⟩:=Dz hc hn (Z_ (.sh,.lst (N.map .str))) N 0 [] none none (by simp) hN.2.1 (by simp[hN.1]) (by simp);refine⟨m,by simpa using e1,e2,?_⟩;rw[Eo];refine aq rfl (δ0:=[some (.sh,.lst (ns.map .int)),some (.sh,.lst (N.map .str)),none,none,none]) rfl ?_;refine stp [some (.sh,.lst (ns.map .int)),some (.sh,.lst (N.map .str)),some (.ow,dctP []),none,none] ?_ (stp [some (.sh,.lst (ns.map .int)),some (.sh,.lst (N.map .str)),some (.ow,dctP m),c',d'] ?_ (stpR (δ':=[some (.sh,.lst (ns.map .int)),some (.sh,.lst (N.map .str)),some (.ow,dctP m),c',d']) ?_))
 .simp[evS,evF,ev,evL,a0u,a0C,SO.of,setSlot,aF,dctP,ksD,vsD]
 .rw[forE (δ1:=[some (.sh,.lst (ns.map .int)),some (.sh,.lst (N.map .str)),some (.ow,dctP []),none,none]) rfl]
  rw[show evI o [some (.sh,.lst (ns.map .int)),some (.sh,.lst (N.map .str)),some (.ow,dctP []),none,none] Zd (a0X (a0n 1))=.ok (dU 0 (N.map .str))from rfl];exact e3
 .rfl
end
noncomputable def lB(x key:Int):Int:=if x.fmod 5=1 then(key+1)*(1-2*(x.fdiv 5).fmod 2)else((x.fdiv 5).fmod 7-3)*(1+(x.fdiv 35).fmod 4)
theorem BZ(o:Orc)(x key:Int):bc o manyFd [.int x,.int key]=.ok (Zd,.int (lB x key)):=by
 unfold lB;have r2:=aB (x.fdiv 5) 2 (by decide);have r4:=aB (x.fdiv 35) 4 (by decide);have f5:o2 .fdiv (.int x) (.int 5)=.ok (Zd,.int (x.fdiv 5)):=jK x 5 (by decide) (by decide);have f35:o2 .fdiv (.int x) (.int 35)=.ok (Zd,.int (x.fdiv 35)):=jK x 35 (by decide) (by decide);have ec:ev o [some (.sh,.int x),some (.sh,.int key)] Y_ (a0q .eq (a0q .mod (a0n 0) (a0o (a0p 5))) (a0o (a0p 1)))=.ok (Zd,.bl (decide (x.fmod 5=1))):=eqi ((aG rfl rfl).trans (modE x 5 (by decide)))
 by_cases h:x.fmod 5=1
 .rw[if_pos h]
  exact aq rfl (δ0:=[some (.sh,.int x),some (.sh,.int key)]) rfl (stpR (ifR (ec.trans (by rw[decide_eq_true h])) (retR ((aG ((aG (ao rfl) au).trans rfl) ((aG au ((aG au ((aG ((aG (ao rfl) au).trans f5) au).trans (modE _ 2 (by decide)))).trans (mulE (jP (by omega))))).trans rfl)).trans (mulE (jP (by omega)))) rfl)))
 .rw[if_neg h]
  exact aq rfl (δ0:=[some (.sh,.int x),some (.sh,.int key)]) rfl (stp _ (ifN (ec.trans (by rw[decide_eq_false h]))) (stpR (retR ((aG ((aG ((aG ((aG (ao rfl) au).trans f5) au).trans (modE _ 7 (by decide))) au).trans rfl) ((aG au ((aG ((aG (ao rfl) au).trans f35) au).trans (modE _ 4 (by decide)))).trans rfl)).trans (mulE (jP (by omega)))) rfl)))
theorem yZ(x key:Int)(h0:0<=key):(lB x key).natAbs<=key.natAbs+100:=by
 unfold lB;split
 .have r2:=aB (x.fdiv 5) 2 (by decide)
  rw[Xi];exact RW (VB (Int.natAbs_add_le key 1) (show _<=1 by omega)) (by rw[Zh];exact Nat.add_le_add_left (by decide) _)
 .have r7:=aB (x.fdiv 5) 7 (by decide)
  have r4:=aB (x.fdiv 35) 4 (by decide);rw[Xi];exact RW (VB (show _<=3 by omega) (show _<=4 by omega)) (RW (by decide) (Nat.le_add_left 100 _))
def zA(o:Orc)(c:Int):∃v,bc o nearFd [.int c]=.ok (Zd,.int v):=by
 have l4:Yn 4<9000:=by decide
 by_cases h:c.fmod 4=3
 .have p20:arith .pow 10 20=.ok (Zd,.int 100000000000000000000):=by rfl
  have mu:arith .mul 2 100000000000000000000=.ok (Zd,.int 200000000000000000000):=by rfl
  have ad:arith .add 200000000000000000000 1=.ok (Zd,.int 200000000000000000001):=by rfl
  have md:∀x,arith .mod x 200000000000000000001=.ok (Zd,.int (x.fmod 200000000000000000001)):=λx=>by simp[arith,a0C]
  have sb:∀x y,arith .sub x y=.ok (Zd,.int (x-y)):=λx y=>rfl
  have d3:arith .fdiv c 4=.ok (Zd,.int (c.fdiv 4)):=by simp[arith,a0C,l4]
  have m3:arith .mod c 4=.ok (Zd,.int (c.fmod 4)):=by simp[arith,a0C]
  generalize (200000000000000000001:Int)=A at *;generalize (200000000000000000000:Int)=A' at *;generalize (100000000000000000000:Int)=B at *;exact⟨_,by simp[bc,nearFd,evSs,evS,evF,ev,a0u,o2,p20,mu,ad,md,sb,d3,m3,eqA,eqS,a0w,truth,SO.of,h];rfl⟩
 .exact⟨_,by simp[bc,nearFd,evSs,evS,evF,ev,a0u,o2,arith,a0C,eqA,eqS,a0w,truth,SO.of,h,l4];rfl⟩
structure PtOk(N:List (List Nat))(m:List Pair):Prop where
 keys:m.map (·.1)=N
 nd:N.Nodup
 le:N.length<=4
 bd:∀p∈m,Bq p.2
theorem PtOk.len(P:PtOk N m):m.length<=4:=by
 have:=congrArg VM P.keys;have h:=P.le;simp at this;omega
theorem eZ:∀(m:List Pair)(n:List Nat),n∈m.map (·.1)->∃v,(n,v)∈m/\look (ksD m) (vsD m) (.s n)=Z_ (.int v)
 | [],_,h=>by simp at h
 | p::m,n,h=>by
   by_cases e:p.1=n
   .exact⟨p.2,by subst e;simp,by simp[ksD,vsD,look,e]⟩
   .obtain⟨v,h1,h2⟩:=eZ m n (by simpa[Vr e]using h)
    exact⟨v,Rt _ h1,by simp only[ksD,vsD,Ro,look,a0P.injEq,e,if_false];exact h2⟩
def PtOk.get(P:PtOk N m)(h:n∈N):∃v,Bq v/\idxD (dctP m) (.str n)=.ok (Zd,.int v):=by
 obtain⟨v,h1,h2⟩:=eZ m n (by rw[P.keys];exact h);exact⟨v,P.bd _ h1,by simp[idxD,dctP,keyOf,h2,a0w]⟩
def PtOk.sorted(P:PtOk N m):b1D .sorted (dctP m)=.ok (Y_,.lst ((bF N).map .str)):=by
 rw[<-P.keys];exact pO m (by have:=P.len;omega)
def sm_x(h0:δ[0]?=Z_ (Z_ (.sh,.int cell)))(h2:δ[2]?=Z_ (Z_ (.sh,.int sp)))(h5:δ[5]?=Z_ (Z_ (.sh,.int (i:Int))))(spn:¬sp=0)(m0:cC 2 (i:Int)=Y_)(m1:cC (cell.fmod sp+(i:Int)) (2*(i:Int)+3)=Y_) :
 ev o δ Zd (a0q .mod (a0q .mul (a0q .mul (a0q .add (a0q .mod (a0n 0) (a0n 2)) (a0n 5)) (a0q .add (a0q .mul (a0o (a0p 2)) (a0n 5)) (a0o (a0p 3)))) (a0o (a0p 48271))) (a0o (a0p 1000003)))=.ok (Zd,.int (((cell.fmod sp+i)*(2*i+3)*48271).fmod 1000003)) :=
 (aG ((aG ((aG ((aG ((aG (ao h0) (ao h2)).trans (modE cell sp spn)) (ao h5)).trans rfl) ((aG ((aG au (ao h5)).trans (mulE m0)) au).trans rfl)).trans (mulE m1)) au).trans (mulE (jP (by decide)))) au).trans (modE _ 1000003 (by decide))
def sm_k(h0:δ[0]?=Z_ (Z_ (.sh,.int cell)))(h2:δ[2]?=Z_ (Z_ (.sh,.int sp)))(h7:δ[7]?=Z_ (Z_ (.sh,.int x)))(spn:¬sp=0)(hm:o.fn imany [.int x,.int (cell.fmod sp)]=.ok (Zd,.int y))(m3:cC 2 ((cell.fdiv 48).fmod 2)=Y_)(m4:cC y (1-2*(cell.fdiv 48).fmod 2)=Y_) :
 ev o δ Zd (a0q .mul (a0z imany (a0r (a0n 7) (a0r (a0q .mod (a0n 0) (a0n 2)) a0t))) (a0q .sub (a0o (a0p 1)) (a0q .mul (a0o (a0p 2)) (a0q .mod (a0q .fdiv (a0n 0) (a0o (a0p 48))) (a0o (a0p 2))))))=.ok (Zd,.int (y*(1-2*(cell.fdiv 48).fmod 2))):=by
 have e1:ev o δ Y_ (a0z imany (a0r (a0n 7) (a0r (a0q .mod (a0n 0) (a0n 2)) a0t)))=.ok (Zd,.int y):=by
  have e7:bG δ (a0n 7)=Zd:=by simp only[bG,isOwn,h7]
  have em:ev o δ Zd (a0q .mod (a0n 0) (a0n 2))=.ok (Zd,.int (cell.fmod sp)):=(aG (ao h0) (ao h2)).trans (modE cell sp spn);have e8:bG δ (a0q .mod (a0n 0) (a0n 2))=Zd:=rfl;rw[ev];simp only[evL,e7,e8,ao h7,em,a0u,WX,hm,lent,Rv,if_false]
 exact(aG e1 ((aG au ((aG au ((aG ((aG (ao h0) au).trans (Pb cell)) au).trans (modE _ 2 (by decide)))).trans (mulE m3))).trans rfl)).trans (mulE m4)
noncomputable def smB(imany:Nat):SL:=(a0s (a0y 7 (a0q .mod (a0q .mul (a0q .mul (a0q .add (a0q .mod (a0n 0) (a0n 2)) (a0n 5)) (a0q .add (a0q .mul (a0o (a0p 2)) (a0n 5)) (a0o (a0p 3)))) (a0o (a0p 48271))) (a0o (a0p 1000003)))) (a0s (a0y 8 (a0q .mul (a0z imany (a0r (a0n 7) (a0r (a0q .mod (a0n 0) (a0n 2)) a0t))) (a0q .sub (a0o (a0p 1)) (a0q .mul (a0o (a0p 2)) (a0q .mod (a0q .fdiv (a0n 0) (a0o (a0p 48))) (a0o (a0p 2))))))) (a0s (a0H (a0q .ne (a0n 8) (a0o (a0p 0))) (a0s (a0Z 3 (a0E (a0r (a0n 6) (a0r (a0n 8) a0t)))) (a0s (a0y 4 (a0q .sub (a0n 4) (a0q .mul (a0n 8) (a0x (a0n 1) (a0n 6))))) a0v)) a0v) a0v)))
def Gn(inear imany:Nat):lsumFd inear imany=⟨3,9,(a0s (a0y 3 (a0J a0t)) (a0s (a0y 4 (a0z inear (a0r (a0q .fdiv (a0n 0) (a0o (a0p 16))) a0t))) (a0s (a0O [5,6] Y_ (a0X (a0D .sorted (a0n 1))) (smB imany)) (a0s (a0B (a0E (a0r (a0n 4) (a0r (a0D .tuple (a0n 3)) a0t)))) a0v))))⟩:=rfl
set_option exponentiation.threshold 400 in
noncomputable abbrev st4(cell:Int)(M:D)(sp:Int)(a:Option Slot):Dst:=[some (.sh,.int cell),some (.sh,M),some (.sh,.int sp),a]
def sZ(a b:List Nat):o2 .eq (.str a) (.str b)=.ok (Zd,.bl (decide (a=b))):=rfl
def tH(a b:Int):o2 .add (.int a) (.int b)=.ok (Zd,.int (a+b)):=rfl
def dY(ha:ev o δ Y_ a=.ok (w1,x))(hi:ev o δ Y_ i=.ok (w2,y)):ev o δ lk (a0x a i)=idxD x y:=by simp only[ev,ha,hi,a0u]
def ifF(h:ev o δ Y_ c=.ok (w,.bl b))(hb:b=Zd):evS o (.ifs c x .nil) δ=.nx δ:=by subst hb;exact ifN h
def ifT(h:ev o δ Y_ c=.ok (w,.bl b))(hb:b=Y_)(k:evS o s δ=.rt w' d δ'):evS o (.ifs c (.cons s l) y) δ=.rt w' d δ':=by subst hb;exact ifR h k
def PJ(ha:ev o δ Y_ a=.ok (w,.bl Y_)):ev o δ lk (a0W a b)=.ok (Zd,.bl Y_):=by simp only[ev,ha,a0u]
def Qd(ha:ev o δ Y_ a=.ok (w,.bl Zd))(hb:ev o δ Y_ b=.ok (w',.bl c)):ev o δ lk (a0W a b)=.ok (Zd,.bl c):=by simp only[ev,ha,hb,a0u,bV]
def vM(ha:ev o δ Y_ a=.ok (w,.bl c))(hb:ev o δ Y_ b=.ok (w',.bl c')):ev o δ lk (a0W a b)=.ok (Zd,.bl (c||c')):=by
 cases c
 .exact Qd ha hb
 .exact PJ ha
def mK(a b:Int)(h:b≠0):o2 .mod (.int a) (.int b)=.ok (Zd,.int (a.fmod b)):=by simp only[o2,arith,decide_eq_true h,a0C,if_true]
def eF(a b:Int)(h:(decide (b≠0)&&decide (b.natAbs.log2<9000))=Y_):o2 .fdiv (.int a) (.int b)=.ok (Zd,.int (a.fdiv b)):=by simp only[o2,arith,h,a0C,if_true]
def dX(h:δ[i]?=Z_ (Z_ (.ow,d))):ev o δ Y_ (a0n i)=.ok (Zd,d):=by simp only[ev,h,if_true]
theorem Gr(h0:0<=k)(h:l[k.toNat]?=Z_ d):idxD (.lst l) (.int k)=.ok (Zd,d):=by
 have hk:=(Sq.mp h).1
 have h1:k<l.length:=by omega
 simp only[idxD,place,h0,h1,if_true,Sh,h,Te,a0w]
section
variable{o:Orc}{δ:Dst}{lk:Bool}
def j9(hk:bG δ t=Y_)(h:ev o δ Y_ t=.ok (w,x))(hl:evL o δ l=.ok (b,xs)):evL o δ (.cons t l)=.ok (Y_,x::xs):=by
 simp only[evL,hk,h,hl,a0u,Z8]
def Gi(hk:bG δ t=Zd)(h:ev o δ Zd t=.ok (w,x))(hl:evL o δ l=.ok (b,xs)):evL o δ (.cons t l)=.ok (b,x::xs):=by
 simp only[evL,hk,h,hl,a0u,YZ]
def gK(hl:evL o δ l=.ok (Y_,xs))(h:o.fn f xs=.ok (w,x))(hi:x.imm=Y_):ev o δ lk (a0z f l)=.ok (w,x):=by
 simp only[ev,hl,a0u,h,lent,if_true,hi]
def gC(h:ev o δ Y_ a=.ok (w,.bl b)):ev o δ lk (a0U a)=.ok (Zd,.bl !b):=by simp only[ev,h,a0u,truth,a0w]
def cB(it:TI)(l r:List D)(c e:T)(hI:evI o δ Y_ it=.ok l)(hr:r.length<=100000)
 (hc:aR (λx=>ev o ((x++[]).map λd=>some (Own.sh,d)) Zd e) (λx=>ev o ((x++[]).map λd=>some (Own.sh,d)) Y_ c) 1 Zd l=.ok r):ev o δ lk (a0G [] 1 Zd it c e)=.ok (Y_,.lst r):=by
 have h2:cQ δ []=Z_ []:=rfl;rw[ev,hI,h2];simp only[a0u,a0w];rw[hc]
 have hz:size r.length=Y_:=by simp[size];omega
 simp only[hz,a0C];simp
end
def neg1:ev o δ lk (a0L (a0o (a0p 1)))=.ok (Zd,.int (-1)):=by simp only[ev,a0u]
inductive Stt where
 | least (c:Int) (l:List Pair)
 | rest (m c:Int) (l:List Pair)
 | nt (s:Stt)
 | grp (w:Bool) (ss:List Stt)
 | trn (w:Bool) (x:List Nat) (s:Stt)
noncomputable def lW:List Nat:=[108,101,97,115,116]
noncomputable def tW:List Nat:=[114,101,115,116]
noncomputable def sNot:List Nat:=[110,111,116]
noncomputable def sAnd:List Nat:=[97,110,100]
noncomputable def sOr:List Nat:=[111,114]
noncomputable def FJ:List Nat:=[115,111,109,101]
noncomputable def sAll:List Nat:=[97,108,108]
noncomputable def gw(w:Bool):List Nat:=if w then sOr else sAnd
noncomputable def tww(w:Bool):List Nat:=if w then sAll else FJ
noncomputable abbrev smT(c:Int)(l:List Pair):D:=.tup [.int c,.tup (l.map prD)]
mutual
noncomputable def toD:Stt->D
 | .least c l=>.tup [.str lW,smT c l]
 | .rest m c l=>.tup [.str tW,.int m,smT c l]
 | .nt s=>.tup [.str sNot,toD s]
 | .grp w ss=>.tup [.str (gw w),.tup (toDs ss)]
 | .trn w x s=>.tup [.str (tww w),.str x,toD s]
noncomputable def toDs:List Stt->List D
 | []=>[]
 | s::ss=>toD s::toDs ss
end
theorem cM:∀ss:List Stt,toDs ss=ss.map toD
 | []=>by rw[toDs];rfl
 | s::ss=>by rw[toDs,cM ss];rfl
def Lw(l:List Pair):Prop:=l.length<=1000/\∀p∈l,Bd p.2
noncomputable def wf:Nat->Stt->Prop
 | _,.least _ l=>Lw l
 | _,.rest _ _ l=>Lw l
 | n+1,.nt s=>wf n s
 | n+1,.grp _ ss=>ss.length<=100/\∀s∈ss,wf n s
 | n+1,.trn _ _ s=>wf n s
 | 0,_=>False
theorem dz:∀{n m:Nat}{s:Stt},wf n s->n<=m->wf m s:=by
 intro n
 induction n with
 | zero=>
   intro m s h _;cases s<;>simp only[wf]at h
   all_goals(cases m<;>exact h)
 | succ n ih=>
   intro m s h hm
   obtain⟨m,rfl⟩:∃k,m=k+1:=⟨m-1,by omega⟩
   cases s with
   | least c l=>exact h
   | rest a c l=>exact h
   | nt s=>simp only[wf]at h ⊢;exact ih h (by omega)
   | grp w ss=>simp only[wf]at h ⊢;exact⟨h.1,λs hs=>ih (h.2 s hs) (by omega)⟩
   | trn w x s=>simp only[wf]at h ⊢;exact ih h (by omega)
mutual
noncomputable def sz:Stt->Nat
 | .least _ _=>1
 | .rest _ _ _=>1
 | .nt s=>sz s+1
 | .grp _ ss=>szs ss+1
 | .trn _ _ s=>sz s+1
noncomputable def szs:List Stt->Nat
 | []=>0
 | s::ss=>sz s+szs ss
end
theorem jM(a b:List Stt):szs (a++b)=szs a+szs b:=by
 induction a with
 | nil=>simp[szs]
 | cons x a ih=>simp only[Xr,szs,ih];omega
def rR{o:Orc}{δ:Dst}{lk:Bool}{t:T}{w:Bool}{i:Int}{x y:List Nat}{b:Bool}(h:ev o δ Y_ t=.ok (w,.int i))(hi:i=if b then 1 else 0):ev o δ lk (a0x (a0J (a0r (a0o (a0A x)) (a0r (a0o (a0A y)) a0t))) t)=.ok (Zd,.str (if b then y else x)):=by
 subst hi;refine(dY (cN (xs:=[.str x,.str y]) (aj rfl au (aj rfl au rfl)) rfl) h).trans ?_;cases b<;>rfl
section
variable{o:Orc}{δ δ':Dst}{lk:Bool}
def cz(ha:ev o δ Y_ a=.ok (w1,x))(hb:ev o δ Y_ b=.ok (w2,y))(h:o2 p x y=r):ev o δ lk (a0q p a b)=r:=(aG ha hb).trans h
def e_b1(ha:ev o δ Y_ a=.ok (w,x))(h:b1D b x=r):ev o δ lk (a0D b a)=r:=(sY ha).trans h
def dW(ha:ev o δ Y_ a=.ok (w1,x))(hb:ev o δ Y_ b=.ok (w2,y))(h:idxD x y=r):ev o δ lk (a0x a b)=r:=(dY ha hb).trans h
def kZ:evL o δ a0t=.ok (Zd,[]):=rfl
def Dq(h:δ[i]?=Z_ (Z_ (.sh,d))):evS o (.ret (.var i)) δ=.rt Zd d δ:=by simp only[evS,h]
def CV(h:δ[i]?=Z_ (Z_ (.ow,d))):evS o (.ret (.var i)) δ=.rt Y_ d δ:=by simp only[evS,h]
def bC(h:ev o δ lk t=.ok (w,x))(hi:gk x=Z_ l):evI o δ lk (.val t)=.ok l:=by simp only[evI,h,a0u,hi,a0w]
def fors(hs:bU δ it=δ)(hi:evI o δ Zd it=.ok l)(h:bR (evSs o b) tg tp l δ=.nx δ'):evS o (.for_ tg tp it b) δ=.nx δ':=by
 rw[forE hs,hi];exact h
def R8(hs:bU δ it=δ1)(hi:evI o δ1 Zd it=.ok l)(h:bR (evSs o b) tg tp l δ1=.nx δ'):evS o (.for_ tg tp it b) δ=.nx δ':=by
 rw[forE hs,hi];exact h
theorem one(h:evS o s δ=.nx r):evSs o (.cons s .nil) δ=.nx r:=by rw[dj h];rfl
def fM(ht:takes tg.length tp d=Z_ ds)(hs:aH δ tg ds=Z_ δ1)(hb:f δ1=.nx δ2)(k:bR f tg tp l δ2=r):bR f tg tp (d::l) δ=r:=by
 simp only[bR,ht,hs,hb,k]
end
def wX(a b:Int):o2 .sub (.int a) (.int b)=.ok (Zd,.int (a-b)):=rfl
def Ni(h:(decide (0<=b)&&decide (b<=64)&&decide (a.natAbs<18446744073709551616))=Y_)(hc:a ^ b.toNat=c):o2 .pow (.int a) (.int b)=.ok (Zd,.int c):=by simp only[o2,arith,h,a0C,if_true,hc]
theorem aQ(h:l[i.toNat]?=Z_ d)(h0:decide (0<=i)=Y_):idxD (.tup l) (.int i)=.ok (Zd,d):=by
 have hk:=(Sq.mp h).1;have h0:=of_decide_eq_true h0
 have h1:i<l.length:=by omega
 simp only[idxD,place,h0,h1,if_true,Sh,h,Te,a0w]
def iu(l:List D):b1D .len (.lst l)=.ok (Zd,.int l.length):=rfl
def QX(i:Int):b1D .abs (.int i)=.ok (Zd,.int (if i<0 then -i else i)):=rfl
end KG
namespace KU
open Z KG
noncomputable def stk(l:List (D×Nat)):List D:=l.map λq=>.tup [q.1,.int (q.2:Int)]
def IW(l:List (D×Nat)):(stk l).length=l.length:=by simp[stk]
theorem qd:∀l:List (D×Nat),intsOf (l.map λq=>a0p (q.2:Int))=Z_ (l.map λq=>(q.2:Int))
 | []=>rfl
 | q::l=>by simp[intsOf,qd l]
theorem fold_max:∀(l:List Nat)(a:Nat),∃v:Nat,(l.map λ(q:Nat)=>(q:Int)).foldl (λm z=>if z>m then z else m) (a:Int)=(v:Int)/\a<=v/\∀q∈l,q<=v
 | [],a=>⟨a,rfl,Rx _,by simp⟩
 | q::l,a=>by
   simp only[Ro,Vv]
   by_cases h:(q:Int)>(a:Int)
   .rw[if_pos h]
    obtain⟨v,h1,h2,h3⟩:=fold_max l q;exact⟨v,h1,by omega,λx hx=>by rcases Rp.mp hx with rfl | hx;exact h2;exact h3 x hx⟩
   .rw[if_neg h]
    obtain⟨v,h1,h2,h3⟩:=fold_max l a;exact⟨v,h1,h2,λx hx=>by rcases Rp.mp hx with rfl | hx;omega;exact h3 x hx⟩
def zg(l:List (D×Nat)):∃v:Nat,b2D .maxd (.lst (l.map λq=>a0p (q.2:Int))) (.int 0)=.ok (Zd,.int (v:Int))/\∀q∈l,q.2<=v:=by
 cases l with
 | nil=>exact⟨0,rfl,by simp⟩
 | cons q l=>
   obtain⟨v,h1,h2,h3⟩:=fold_max (l.map (·.2)) q.2;refine⟨v,?_,λx hx=>by rcases Rp.mp hx with rfl | hx;exact h2;exact h3 _ (U0 hx)⟩;simp only[b2D];rw[qd];simp only[Te,a0w,Ro]
   have:(l.map λq=>(q.2:Int))=(l.map (·.2)).map λ(q:Nat)=>(q:Int):=by simp[Sg,V5]
   rw[this,h1]
def tu0(x y:D):idxD (.tup [x,y]) (.int 0)=.ok (Zd,x):=rfl
def tu1(x y:D):idxD (.tup [x,y]) (.int 1)=.ok (Zd,y):=rfl
noncomputable def vZ(o:Orc)(l:List (D×Nat)):aR (λx=>ev o ((x++[]).map λd=>some (Own.sh,d)) Zd (a0x (a0n 0) (a0o (a0p 1)))) (λx=>ev o ((x++[]).map λd=>some (Own.sh,d)) Y_ (a0o (a0I Y_))) 1 Zd (stk l)=.ok (l.map λq=>a0p (q.2:Int)):=by
 rw[KG.comp_map (g:=λd=>match d with | .tup [_,y]=>y | _=>.non)]
 .simp[stk,Sg,V5]
 .intro d _;simp[ev]
 .intro d hd
  obtain⟨q,_,rfl⟩:=Sw.mp hd;exact⟨false,by simp[ev,a0u,tu1]⟩
def wI(o:Orc)(l:List (D×Nat)):aR (λx=>ev o ((x++[]).map λd=>some (Own.sh,d)) Zd (a0x (a0n 0) (a0o (a0p 0)))) (λx=>ev o ((x++[]).map λd=>some (Own.sh,d)) Y_ (a0o (a0I Y_))) 1 Zd (stk l)=.ok (l.map (·.1)):=by
 rw[KG.comp_map (g:=λd=>match d with | .tup [x,_]=>x | _=>.non)]
 .simp[stk,Sg,V5]
 .intro d _;simp[ev]
 .intro d hd
  obtain⟨q,_,rfl⟩:=Sw.mp hd;exact⟨false,by simp[ev,a0u,tu0]⟩
def km(o:Orc)(δ:Dst)(lk:Bool)(i:Nat)(w:Own)(l r:List D)(e:T)(hi:δ[i]?=Z_ (Z_ (w,.lst l)))(hr:r.length<=1000)(hc:aR (λx=>ev o ((x++[]).map λd=>some (Own.sh,d)) Zd e) (λx=>ev o ((x++[]).map λd=>some (Own.sh,d)) Y_ (a0o (a0I Y_))) 1 Zd l=.ok r) :
 ev o δ lk (a0G [] 1 Zd (a0F (a0n i)) (a0o (a0I Y_)) e)=.ok (Y_,.lst r):=by
 rw[ev]
 have h1:evI o δ Y_ (a0F (a0n i))=.ok l:=by
  cases w<;>simp[evI,ev,hi,a0u,gk,a0w]
 rw[h1];simp only[cQ,a0u,a0w];rw[hc]
 have hs:size r.length=Y_:=by simp[size];omega
 simp[a0C,hs]
theorem Ao(l:List D)(t:Nat)(h:t<=l.length):slcD (.lst l) (Z_ (t:Int)) none=Z_ (Y_,.lst (l.drop t)):=by
 have:clip l.length (t:Int)=t:=by unfold clip;rw[if_pos (by omega)];omega
 simp[slcD,cV,bQ,cut,this]
def O6(l:List D)(t:Nat)(h:t<=l.length):slcD (.lst l) none (Z_ (t:Int))=Z_ (Y_,.lst (l.take t)):=by
 have:clip l.length (t:Int)=t:=by unfold clip;rw[if_pos (by omega)];omega
 simp[slcD,cV,bQ,cut,this]
noncomputable abbrev st6(w:List Nat)(S:D)(many:Int)(sp:D)(a b:Option Slot):Dst:=[some (.sh,.str w),some (.sh,S),some (.sh,.int many),some (.sh,sp),a,b]
theorem jh(x:List D)(d:D):idxD (.lst (x++[d])) (.int (-1))=.ok (Zd,d):=by
 simp[idxD,place,a0w];rw[if_pos (by omega)];simp;rw[show((-1:Int)+((x.length:Int)+1)).toNat=x.length by omega];simp
def nG(x:List D)(d:D):slcD (.lst (x++[d])) none (Z_ (-1))=Z_ (Y_,.lst x):=by
 have:clip (x++[d]).length (-1)=x.length:=by unfold clip;rw[if_neg (by omega)];simp;omega
 simp only[slcD,cV,bQ,this,cut,Ry,Prod.mk.injEq,true_and,a0T.injEq];simp
noncomputable def topB(l:List (D×Nat)):Bool:=match l.getLast? with
 | none=>false
 | some q=>decide (q.2<17)
noncomputable def inU:T:=(a0N (a0q .gt (a0D .len (a0n 0)) (a0o (a0p 0))) (a0q .lt (a0x (a0x (a0n 0) (a0L (a0o (a0p 1)))) (a0o (a0p 1))) (a0o (a0p 17))))
def sI(l:List (D×Nat))(q:D×Nat):stk (l++[q])=stk l++[.tup [q.1,.int (q.2:Int)]]:=by simp[stk]
theorem Q8(o:Orc)(l:List (D×Nat))(a b c d e:Option Slot):ev o [some (.sh,.lst (stk l)),a,b,c,d,e] Y_ inU=.ok (Zd,.bl (topB l)):=by
 rcases List.eq_nil_or_concat l with rfl | ⟨l0,q,rfl⟩
 .simp[inU,ev,a0u,b1D,o2,arith,stk,topB]
 .rw[List.concat_eq_append]
  have h1:0<((stk (l0++[q])).length:Int):=by rw[IW];simp
  have h2:idxD (.lst (stk (l0++[q]))) (.int (-1))=.ok (Zd,.tup [q.1,.int (q.2:Int)]):=by rw[sI];exact jh _ _
  have h3:topB (l0++[q])=decide ((q.2:Int)<17):=by
   simp[topB];omega
  rw[h3];generalize stk (l0++[q])=S at *
  have h1':0<S.length:=by omega
  simp[inU,ev,a0u,b1D,o2,arith,h1',h2,tu1,bV]
noncomputable def trB0(istep:Nat):SL:=(a0s (a0y 4 (a0z istep (a0r (a0n 4) (a0r (a0n 5) (a0r (a0n 1) (a0r (a0n 2) a0t)))))) a0v)
def Em(istep:Nat):treeFd istep=⟨4,6,(a0s (a0y 4 (a0J a0t)) (a0s (a0O [5] Zd (a0F (a0n 0)) (trB0 istep)) (a0s (a0H (a0q .eq (a0D .len (a0n 4)) (a0o (a0p 1))) (a0s (a0B (a0x (a0x (a0n 4) (a0o (a0p 0))) (a0o (a0p 0)))) a0v) a0v) (a0s (a0B (a0E (a0r (a0n 3) (a0r (a0D .tuple (a0G [] 1 Zd (a0F (a0n 4)) (a0o (a0I Y_)) (a0x (a0n 0) (a0o (a0p 0))))) a0t)))) a0v))))⟩:=rfl
theorem mD:∀l:List D,zipD l l=(l.map λx=>[x,x]).map .tup
 | []=>rfl
 | x::l=>by simp[zipD,mD l]
def mZ(o:Orc)(ix:Nat)(i:Int):bc o (samezFd ix) [.int i,.int i]=.ok (Zd,.bl Y_):=by
 simp[bc,samezFd,evSs,evS,evF,ev,a0u,isD,a0w,truth,SO.of,o2,eqA,eqS,bV]
def mJ(o:Orc)(ix:Nat)(i:List Nat):bc o (samezFd ix) [.str i,.str i]=.ok (Zd,.bl Y_):=by
 simp[bc,samezFd,evSs,evS,evF,ev,a0u,isD,a0w,truth,SO.of,o2,eqA,eqS,bV]
noncomputable def okZ:Nat->D->Prop
 | _,.int _=>True
 | _,.str _=>True
 | n+1,.tup l=>l.length<=1000/\∀d∈l,okZ n d
 | _,_=>False
def vg(o:Orc)(ix:Nat)(l:List D)(hl:l.length<=1000)(h:∀d∈l,o.fn ix [d,d]=.ok (Zd,.bl Y_)):bc o (samezFd ix) [.tup l,.tup l]=.ok (Zd,.bl Y_):=by
 have hcg:aR (λx=>ev o ((x++[]).map λd=>some (Own.sh,d)) Zd (a0z ix (a0r (a0n 0) (a0r (a0n 1) a0t)))) (λx=>ev o ((x++[]).map λd=>some (Own.sh,d)) Y_ (a0o (a0I Y_))) 2 Y_ (zipD l l)=.ok (Uc l.length (.bl Y_)):=by
  rw[mD,lE (g:=λd=>.bl Y_)]
  .rw[List.map_const'];simp
  .intro x hx
   obtain⟨d,_,rfl⟩:=Sw.mp hx
   rfl
  .intro x _
   simp[ev]
  .intro x hx
   obtain⟨d,hd,rfl⟩:=Sw.mp hx;exact⟨false,by simp[ev,evL,a0u,bG,isOwn,h d hd,lent]⟩
 have he:=jX o [some (.sh,.tup l),some (.sh,.tup l)] Y_ (TI.zip (a0n 0) (a0n 1)) [] [] _ _ 2 Y_ _ _ rfl rfl rfl (by simpa using hl) hcg;generalize hT:a0G [] 2 Y_ (TI.zip (a0n 0) (a0n 1)) (a0o (a0I Y_)) (a0z ix (a0r (a0n 0) (a0r (a0n 1) a0t)))=tt at he
 have hf:samezFd ix=⟨2,2,(a0s (a0H (a0R (a0n 1) .tup) (a0s (a0H (a0W (a0U (a0R (a0n 0) .tup)) (a0q .ne (a0D .len (a0n 0)) (a0D .len (a0n 1)))) (a0s (a0B (a0o (a0I Zd))) a0v) a0v) (a0s (a0B (a0D .all tt)) a0v)) a0v) (a0s (a0H (a0R (a0n 1) .str) (a0s (a0B (a0N (a0R (a0n 0) .str) (a0q .eq (a0n 0) (a0n 1)))) a0v) a0v) (a0s (a0B (a0N (a0R (a0n 0) .int) (a0N (a0U (a0R (a0n 0) .bool)) (a0q .eq (a0n 0) (a0n 1))))) a0v)))⟩:=by rw[<-hT];rfl
 rw[hf];simp[bc,evSs,evS,evF,ev,a0u,isD,a0w,truth,SO.of,o2,eqA,eqS,bV,b1D,he,gr]
theorem jH(P:Prg)(w ix:Nat)(hP:P.fns[ix]?=Z_ (samezFd ix)):∀(n:Nat)(d:D)(m:Nat),okZ n d->n<m->(orc P w m).fn ix [d,d]=.ok (Zd,.bl Y_):=by
 intro n
 induction n with
 | zero=>
   intro d m h hm
   obtain⟨m,rfl⟩:∃k,m=k+1:=⟨m-1,by omega⟩
   cases d<;>simp only[okZ]at h
   .rw[aL hP];exact mZ _ _ _
   .rw[aL hP];exact mJ _ _ _
 | succ n ih=>
   intro d m h hm
   obtain⟨m,rfl⟩:∃k,m=k+1:=⟨m-1,by omega⟩
   cases d<;>simp only[okZ]at h
   .rw[aL hP];exact mZ _ _ _
   .rw[aL hP];exact mJ _ _ _
   .rw[aL hP]
    exact vg _ _ _ h.1 λd hd=>ih d m (h.2 d hd) (by omega)
noncomputable def negL(L:List Pair):List Pair:=L.map λp=>(p.1,-p.2)
def qy(L:List Pair):(negL L).map (·.1)=L.map (·.1):=by simp[negL,Sg,V5]
theorem sS(L:List Pair)(h:L.length<64):(keysOf L).length<64:=by
 have:(keysOf L).length<=(L.map (·.1)).length:=iZ (gF L) λx hx=>(jq L x).mp hx
 simp at this;omega
def DY(x:Int):cC (-1) x=Y_:=by
 have:bits (-1)<=64:=by decide
 simp[cC,this]
noncomputable def Ae(o:Orc)(L:List Pair):aR (λx=>ev o ((x++[a0p (-1)]).map λd=>some (Own.sh,d)) Zd (a0E (a0r (a0n 0) (a0r (a0q .mul (a0n 2) (a0n 1)) a0t)))) (λx=>ev o ((x++[a0p (-1)]).map λd=>some (Own.sh,d)) Y_ (a0o (a0I Y_))) 2 Y_ (L.map prD)=.ok ((negL L).map prD):=by
 have e1:L.map prD=(L.map λp=>[a0A p.1,a0p p.2]).map .tup:=by simp[prD,Sg,V5]
 have e2:(negL L).map prD=(L.map λp=>[a0A p.1,a0p p.2]).map λx=>match x with | [.str n,.int k]=>prD (n,-k) | _=>.non:=by simp[negL,Sg,V5]
 rw[e1,e2];refine lE ?_ ?_ ?_
 .intro x hx
  obtain⟨p,_,rfl⟩:=Sw.mp hx
  rfl
 .intro x _;simp[ev]
 .intro x hx
  obtain⟨p,_,rfl⟩:=Sw.mp hx
  have z2:size 2=Y_:=by decide
  refine⟨false,?_⟩;simp[ev,evL,a0u,o2,arith,a0C,DY,bG,isOwn,z2,prD]
noncomputable def timesFd(isum:Nat):Fd:=⟨2,2,(a0s (a0B (a0z isum (a0r (a0q .mul (a0n 0) (a0x (a0n 1) (a0o (a0p 0)))) (a0r (a0G [0] 2 Y_ (a0F (a0x (a0n 1) (a0o (a0p 1)))) (a0o (a0I Y_)) (a0E (a0r (a0n 0) (a0r (a0q .mul (a0n 2) (a0n 1)) a0t)))) a0t)))) a0v)⟩
noncomputable def plusFd(isum:Nat):Fd:=⟨2,2,(a0s (a0B (a0z isum (a0r (a0q .add (a0x (a0n 0) (a0o (a0p 0))) (a0x (a0n 1) (a0o (a0p 0)))) (a0r (a0q .add (a0x (a0n 0) (a0o (a0p 1))) (a0x (a0n 1) (a0o (a0p 1)))) a0t)))) a0v)⟩
theorem yK(o:Orc)(isum:Nat)(c:Int)(L:List Pair)(r:D)(hL:L.length<=1000)(h:o.fn isum [.int (-1*c),.lst ((negL L).map prD)]=.ok (Zd,r)):bc o (timesFd isum) [.int (-1),.tup [.int c,.tup (L.map prD)]]=.ok (Zd,r):=by
 have he:=jX o [some (.sh,.int (-1)),some (.sh,.tup [.int c,.tup (L.map prD)])] Zd (a0F (a0x (a0n 1) (a0o (a0p 1)))) [0] [.int (-1)] _ _ 2 Y_ _ _ rfl rfl rfl (by simpa[negL]using hL) (Ae o L);generalize (negL L).map prD=NL at *;generalize L.map prD=L' at *;rw[timesFd]
 have lkO:∀δ p a b,bG δ (a0q p a b)=Zd:=λ_ _ _ _=>rfl
 generalize hT:(a0G [0] 2 Y_ (a0F (a0x (a0n 1) (a0o (a0p 1)))) (a0o (a0I Y_)) (a0E (a0r (a0n 0) (a0r (a0q .mul (a0n 2) (a0n 1)) a0t))))=tt at *
 have lkt:∀δ,bG δ tt=Zd:=fun δ=>by rw[<-hT];rfl
 have h':o.fn isum [.int (-c),.lst NL]=.ok (Zd,r):=by rw[show -c=-1*c by omega];exact h
 simp[bc,evSs,evS,evF,ev,evL,a0u,tu0,o2,arith,a0C,DY,lkO,lkt,he,h',lent,SO.of]
def uV(o:Orc)(isum:Nat)(a c:Int)(L':List D)(r:D)(hL:L'.length<=1000)(h:o.fn isum [.int (a+c),.tup L']=.ok (Zd,r)):bc o (plusFd isum) [.tup [.int a,.tup []],.tup [.int c,.tup L']]=.ok (Zd,r):=by
 have hz:size L'.length=Y_:=by simp[size];omega
 simp[plusFd,bc,evSs,evS,evF,ev,evL,a0u,tu0,tu1,o2,arith,a0C,hz,bG,h,lent,SO.of]
def HS(c:Int)(L:List Pair)(h1:Srt (L.map (·.1)))(h2:(L.map (·.1)).Nodup)(h3:∀p∈L,p.2≠0):sumD c L=.tup [.int c,.tup (L.map prD)]:=by
 rw[sumD,Iw h1 h2 h3]
end KU
namespace KM
open Z KG
local macro_rules | `(tactic| array_get_dec)=>`(tactic| first | assumption | exact ao rfl | exact dX rfl | exact au | exact neg1 | (refine' cz ?a ?b ?c;(case a=>array_get_dec);(case b=>array_get_dec);(case c=>sizeOf_list_dec)) | (refine' e_b1 ?a ?c;(case a=>array_get_dec);(case c=>sizeOf_list_dec)) | (refine' dW ?a ?b ?c;(case a=>array_get_dec);(case b=>array_get_dec);(case c=>sizeOf_list_dec)) | (refine' e_neg ?a;(case a=>array_get_dec)) | (refine' gC ?a;(case a=>array_get_dec)) | (refine' bu ?a ?b;(case a=>array_mem_dec);(case b=>exact rfl)) | (refine' cN ?a ?b;(case a=>array_mem_dec);(case b=>exact rfl)) | (refine' aA ?a ?b;(case a=>array_mem_dec);(case b=>assumption)) | (refine' e_m1 ?a ?b ?c;(case a=>array_get_dec);(case b=>array_get_dec);(case c=>sizeOf_list_dec)) | (refine' e_b2 ?a ?b ?c;(case a=>array_get_dec);(case b=>array_get_dec);(case c=>sizeOf_list_dec)) | (refine' g8 ?a ?b ?c ?d ?e ?f;(case a=>array_get_dec);(case b=>array_get_dec);(case c=>array_get_dec);(case d=>exact rfl);(case e=>exact rfl);(case f=>sizeOf_list_dec)) | (refine' e_isin ?a ?b;(case a=>array_get_dec);(case b=>exact rfl)))
local macro_rules | `(tactic| array_mem_dec)=>`(tactic| first | exact kZ | (refine' aj rfl ?a ?b;(case a=>array_get_dec);(case b=>array_mem_dec)))
local macro_rules | `(tactic| sizeOf_list_dec)=>`(tactic| first | assumption | exact tH _ _ | exact wX _ _ | exact o_lt _ _ | exact o_gt _ _ | exact o_le _ _ | exact o_ge _ _ | exact o_eqI _ _ | exact sZ _ _ | exact o_neI _ _ | exact o_neS _ _ | exact mK _ _ (by decide) | exact eF _ _ (by decide) | exact aQ rfl rfl | exact idx_lstI rfl rfl | exact iu _ | exact b_lenT _ | exact b_lenS _ | exact b_tupL _ | (refine' cat_big ?_;(try simp only[RJ,RK,V0]);omega))
noncomputable def inT(a b:List Nat):T:=(a0q .in (a0x (a0n 0) (a0o (a0p 0))) (a0E (a0r (a0o (a0A a)) (a0r (a0o (a0A b)) a0t))))
noncomputable def poFd:Fd:=⟨1,1,(a0s (a0H (inT [97,110,100] [111,114]) (a0s (a0B (a0x (a0n 0) (a0o (a0p 1)))) a0v) a0v) (a0s (a0H (a0q .eq (a0x (a0n 0) (a0o (a0p 0))) (a0o (a0A [110,111,116]))) (a0s (a0B (a0E (a0r (a0x (a0n 0) (a0o (a0p 1))) a0t))) a0v) a0v) (a0s (a0H (inT [115,111,109,101] [97,108,108]) (a0s (a0B (a0E (a0r (a0x (a0n 0) (a0o (a0p 2))) a0t))) a0v) a0v) (a0s (a0B (a0E a0t)) a0v))))⟩
noncomputable def exB(f:Nat):SL:=(a0s (a1a 1 (a0z f (a0r (a0n 2) a0t))) a0v)
noncomputable def awFd(po aw:Nat):Fd:=⟨1,3,(a0s (a0y 1 (a0J (a0r (a0n 0) a0t))) (a0s (a0O [2] Zd (a0F (a0z po (a0r (a0n 0) a0t))) (exB aw)) (a0s (a0B (a0n 1)) a0v)))⟩
noncomputable def alFd(aw:Nat):Fd:=⟨1,1,(a0s (a0B (a0G [] 1 Zd (a0F (a0z aw (a0r (a0n 0) a0t))) (inT [108,101,97,115,116] [114,101,115,116]) (a0n 0))) a0v)⟩
noncomputable def dpFd(po dp:Nat):Fd:=⟨1,2,(a0s (a0y 1 (a0V .maxd (a0G [] 1 Zd (a0F (a0z po (a0r (a0n 0) a0t))) (a0o (a0I Y_)) (a0z dp (a0r (a0n 0) a0t))) (a0o (a0p 0)))) (a0s (a0B (a0Y (inT [115,111,109,101] [97,108,108]) (a0q .add (a0n 1) (a0o (a0p 1))) (a0n 1))) a0v))⟩
noncomputable def pt:Stt->List Stt
 | .least _ _=>[]
 | .rest _ _ _=>[]
 | .nt s=>[s]
 | .grp _ ss=>ss
 | .trn _ _ s=>[s]
mutual
noncomputable def aw:Stt->List Stt
 | .least c l=>[.least c l]
 | .rest m c l=>[.rest m c l]
 | .nt s=>.nt s::aw s
 | .grp w ss=>.grp w ss::aws ss
 | .trn w x s=>.trn w x s::aw s
noncomputable def aws:List Stt->List Stt
 | []=>[]
 | s::ss=>aw s++aws ss
end
noncomputable def isA:Stt->Bool
 | .least _ _=>true
 | .rest _ _ _=>true
 | _=>false
noncomputable def isT:Stt->Bool
 | .trn _ _ _=>true
 | _=>false
mutual
noncomputable def dp:Stt->Nat
 | .least _ _=>0
 | .rest _ _ _=>0
 | .nt s=>dp s
 | .grp _ ss=>dps ss
 | .trn _ _ s=>dp s+1
noncomputable def dps:List Stt->Nat
 | []=>0
 | s::ss=>max (dp s) (dps ss)
end
def IV(s:Stt):aw s=s::aws (pt s):=by
 cases s<;>simp only[aw,pt,aws,Ur]
def MJ(s:Stt):dp s=if isT s then dps (pt s)+1 else dps (pt s):=by
 cases s<;>simp[dp,pt,dps,isT]
mutual
theorem gB:∀s,(aw s).length=sz s
 | .least _ _=>by rw[aw,sz];rfl
 | .rest _ _ _=>by rw[aw,sz];rfl
 | .nt s=>by rw[aw,sz,RK,gB s]
 | .grp _ ss=>by rw[aw,sz,RK,lG ss]
 | .trn _ _ s=>by rw[aw,sz,RK,gB s]
theorem lG:∀ss,(aws ss).length=szs ss
 | []=>by rw[aws,szs];rfl
 | s::ss=>by rw[aws,szs,RJ,gB s,lG ss]
end
def in2(o:Orc)(x a b:List Nat)(r:List D)(q:List (Option Slot))(lk:Bool):ev o (Z_ (.sh,.tup (.str x::r))::q) lk (inT a b)=.ok (Zd,.bl (decide (a=x)||(decide (b=x)||false))):=by
 unfold inT;refine cz (w1:=Zd) (w2:=Zd) (x:=.str x) (y:=.tup [.str a,.str b]) (by array_get_dec) (by array_get_dec) ?_
 rfl
noncomputable def hw:Stt->List Nat
 | .least _ _=>lW
 | .rest _ _ _=>tW
 | .nt _=>sNot
 | .grp w _=>gw w
 | .trn w _ _=>tww w
def hd(s:Stt):∃r,toD s=.tup (.str (hw s)::r):=by cases s<;>(rw[toD];exact⟨_,rfl⟩)
def hw_A(s:Stt):(decide (lW=hw s)||(decide (tW=hw s)||false))=isA s:=by
 cases s with
 | grp w _=>cases w<;>rfl
 | trn w _ _=>cases w<;>rfl
 | _=>rfl
def hw_T(s:Stt):(decide (FJ=hw s)||(decide (sAll=hw s)||false))=isT s:=by
 cases s with
 | grp w _=>cases w<;>rfl
 | trn w _ _=>cases w<;>rfl
 | _=>rfl
def in_A(o:Orc)(s:Stt)(q:List (Option Slot))(lk:Bool):ev o (Z_ (.sh,toD s)::q) lk (inT lW tW)=.ok (Zd,.bl (isA s)):=by
 obtain⟨r,e⟩:=hd s;rw[e,in2,hw_A]
def in_T(o:Orc)(s:Stt)(q:List (Option Slot))(lk:Bool):ev o (Z_ (.sh,toD s)::q) lk (inT FJ sAll)=.ok (Zd,.bl (isT s)):=by
 obtain⟨r,e⟩:=hd s;rw[e,in2,hw_T]
section
variable{P:Prg}{ipo iaw ial iol idp:Nat}(hpo:P.fns[ipo]?=Z_ poFd)(w:Nat)
include hpo
theorem lL(s:Stt)(m:Nat):(orc P w (m+1)).fn ipo [toD s]=.ok (Zd,.tup ((pt s).map toD)):=by
 rw[aL hpo]
 have e0:∀(x y:List Nat)(r:List D),ev (orc P w m) [some (.sh,.tup (.str x::r))] Y_ (a0q .eq (a0x (a0n 0) (a0o (a0p 0))) (a0o (a0A y)))=.ok (Zd,.bl (decide (x=y))):=λx y r=>by array_get_dec
 cases s with
 | least c l=>
   rw[toD];exact aq rfl rfl (stp _ (ifF (in2 _ _ _ _ _ _ _) rfl) (stp _ (ifF (e0 _ _ _) rfl) (stp _ (ifF (in2 _ _ _ _ _ _ _) rfl) (stpR (retR (bu (xs:=[]) rfl rfl) rfl)))))
 | rest q c l=>
   rw[toD];exact aq rfl rfl (stp _ (ifF (in2 _ _ _ _ _ _ _) rfl) (stp _ (ifF (e0 _ _ _) rfl) (stp _ (ifF (in2 _ _ _ _ _ _ _) rfl) (stpR (retR (bu (xs:=[]) rfl rfl) rfl)))))
 | nt s=>
   rw[toD];refine aq rfl rfl (stp _ (ifF (in2 _ _ _ _ _ _ _) rfl) (stpR (ifT (e0 _ _ _) rfl (retR (w:=Zd) (d:=.tup [toD s]) ?_ rfl))))
   array_get_dec
 | grp b ss=>
   rw[toD,cM];refine aq rfl rfl (stpR (ifT (in2 _ _ _ _ _ _ _) (by cases b<;>rfl) (retR (w:=Zd) (d:=.tup (ss.map toD)) ?_ rfl)))
   array_get_dec
 | trn b x s=>
   rw[toD];refine aq rfl rfl (stp _ (ifF (in2 _ _ _ _ _ _ _) (by cases b<;>rfl) ) (stp _ (ifF (e0 _ _ _) (by cases b<;>rfl)) (stpR (ifT (in2 _ _ _ _ _ _ _) (by cases b<;>rfl) (retR (w:=Zd) (d:=.tup [toD s]) ?_ rfl)))))
   array_get_dec
end
theorem vP(he:ev o δ Zd e=.ok (Y_,.lst b))(ho:ownD δ i=Z_ (q,.lst a))(hz:a.length+b.length<=100000):evS o (.extend i e) δ=.nx (δ.set i (Z_ (q,.lst (a++b)))):=by
 have:size (a.length+b.length)=Y_:=by simp[size];omega
 simp only[evS,evF,he,SO.of,ho,Sh,this,Z1,if_true,aF]
theorem nW(o:Orc)(A:Option Slot)(f:Nat)(g:Stt->List Stt)(gs:List Stt->List Stt)(h0:gs []=[])(hc:∀s ss,gs (s::ss)=g s++gs ss):∀(ss row:List Stt)(p:Option Slot),(∀s∈ss,o.fn f [toD s]=.ok (Y_,.lst ((g s).map toD)))->row.length+(gs ss).length<=100000 ->
 ∃p',bR (evSs o (exB f)) [2] Zd (ss.map toD) [A,some (.ow,.lst (row.map toD)),p]=.nx [A,some (.ow,.lst ((row++gs ss).map toD)),p']
 | [],row,p,_,_=>⟨p,by rw[h0,Ur];rfl⟩
 | s::ss,row,p,h,hl=>by
   rw[hc,RJ]at hl;obtain⟨p',ih⟩:=nW o A f g gs h0 hc ss (row++g s) (Z_ (.sh,toD s)) (λx hx=>h x (Rt _ hx)) (by rw[RJ];omega);rw[U3]at ih;refine⟨p',fM (ds:=[toD s]) rfl rfl (one (vP (aA (aj rfl (ao rfl) rfl) (h s Ru)) rfl (by rw[Rq,Rq];omega))) (ih.trans ?_)⟩;rw[hc,Um]
def u9(hs:wf n s)(hp:p∈pt s):∃j,n=j+1/\wf j p:=by
 cases s with
 | least _ _=>cases hp
 | rest _ _ _=>cases hp
 | nt s=>
   cases n with
   | zero=>simp only[wf]at hs
   | succ j=>simp only[wf]at hs;rw[Sv.mp hp];exact⟨j,rfl,hs⟩
 | grp _ ss=>
   cases n with
   | zero=>simp only[wf]at hs
   | succ j=>simp only[wf]at hs;exact⟨j,rfl,hs.2 p hp⟩
 | trn _ _ s=>
   cases n with
   | zero=>simp only[wf]at hs
   | succ j=>simp only[wf]at hs;rw[Sv.mp hp];exact⟨j,rfl,hs⟩
theorem ou:∀{ss:List Stt},s∈ss->sz s<=szs ss
 | [],h=>by cases h
 | x::ss,h=>by
   rw[szs];rcases Rp.mp h with rfl | h
   .omega
   .have:=ou h;omega
def LQ(s:Stt):sz s=szs (pt s)+1:=by cases s<;>simp[sz,szs,pt]
section
variable{P:Prg}{ipo iaw ial iol idp:Nat}(hpo:P.fns[ipo]?=Z_ poFd)(haw:P.fns[iaw]?=Z_ (awFd ipo iaw))(w:Nat)
include hpo haw
theorem Ck:∀(n:Nat)(s:Stt),wf n s->sz s<=10000->∀m,n+2<=m->(orc P w m).fn iaw [toD s]=.ok (Y_,.lst ((aw s).map toD)):=by
 intro n
 induction n using XM with
 | ind n ih=>
 intro s hs hz m hm
 obtain⟨k,rfl⟩:∃k,m=k+2:=⟨m-2,by omega⟩
 rw[aL haw,IV];have hp:=lL hpo w s k;have hsz:=LQ s
 have hc:∀p∈pt s,(orc P w (k+1)).fn iaw [toD p]=.ok (Y_,.lst ((aw p).map toD)):=λp q=>by
  obtain⟨j,rfl,h⟩:=u9 hs q;exact ih j (by omega) p h (by have:=ou q;omega) (k+1) (by omega)
 obtain⟨p',hl⟩:=nW (orc P w (k+1)) (Z_ (.sh,toD s)) iaw aw aws (by rw[aws]) (λs ss=>by rw[aws]) (pt s) [s] none hc (by rw[lG];simp;omega);exact aq rfl (δ0:=[some (.sh,toD s),none,none]) rfl (stp [some (.sh,toD s),some (.ow,.lst ([s].map toD)),none] (b7 (w:=Y_) (d:=.lst [toD s]) (cN (aj rfl (ao rfl) rfl) rfl) rfl) (stp _ (fors rfl (bC (aA (aj rfl (ao rfl) rfl) hp) rfl) hl) (stpR (CV rfl))))
end
theorem bZ{α:Type}{f c:List D->R (Bool×D)}{m:Nat}{tg:Bool}{a g:α->D}{ts:α->List D}{p:α->Bool}:∀{l:List α},(∀d∈l,takes m tg (a d)=Z_ (ts d))->(∀d∈l,c (ts d)=.ok (Zd,.bl (p d)))->(∀d∈l,p d=Y_->∃w,f (ts d)=.ok (w,g d))->aR f c m tg (l.map a)=.ok ((l.filter p).map g)
 | [],_,_,_=>rfl
 | d::l,ht,hc,hf=>by
   have ih:=bZ (l:=l) (λx hx=>ht x (Rt _ hx)) (λx hx=>hc x (Rt _ hx)) (λx hx=>hf x (Rt _ hx));rw[Ro,aR,ht d Ru];simp only[a0w,a0u,hc d Ru,truth];cases e:p d
   .simp[e,ih]
   .obtain⟨w,h⟩:=hf d Ru e
    simp[e,h,ih]
def ats(s:Stt):List Stt:=(aw s).filter isA
section
variable{P:Prg}{ipo iaw ial iat:Nat}(hpo:P.fns[ipo]?=Z_ poFd)(haw:P.fns[iaw]?=Z_ (awFd ipo iaw))(hal:P.fns[ial]?=Z_ (alFd iaw))(w:Nat)
include hpo haw hal
theorem yL(n:Nat)(s:Stt)(hs:wf n s)(hz:sz s<=10000)(m:Nat)(hm:n+3<=m):(orc P w m).fn ial [toD s]=.ok (Y_,.lst ((ats s).map toD)):=by
 obtain⟨k,rfl⟩:∃k,m=k+1:=⟨m-1,by omega⟩
 rw[aL hal];have hc:=Ck hpo haw w n s hs hz k (by omega)
 have hl:((ats s).map toD).length<=100000:=by
  rw[Rq];have:=TF isA (aw s);rw[gB]at this;unfold ats;omega
 exact aq rfl rfl (stpR (retR (cB _ ((aw s).map toD) _ _ _ (bC (aA (aj rfl (ao rfl) rfl) hc) rfl) hl (bZ (ts:=λq=>[toD q]) (λ_ _=>rfl) (λq _=>in_A _ q _ _) λq _ _=>⟨false,ao rfl⟩)) rfl))
noncomputable def atFd(al:Nat):Fd:=⟨1,1,(a0s (a0B (a0D .len (a0z al (a0r (a0n 0) a0t)))) a0v)⟩
theorem vX(hat:P.fns[iat]?=Z_ (atFd ial))(n:Nat)(s:Stt)(hs:wf n s)(hz:sz s<=10000)(m:Nat)(hm:n+4<=m):(orc P w m).fn iat [toD s]=.ok (Zd,.int ((ats s).length:Int)):=by
 obtain⟨k,rfl⟩:∃k,m=k+1:=⟨m-1,by omega⟩
 rw[aL hat];have hc:=yL hpo haw hal w n s hs hz k (by omega);refine aq rfl rfl (stpR (retR ((sY (aA (aj rfl (ao rfl) rfl) hc)).trans ?_) rfl));rw[iu,Rq]
end
theorem fold_max:∀(r:List Nat)(y:Nat),(r.map λ(n:Nat)=>(n:Int)).foldl (λm z=>if z>m then z else m) (y:Int)=((max y (r.foldr max 0):Nat):Int)
 | [],y=>by simp
 | x::r,y=>by
   simp only[Ro,Vv,List.foldr_cons]
   by_cases h:(x:Int)>y
   .rw[if_pos h,fold_max r x];congr 1;omega
   .rw[if_neg h,fold_max r y];congr 1;omega
theorem jY:∀r:List Nat,intsOf (r.map λ(n:Nat)=>a0p (n:Int))=Z_ (r.map λ(n:Nat)=>(n:Int))
 | []=>rfl
 | x::r=>by simp only[Ro,intsOf,jY r,Te]
def xW:∀r:List Nat,b2D .maxd (.lst (r.map λ(n:Nat)=>a0p (n:Int))) (.int 0)=.ok (Zd,.int ((r.foldr max 0:Nat):Int))
 | []=>rfl
 | x::r=>by
   have h:=jY (x::r);simp only[Ro]at h ⊢;simp only[b2D,h,Te,a0w,fold_max,List.foldr_cons]
theorem jO:∀ss:List Stt,dps ss=(ss.map dp).foldr max 0
 | []=>by rw[dps];rfl
 | s::ss=>by rw[dps,jO ss];rfl
def gZ(h:ev o δ Y_ c=.ok (w,.bl t)):ev o δ lk (a0Y c a b)=if t then ev o δ lk a else ev o δ lk b:=by
 simp only[ev,h,a0u,truth,a0w]
section
variable{P:Prg}{ipo idp:Nat}(hpo:P.fns[ipo]?=Z_ poFd)(hdp:P.fns[idp]?=Z_ (dpFd ipo idp))(w:Nat)
include hpo hdp
theorem DN:∀(n:Nat)(s:Stt),wf n s->∀m,n+2<=m->(orc P w m).fn idp [toD s]=.ok (Zd,.int (dp s:Int)):=by
 intro n
 induction n using XM with
 | ind n ih=>
 intro s hs m hm
 obtain⟨k,rfl⟩:∃k,m=k+2:=⟨m-2,by omega⟩
 rw[aL hdp];have hp:=lL hpo w s k
 have hc:∀p∈pt s,(orc P w (k+1)).fn idp [toD p]=.ok (Zd,.int (dp p:Int)):=λp q=>by
  obtain⟨j,rfl,h⟩:=u9 hs q;exact ih j (by omega) p h (k+1) (by omega)
 have hl:(pt s).length<=100:=by
  cases s with
  | grp _ ss=>
    cases n with
    | zero=>simp only[wf]at hs
    | succ j=>simp only[wf]at hs;exact hs.1
  | _=>simp[pt]
 have e1:ev (orc P w (k+1)) [some (.sh,toD s),none] Y_ (a0G [] 1 Zd (a0F (a0z ipo (a0r (a0n 0) a0t))) (a0o (a0I Y_)) (a0z idp (a0r (a0n 0) a0t)))=.ok (Y_,.lst (((pt s).map dp).map λ(n:Nat)=>a0p (n:Int))):=by
  rw[Sg];exact cB _ ((pt s).map toD) _ _ _ (bC (aA (aj rfl (ao rfl) rfl) hp) rfl) (by rw[Rq];omega) (dM (λd _=>au) λd hd=>⟨false,aA (aj rfl (ao rfl) rfl) (hc d hd)⟩)
 have e2:=xW ((pt s).map dp);rw[<-jO]at e2;refine aq rfl (δ0:=[some (.sh,toD s),none]) rfl (stp [some (.sh,toD s),some (.sh,.int (dps (pt s):Int))] (b7 (w:=Zd) ((zm e1 au).trans e2) rfl) (stpR (retR (w:=Zd) ?_ rfl)));refine(gZ (in_T _ s _ _)).trans ?_;rw[MJ];cases isT s
 .rw[if_neg (by decide),if_neg (by decide)];exact ao rfl
 .rw[if_pos rfl,if_pos rfl];exact(aG (ao rfl) au).trans (tH _ _)
end
noncomputable def gc(a b:Int):Int:=(Int.gcd a b:Int)
def Ea(a b:Int):gc (if a<0 then -a else a) (if b<0 then -b else b)=gc a b:=by
 unfold gc;split<;>split<;>simp[Int.neg_gcd,Int.gcd_neg]
def Im(a:Int)(h:0<=a):gc a 0=a:=by
 unfold gc;rw[Int.gcd_zero_right];omega
def Gu(a b:Int):gc b (a % b)=gc a b:=by
 unfold gc;rw[Int.gcd_comm a b]
 congr 1
 have h:=Int.gcd_sub_mul_right_right b a (a/b);rw[show a-a/b*b=a % b by rw[Int.emod_def,Int.mul_comm]]at h;exact h
theorem DP(st:Int->Int->Option Slot->Dst)
 (hc:∀g s l,0<=s->c (st g s l)=.ok (Zd,.bl (decide (s≠0))))
 (hb:∀g s l,s≠0->∃l',body (st g s l)=.nx (st s (g.fmod s) l')) :
 ∀(w:Nat)(g s:Int)(l:Option Slot),0<=g->0<=s->s.toNat<w->∃l',cY c body w (st g s l)=.nx (st (gc g s) 0 l'):=by
 intro w
 induction w with
 | zero=>intro g s l _ _ h;omega
 | succ w ih=>
   intro g s l hg hs hw;rw[cY,hc g s l hs]
   by_cases h0:s=0
   .subst h0
    refine⟨l,?_⟩;simp[a0u,truth,a0w,SO.of,Im g hg]
   .have e:g.fmod s=g % s:=Int.fmod_eq_emod_of_nonneg g hs
    have h1:=Int.emod_nonneg g h0;have h2:=Int.emod_lt_of_pos g (show 0<s by omega);obtain⟨l1,hb1⟩:=hb g s l h0;obtain⟨l',h⟩:=ih s (g % s) l1 hs h1 (by omega);refine⟨l',?_⟩;simp only[a0u,truth,a0w,SO.of,h0,ne_eq,not_false_eq_true,decide_true,if_true,hb1,e]at h ⊢;rw[h,Gu]
noncomputable def commonFd:Fd:=⟨2,5,(a0s (a0y 2 (a0D .abs (a0n 0))) (a0s (a0y 3 (a0D .abs (a0n 1))) (a0s (S.while_ (a0q .ne (a0n 3) (a0o (a0p 0))) (a0s (a0y 4 (a0q .mod (a0n 2) (a0n 3))) (a0s (a0y 2 (a0n 3)) (a0s (a0y 3 (a0n 4)) a0v)))) (a0s (a0B (a0n 2)) a0v))))⟩
def qz(a:Int):0<=(if a<0 then -a else a):=by split<;>omega
theorem sJ(o:Orc)(a b:Int)(hw:b.natAbs<o.w):bc o commonFd [.int a,.int b]=.ok (Zd,.int (gc a b)):=by
 obtain⟨l',h⟩:=DP (c:=fun δ=>ev o δ Y_ (a0q .ne (a0n 3) (a0o (a0p 0)))) (body:=evSs o (a0s (a0y 4 (a0q .mod (a0n 2) (a0n 3))) (a0s (a0y 2 (a0n 3)) (a0s (a0y 3 (a0n 4)) a0v)))) (λg s l=>[some (.sh,.int a),some (.sh,.int b),some (.sh,.int g),some (.sh,.int s),l])
  (λg s l _=>by simp[ev,a0u,o2,eqA,eqS,a0w]) (λg s l h=>⟨some (.sh,.int (g.fmod s)),by simp[evSs,evS,evF,ev,a0u,o2,arith,a0C,h,SO.of,setSlot,aF]⟩)
  o.w (if a<0 then -a else a) (if b<0 then -b else b) none (qz a) (qz b) (by split<;>omega)
 rw[Ea]at h;refine aq rfl (δ0:=[some (.sh,.int a),some (.sh,.int b),none,none,none]) rfl (stp [some (.sh,.int a),some (.sh,.int b),some (.sh,.int (if a<0 then -a else a)),none,none] ?_ (stp [some (.sh,.int a),some (.sh,.int b),some (.sh,.int (if a<0 then -a else a)),some (.sh,.int (if b<0 then -b else b)),none] ?_ (stp [some (.sh,.int a),some (.sh,.int b),some (.sh,.int (gc a b)),some (.sh,.int 0),l'] ?_ (stpR (δ':=[some (.sh,.int a),some (.sh,.int b),some (.sh,.int (gc a b)),some (.sh,.int 0),l']) ?_))))
 .simp[evS,evF,ev,a0u,b1D,SO.of,setSlot,aF]
 .simp[evS,evF,ev,a0u,b1D,SO.of,setSlot,aF]
 .rw[evS];exact h
 .rfl
noncomputable def lcFd(ic:Nat):Fd:=⟨2,2,(a0s (a0B (a0q .mul (a0q .fdiv (a0n 0) (a0z ic (a0r (a0n 0) (a0r (a0n 1) a0t)))) (a0n 1))) a0v)⟩
noncomputable def lcB(il:Nat):SL:=(a0s (a0y 1 (a0z il (a0r (a0n 1) (a0r (a0n 2) a0t)))) a0v)
noncomputable def lcoFd(il:Nat):Fd:=⟨1,3,(a0s (a0y 1 (a0o (a0p 1))) (a0s (a0O [2] Zd (a0F (a0D .sortedSet (a0n 0))) (lcB il)) (a0s (a0B (a0n 1)) a0v)))⟩
def Nf(P:Prg)(w n:Nat):(orc P w n).w=w:=by cases n<;>rfl
def Hu(a b:Nat)(hb:0<b):(a:Int).fdiv (gc a b)*b=(Wn a b:Int):=by
 have e:gc (a:Int) (b:Int)=(X6 a b:Int):=by unfold gc;rw[Int.gcd_natCast_natCast]
 have hg:X6 a b ∣ a:=Nat.gcd_dvd_left a b;rw[e,Int.fdiv_eq_ediv_of_nonneg _ (Xa _),<-Int.natCast_ediv,<-VN,Wn]
 congr 1
 exact Nat.div_mul_right_comm hg b
def Bg(a:Nat):Prop:=a.log2<4000
theorem Bg.le(h:a<=b)(hb:Bg b):Bg a:=by
 unfold Bg at *
 by_cases h0:a=0
 .subst h0;decide
 .have hb0:b≠0:=by omega
  exact(Wx h0).mpr (TX h ((Wx hb0).mp hb))
theorem ir(ha:Bg a)(hb:Bg b):cC (a:Int) (b:Int)=Y_:=by
 have f:∀{c:Nat},Bg c->bits (c:Int)<=4000:=λ{c} h=>by
  unfold bits;split
  .omega
  .rw[Y7];unfold Bg at h;omega
 have h1:=f ha;have h2:=f hb;unfold cC
 have:bits (a:Int)+bits (b:Int)<=134217728:=by omega
 simp[this]
section
variable{P:Prg}{ic il ilo:Nat}(hc:P.fns[ic]?=Z_ commonFd)(hl:P.fns[il]?=Z_ (lcFd ic))(w:Nat)
include hc hl
theorem Kg(a b:Nat)(hb:0<b)(h1:Bg a)(h2:Bg b)(hw:b<w)(m:Nat):(orc P w (m+2)).fn il [.int (a:Int),.int (b:Int)]=.ok (Zd,.int (Wn a b:Int)):=by
 rw[aL hl]
 have hg:(orc P w (m+1)).fn ic [.int (a:Int),.int (b:Int)]=.ok (Zd,.int (gc a b)):=by
  rw[aL hc];exact sJ _ _ _ (by rw[Nf];simpa using hw)
 have e:gc (a:Int) (b:Int)=(X6 a b:Int):=by unfold gc;rw[Int.gcd_natCast_natCast]
 have hp:0<X6 a b:=Nat.gcd_pos_of_pos_right a hb;have hle:X6 a b<=b:=WY hb (Nat.gcd_dvd_right a b)
 have hd:o2 .fdiv (.int (a:Int)) (.int (gc a b))=.ok (Zd,.int ((a:Int).fdiv (gc a b))):=by
  refine eF _ _ ?_;rw[e]
  have h3:((X6 a b:Nat):Int).natAbs.log2<9000:=by
   rw[Y7];have:=Bg.le hle h2;unfold Bg at this;omega
  simp only[h3,decide_true,Z0,decide_eq_true_eq];omega
 have hq:(a:Int).fdiv (gc a b)=((a/X6 a b:Nat):Int):=by
  rw[e,Int.fdiv_eq_ediv_of_nonneg _ (Xa _),<-Int.natCast_ediv]
 have hm:o2 .mul (.int ((a:Int).fdiv (gc a b))) (.int (b:Int))=.ok (Zd,.int (Wn a b:Int)):=by
  rw[<-Hu a b hb];rw[hq];exact mulE (ir (Bg.le (Nat.div_le_self _ _) h1) h2)
 refine aq rfl rfl (stpR (retR (w:=Zd) ?_ rfl))
 array_get_dec
noncomputable def lcs(l:List Nat):Nat:=l.foldr Wn 1
omit hc hl in
theorem dD(k:Nat):∀l:List Nat,lcs l ∣ k↔∀x∈l,x ∣ k
 | []=>by simp[lcs]
 | x::l=>by
   have ih:=dD k l;simp only[lcs,List.foldr_cons,Rp,forall_eq_or_imp]at ih ⊢;rw[<-ih];exact⟨λh=>⟨W0 (Nat.dvd_lcm_left _ _) h,W0 (Nat.dvd_lcm_right _ _) h⟩,λh=>Zj h.1 h.2⟩
omit hc hl in
theorem kW(k:Nat):∀(l:List Nat)(t:Nat),l.foldl Wn t ∣ k↔t ∣ k/\∀x∈l,x ∣ k
 | [],t=>by simp
 | x::l,t=>by
   rw[Vv,kW k l,List.forall_mem_cons];exact⟨λh=>⟨W0 (Nat.dvd_lcm_left _ _) h.1,W0 (Nat.dvd_lcm_right _ _) h.1,h.2⟩,λh=>⟨Zj h.1 h.2.1,h.2.2⟩⟩
omit hc hl in
theorem Gh(h:∀x,x∈l↔x∈l'):lcs l=lcs l' :=
 Nat.dvd_antisymm ((dD _ l).mpr λx hx=>(dD _ l').mp (Za _) x ((h x).mp hx)) ((dD _ l').mpr λx hx=>(dD _ l).mp (Za _) x ((h x).mpr hx))
omit hc hl in
theorem qY(l:List Nat):l.foldl Wn 1=lcs l :=
 Nat.dvd_antisymm ((kW _ l 1).mpr ⟨Nat.one_dvd _,λx hx=>(dD _ l).mp (Za _) x hx⟩) ((dD _ l).mpr λx hx=>((kW _ l 1).mp (Za _)).2 x hx)
theorem Cd(A:Option Slot)(m M:Nat)(hM:0<M)(h60:Bg M)(hw:M<w):∀(l:List Nat)(t:Nat)(p:Option Slot),t ∣ M->(∀x∈l,x ∣ M)->∃p',bR (evSs (orc P w (m+2)) (lcB il)) [2] Zd (l.map λ(n:Nat)=>a0p (n:Int)) [A,some (.sh,.int (t:Int)),p]=.nx [A,some (.sh,.int (l.foldl Wn t:Nat)),p']
 | [],t,p,_,_=>⟨p,rfl⟩
 | x::l,t,p,ht,hx=>by
   have hxM:=hx x Ru;have hx0:0<x:=Nat.pos_of_dvd_of_pos hxM hM;have hle:=WY hM hxM;have htl:=WY hM ht;have hr:=Kg hc hl w t x hx0 (Bg.le htl h60) (Bg.le hle h60) (by omega) m;obtain⟨p',ih⟩:=Cd A m M hM h60 hw l (Wn t x) (Z_ (.sh,.int (x:Int))) (Zj ht hxM) (λy hy=>hx y (Rt _ hy));exact⟨p',fM (ds:=[.int (x:Int)]) rfl rfl (one (b7 (w:=Zd) (d:=.int (Wn t x:Nat)) (aA (aj rfl (ao rfl) (aj rfl (ao rfl) rfl)) hr) rfl)) ih⟩
end
theorem lR [DecidableEq α](k:α):∀l:List α,k∈bB l↔k∈l
 | []=>by simp[bB]
 | x::l=>by
   have ih:=lR k l;rw[bB];split
   .rename_i h
    rw[ih,Rp];exact⟨.inr,λz=>z.elim (λe=>e▸h) id⟩
   .rw[Rp,Rp,ih]
theorem Lh [DecidableEq α]:∀l:List α,(bB l).Nodup
 | []=>Xe
 | x::l=>by
   have ih:=Lh l;rw[bB];split
   .exact ih
   .rename_i h
    exact Tg.mpr ⟨λz=>h ((lR x l).mp z),ih⟩
theorem qM(x k:Int):∀l:List Int,k∈insI x l↔k=x\/k∈l
 | []=>by simp[insI]
 | y::l=>by
   rw[insI];split
   .rw[Rp]
   .rw[Rp,qM x k l,Rp]
    constructor
    .rintro(h | h | h)
     .exact .inr (.inl h)
     .exact .inl h
     .exact .inr (.inr h)
    .rintro(h | h | h)
     .exact .inr (.inl h)
     .exact .inl h
     .exact .inr (.inr h)
theorem nO(k:Int):∀l:List Int,k∈sortI l↔k∈l
 | []=>by simp[sortI]
 | x::l=>by rw[sortI,qM,nO k l,Rp]
noncomputable def intN(l:List Nat):List D:=l.map λ(n:Nat)=>a0p (n:Int)
theorem qQ:∀l:List Int,(∀x∈l,0<=x)->l.map a0p=intN (l.map Int.toNat)
 | [],_=>rfl
 | x::l,h=>by
   have h0:=h x Ru
   have ih:=qQ l λy hy=>h y (Rt _ hy)
   simp only[intN,Ro]at ih ⊢;rw[ih,Int.toNat_of_nonneg h0]
def Am(l:List Nat)(h:l.length<4000)(hd:(bB (l.map λ(n:Nat)=>(n:Int))).length<128):∃L:List Nat,(∀x,x∈L↔x∈l)/\b1D .sortedSet (.lst (intN l))=.ok (Y_,.lst (intN L)):=by
 cases l with
 | nil=>exact⟨[],λx=>Iff.rfl,rfl⟩
 | cons a r=>
   have hi:=jY (a::r);generalize hl:a::r=l at *
   have hm:∀k,k∈sortI (bB (l.map λ(n:Nat)=>(n:Int)))↔∃x∈l,(x:Int)=k:=λk=>by rw[nO,lR,Sw]
   have hn:∀k∈sortI (bB (l.map λ(n:Nat)=>(n:Int))),0<=k:=λk hk=>by
    obtain⟨x,_,rfl⟩:=(hm k).mp hk;omega
   refine⟨(sortI (bB (l.map λ(n:Nat)=>(n:Int)))).map Int.toNat,λx=>?_,?_⟩
   .rw[Sw]
    constructor
    .rintro⟨k,hk,rfl⟩
     obtain⟨y,hy,rfl⟩:=(hm k).mp hk;simpa using hy
    .intro hx
     exact⟨(x:Int),(hm _).mpr ⟨x,hx,rfl⟩,by simp⟩
   .have hc:(l.map λ(n:Nat)=>a0p (n:Int)).length<4000/\(bB (l.map λ(n:Nat)=>(n:Int))).length<128:=⟨by rw[Rq];exact h,hd⟩
    have hs:strsOf (l.map λ(n:Nat)=>a0p (n:Int))=Yt:=by rw[<-hl];rfl
    show b1D .sortedSet (.lst (l.map λ(n:Nat)=>a0p (n:Int)))=_;simp only[b1D,ssD,hs,hi,Sh,if_pos hc,a0w];rw[qQ _ hn]
section
variable{P:Prg}{ic il ilo:Nat}(hc:P.fns[ic]?=Z_ commonFd)(hl:P.fns[il]?=Z_ (lcFd ic))(hlo:P.fns[ilo]?=Z_ (lcoFd il))(w:Nat)
include hc hl hlo
theorem uU(l:List Nat)(M:Nat)(hM:0<M)(h60:Bg M)(hw:M<w)(hx:∀x∈l,x ∣ M)(h:l.length<4000)(hd:(bB (l.map λ(n:Nat)=>(n:Int))).length<128)(m:Nat):(orc P w (m+3)).fn ilo [.lst (intN l)]=.ok (Zd,.int (lcs l:Nat)):=by
 rw[aL hlo];obtain⟨L,h1,h2⟩:=Am l h hd
 obtain⟨p',hf⟩:=Cd hc hl w (Z_ (.sh,.lst (intN l))) m M hM h60 hw L 1 none (Nat.one_dvd _) λx q=>hx x ((h1 x).mp q)
 rw[qY,Gh h1]at hf;exact aq rfl (δ0:=[some (.sh,.lst (intN l)),none,none]) rfl (stp [some (.sh,.lst (intN l)),some (.sh,.int ((1:Nat):Int)),none] (b7 (w:=Zd) au rfl) (stp _ (fors rfl (bC (e_b1 (ao rfl) h2) rfl) hf) (stpR (Dq rfl))))
end
noncomputable def blFd(iaw:Nat):Fd:=⟨1,1,(a0s (a0B (a0D .sortedSet (a0G [] 1 Zd (a0F (a0z iaw (a0r (a0n 0) a0t))) (inT [115,111,109,101] [97,108,108]) (a0x (a0n 0) (a0o (a0p 1)))))) a0v)⟩
noncomputable def bsC:T:=(a0G [1] 2 Y_ (a0F (a0x (a0n 4) (a0o (a0p 1)))) (a0q .in (a0n 0) (a0n 2)) (a0D .abs (a0n 1)))
noncomputable def bsB:SL:=(a0s (a0y 4 (a0x (a0n 3) (a0L (a0o (a0p 1))))) (a0s (a1a 2 bsC) a0v))
noncomputable def bsFd(ibl ial ilo:Nat):Fd:=⟨1,5,(a0s (a0y 1 (a0z ibl (a0r (a0n 0) a0t))) (a0s (a0y 2 (a0J a0t)) (a0s (a0O [3] Zd (a0F (a0z ial (a0r (a0n 0) a0t))) bsB) (a0s (a0B (a0z ilo (a0r (a0n 2) a0t))) a0v))))⟩
noncomputable def dsFd(ial ilo:Nat):Fd:=⟨1,1,(a0s (a0B (a0z ilo (a0r (a0G [] 1 Zd (a0F (a0z ial (a0r (a0n 0) a0t))) (a0q .eq (a0x (a0n 0) (a0o (a0p 0))) (a0o (a0A [114,101,115,116]))) (a0x (a0n 0) (a0o (a0p 1)))) a0t))) a0v)⟩
noncomputable def nmOf:Stt->List Nat
 | .trn _ x _=>x
 | _=>[]
def bn(s:Stt):List (List Nat):=((aw s).filter isT).map nmOf
def Jv(xs:List (List Nat)):strsOf (xs.map a0A)=Z_ xs:=by
 induction xs with
 | nil=>rfl
 | cons x xs ih=>simp[strsOf,ih]
def Ad(l:List (List Nat))(h:l.length<4000)(hd:(bB l).length<64):b1D .sortedSet (.lst (l.map .str))=.ok (Y_,.lst ((bF (bB l)).map .str)):=by
 have hc:(l.map a0A).length<4000/\(bB l).length<64:=⟨by rw[Rq];exact h,hd⟩
 simp only[b1D,ssD,Jv,if_pos hc,a0w]
def bnS(s:Stt):List (List Nat):=bF (bB (bn s))
def Hj(s:Stt)(k:List Nat):k∈bnS s↔k∈bn s:=(KG.sortS_perm _).mem_iff.trans (lR k _)
def Dy(s:Stt):(bn s).length<=sz s:=by
 unfold bn;rw[Rq];have:=TF isT (aw s)
 rwa [gB]at this
section
variable{P:Prg}{ipo iaw ibl:Nat}(hpo:P.fns[ipo]?=Z_ poFd)(haw:P.fns[iaw]?=Z_ (awFd ipo iaw))(hbl:P.fns[ibl]?=Z_ (blFd iaw))(w:Nat)
include hpo haw hbl
theorem MN(n:Nat)(s:Stt)(hs:wf n s)(hz:sz s<4000)(hd:(bB (bn s)).length<64)(m:Nat)(hm:n+3<=m):(orc P w m).fn ibl [toD s]=.ok (Y_,.lst ((bnS s).map .str)):=by
 obtain⟨k,rfl⟩:∃k,m=k+1:=⟨m-1,by omega⟩
 rw[aL hbl];have hc:=Ck hpo haw w n s hs (by omega) k (by omega);have hb:=Dy s
 have e1:ev (orc P w k) [some (.sh,toD s)] Y_ (a0G [] 1 Zd (a0F (a0z iaw (a0r (a0n 0) a0t))) (inT [115,111,109,101] [97,108,108]) (a0x (a0n 0) (a0o (a0p 1))))=.ok (Y_,.lst ((bn s).map .str)):=by
  unfold bn at hb ⊢;rw[Sg];refine cB _ ((aw s).map toD) _ _ _ (bC (aA (aj rfl (ao rfl) rfl) hc) rfl) (by rw[Rq]at hb ⊢;omega) (bZ (ts:=λq=>[toD q]) (λ_ _=>rfl) (λq _=>in_T _ q _ _) λq _ hq=>⟨false,?_⟩)
  cases q with
  | trn b x s=>rw[toD];exact(dY (ao rfl) au).trans (aQ rfl rfl)
  | _=>cases hq
 exact aq rfl rfl (stpR (retR ((sY e1).trans (Ad _ (by omega) hd)) rfl))
end
noncomputable def prs:Stt->List Pair
 | .least _ l=>l
 | .rest _ _ l=>l
 | _=>[]
noncomputable def bx(L:List (List Nat))(s:Stt):List Nat:=((prs s).filter λp=>decide (p.1∈L)).map λp=>p.2.natAbs
noncomputable def bxs(L:List (List Nat)):List Stt->List Nat
 | []=>[]
 | s::ss=>bx L s++bxs L ss
theorem gQ(n:List Nat):∀B:List (List Nat),inS (.str n) (B.map .str)=Z_ (decide (n∈B))
 | []=>rfl
 | x::B=>by
   rw[Ro,inS,gQ n B];simp only[eqS]
   by_cases h:x=n
   .simp[h]
   .have h':¬n=x:=λe=>h e.symm
    simp[h,h']
def in_L(B:List (List Nat))(n:List Nat):o2 .in (.str n) (.lst (B.map .str))=.ok (Zd,.bl (decide (n∈B))):=by
 simp only[o2,isIn,fY,if_true,gQ,Option.map,a0w]
def lJ(o:Orc)(δ:Dst)(lk:Bool)(it:TI)(caps:List Nat)(cs l r:List D)(m:Nat)(tg:Bool)(c e:T)(hI:evI o δ Y_ it=.ok l)(hs:cQ δ caps=Z_ cs)(hi:immL r=Y_)(hr:r.length<=100000)
 (hc:aR (λx=>ev o ((x++cs).map λd=>some (Own.sh,d)) Zd e) (λx=>ev o ((x++cs).map λd=>some (Own.sh,d)) Y_ c) m tg l=.ok r):ev o δ lk (a0G caps m tg it c e)=.ok (Y_,.lst r):=by
 rw[ev,hI,hs];simp only[a0u,a0w];rw[hc]
 have hz:size r.length=Y_:=by simp[size];omega
 simp only[hi,hz,a0C];simp
theorem yd:∀l:List Nat,immL (intN l)=Y_
 | []=>rfl
 | x::l=>by
   have:=yd l;simp only[intN,Ro,immL,D.imm,Bool.true_and]at this ⊢;exact this
theorem Cp(k:Int):b1D .abs (.int k)=.ok (Zd,.int (k.natAbs:Int)):=by
 rw[QX]
 congr 3
 split<;>omega
def Cr(s:Stt)(h:isA s=Y_):∃c,idxD (toD s) (.int (-1))=.ok (Zd,smT c (prs s)):=by
 cases s with
 | least c l=>exact⟨c,by rw[toD];rfl⟩
 | rest q c l=>exact⟨c,by rw[toD];rfl⟩
 | _=>cases h
def zK(a b:List Nat):intN (a++b)=intN a++intN b:=by simp[intN]
theorem GX(o:Orc)(A:Option Slot)(L:List (List Nat))(row:List Nat)(s:Stt)(h:isA s=Y_)(hl:(prs s).length<=1000)(hr:row.length<=50000)(p:Option Slot):∃p',evSs o bsB [A,some (.ow,.lst (L.map .str)),some (.ow,.lst (intN row)),some (.sh,toD s),p]=.nx [A,some (.ow,.lst (L.map .str)),some (.ow,.lst (intN (row++bx L s))),some (.sh,toD s),p']:=by
 obtain⟨c,hc⟩:=Cr s h
 have hb:(bx L s).length<=1000:=by
  unfold bx;rw[Rq];exact RW (TF _ _) hl
 have e1:evS o (a0y 4 (a0x (a0n 3) (a0L (a0o (a0p 1))))) [A,some (.ow,.lst (L.map .str)),some (.ow,.lst (intN row)),some (.sh,toD s),p]=.nx [A,some (.ow,.lst (L.map .str)),some (.ow,.lst (intN row)),some (.sh,toD s),some (.sh,smT c (prs s))]:=b7 ((dY (ao rfl) neg1).trans hc) rfl
 have e2:ev o [A,some (.ow,.lst (L.map .str)),some (.ow,.lst (intN row)),some (.sh,toD s),some (.sh,smT c (prs s))] Zd bsC=.ok (Y_,.lst (intN (bx L s))):=by
  refine lJ _ _ _ _ [1] [.lst (L.map .str)] ((prs s).map prD) _ 2 Y_ _ _ (bC (w:=Zd) (x:=.tup ((prs s).map prD)) ((dY (ao rfl) au).trans (aQ rfl rfl)) rfl) rfl (yd _) (by simp only[intN,Rq];omega) ?_;unfold intN bx;rw[Sg]
  exact bZ (ts:=λp:Pair=>[.str p.1,.int p.2]) (λp _=>rfl) (λp _=>(aG (ao rfl) (ao rfl)).trans (in_L L p.1)) λp _ _=>⟨false,(sY (ao rfl)).trans (Cp p.2)⟩
 have e3:=vP (i:=2) (q:=.ow) (a:=intN row) e2 rfl (by simp only[intN,Rq];omega);rw[<-zK]at e3;exact⟨_,(dj e1).trans ((dj e3).trans rfl)⟩
theorem Cv(o:Orc)(A:Option Slot)(L:List (List Nat)):∀(ss:List Stt)(row:List Nat)(a p:Option Slot),(∀s∈ss,isA s=Y_/\(prs s).length<=10)->row.length+10*ss.length<=50000 ->
 ∃a' p',bR (evSs o bsB) [3] Zd (ss.map toD) [A,some (.ow,.lst (L.map .str)),some (.ow,.lst (intN row)),a,p]=.nx [A,some (.ow,.lst (L.map .str)),some (.ow,.lst (intN (row++bxs L ss))),a',p']
 | [],row,a,p,_,_=>⟨a,p,by rw[bxs,Ur];rfl⟩
 | s::ss,row,a,p,h,hl=>by
   rw[RK]at hl;obtain⟨h1,h2⟩:=h s Ru
   have hb:(bx L s).length<=10:=by
    unfold bx;rw[Rq];exact RW (TF _ _) h2
   obtain⟨p1,e1⟩:=GX o A L row s h1 (by omega) (by omega) p;obtain⟨a',p',ih⟩:=Cv o A L ss (row++bx L s) (Z_ (.sh,toD s)) p1 (λx hx=>h x (Rt _ hx)) (by rw[RJ];omega);exact⟨a',p',fM (ds:=[toD s]) rfl rfl e1 (ih.trans (by rw[bxs,Um]))⟩
noncomputable def isR:Stt->Bool
 | .rest _ _ _=>true
 | _=>false
noncomputable def dv:Stt->Int
 | .rest m _ _=>m
 | _=>1
def rn(s:Stt):List Nat:=((ats s).filter isR).map λa=>(dv a).toNat
def bv(s:Stt):Nat:=lcs (bxs (bnS s) (ats s))
def rv(s:Stt):Nat:=lcs (rn s)
def ld(s:Stt):Nat:=(ats s).length*(ats s).length*bv s*rv s
structure Mok(s:Stt)(M N w:Nat):Prop where
 sz:sz s<=390
 bn:(bB (bn s)).length<64
 pr:∀a∈ats s,(prs a).length<=10
 bd:∀x∈bxs (bnS s) (ats s),x ∣ M
 bdd:(bB ((bxs (bnS s) (ats s)).map λ(n:Nat)=>(n:Int))).length<128
 rp:∀a∈ats s,0<=dv a
 rd:∀x∈rn s,x ∣ N
 rdd:(bB ((rn s).map λ(n:Nat)=>(n:Int))).length<128
 M0:0<M
 M2:M.log2<1500
 Mw:M<w
 N0:0<N
 N2:N.log2<1500
 Nw:N<w
noncomputable def ldFd(iat ibs ids:Nat):Fd:=⟨1,1,(a0s (a0B (a0q .mul (a0q .mul (a0q .mul (a0z iat (a0r (a0n 0) a0t)) (a0z iat (a0r (a0n 0) a0t))) (a0z ibs (a0r (a0n 0) a0t))) (a0z ids (a0r (a0n 0) a0t)))) a0v)⟩
structure Ms(P:Prg)(ic il ipo iaw ial ibl iol ilo ibs ids iat idp ild:Nat):Prop where
 c:P.fns[ic]?=Z_ commonFd
 l:P.fns[il]?=Z_ (lcFd ic)
 po:P.fns[ipo]?=Z_ poFd
 aw:P.fns[iaw]?=Z_ (awFd ipo iaw)
 al:P.fns[ial]?=Z_ (alFd iaw)
 bl:P.fns[ibl]?=Z_ (blFd iaw)
 lo:P.fns[ilo]?=Z_ (lcoFd il)
 bs:P.fns[ibs]?=Z_ (bsFd ibl ial ilo)
 ds:P.fns[ids]?=Z_ (dsFd ial ilo)
 at':P.fns[iat]?=Z_ (atFd ial)
 dp:P.fns[idp]?=Z_ (dpFd ipo idp)
 ld:P.fns[ild]?=Z_ (ldFd iat ibs ids)
theorem uG(L:List (List Nat)):∀ss:List Stt,(∀a∈ss,(prs a).length<=10)->(bxs L ss).length<=10*ss.length
 | [],_=>by simp[bxs]
 | s::ss,h=>by
   have ih:=uG L ss λa ha=>h a (Rt _ ha)
   have h1:=h s Ru
   have h2:(bx L s).length<=10:=by
    unfold bx;rw[Rq];exact RW (TF _ _) h1
   rw[bxs,RJ,RK];omega
def fO(s:Stt):(ats s).length<=sz s:=by
 have:=TF isA (aw s)
 rwa [gB]at this
def pR(h:∀x∈l,x ∣ M)(hM:0<M):lcs l<=M:=WY hM ((dD M l).mpr h)
def hw_R(s:Stt):decide (hw s=tW)=isR s:=by
 cases s with
 | grp w _=>cases w<;>rfl
 | trn w _ _=>cases w<;>rfl
 | _=>rfl
section
variable{P:Prg}{ic il ipo iaw ial ibl iol ilo ibs ids iat idp ild:Nat}(H:Ms P ic il ipo iaw ial ibl iol ilo ibs ids iat idp ild)(w:Nat)
include H
theorem Nk(n:Nat)(s:Stt)(M N:Nat)(hs:wf n s)(h:Mok s M N w)(m:Nat)(hm:n+5<=m):(orc P w m).fn ibs [toD s]=.ok (Zd,.int (bv s:Nat)):=by
 obtain⟨k,rfl⟩:∃k,m=k+4:=⟨m-4,by omega⟩
 rw[aL H.bs];have hsz:=h.sz;have h1:=MN H.po H.aw H.bl w n s hs (by omega) h.bn (k+3) (by omega);have h2:=yL H.po H.aw H.al w n s hs (by omega) (k+3) (by omega);have hal:=fO s;have hbl:=uG (bnS s) (ats s) h.pr;have h60:Bg M:=VR h.M2 (by decide);have h3:=uU H.c H.l H.lo w (bxs (bnS s) (ats s)) M h.M0 h60 h.Mw h.bd (by omega) h.bdd k;obtain⟨a',p',hf⟩:=Cv (orc P w (k+3)) (Z_ (.sh,toD s)) (bnS s) (ats s) [] none none (λa ha=>⟨(Ve.mp ha).2,h.pr a ha⟩) (by simp only[V0];omega);rw[X3]at hf;exact aq rfl (δ0:=[some (.sh,toD s),none,none,none,none]) rfl (stp [some (.sh,toD s),some (.ow,.lst ((bnS s).map .str)),none,none,none] (b7 (w:=Y_) (aA (aj rfl (ao rfl) rfl) h1) rfl) (stp [some (.sh,toD s),some (.ow,.lst ((bnS s).map .str)),some (.ow,.lst (intN [])),none,none] (b7 (w:=Y_) (d:=.lst []) (cN rfl rfl) rfl) (stp _ (fors rfl (bC (aA (aj rfl (ao rfl) rfl) h2) rfl) hf) (stpR (retR (gK (j9 rfl (dX rfl) rfl) h3 rfl) rfl)))))
theorem K6(n:Nat)(s:Stt)(M N:Nat)(hs:wf n s)(h:Mok s M N w)(m:Nat)(hm:n+5<=m):(orc P w m).fn ids [toD s]=.ok (Zd,.int (rv s:Nat)):=by
 obtain⟨k,rfl⟩:∃k,m=k+4:=⟨m-4,by omega⟩
 rw[aL H.ds];have hsz:=h.sz;have h2:=yL H.po H.aw H.al w n s hs (by omega) (k+3) (by omega);have hal:=fO s
 have hrl:(rn s).length<=390:=by
  unfold rn;rw[Rq];exact RW (TF _ _) (by omega)
 have h60:Bg N:=VR h.N2 (by decide);have h3:=uU H.c H.l H.lo w (rn s) N h.N0 h60 h.Nw h.rd (by omega) h.rdd k
 have e1:ev (orc P w (k+3)) [some (.sh,toD s)] Zd (a0G [] 1 Zd (a0F (a0z ial (a0r (a0n 0) a0t))) (a0q .eq (a0x (a0n 0) (a0o (a0p 0))) (a0o (a0A [114,101,115,116]))) (a0x (a0n 0) (a0o (a0p 1))))=.ok (Y_,.lst (intN (rn s))):=by
  have hl2:(intN (rn s)).length<=100000:=by simp only[intN,Rq];omega
  revert hl2
  unfold intN rn;rw[Sg];intro hl2;refine cB _ ((ats s).map toD) _ _ _ (bC (aA (aj rfl (ao rfl) rfl) h2) rfl) hl2 (bZ (ts:=λq=>[toD q]) (λ_ _=>rfl) (λq _=>?_) λq hq hr=>⟨false,?_⟩)
  .rw[<-hw_R]
   obtain⟨r,e⟩:=hd q;rw[e];exact(aG ((dY (ao rfl) au).trans (aQ rfl rfl)) au).trans (sZ _ _)
  .have h0:=h.rp q hq
   cases q with
   | rest m c l=>
     rw[toD];refine((dY (ao rfl) au).trans (aQ rfl rfl)).trans ?_;show a0S (Zd,a0p m)=a0S (Zd,a0p ((dv (.rest m c l)).toNat:Int));rw[Int.toNat_of_nonneg h0];rfl
   | _=>cases hr
 exact aq rfl rfl (stpR (retR (aA (aj rfl e1 rfl) h3) rfl))
theorem NT(n:Nat)(s:Stt)(M N:Nat)(hs:wf n s)(h:Mok s M N w)(m:Nat)(hm:n+6<=m):(orc P w m).fn ild [toD s]=.ok (Zd,.int (ld s:Nat)):=by
 obtain⟨k,rfl⟩:∃k,m=k+1:=⟨m-1,by omega⟩
 rw[aL H.ld];have hsz:=h.sz;have hal:=fO s;have h1:=vX H.po H.aw H.al w H.at' n s hs (by omega) k (by omega);have h2:=Nk H w n s M N hs h k (by omega);have h3:=K6 H w n s M N hs h k (by omega);have b1:=pR h.bd h.M0;have b2:=pR h.rd h.N0;have hM:=h.M2;have hN:=h.N2;have m1:(ats s).length*(ats s).length<=390*390:=VB (by omega) (by omega)
 have small:∀c:Nat,c<=390*390->Bg c:=λc hc=>Bg.le hc (by unfold Bg;decide +kernel)
 have m2:Bg ((ats s).length*(ats s).length*bv s):=by
  unfold Bg
  by_cases h0:(ats s).length*(ats s).length*bv s=0
  .rw[h0];decide
  .have hM0:M≠0:=by have:=h.M0;omega
   have h5:=(Wx hM0).mp hM;refine(Wx h0).mpr ?_;refine TX (VB m1 (XS (TX b1 h5))) ?_;have:390*390*2 ^ 1500<=2 ^ 20*2 ^ 1500:=Nat.mul_le_mul_right _ (by decide);refine TX this ?_;rw[<-Zg];exact XF (by decide) (by decide)
 have o1:o2 .mul (.int ((ats s).length:Int)) (.int ((ats s).length:Int))=.ok (Zd,.int (((ats s).length*(ats s).length:Nat):Int)):=by
  rw[VN];exact mulE (ir (small _ (by omega)) (small _ (by omega)))
 have o2':o2 .mul (.int (((ats s).length*(ats s).length:Nat):Int)) (.int (bv s:Nat))=.ok (Zd,.int (((ats s).length*(ats s).length*bv s:Nat):Int)):=by
  rw[VN ((ats s).length*(ats s).length)];exact mulE (ir (small _ m1) (Bg.le b1 (VR hM (by decide))))
 have o3:o2 .mul (.int (((ats s).length*(ats s).length*bv s:Nat):Int)) (.int (rv s:Nat))=.ok (Zd,.int (ld s:Nat)):=by
  unfold ld;rw[VN ((ats s).length*(ats s).length*bv s)];exact mulE (ir m2 (Bg.le b2 (VR hN (by decide))))
 exact aq rfl rfl (stpR (retR (cz (cz (cz (aA (aj rfl (ao rfl) rfl) h1) (aA (aj rfl (ao rfl) rfl) h1) o1) (aA (aj rfl (ao rfl) rfl) h2) o2') (aA (aj rfl (ao rfl) rfl) h3) o3) rfl))
end
def Kk(key k:Int):Prop:=k.natAbs∈[0,1,2,3,4,6,8,9,12]\/k.natAbs=key.toNat+1
theorem Ez(x key:Int)(h0:0<=key):Kk key (lB x key):=by
 unfold lB Kk;split
 .have r2:=aB (x.fdiv 5) 2 (by decide)
  right
  rw[Xi,show(1-2*(x.fdiv 5).fmod 2).natAbs=1 by omega,Zh];omega
 .have r7:=aB (x.fdiv 5) 7 (by decide)
  have r4:=aB (x.fdiv 35) 4 (by decide)
  left
  rw[Xi]
  obtain⟨t,h7⟩:=Int.eq_ofNat_of_zero_le r7.1;obtain⟨u,h4⟩:=Int.eq_ofNat_of_zero_le r4.1;rw[h7]at r7 ⊢;rw[h4]at r4 ⊢
  exact(show∀t:Nat,t<7->∀u:Nat,u<4->((t:Int)-3).natAbs*(1+(u:Int)).natAbs∈[0,1,2,3,4,6,8,9,12]by decide) t (by omega) u (by omega)
def SumK(N:List (List Nat))(key:Int)(L:List Pair):Prop:=Srt (L.map (·.1))/\(L.map (·.1)).Nodup/\(∀p∈L,p.2≠0/\Bq p.2/\Kk key p.2/\p.1∈N)/\L.length<=4
def AtmK(N:List (List Nat))(s:Stt):Prop:=∃key:Int,0<=key/\key<10000/\isA s=Y_/\SumK N key (prs s)/\∀m c l,s=.rest m c l->(1<=m/\m<=8)\/m=key+1
section
variable{o:Orc}{imany inear:Nat}(hm:∀x k:Int,o.fn imany [.int x,.int k]=.ok (Zd,.int (lB x k)))(hnr:∀c:Int,∃v,o.fn inear [.int c]=.ok (Zd,.int v))
variable{N:List (List Nat)}{m:List Pair}(P:PtOk N m){sp:Int}(hsp:0<sp/\sp<=100000000000000000000)
include hm P hsp
theorem Bm(cell c:Int)(L:List Pair)(i:Nat)(hi:i<1000)(n:List Nat)(hn:n∈N)(g h:Option Slot)(hL:L.length<=1000):∃(k c':Int) (g' h':Option Slot) ,Bq k/\Kk (cell.fmod sp) k /\
 evSs o (smB imany) [some (.sh,.int cell),some (.sh,dctP m),some (.sh,.int sp),some (.ow,.lst (L.map prD)),some (.sh,.int c),some (.sh,.int (i:Int)),some (.sh,.str n),g,h] =
  .nx [some (.sh,.int cell),some (.sh,dctP m),some (.sh,.int sp),some (.ow,.lst ((if k=0 then L else L++[(n,k)]).map prD)),some (.sh,.int c'),some (.sh,.int (i:Int)),some (.sh,.str n),g',h']:=by
 obtain⟨v,hv,hg⟩:=P.get hn;have rk:=aB cell sp hsp.1
 have l48:Yn 48<9000:=by decide
 have r2:=aB (cell.fdiv 48) 2 (by omega)
 have spn:¬(sp=0):=by omega
 generalize hx:((cell.fmod sp+i)*(2*i+3)*48271).fmod 1000003=x;have hk:=yZ x (cell.fmod sp) rk.1;have hmx:=hm x (cell.fmod sp);have hK:=Ez x (cell.fmod sp) rk.1;generalize lB x (cell.fmod sp)=y at hk hmx hK;generalize hk2:y*(1-2*(cell.fdiv 48).fmod 2)=k
 have kb:Bq k:=by
  refine Mx (RW ?_ (Nat.pow_le_pow_right (by omega) (show 80<=300 by omega)));rw[<-hk2];rw[Xi];exact RW (VB hk (show _<=1 by omega)) (by rw[Zh];omega)
 have kK:Kk (cell.fmod sp) k:=by
  have e:k.natAbs=y.natAbs:=by
   rw[<-hk2,Xi,show(1-2*(cell.fdiv 48).fmod 2).natAbs=1 by omega,Zh]
  unfold Kk at hK ⊢;rw[e];exact hK
 have mv:cC k v=Y_:=Jt kb hv;have m1:cC (cell.fmod sp+(i:Int)) (2*(i:Int)+3)=Y_:=jP (by omega);have m0:cC 2 (i:Int)=Y_:=jP (by omega);have m3:cC 2 ((cell.fdiv 48).fmod 2)=Y_:=jP (by omega);have m4:cC y (1-2*(cell.fdiv 48).fmod 2)=Y_:=jP (by omega);have s1:=b7 (i:=7) (δ':=[some (.sh,.int cell),some (.sh,dctP m),some (.sh,.int sp),some (.ow,.lst (L.map prD)),some (.sh,.int c),some (.sh,.int (i:Int)),some (.sh,.str n),some (.sh,.int x),h]) (hx▸sm_x (o:=o) (δ:=[some (.sh,.int cell),some (.sh,dctP m),some (.sh,.int sp),some (.ow,.lst (L.map prD)),some (.sh,.int c),some (.sh,.int (i:Int)),some (.sh,.str n),g,h]) rfl rfl rfl spn m0 m1) rfl;have s2:=b7 (i:=8) (δ':=[some (.sh,.int cell),some (.sh,dctP m),some (.sh,.int sp),some (.ow,.lst (L.map prD)),some (.sh,.int c),some (.sh,.int (i:Int)),some (.sh,.str n),some (.sh,.int x),some (.sh,.int k)]) (hk2▸sm_k (δ:=[some (.sh,.int cell),some (.sh,dctP m),some (.sh,.int sp),some (.ow,.lst (L.map prD)),some (.sh,.int c),some (.sh,.int (i:Int)),some (.sh,.str n),some (.sh,.int x),h]) rfl rfl rfl spn hmx m3 m4) rfl;rw[smB,dj s1,dj s2]
 by_cases k0:k=0
 .refine⟨k,c,some (.sh,.int x),some (.sh,.int k),kb,kK,?_⟩
  simp[evSs,evS,ev,a0u,o2,eqA,eqS,a0w,truth,SO.of,k0]
 .refine⟨k,c-k*v,some (.sh,.int x),some (.sh,.int k),kb,kK,?_⟩
  have hs:size ((L.map prD).length+1)=Y_:=by simp[size];omega
  have hs2:size 2=Y_:=by decide
  generalize hM:dctP m=M at *
  have a1:evS o (a0Z 3 (a0E (a0r (a0n 6) (a0r (a0n 8) a0t)))) [some (.sh,.int cell),some (.sh,M),some (.sh,.int sp),some (.ow,.lst (L.map prD)),some (.sh,.int c),some (.sh,.int (i:Int)),some (.sh,.str n),some (.sh,.int x),some (.sh,.int k)]=.nx [some (.sh,.int cell),some (.sh,M),some (.sh,.int sp),some (.ow,.lst (L.map prD++[.tup [.str n,.int k]])),some (.sh,.int c),some (.sh,.int (i:Int)),some (.sh,.str n),some (.sh,.int x),some (.sh,.int k)]:=by
   generalize L.map prD=L' at *;simp[evS,evF,ev,evL,a0u,a0C,bG,isOwn,SO.of,ownD,aF,hs,hs2]
  have a2:evS o (a0y 4 (a0q .sub (a0n 4) (a0q .mul (a0n 8) (a0x (a0n 1) (a0n 6))))) [some (.sh,.int cell),some (.sh,M),some (.sh,.int sp),some (.ow,.lst (L.map prD++[.tup [.str n,.int k]])),some (.sh,.int c),some (.sh,.int (i:Int)),some (.sh,.str n),some (.sh,.int x),some (.sh,.int k)]=.nx [some (.sh,.int cell),some (.sh,M),some (.sh,.int sp),some (.ow,.lst (L.map prD++[.tup [.str n,.int k]])),some (.sh,.int (c-k*v)),some (.sh,.int (i:Int)),some (.sh,.str n),some (.sh,.int x),some (.sh,.int k)]:=by
   simp[evS,evF,ev,a0u,hg,o2,arith,a0C,mv,SO.of,setSlot,aF]
  have ht:((ev o [some (.sh,.int cell),some (.sh,M),some (.sh,.int sp),some (.ow,.lst (L.map prD)),some (.sh,.int c),some (.sh,.int (i:Int)),some (.sh,.str n),some (.sh,.int x),some (.sh,.int k)] Y_ (a0q .ne (a0n 8) (a0o (a0p 0)))).bind λx=>a0w (truth x.2))=.ok Y_:=by
   simp[ev,a0u,o2,eqA,eqS,a0w,truth,k0]
  have hth:=(dj (l:=a0s (a0y 4 (a0q .sub (a0n 4) (a0q .mul (a0n 8) (a0x (a0n 1) (a0n 6))))) a0v) a1).trans (dj (l:=a0v) a2);rw[dj (δ':=[some (.sh,.int cell),some (.sh,M),some (.sh,.int sp),some (.ow,.lst (L.map prD++[.tup [.str n,.int k]])),some (.sh,.int (c-k*v)),some (.sh,.int (i:Int)),some (.sh,.str n),some (.sh,.int x),some (.sh,.int k)])]
  .simp[evSs,k0,prD]
  .rw[evS,ht]
   simp only[SO.of,if_true];rw[hth]
   rfl
theorem wM(cell:Int):∀(l:List (List Nat))(i:Nat)(L:List Pair)(c:Int)(e f g h:Option Slot),(∀n∈l,n∈N)->i+l.length<=500->L.length+l.length<=500->∃(L':List Pair)(c':Int)(e' f' g' h':Option Slot),(L'.map (·.1)).Sublist l/\(∀p∈L',p.2≠0/\Bq p.2/\Kk (cell.fmod sp) p.2) /\
 bR (evSs o (smB imany)) [5,6] Y_ (dU i (l.map .str)) [some (.sh,.int cell),some (.sh,dctP m),some (.sh,.int sp),some (.ow,.lst (L.map prD)),some (.sh,.int c),e,f,g,h] =
  .nx [some (.sh,.int cell),some (.sh,dctP m),some (.sh,.int sp),some (.ow,.lst ((L++L').map prD)),some (.sh,.int c'),e',f',g',h']
 | [],i,L,c,e,f,g,h,_,_,_=>⟨[],c,e,f,g,h,by simp,by simp,by simp[dU,bR]⟩
 | n::l,i,L,c,e,f,g,h,hn,hi,hL=>by
   simp only[RK]at hi hL;obtain⟨k,c1,g1,h1,kb,kK,hb⟩:=Bm hm P hsp cell c L i (by omega) n (hn n Ru) g h (by omega)
   have hl2:(if k=0 then L else L++[(n,k)]).length<=L.length+1:=by split<;>simp
   obtain⟨L',c',e',f',g',h',q1,q2,q3⟩:=wM cell l (i+1) (if k=0 then L else L++[(n,k)]) c1 (Z_ (.sh,.int (i:Int))) (Z_ (.sh,.str n)) g1 h1 (λx hx=>hn x (Rt _ hx)) (by omega) (by omega)
   have hrun:bR (evSs o (smB imany)) [5,6] Y_ (dU i ((n::l).map .str)) [some (.sh,.int cell),some (.sh,dctP m),some (.sh,.int sp),some (.ow,.lst (L.map prD)),some (.sh,.int c),e,f,g,h]=.nx [some (.sh,.int cell),some (.sh,dctP m),some (.sh,.int sp),some (.ow,.lst (((if k=0 then L else L++[(n,k)])++L').map prD)),some (.sh,.int c'),e',f',g',h']:=by
    simp only[Ro,dU,bR,takes,if_true,RK,V0];rw[show aH [some (.sh,.int cell),some (.sh,dctP m),some (.sh,.int sp),some (.ow,.lst (L.map prD)),some (.sh,.int c),e,f,g,h] [5,6] [.int (i:Int),.str n]=Z_ [some (.sh,.int cell),some (.sh,dctP m),some (.sh,.int sp),some (.ow,.lst (L.map prD)),some (.sh,.int c),some (.sh,.int (i:Int)),some (.sh,.str n),g,h]from by simp[aH,setSlot]];simp only[hb];exact q3
   by_cases k0:k=0
   .rw[if_pos k0]at hrun
    exact⟨L',c',e',f',g',h',q1.trans (List.sublist_cons_self n l),q2,hrun⟩
   .rw[if_neg k0]at hrun
    refine⟨(n,k)::L',c',e',f',g',h',?_,?_,by rw[hrun];simp⟩
    .simp only[Ro];exact q1.cons₂ n
    .intro p hp
     rcases Rp.mp hp with rfl | hp
     .exact⟨k0,kb,kK⟩
     .exact q2 p hp
include hnr
theorem xr(cell:Int):∃c L,SumK N (cell.fmod sp) L/\bc o (lsumFd inear imany) [.int cell,dctP m,.int sp]=.ok (Zd,smT c L):=by
 obtain⟨c0,hc0⟩:=hnr (cell.fdiv 16);have hperm:=KG.sortS_perm N
 have hlen:(bF N).length<=4:=by rw[hperm.length_eq];exact P.le
 obtain⟨L,c,e',f',g',h',q1,q2,q3⟩:=wM hm P hsp cell (bF N) 0 [] c0 none none none none (λn hn=>hperm.mem_iff.mp hn) (by omega) (by simp;omega)
 have l16:Yn 16<9000:=by decide
 have hll:L.length<=4:=by have:=q1.length_le;simp at this;omega
 refine⟨c,L,⟨(nH N).sublist q1,(hperm.nodup_iff.mpr P.nd).sublist q1,λp hp=>⟨(q2 p hp).1,(q2 p hp).2.1,(q2 p hp).2.2,hperm.mem_iff.mp (q1.subset (U0 hp))⟩,hll⟩,?_⟩;rw[Gn];have hso:=P.sorted;generalize hM:dctP m=M at *;refine aq rfl (δ0:=[some (.sh,.int cell),some (.sh,M),some (.sh,.int sp),none,none,none,none,none,none]) rfl ?_;refine stp [some (.sh,.int cell),some (.sh,M),some (.sh,.int sp),some (.ow,.lst []),none,none,none,none,none] ?_ (stp [some (.sh,.int cell),some (.sh,M),some (.sh,.int sp),some (.ow,.lst []),some (.sh,.int c0),none,none,none,none] ?_ (stp [some (.sh,.int cell),some (.sh,M),some (.sh,.int sp),some (.ow,.lst (L.map prD)),some (.sh,.int c),e',f',g',h'] ?_ (stpR (δ':=[some (.sh,.int cell),some (.sh,M),some (.sh,.int sp),some (.ow,.lst (L.map prD)),some (.sh,.int c),e',f',g',h']) ?_)))
 .simp[evS,evF,ev,evL,a0u,a0C,size,SO.of,setSlot,aF]
 .simp[evS,evF,ev,evL,a0u,o2,arith,a0C,l16,bG,hc0,lent,SO.of,setSlot,aF]
 .rw[evS]
  simp only[bU];rw[show evI o [some (.sh,.int cell),some (.sh,M),some (.sh,.int sp),some (.ow,.lst []),some (.sh,.int c0),none,none,none,none] Zd (a0X (a0D .sorted (a0n 1)))=.ok (dU 0 ((bF N).map .str))from by simp[evI,ev,a0u,hso]];simpa[SO.of]using q3
 .have hs:size 2=Y_:=by decide
  simp[evS,evF,ev,evL,a0u,a0C,b1D,bG,isOwn,hs,SO.of]
end
theorem uD(hsp:0<sp/\sp<=10000)(cell:Int)(hs:∃c L,SumK N (cell.fmod sp) L/\o.fn isum [.int cell,M,.int sp]=.ok (Zd,smT c L)):∃s,AtmK N s/\bc o (atomFd isum) [.int cell,M,.int sp]=.ok (Zd,toD s):=by
 obtain⟨c,L,h1,h2⟩:=hs;generalize hs:smT c L=s at h2;have rk:=aB cell sp hsp.1;have r8:=aB (cell.fdiv 2) 8 (by decide);have f2:o2 .fdiv (.int cell) (.int 2)=.ok (Zd,.int (cell.fdiv 2)):=jK cell 2 (by decide) (by decide);have st1:=b7 (o:=o) (i:=3) (δ:=st4 cell M sp none) (δ':=st4 cell M sp (Z_ (.sh,s))) (aA (f:=isum) (aj (t:=a0n 0) rfl rfl (aj (t:=a0n 1) rfl rfl (aj (t:=a0n 2) (l:=a0t) rfl rfl rfl))) h2) rfl;have ec:ev o (st4 cell M sp (Z_ (.sh,s))) Y_ (a0q .eq (a0q .mod (a0n 0) (a0o (a0p 2))) (a0o (a0p 0)))=.ok (Zd,.bl (decide (cell.fmod 2=0))):=eqi ((aG rfl rfl).trans (modE cell 2 (by decide)));have e8:ev o (st4 cell M sp (Z_ (.sh,s))) Y_ (a0q .mod (a0q .fdiv (a0n 0) (a0o (a0p 2))) (a0o (a0p 8)))=.ok (Zd,.int ((cell.fdiv 2).fmod 8)):=(aG ((aG rfl rfl).trans f2) rfl).trans (modE _ 8 (by decide))
 have sz3:size 3=Y_:=by decide
 by_cases c1:cell.fmod 2=0
 .exact⟨.least c L,⟨cell.fmod sp,rk.1,by omega,rfl,h1,λ_ _ _ e=>by cases e⟩,by rw[toD,hs];exact aq rfl (δ0:=st4 cell M sp none) rfl (stp _ st1 (stpR (ifR (ec.trans (by rw[decide_eq_true c1])) (retR (bu (aj rfl rfl (aj rfl rfl rfl)) sz2) rfl))))⟩
 have sn:=λx=>ifN (x:=x) (ec.trans (by rw[decide_eq_false c1]))
 by_cases c2:(cell.fdiv 2).fmod 8=7
 .exact⟨.rest (cell.fmod sp+1) c L,⟨cell.fmod sp,rk.1,by omega,rfl,h1,λ_ _ _ e=>by cases e;exact .inr rfl⟩,by rw[toD,hs];exact aq rfl (δ0:=st4 cell M sp none) rfl (stp _ st1 (stp _ (sn _) (stpR (ifR ((eqi e8).trans (by rw[decide_eq_true c2])) (retR (bu (aj rfl rfl (aj rfl (show ev o _ Zd (a0q .add (a0q .mod (a0n 0) (a0n 2)) (a0o (a0p 1)))=.ok (Zd,.int (cell.fmod sp+1))from aG ((aG rfl rfl).trans (modE cell sp (by omega))) au) (aj rfl rfl rfl))) sz3) rfl)))))⟩
 .exact⟨.rest ((cell.fdiv 2).fmod 8+1) c L,⟨cell.fmod sp,rk.1,by omega,rfl,h1,λ_ _ _ e=>by cases e;exact .inl ⟨by omega,by omega⟩⟩,by rw[toD,hs];exact aq rfl (δ0:=st4 cell M sp none) rfl (stp _ st1 (stp _ (sn _) (stp _ (ifN ((eqi e8).trans (by rw[decide_eq_false c2]))) (stpR (retR (bu (aj rfl rfl (aj rfl (show ev o _ Zd (a0q .add (a0q .mod (a0q .fdiv (a0n 0) (a0o (a0p 2))) (a0o (a0p 8))) (a0o (a0p 1)))=.ok (Zd,.int ((cell.fdiv 2).fmod 8+1))from aG e8 au) (aj rfl rfl rfl))) sz3) rfl)))))⟩
open KU
def stkK(l:List (Stt×Nat)):List D:=l.map λq=>.tup [toD q.1,.int (q.2:Int)]
structure ClK(Φ:Stt->Prop)(N:List Nat->Prop):Prop where
 nt:∀s,Φ s->Φ (.nt s)
 grp:∀w ss,(∀s∈ss,Φ s)->Φ (.grp w ss)
 trn:∀w x s,N x->Φ s->Φ (.trn w x s)
structure StK(Φ:Stt->Prop)(k:Nat)(l:List (Stt×Nat)):Prop where
 wf:∀p∈l,KG.wf p.2 p.1/\p.2<=17
 ph:∀p∈l,Φ p.1
 sz:szs (l.map (·.1))<=k
 len:l.length<=k
def cg(l:List (Stt×Nat)):(stkK l).length=l.length:=by simp[stkK]
def bO(l:List (Stt×Nat))(q:Stt×Nat):stkK (l++[q])=stkK l++[.tup [toD q.1,.int (q.2:Int)]]:=by simp[stkK]
def lu(l:List (Stt×Nat)):stkK l=stk (l.map λq=>(toD q.1,q.2)):=by simp[stkK,stk,Sg,V5]
theorem StK.app(h:StK Φ k l)(hs:KG.wf n s/\n<=17)(hp:Φ s)(hz:KG.sz s<=1):StK Φ (k+1) (l++[(s,n)]):=by
 refine⟨λp hp=>?_,λp hp=>?_,?_,?_⟩
 .rcases Tf.mp hp with hp | hp
  .exact h.wf p hp
  .rw[Sv.mp hp];exact hs
 .rcases Tf.mp hp with hp | hp
  .exact h.ph p hp
  .rw[Sv.mp hp];assumption
 .have:=h.sz
  rw[U3,jM];simp only[Ro,Ti,szs];omega
 .have:=h.len
  rw[RJ,Uk];omega
theorem StK.one(h:StK Φ k (l++[q]))(hq:q.2<17)(hs:KG.wf q.2 q.1->KG.wf (q.2+1) s)(hp:Φ q.1->Φ s)(hz:KG.sz s=KG.sz q.1+1):StK Φ (k+1) (l++[(s,q.2+1)]):=by
 have hm:q∈l++[q]:=by simp
 refine⟨λp hp=>?_,λp hp=>?_,?_,?_⟩
 .rcases Tf.mp hp with hp | hp
  .exact h.wf p (Uo _ hp)
  .rw[Sv.mp hp];exact⟨hs (h.wf q hm).1,hq⟩
 .rcases Tf.mp hp with hp | hp
  .exact h.ph p (Uo _ hp)
  .rename_i hh _;rw[Sv.mp hp];exact hh (h.ph q hm)
 .have:=h.sz
  rw[U3,jM]at this ⊢;simp only[Ro,Ti,szs]at this ⊢;omega
 .have:=h.len
  rw[RJ,Uk]at this ⊢;omega
theorem StK.grp(h:StK Φ k l)(C:ClK Φ N)(bw:Bool)(t v:Nat)(hv:v+1<=17)(hm:∀q∈l.drop t,q.2<=v)(hk:k<=90):StK Φ (k+1) (l.take t++[(.grp bw ((l.drop t).map (·.1)),v+1)]):=by
 have hl:=h.len;refine⟨λp hp=>?_,λp hp=>?_,?_,?_⟩
 .rcases Tf.mp hp with hp | hp
  .exact h.wf p (List.mem_of_mem_take hp)
  .rw[Sv.mp hp]
   refine⟨?_,hv⟩;simp only[KG.wf];refine⟨by rw[Rq,W4];omega,λs hs=>?_⟩;obtain⟨q,hq,rfl⟩:=Sw.mp hs;exact dz (h.wf q (List.mem_of_mem_drop hq)).1 (hm q hq)
 .rcases Tf.mp hp with hp | hp
  .exact h.ph p (List.mem_of_mem_take hp)
  .rw[Sv.mp hp]
   refine C.grp bw _ λs hs=>?_
   obtain⟨q,hq,rfl⟩:=Sw.mp hs;exact h.ph q (List.mem_of_mem_drop hq)
 .have:=h.sz
  rw[<-Tz t l,U3,jM]at this;rw[U3,jM];simp only[Ro,Ti,szs,KG.sz];omega
 .rw[RJ,Vp,Uk];omega
def yq(l:List (Stt×Nat)):∃v:Nat,b2D .maxd (.lst (l.map λq=>a0p (q.2:Int))) (.int 0)=.ok (Zd,.int (v:Int))/\∀q∈l,q.2<=v:=by
 obtain⟨v,h1,h2⟩:=zg (l.map λq=>(toD q.1,q.2));rw[Sg]at h1;exact⟨v,h1,λq hq=>h2 _ (U0 hq)⟩
def tR(o:Orc)(l:List (Stt×Nat)):aR (λx=>ev o ((x++[]).map λd=>some (Own.sh,d)) Zd (a0x (a0n 0) (a0o (a0p 1)))) (λx=>ev o ((x++[]).map λd=>some (Own.sh,d)) Y_ (a0o (a0I Y_))) 1 Zd (stkK l)=.ok (l.map λq=>a0p (q.2:Int)):=by
 rw[lu,vZ,Sg];rfl
def jJ(o:Orc)(l:List (Stt×Nat)):aR (λx=>ev o ((x++[]).map λd=>some (Own.sh,d)) Zd (a0x (a0n 0) (a0o (a0p 0)))) (λx=>ev o ((x++[]).map λd=>some (Own.sh,d)) Y_ (a0o (a0I Y_))) 1 Zd (stkK l)=.ok (l.map λq=>toD q.1):=by
 rw[lu,wI,Sg];rfl
def topK(l:List (Stt×Nat)):Bool:=topB (l.map λq=>(toD q.1,q.2))
def Jl(o:Orc)(l:List (Stt×Nat))(a b c d e:Option Slot):ev o [some (.sh,.lst (stkK l)),a,b,c,d,e] Y_ inU=.ok (Zd,.bl (topK l)):=by
 rw[lu,Q8];rfl
def iR(h:topK l=Y_):∃l0 q,l=l0++[q]/\q.2<17:=by
 rcases List.eq_nil_or_concat l with rfl | ⟨l0,q,rfl⟩
 .simp[topK,topB]at h
 .refine⟨l0,q,List.concat_eq_append ..,?_⟩
  simpa[topK,topB]using h
theorem Al(C:ClK Φ N0)(o:Orc)(bw:Bool)(l:List (Stt×Nat))(k:Nat)(hl:StK Φ k l)(hn:k<=90)(many:Int)(hm:0<=many/\many<4)(ss:Stt)(hsp:wf 0 ss/\sz ss=1/\Φ ss) :
 ∃l',StK Φ (k+1) l'/\bc o grpFd [.str (gw bw),.lst (stkK l),.int many,toD ss]=.ok (Y_,.lst (stkK l')):=by
 have hlen:=hl.len;generalize hsd:toD ss=sp;generalize hwd:gw bw=w
 obtain⟨t,ht,hmx⟩:∃t:Nat,t<=l.length/\b2D .max (.int 0) (.int (((stkK l).length:Int)-many))=.ok (Zd,.int (t:Int)):=by
  refine⟨l.length-many.toNat,Nat.sub_le _ _,congrArg (λi=>a0S (Zd,a0p i)) ?_⟩;rw[cg];split<;>omega
 have e1:=Ao (stkK l) t (by rw[cg];exact ht);have e2:=O6 (stkK l) t (by rw[cg];exact ht);rw[show(stkK l).drop t=stkK (l.drop t) by simp only[stkK,List.map_drop]]at e1;rw[show(stkK l).take t=stkK (l.take t) by simp only[stkK,List.map_take]]at e2;obtain⟨v,hv1,hv2⟩:=yq (l.drop t)
 have ln:(l.drop t).length<=1000:=by rw[W4];exact RW (Nat.sub_le _ _) (RW hlen (RW hn (by decide)))
 have eM:∀a b,ev o (st6 w (.lst (stkK l)) many sp a b) Y_ (a0V .max (a0o (a0p 0)) (a0q .sub (a0D .len (a0n 1)) (a0n 2)))=.ok (Zd,.int (t:Int)):=λa b=>(zm (x:=.int 0) (y:=.int (((stkK l).length:Int)-many)) rfl rfl).trans hmx
 have s1:=b7 (i:=4) (δ':=st6 w (.lst (stkK l)) many sp (Z_ (.ow,.lst (stkK (l.drop t)))) none) (g8 (o:=o) (a:=a0n 1) rfl (eM none none) (au (d:=.non)) rfl rfl e1) rfl;have c1:=km o (st6 w (.lst (stkK l)) many sp (Z_ (.ow,.lst (stkK (l.drop t)))) none) Y_ 4 .ow _ _ _ rfl (by rw[Rq];exact ln) (tR o (l.drop t));have s2:=b7 (i:=5) (δ':=st6 w (.lst (stkK l)) many sp (Z_ (.ow,.lst (stkK (l.drop t)))) (Z_ (.sh,.int (1+(v:Int))))) (show ev o _ Zd (a0q .add (a0o (a0p 1)) (a0V .maxd (a0G [] 1 Zd (a0F (a0n 4)) (a0o (a0I Y_)) (a0x (a0n 0) (a0o (a0p 1)))) (a0o (a0p 0))))=.ok (Zd,.int (1+(v:Int)))from aG au ((zm c1 au).trans hv1)) rfl;have ec:ev o (st6 w (.lst (stkK l)) many sp (Z_ (.ow,.lst (stkK (l.drop t)))) (Z_ (.sh,.int (1+(v:Int))))) Y_ (a0q .gt (a0n 5) (a0o (a0p 17)))=.ok (Zd,.bl (decide (17<1+(v:Int)))):=rfl
 by_cases hd:17<1+(v:Int)
 .refine⟨l++[(ss,0)],hl.app ⟨hsp.1,Uj _⟩ hsp.2.2 (by rw[hsp.2.1];exact Rx _),?_⟩
  .have hl0:(stkK l).length+1<=1000:=by rw[cg];exact Nat.succ_le_succ (RW hlen (RW hn (by decide)))
   rw[show stkK (l++[(ss,0)])=stkK l++[.tup [sp,.int 0]] by rw[<-hsd];simp only[stkK,U3,Ro,Ti];rfl];have eT:=cN (o:=o) (δ:=st6 w (.lst (stkK l)) many sp (Z_ (.ow,.lst (stkK (l.drop t)))) (Z_ (.sh,.int (1+(v:Int))))) (lk:=Y_) (aj (l:=a0t) rfl (bu (lk:=Zd) (aj (t:=a0n 3) rfl rfl (aj (t:=a0o (a0p 0)) (l:=a0t) rfl rfl rfl)) sz2) rfl) sz1;exact aq rfl (δ0:=st6 w (.lst (stkK l)) many sp none none) rfl (stp _ s1 (stp _ s2 (stpR (ifR (ec.trans (by rw[decide_eq_true hd])) (retR ((aG (ao rfl) eT).trans (vz hl0)) rfl)))))
 .refine⟨l.take t++[(.grp bw ((l.drop t).map (·.1)),v+1)],hl.grp C bw t v (by omega) hv2 (by omega),?_⟩
  .have hl0:(stkK (l.take t)).length+1<=1000:=by rw[cg,Vp];exact Nat.succ_le_succ (RW (Nat.min_le_right _ _) (RW hlen (RW hn (by decide))))
   have c2:=km o (st6 w (.lst (stkK l)) many sp (Z_ (.ow,.lst (stkK (l.drop t)))) (Z_ (.sh,.int (1+(v:Int))))) Y_ 4 .ow _ _ _ rfl (by rw[Rq];exact ln) (jJ o (l.drop t))
   rw[show stkK (l.take t++[(.grp bw ((l.drop t).map (·.1)),v+1)])=stkK (l.take t)++[.tup [.tup [.str w,.tup ((l.drop t).map λq=>toD q.1)],.int (1+(v:Int))]] by
    rw[Int.add_comm,<-hwd];simp only[stkK,U3,Ro,Ti,toD,cM,Sg,V5];rfl]
   have eS:=g8 (o:=o) (lk:=Y_) (a:=a0n 1) rfl (au (d:=.non)) (eM (Z_ (.ow,.lst (stkK (l.drop t)))) (Z_ (.sh,.int (1+(v:Int))))) rfl rfl e2;have eT:=cN (o:=o) (δ:=st6 w (.lst (stkK l)) many sp (Z_ (.ow,.lst (stkK (l.drop t)))) (Z_ (.sh,.int (1+(v:Int))))) (lk:=Y_) (aj (l:=a0t) rfl (bu (lk:=Zd) (aj rfl (bu (lk:=Zd) (aj (t:=a0n 0) rfl rfl (aj (t:=a0D .tuple (a0G [] 1 Zd (a0F (a0n 4)) (a0o (a0I Y_)) (a0x (a0n 0) (a0o (a0p 0))))) (l:=a0t) rfl ((sY c2).trans rfl) rfl)) sz2) (aj (t:=a0n 5) (l:=a0t) rfl rfl rfl)) sz2) rfl) sz1;exact aq rfl (δ0:=st6 w (.lst (stkK l)) many sp none none) rfl (stp _ s1 (stp _ s2 (stp _ (ifN (ec.trans (by rw[decide_eq_false hd]))) (stpR (retR ((aG eS eT).trans (vz hl0)) rfl)))))
section
variable{o:Orc}{N:List (List Nat)}{M:D}{sp:Int}{iatom igrp:Nat}{Φ:Stt->Prop}{N0:List Nat->Prop}(C:ClK Φ N0)
variable(ha:∀c:Int,∃s,(wf 0 s/\sz s=1/\Φ s)/\o.fn iatom [.int c,M,.int sp]=.ok (Zd,toD s))
variable(hg:∀(bw:Bool)(l:List (Stt×Nat))(k:Nat)(many:Int)(s:Stt),StK Φ k l->k<=90->0<=many/\many<4->(wf 0 s/\sz s=1/\Φ s)->∃l',StK Φ (k+1) l'/\o.fn igrp [.str (gw bw),.lst (stkK l),.int many,toD s]=.ok (Y_,.lst (stkK l')))
variable(hso:b1D .sorted M=.ok (Y_,.lst ((bF N).map .str)))(hN:N.length=4)(hNx:∀x∈N,N0 x)
include C ha hg hso hN hNx
theorem uB(l:List (Stt×Nat))(k:Nat)(hl:StK Φ k l)(hn':k<=90)(cell:Int):∃l',StK Φ (k+1) l'/\bc o (stepFd iatom igrp) [.lst (stkK l),.int cell,M,.int sp]=.ok (Y_,.lst (stkK l')):=by
 have hn:l.length<=90:=RW hl.len hn';obtain⟨sa,hd,ed⟩:=ha (cell.fdiv 10);generalize hsd:toD sa=d at ed
 have l10:Yn 10<9000:=by decide
 have r10:=aB cell 10 (by omega);have r4:=aB (cell.fdiv 10) 4 (by omega)
 have z1:size 1=Y_:=by decide
 have z2:size 2=Y_:=by decide
 have z3:size 3=Y_:=by decide
 have s0:evS o (a0y 4 (a0z iatom (a0r (a0q .fdiv (a0n 1) (a0o (a0p 10))) (a0r (a0n 2) (a0r (a0n 3) a0t))))) [some (.sh,.lst (stkK l)),some (.sh,.int cell),some (.sh,M),some (.sh,.int sp),none,none]=.nx [some (.sh,.lst (stkK l)),some (.sh,.int cell),some (.sh,M),some (.sh,.int sp),some (.sh,d),none]:=by
  simp[evS,evF,ev,evL,a0u,o2,arith,a0C,l10,bG,isOwn,ed,lent,SO.of,setSlot,aF]
 have hin:=Jl o l (Z_ (.sh,.int cell)) (Z_ (.sh,M)) (Z_ (.sh,.int sp)) (Z_ (.sh,d)) none
 by_cases c1:cell.fmod 10<2
 .obtain⟨l',h1,h3⟩:=hg Zd l k ((cell.fdiv 10).fmod 4) sa hl hn' r4 hd
  rw[hsd]at h3;refine⟨l',h1,aq rfl (δ0:=[some (.sh,.lst (stkK l)),some (.sh,.int cell),some (.sh,M),some (.sh,.int sp),none,none]) rfl (stp _ s0 (stpR (δ':=[some (.sh,.lst (stkK l)),some (.sh,.int cell),some (.sh,M),some (.sh,.int sp),some (.sh,d),none]) ?_))⟩;generalize stkK l=S at *;rw[show gw Zd=[97,110,100]from rfl]at h3;simp[evS,evSs,evF,ev,evL,a0u,o2,arith,a0C,a0w,truth,SO.of,c1,l10,bG,isOwn,h3,lent]
 have s1:evS o (a0H (a0q .lt (a0q .mod (a0n 1) (a0o (a0p 10))) (a0o (a0p 2))) (a0s (a0B (a0z igrp (a0r (a0o (a0A [97,110,100])) (a0r (a0n 0) (a0r (a0q .mod (a0q .fdiv (a0n 1) (a0o (a0p 10))) (a0o (a0p 4))) (a0r (a0n 4) a0t)))))) a0v) a0v) [some (.sh,.lst (stkK l)),some (.sh,.int cell),some (.sh,M),some (.sh,.int sp),some (.sh,d),none]=.nx [some (.sh,.lst (stkK l)),some (.sh,.int cell),some (.sh,M),some (.sh,.int sp),some (.sh,d),none]:=by
  generalize stkK l=S at *;simp[evS,evSs,ev,a0u,o2,arith,a0C,a0w,truth,SO.of,c1]
 by_cases c2:cell.fmod 10<4
 .obtain⟨l',h1,h3⟩:=hg Y_ l k ((cell.fdiv 10).fmod 4) sa hl hn' r4 hd
  rw[hsd]at h3;refine⟨l',h1,aq rfl (δ0:=[some (.sh,.lst (stkK l)),some (.sh,.int cell),some (.sh,M),some (.sh,.int sp),none,none]) rfl (stp _ s0 (stp _ s1 (stpR (δ':=[some (.sh,.lst (stkK l)),some (.sh,.int cell),some (.sh,M),some (.sh,.int sp),some (.sh,d),none]) ?_)))⟩;generalize stkK l=S at *;rw[show gw Y_=[111,114]from rfl]at h3;simp[evS,evSs,evF,ev,evL,a0u,o2,arith,a0C,a0w,truth,SO.of,c2,l10,bG,isOwn,h3,lent]
 have s2:evS o (a0H (a0q .lt (a0q .mod (a0n 1) (a0o (a0p 10))) (a0o (a0p 4))) (a0s (a0B (a0z igrp (a0r (a0o (a0A [111,114])) (a0r (a0n 0) (a0r (a0q .mod (a0q .fdiv (a0n 1) (a0o (a0p 10))) (a0o (a0p 4))) (a0r (a0n 4) a0t)))))) a0v) a0v) [some (.sh,.lst (stkK l)),some (.sh,.int cell),some (.sh,M),some (.sh,.int sp),some (.sh,d),none]=.nx [some (.sh,.lst (stkK l)),some (.sh,.int cell),some (.sh,M),some (.sh,.int sp),some (.sh,d),none]:=by
  generalize stkK l=S at *;simp[evS,evSs,ev,a0u,o2,arith,a0C,a0w,truth,SO.of,c2]
 by_cases c3:cell.fmod 10=4/\topK l=Y_
 .obtain⟨l0,q,rfl,hq⟩:=iR c3.2
  refine⟨l0++[(.nt q.1,q.2+1)],hl.one hq (λh=>by simp only[wf];exact h) (C.nt q.1) (by rw[sz]),aq rfl (δ0:=[some (.sh,.lst (stkK (l0++[q]))),some (.sh,.int cell),some (.sh,M),some (.sh,.int sp),none,none]) rfl (stp _ s0 (stp _ s1 (stp _ s2 (stpR (δ':=[some (.sh,.lst (stkK (l0++[q]))),some (.sh,.int cell),some (.sh,M),some (.sh,.int sp),some (.sh,d),none]) ?_))))⟩
  .have h2:idxD (.lst (stkK (l0++[q]))) (.int (-1))=.ok (Zd,.tup [toD q.1,.int (q.2:Int)]):=by rw[bO];exact jh _ _
   have h3:slcD (.lst (stkK (l0++[q]))) none (Z_ (-1))=Z_ (Y_,.lst (stkK l0)):=by rw[bO];exact nG _ _
   have hs:size ((stkK l0).length+1)=Y_:=by rw[cg];simp at hn;simp[size];omega
   rw[bO l0 (.nt q.1,q.snd+1),toD];simp only[c3.2]at hin;generalize stkK (l0++[q])=S at *;generalize stkK l0=S0 at *;have hc4:=c3.1;generalize hI:inU=tt at *;have hI2:(a0N (a0q .gt (a0D .len (a0n 0)) (a0o (a0p 0))) (a0q .lt (a0x (a0x (a0n 0) (a0L (a0o (a0p 1)))) (a0o (a0p 1))) (a0o (a0p 17))))=tt:=hI;rw[hI2];simp[evS,evSs,evF,ev,evL,a0u,o2,arith,a0C,a0w,truth,SO.of,eqA,eqS,hc4,hin,bV,h2,h3,bnd,tu0,tu1,bG,isOwn,z1,z2,hs,sNot]
 have s3:evS o (a0H (a0N (a0q .eq (a0q .mod (a0n 1) (a0o (a0p 10))) (a0o (a0p 4))) inU) (a0s (a0B (a0q .add (a0K (a0n 0) (a0o a0M) (a0L (a0o (a0p 1)))) (a0J (a0r (a0E (a0r (a0E (a0r (a0o (a0A [110,111,116])) (a0r (a0x (a0x (a0n 0) (a0L (a0o (a0p 1)))) (a0o (a0p 0))) a0t))) (a0r (a0q .add (a0x (a0x (a0n 0) (a0L (a0o (a0p 1)))) (a0o (a0p 1))) (a0o (a0p 1))) a0t))) a0t)))) a0v) a0v) [some (.sh,.lst (stkK l)),some (.sh,.int cell),some (.sh,M),some (.sh,.int sp),some (.sh,d),none]=.nx [some (.sh,.lst (stkK l)),some (.sh,.int cell),some (.sh,M),some (.sh,.int sp),some (.sh,d),none]:=by
  have ht:((ev o [some (.sh,.lst (stkK l)),some (.sh,.int cell),some (.sh,M),some (.sh,.int sp),some (.sh,d),none] Y_ (a0N (a0q .eq (a0q .mod (a0n 1) (a0o (a0p 10))) (a0o (a0p 4))) inU)).bind λx=>a0w (truth x.2))=.ok Zd:=by
   by_cases c4:cell.fmod 10=4
   .have:topK l=Zd:=by cases hb:topK l;rfl;exact absurd ⟨c4,hb⟩ c3
    rw[this]at hin;generalize stkK l=S at *;generalize inU=tt at *;simp[ev,a0u,o2,arith,a0C,a0w,truth,eqA,eqS,c4,hin,bV]
   .generalize stkK l=S at *
    generalize inU=tt at *;simp[ev,a0u,o2,arith,a0C,a0w,truth,eqA,eqS,c4]
  rw[evS,ht];simp[SO.of,evSs]
 by_cases c5:7<cell.fmod 10/\topK l=Y_
 .obtain⟨l0,q,rfl,hq⟩:=iR c5.2
  have r2:=aB cell 2 (by omega)
  have hlen:(bF N).length=4:=by rw[(KG.sortS_perm N).length_eq,hN]
  obtain⟨x,hx,ex⟩:∃x,x∈N/\idxD (.lst ((bF N).map .str)) (.int ((cell.fdiv 10).fmod 4))=.ok (Zd,.str x):=by
   have hlt:((cell.fdiv 10).fmod 4).toNat<(bF N).length:=by omega
   refine⟨(bF N)[((cell.fdiv 10).fmod 4).toNat],(KG.sortS_perm N).mem_iff.mp (Wy _),?_⟩
   have h4:(cell.fdiv 10).fmod 4<((bF N).length:Int):=by omega
   simp[idxD,place,r4.1,h4,a0w,RC hlt]
  obtain⟨bw,ew⟩:∃bw,idxD (.lst [.str [115,111,109,101],.str [97,108,108]]) (.int (cell.fmod 2))=.ok (Zd,.str (tww bw)):=by
   have:cell.fmod 2=0\/cell.fmod 2=1:=by omega
   rcases this with e | e<;>rw[e]
   .exact⟨false,rfl⟩
   .exact⟨true,rfl⟩
  refine⟨l0++[(.trn bw x q.1,q.2+1)],hl.one hq (λh=>by simp only[wf];exact h) (C.trn bw x q.1 (hNx x hx)) (by rw[sz]),aq rfl (δ0:=[some (.sh,.lst (stkK (l0++[q]))),some (.sh,.int cell),some (.sh,M),some (.sh,.int sp),none,none]) rfl (stp _ s0 (stp _ s1 (stp _ s2 (stp _ s3 (stpR (δ':=[some (.sh,.lst (stkK (l0++[q]))),some (.sh,.int cell),some (.sh,M),some (.sh,.int sp),some (.sh,d),some (.sh,.tup [.str (tww bw),.str x,toD q.1])]) ?_)))))⟩
  .have h2:idxD (.lst (stkK (l0++[q]))) (.int (-1))=.ok (Zd,.tup [toD q.1,.int (q.2:Int)]):=by rw[bO];exact jh _ _
   have h3:slcD (.lst (stkK (l0++[q]))) none (Z_ (-1))=Z_ (Y_,.lst (stkK l0)):=by rw[bO];exact nG _ _
   have hs:size ((stkK l0).length+1)=Y_:=by rw[cg];simp at hn;simp[size];omega
   rw[bO l0 (.trn bw x q.1,q.snd+1),toD];simp only[c5.2]at hin;generalize stkK (l0++[q])=S at *;generalize stkK l0=S0 at *;generalize (bF N).map a0A=SN at *;have hc4:=c5.1;generalize hI:inU=tt at *;have hI2:(a0N (a0q .gt (a0D .len (a0n 0)) (a0o (a0p 0))) (a0q .lt (a0x (a0x (a0n 0) (a0L (a0o (a0p 1)))) (a0o (a0p 1))) (a0o (a0p 17))))=tt:=hI;rw[hI2];simp[evS,evSs,evF,ev,evL,a0u,o2,arith,a0C,a0w,truth,SO.of,hc4,hin,bV,h2,h3,bnd,tu0,tu1,bG,isOwn,z1,z2,z3,hs,hso,ex,ew,l10,setSlot,aF]
 .have s4:evS o (a0H (a0N (a0q .gt (a0q .mod (a0n 1) (a0o (a0p 10))) (a0o (a0p 7))) inU) (a0s (a0y 5 (a0E (a0r (a0x (a0J (a0r (a0o (a0A [115,111,109,101])) (a0r (a0o (a0A [97,108,108])) a0t))) (a0q .mod (a0n 1) (a0o (a0p 2)))) (a0r (a0x (a0D .sorted (a0n 2)) (a0q .mod (a0q .fdiv (a0n 1) (a0o (a0p 10))) (a0o (a0p 4)))) (a0r (a0x (a0x (a0n 0) (a0L (a0o (a0p 1)))) (a0o (a0p 0))) a0t))))) (a0s (a0B (a0q .add (a0K (a0n 0) (a0o a0M) (a0L (a0o (a0p 1)))) (a0J (a0r (a0E (a0r (a0n 5) (a0r (a0q .add (a0x (a0x (a0n 0) (a0L (a0o (a0p 1)))) (a0o (a0p 1))) (a0o (a0p 1))) a0t))) a0t)))) a0v)) a0v) [some (.sh,.lst (stkK l)),some (.sh,.int cell),some (.sh,M),some (.sh,.int sp),some (.sh,d),none]=.nx [some (.sh,.lst (stkK l)),some (.sh,.int cell),some (.sh,M),some (.sh,.int sp),some (.sh,d),none]:=by
   have ht:((ev o [some (.sh,.lst (stkK l)),some (.sh,.int cell),some (.sh,M),some (.sh,.int sp),some (.sh,d),none] Y_ (a0N (a0q .gt (a0q .mod (a0n 1) (a0o (a0p 10))) (a0o (a0p 7))) inU)).bind λx=>a0w (truth x.2))=.ok Zd:=by
    by_cases c4:7<cell.fmod 10
    .have:topK l=Zd:=by cases hb:topK l;rfl;exact absurd ⟨c4,hb⟩ c5
     rw[this]at hin;generalize stkK l=S at *;generalize inU=tt at *;simp[ev,a0u,o2,arith,a0C,a0w,truth,c4,hin,bV]
    .generalize stkK l=S at *
     generalize inU=tt at *;simp[ev,a0u,o2,arith,a0C,a0w,truth,c4]
   rw[evS,ht];simp[SO.of,evSs]
  refine⟨l++[(sa,0)],hl.app ⟨hd.1,Uj _⟩ hd.2.2 (by rw[hd.2.1];exact Rx _),aq rfl (δ0:=[some (.sh,.lst (stkK l)),some (.sh,.int cell),some (.sh,M),some (.sh,.int sp),none,none]) rfl (stp _ s0 (stp _ s1 (stp _ s2 (stp _ s3 (stp _ s4 (stpR (δ':=[some (.sh,.lst (stkK l)),some (.sh,.int cell),some (.sh,M),some (.sh,.int sp),some (.sh,d),none]) ?_))))))⟩
  .have hs:size ((stkK l).length+1)=Y_:=by rw[cg];simp[size];omega
   rw[bO l (sa,0),hsd];generalize stkK l=S at *;simp[evS,evF,ev,evL,a0u,o2,a0C,bG,isOwn,z1,z2,hs,SO.of]
end
section
variable{o:Orc}{M:D}{sp:Int}{istep:Nat}{Φ:Stt->Prop}{N0:List Nat->Prop}(C:ClK Φ N0)
variable(hst:∀(l:List (Stt×Nat))(k:Nat)(cell:Int),StK Φ k l->k<=90->∃l',StK Φ (k+1) l'/\o.fn istep [.lst (stkK l),.int cell,M,.int sp]=.ok (Y_,.lst (stkK l')))
include hst
theorem uE(a b:Option Slot):∀(cs:List Int)(l:List (Stt×Nat))(k:Nat)(f:Option Slot),StK Φ k l->k+cs.length<=90->∃l' f',StK Φ (k+cs.length) l' /\
 bR (evSs o (trB0 istep)) [5] Zd (cs.map .int) [a,some (.sh,M),some (.sh,.int sp),b,some (.ow,.lst (stkK l)),f]=.nx [a,some (.sh,M),some (.sh,.int sp),b,some (.ow,.lst (stkK l')),f']
 | [],l,k,f,h,hl=>⟨l,f,h,rfl⟩
 | c::cs,l,k,f,h,hl=>by
   simp only[RK]at hl;obtain⟨l1,h1,h3⟩:=hst l k c h (by omega);obtain⟨l',f',q1,q3⟩:=uE a b cs l1 (k+1) (Z_ (.sh,.int c)) h1 (by omega);refine⟨l',f',by rw[RK,show k+(cs.length+1)=k+1+cs.length by omega];exact q1,?_⟩;simp only[Ro,bR,takes,Rv,if_false,aH];rw[show setSlot [a,some (.sh,M),some (.sh,.int sp),b,some (.ow,.lst (stkK l)),f] 5 Zd (.int c)=Z_ [a,some (.sh,M),some (.sh,.int sp),b,some (.ow,.lst (stkK l)),some (.sh,.int c)]from by simp[setSlot]];simp only[Sh]
   have hb:evSs o (trB0 istep) [a,some (.sh,M),some (.sh,.int sp),b,some (.ow,.lst (stkK l)),some (.sh,.int c)]=.nx [a,some (.sh,M),some (.sh,.int sp),b,some (.ow,.lst (stkK l1)),some (.sh,.int c)]:=by
    generalize stkK l=S at *;generalize stkK l1=S1 at *;simp[trB0,evSs,evS,evF,ev,evL,a0u,bG,isOwn,h3,lent,D.imm,share,share1,aW,fu,SO.of,setSlot,aF]
   rw[hb];exact q3
include C
theorem vq(cs:List Int)(hc:cs.length<=80)(bw:Bool):∃s,wf 18 s/\Φ s/\sz s<=cs.length+1/\bc o (treeFd istep) [.lst (cs.map .int),M,.int sp,.str (gw bw)]=.ok (Zd,toD s):=by
 generalize hwd:gw bw=w;obtain⟨l,f',h1,h3⟩:=uE hst (Z_ (.sh,.lst (cs.map .int))) (Z_ (.sh,.str w)) cs [] 0 none ⟨λq hq=>by simp at hq,λq hq=>by simp at hq,by simp[szs],by simp⟩ (by omega);rw[VP]at h1;have h2:=h1.len;rw[Em]
 have z2:size 2=Y_:=by decide
 have s0:evS o (a0y 4 (a0J a0t)) [some (.sh,.lst (cs.map .int)),some (.sh,M),some (.sh,.int sp),some (.sh,.str w),none,none]=.nx [some (.sh,.lst (cs.map .int)),some (.sh,M),some (.sh,.int sp),some (.sh,.str w),some (.ow,.lst (stkK [])),none]:=by
  simp[evS,evF,ev,evL,a0u,a0C,size,SO.of,setSlot,aF,stkK]
 have s1:evS o (a0O [5] Zd (a0F (a0n 0)) (trB0 istep)) [some (.sh,.lst (cs.map .int)),some (.sh,M),some (.sh,.int sp),some (.sh,.str w),some (.ow,.lst (stkK [])),none]=.nx [some (.sh,.lst (cs.map .int)),some (.sh,M),some (.sh,.int sp),some (.sh,.str w),some (.ow,.lst (stkK l)),f']:=by
  rw[evS];rw[show bU [some (.sh,.lst (cs.map .int)),some (.sh,M),some (.sh,.int sp),some (.sh,.str w),some (.ow,.lst (stkK [])),none] (a0F (a0n 0))=[some (.sh,.lst (cs.map .int)),some (.sh,M),some (.sh,.int sp),some (.sh,.str w),some (.ow,.lst (stkK [])),none]from rfl];show SO.of _ (evI o _ Zd (a0F (a0n 0))) _=_;rw[show evI o [some (.sh,.lst (cs.map .int)),some (.sh,M),some (.sh,.int sp),some (.sh,.str w),some (.ow,.lst (stkK [])),none] Zd (a0F (a0n 0))=.ok (cs.map .int)from by simp[evI,ev,a0u,gk,a0w]];exact h3
 by_cases hl:l.length=1
 .obtain⟨q,rfl⟩:=List.length_eq_one_iff.mp hl
  refine⟨q.1,dz (h1.wf q (by simp)).1 (by have:=(h1.wf q (by simp)).2;omega),h1.ph q (by simp),by have:=h1.sz;simp only[Ro,Ti,szs]at this;omega,aq rfl (δ0:=[some (.sh,.lst (cs.map .int)),some (.sh,M),some (.sh,.int sp),some (.sh,.str w),none,none]) rfl (stp _ s0 (stp _ s1 (stpR (δ':=[some (.sh,.lst (cs.map .int)),some (.sh,M),some (.sh,.int sp),some (.sh,.str w),some (.ow,.lst (stkK [q])),f']) ?_)))⟩;have hi:idxD (.lst (stkK [q])) (.int 0)=.ok (Zd,.tup [toD q.1,.int (q.2:Int)]):=rfl;have hln:(stkK [q]).length=1:=rfl;generalize stkK [q]=S at *;simp[evS,evSs,evF,ev,a0u,b1D,hln,o2,eqA,eqS,a0w,truth,SO.of,hi,tu0]
 .have ew:toD (.grp bw (l.map (·.1)))=.tup [.str w,.tup (l.map λq=>toD q.1)]:=by rw[toD,cM,Sg,hwd];rfl
  refine⟨.grp bw (l.map (·.1)),?_,C.grp bw _ (λs hs=>?_),by have:=h1.sz;rw[sz];omega,?_⟩
  .simp only[wf]
   refine⟨by rw[Rq];omega,λs hs=>?_⟩;obtain⟨q,hq,rfl⟩:=Sw.mp hs;exact dz (h1.wf q hq).1 (h1.wf q hq).2
  .obtain⟨q,hq,rfl⟩:=Sw.mp hs
   exact h1.ph q hq
  rw[ew];refine aq rfl (δ0:=[some (.sh,.lst (cs.map .int)),some (.sh,M),some (.sh,.int sp),some (.sh,.str w),none,none]) rfl (stp _ s0 (stp _ s1 (stp [some (.sh,.lst (cs.map .int)),some (.sh,M),some (.sh,.int sp),some (.sh,.str w),some (.ow,.lst (stkK l)),f'] ?_ (stpR (δ':=[some (.sh,.lst (cs.map .int)),some (.sh,M),some (.sh,.int sp),some (.sh,.str w),some (.ow,.lst (stkK l)),f']) ?_))))
  .have hln:¬(((stkK l).length:Int)=1):=by rw[cg];omega
   have hln':¬((stkK l).length=1):=by rw[cg];omega
   generalize stkK l=S at *;simp[evS,evSs,ev,a0u,b1D,hln,hln',o2,eqA,eqS,a0w,truth,SO.of]
  .have hcm:=km o [some (.sh,.lst (cs.map .int)),some (.sh,M),some (.sh,.int sp),some (.sh,.str w),some (.ow,.lst (stkK l)),f'] Y_ 4 .ow _ _ _ rfl (by simp;omega) (jJ o l)
   generalize (l.map λq=>toD q.1)=Q at *;generalize hT:(a0G [] 1 Zd (a0F (a0n 4)) (a0o (a0I Y_)) (a0x (a0n 0) (a0o (a0p 0))))=tt at *;simp[evS,evF,ev,evL,a0u,hcm,b1D,a0C,bG,isOwn,z2,SO.of]
end
noncomputable def lcommonFd:Fd:=⟨2,3,(a0s (a0y 0 (a0D .abs (a0n 0))) (a0s (a0y 1 (a0D .abs (a0n 1))) (a0s (S.while_ (a0q .gt (a0n 1) (a0o (a0p 0))) (a0s (a0y 2 (a0q .mod (a0n 0) (a0n 1))) (a0s (a0y 0 (a0n 1)) (a0s (a0y 1 (a0n 2)) a0v)))) (a0s (a0B (a0n 0)) a0v))))⟩
theorem o8(o:Orc)(a b:Int)(hw:b.natAbs<o.w):bc o lcommonFd [.int a,.int b]=.ok (Zd,.int (gc a b)):=by
 obtain⟨l',h⟩:=DP (c:=fun δ=>ev o δ Y_ (a0q .gt (a0n 1) (a0o (a0p 0)))) (body:=evSs o (a0s (a0y 2 (a0q .mod (a0n 0) (a0n 1))) (a0s (a0y 0 (a0n 1)) (a0s (a0y 1 (a0n 2)) a0v)))) (λg s l=>[some (.sh,.int g),some (.sh,.int s),l])
  (λg s l hs=>by
   have:decide (0<s)=decide (s≠0):=by apply decide_eq_decide.mpr;omega
   simp only[ev,a0u,o2,arith,X8,W5]
   rw[this]) (λg s l h=>⟨some (.sh,.int (g.fmod s)),by simp[evSs,evS,evF,ev,a0u,o2,arith,a0C,h,SO.of,setSlot,aF]⟩)
  o.w (if a<0 then -a else a) (if b<0 then -b else b) none (qz a) (qz b) (by split<;>omega)
 rw[Ea]at h;refine aq rfl (δ0:=[some (.sh,.int a),some (.sh,.int b),none]) rfl (stp [some (.sh,.int (if a<0 then -a else a)),some (.sh,.int b),none] ?_ (stp [some (.sh,.int (if a<0 then -a else a)),some (.sh,.int (if b<0 then -b else b)),none] ?_ (stp [some (.sh,.int (gc a b)),some (.sh,.int 0),l'] ?_ (stpR (δ':=[some (.sh,.int (gc a b)),some (.sh,.int 0),l']) ?_))))
 .simp[evS,evF,ev,a0u,b1D,SO.of,setSlot,aF]
 .simp[evS,evF,ev,a0u,b1D,SO.of,setSlot,aF]
 .rw[evS];exact h
 .rfl
noncomputable def orT(a b:List Nat):T:=(a0W (a0q .eq (a0x (a0n 0) (a0o (a0p 0))) (a0o (a0A a))) (a0q .eq (a0x (a0n 0) (a0o (a0p 0))) (a0o (a0A b))))
def or2(o:Orc)(x a b:List Nat)(r:List D)(q:List (Option Slot))(lk:Bool):ev o (Z_ (.sh,.tup (.str x::r))::q) lk (orT a b)=.ok (Zd,.bl (decide (x=a)||decide (x=b))):=by
 have e:∀y:List Nat,ev o (Z_ (.sh,.tup (.str x::r))::q) Y_ (a0q .eq (a0x (a0n 0) (a0o (a0p 0))) (a0o (a0A y)))=.ok (Zd,.bl (decide (x=y))):=λy=>by array_get_dec
 exact vM (e a) (e b)
def or_A(o:Orc)(s:Stt)(q:List (Option Slot))(lk:Bool):ev o (Z_ (.sh,toD s)::q) lk (orT [108,101,97,115,116] [114,101,115,116])=.ok (Zd,.bl (isA s)):=by
 obtain⟨r,e⟩:=hd s;rw[e,or2,<-hw_A]
 cases s with
 | grp w _=>cases w<;>rfl
 | trn w _ _=>cases w<;>rfl
 | _=>rfl
def or_T(o:Orc)(s:Stt)(q:List (Option Slot))(lk:Bool):ev o (Z_ (.sh,toD s)::q) lk (orT [115,111,109,101] [97,108,108])=.ok (Zd,.bl (isT s)):=by
 obtain⟨r,e⟩:=hd s;rw[e,or2,<-hw_T]
 cases s with
 | grp w _=>cases w<;>rfl
 | trn w _ _=>cases w<;>rfl
 | _=>rfl
noncomputable def lpFd:Fd:=⟨1,1,(a0s (a0H (orT [97,110,100] [111,114]) (a0s (a0B (a0D .list (a0x (a0n 0) (a0o (a0p 1))))) a0v) a0v) (a0s (a0H (a0q .eq (a0x (a0n 0) (a0o (a0p 0))) (a0o (a0A [110,111,116]))) (a0s (a0B (a0J (a0r (a0x (a0n 0) (a0o (a0p 1))) a0t))) a0v) a0v) (a0s (a0H (orT [115,111,109,101] [97,108,108]) (a0s (a0B (a0J (a0r (a0x (a0n 0) (a0o (a0p 2))) a0t))) a0v) a0v) (a0s (a0B (a0J a0t)) a0v))))⟩
section
variable{P:Prg}{ipo:Nat}(hpo:P.fns[ipo]?=Z_ lpFd)(w:Nat)
include hpo
theorem Di(s:Stt)(m:Nat):(orc P w (m+1)).fn ipo [toD s]=.ok (Y_,.lst ((pt s).map toD)):=by
 rw[aL hpo]
 have e0:∀(x y:List Nat)(r:List D),ev (orc P w m) [some (.sh,.tup (.str x::r))] Y_ (a0q .eq (a0x (a0n 0) (a0o (a0p 0))) (a0o (a0A y)))=.ok (Zd,.bl (decide (x=y))):=λx y r=>by array_get_dec
 cases s with
 | least c l=>
   rw[toD];exact aq rfl rfl (stp _ (ifF (or2 _ _ _ _ _ _ _) rfl) (stp _ (ifF (e0 _ _ _) rfl) (stp _ (ifF (or2 _ _ _ _ _ _ _) rfl) (stpR (retR (cN (xs:=[]) rfl rfl) rfl)))))
 | rest q c l=>
   rw[toD];exact aq rfl rfl (stp _ (ifF (or2 _ _ _ _ _ _ _) rfl) (stp _ (ifF (e0 _ _ _) rfl) (stp _ (ifF (or2 _ _ _ _ _ _ _) rfl) (stpR (retR (cN (xs:=[]) rfl rfl) rfl)))))
 | nt s=>
   rw[toD];refine aq rfl rfl (stp _ (ifF (or2 _ _ _ _ _ _ _) rfl) (stpR (ifT (e0 _ _ _) rfl (retR (w:=Y_) (d:=.lst [toD s]) ?_ rfl))))
   array_get_dec
 | grp b ss=>
   rw[toD,cM];refine aq rfl rfl (stpR (ifT (or2 _ _ _ _ _ _ _) (by cases b<;>rfl) (retR (w:=Y_) (d:=.lst (ss.map toD)) ?_ rfl)));exact e_b1 (x:=.tup (ss.map toD)) (by array_get_dec) rfl
 | trn b x s=>
   rw[toD];refine aq rfl rfl (stp _ (ifF (or2 _ _ _ _ _ _ _) (by cases b<;>rfl) ) (stp _ (ifF (e0 _ _ _) (by cases b<;>rfl)) (stpR (ifT (or2 _ _ _ _ _ _ _) (by cases b<;>rfl) (retR (w:=Y_) (d:=.lst [toD s]) ?_ rfl)))))
   array_get_dec
end
section
variable{P:Prg}{ipo iaw:Nat}(hpo:P.fns[ipo]?=Z_ lpFd)(haw:P.fns[iaw]?=Z_ (awFd ipo iaw))(w:Nat)
include hpo haw
theorem Nu:∀(n:Nat)(s:Stt),wf n s->sz s<=10000->∀m,n+2<=m->(orc P w m).fn iaw [toD s]=.ok (Y_,.lst ((aw s).map toD)):=by
 intro n
 induction n using XM with
 | ind n ih=>
 intro s hs hz m hm
 obtain⟨k,rfl⟩:∃k,m=k+2:=⟨m-2,by omega⟩
 rw[aL haw,IV];have hp:=Di hpo w s k;have hsz:=LQ s
 have hc:∀p∈pt s,(orc P w (k+1)).fn iaw [toD p]=.ok (Y_,.lst ((aw p).map toD)):=λp q=>by
  obtain⟨j,rfl,h⟩:=u9 hs q;exact ih j (by omega) p h (by have:=ou q;omega) (k+1) (by omega)
 obtain⟨p',hl⟩:=nW (orc P w (k+1)) (Z_ (.sh,toD s)) iaw aw aws (by rw[aws]) (λs ss=>by rw[aws]) (pt s) [s] none hc (by rw[lG];simp;omega);exact aq rfl (δ0:=[some (.sh,toD s),none,none]) rfl (stp [some (.sh,toD s),some (.ow,.lst ([s].map toD)),none] (b7 (w:=Y_) (d:=.lst [toD s]) (cN (aj rfl (ao rfl) rfl) rfl) rfl) (stp _ (fors rfl (bC (aA (aj rfl (ao rfl) rfl) hp) rfl) hl) (stpR (CV rfl))))
end
noncomputable def ldpFd(po dp:Nat):Fd:=⟨1,2,(a0s (a0y 1 (a0V .maxd (a0G [] 1 Zd (a0F (a0z po (a0r (a0n 0) a0t))) (a0o (a0I Y_)) (a0z dp (a0r (a0n 0) a0t))) (a0o (a0p 0)))) (a0s (a0B (a0q .add (a0n 1) (a0D .int (orT [115,111,109,101] [97,108,108])))) a0v))⟩
def Jq(b:Bool):b1D .int (.bl b)=.ok (Zd,.int (if b then 1 else 0)):=by cases b<;>rfl
section
variable{P:Prg}{ipo idp:Nat}(hpo:P.fns[ipo]?=Z_ lpFd)(hdp:P.fns[idp]?=Z_ (ldpFd ipo idp))(w:Nat)
include hpo hdp
theorem GD:∀(n:Nat)(s:Stt),wf n s->∀m,n+2<=m->(orc P w m).fn idp [toD s]=.ok (Zd,.int (dp s:Int)):=by
 intro n
 induction n using XM with
 | ind n ih=>
 intro s hs m hm
 obtain⟨k,rfl⟩:∃k,m=k+2:=⟨m-2,by omega⟩
 rw[aL hdp];have hp:=Di hpo w s k
 have hc:∀p∈pt s,(orc P w (k+1)).fn idp [toD p]=.ok (Zd,.int (dp p:Int)):=λp q=>by
  obtain⟨j,rfl,h⟩:=u9 hs q;exact ih j (by omega) p h (k+1) (by omega)
 have hl:(pt s).length<=100:=by
  cases s with
  | grp _ ss=>
    cases n with
    | zero=>simp only[wf]at hs
    | succ j=>simp only[wf]at hs;exact hs.1
  | _=>simp[pt]
 have e1:ev (orc P w (k+1)) [some (.sh,toD s),none] Y_ (a0G [] 1 Zd (a0F (a0z ipo (a0r (a0n 0) a0t))) (a0o (a0I Y_)) (a0z idp (a0r (a0n 0) a0t)))=.ok (Y_,.lst (((pt s).map dp).map λ(n:Nat)=>a0p (n:Int))):=by
  rw[Sg];exact cB _ ((pt s).map toD) _ _ _ (bC (aA (aj rfl (ao rfl) rfl) hp) rfl) (by rw[Rq];omega) (dM (λd _=>au) λd hd=>⟨false,aA (aj rfl (ao rfl) rfl) (hc d hd)⟩)
 have e2:=xW ((pt s).map dp);rw[<-jO]at e2;refine aq rfl (δ0:=[some (.sh,toD s),none]) rfl (stp [some (.sh,toD s),some (.sh,.int (dps (pt s):Int))] (b7 (w:=Zd) ((zm e1 au).trans e2) rfl) (stpR (retR (w:=Zd) ?_ rfl)));refine(cz (ao rfl) (e_b1 (or_T _ s _ _) (Jq _)) (tH _ _)).trans ?_;rw[MJ];cases isT s<;>simp
end
noncomputable def llB(ic:Nat):SL:=(a0s (a0y 1 (a0q .mul (a0q .fdiv (a0n 1) (a0z ic (a0r (a0n 1) (a0r (a0n 2) a0t)))) (a0D .abs (a0n 2)))) a0v)
noncomputable def llFd(ic:Nat):Fd:=⟨1,3,(a0s (a0y 1 (a0o (a0p 1))) (a0s (a0O [2] Zd (a0F (a0n 0)) (llB ic)) (a0s (a0B (a0n 1)) a0v)))⟩
section
variable{P:Prg}{ic il:Nat}(hc:P.fns[ic]?=Z_ lcommonFd)(hl:P.fns[il]?=Z_ (llFd ic))(w:Nat)
include hc
theorem CP(A:Option Slot)(m M:Nat)(hM:0<M)(h60:Bg M)(hw:M<w):∀(l:List Int)(t:Nat)(p:Option Slot),t ∣ M->(∀x∈l,x.natAbs ∣ M)->∃p',bR (evSs (orc P w (m+1)) (llB ic)) [2] Zd (l.map .int) [A,some (.sh,.int (t:Int)),p]=.nx [A,some (.sh,.int ((l.map Yy).foldl Wn t:Nat)),p']
 | [],t,p,_,_=>⟨p,rfl⟩
 | x::l,t,p,ht,hx=>by
   have hxM:=hx x Ru;have hx0:0<x.natAbs:=Nat.pos_of_dvd_of_pos hxM hM;have hle:=WY hM hxM;have htl:=WY hM ht
   have hg:(orc P w (m+1)).fn ic [.int (t:Int),.int x]=.ok (Zd,.int (gc t x)):=by
    rw[aL hc];exact o8 _ _ _ (by rw[Nf];omega)
   have e:gc (t:Int) x=(X6 t x.natAbs:Int):=by unfold gc Int.gcd;rw[Y7]
   have hp:0<X6 t x.natAbs:=Nat.gcd_pos_of_pos_right t hx0;have hgle:X6 t x.natAbs<=x.natAbs:=WY hx0 (Nat.gcd_dvd_right t x.natAbs)
   have hd:o2 .fdiv (.int (t:Int)) (.int (gc t x))=.ok (Zd,.int ((t/X6 t x.natAbs:Nat):Int)):=by
    have:=eF (t:Int) (gc t x) (by
     rw[e]
     have h3:((X6 t x.natAbs:Nat):Int).natAbs.log2<9000:=by
      rw[Y7];have:=Bg.le hgle (Bg.le hle h60);unfold Bg at this;omega
     simp only[h3,decide_true,Z0,decide_eq_true_eq]
     omega)
    rw[this,e,Int.fdiv_eq_ediv_of_nonneg _ (Xa _),<-Int.natCast_ediv]
   have hm:o2 .mul (.int ((t/X6 t x.natAbs:Nat):Int)) (.int (x.natAbs:Int))=.ok (Zd,.int (Wn t x.natAbs:Int)):=by
    have h1:Wn t x.natAbs=t/X6 t x.natAbs*x.natAbs:=by rw[Wn,Nat.div_mul_right_comm (Nat.gcd_dvd_left t _)]
    rw[h1,VN];exact mulE (ir (Bg.le (Nat.div_le_self _ _) (Bg.le htl h60)) (Bg.le hle h60))
   obtain⟨p',ih⟩:=CP A m M hM h60 hw l (Wn t x.natAbs) (Z_ (.sh,.int x)) (Zj ht hxM) (λy hy=>hx y (Rt _ hy));refine⟨p',fM (ds:=[.int x]) rfl rfl (one (b7 (w:=Zd) (d:=.int (Wn t x.natAbs:Nat)) ?_ rfl)) ih⟩;exact cz (cz (ao rfl) (aA (aj rfl (ao rfl) (aj rfl (ao rfl) rfl)) hg) hd) (e_b1 (ao rfl) (Cp x)) hm
include hl
theorem Ef(l:List Int)(M:Nat)(hM:0<M)(h60:Bg M)(hw:M<w)(hx:∀x∈l,x.natAbs ∣ M)(m:Nat):(orc P w (m+2)).fn il [.lst (l.map .int)]=.ok (Zd,.int (lcs (l.map Yy):Nat)):=by
 rw[aL hl];obtain⟨p',hf⟩:=CP hc w (Z_ (.sh,.lst (l.map .int))) m M hM h60 hw l 1 none (Nat.one_dvd _) hx;rw[qY]at hf;exact aq rfl (δ0:=[some (.sh,.lst (l.map .int)),none,none]) rfl (stp [some (.sh,.lst (l.map .int)),some (.sh,.int ((1:Nat):Int)),none] (b7 (w:=Zd) au rfl) (stp _ (fors rfl (bC (ao rfl) rfl) hf) (stpR (Dq rfl))))
end
noncomputable def llA:T:=(a0G [] 1 Zd (a0F (a0n 0)) (orT [108,101,97,115,116] [114,101,115,116]) (a0n 0))
def llN:T:=(a0G [] 1 Zd (a0F (a0n 0)) (orT [115,111,109,101] [97,108,108]) (a0x (a0n 0) (a0o (a0p 1))))
noncomputable def llE:T:=(a0G [2] 1 Zd (a0F (a0x (a0x (a0n 4) (a0L (a0o (a0p 1)))) (a0o (a0p 1)))) (a0q .in (a0x (a0n 0) (a0o (a0p 0))) (a0n 1)) (a0x (a0n 0) (a0o (a0p 1))))
def llX:SL:=(a0s (a1a 3 llE) a0v)
noncomputable def llR:T:=(a0G [] 1 Zd (a0F (a0n 1)) (a0q .eq (a0x (a0n 0) (a0o (a0p 0))) (a0o (a0A [114,101,115,116]))) (a0x (a0n 0) (a0o (a0p 1))))
noncomputable def lldFd(il:Nat):Fd:=⟨1,6,(a0s (a0y 1 llA) (a0s (a0y 2 llN) (a0s (a0y 3 (a0J a0t)) (a0s (a0O [4] Zd (a0F (a0n 1)) llX) (a0s (a0y 5 llR) (a0s (a0B (a0q .mul (a0q .mul (a0q .pow (a0D .len (a0n 1)) (a0o (a0p 2))) (a0z il (a0r (a0n 3) a0t))) (a0z il (a0r (a0n 5) a0t)))) a0v))))))⟩
noncomputable def bi(L:List (List Nat))(s:Stt):List Int:=((prs s).filter λp=>decide (p.1∈L)).map λp=>p.2
noncomputable def bis(L:List (List Nat)):List Stt->List Int
 | []=>[]
 | s::ss=>bi L s++bis L ss
def Oa(L:List (List Nat))(s:Stt):(bi L s).map Yy=bx L s:=by
 unfold bi bx;rw[Sg];rfl
theorem vo(L:List (List Nat)):∀ss,(bis L ss).map Yy=bxs L ss
 | []=>rfl
 | s::ss=>by rw[bis,bxs,U3,Oa,vo L ss]
def Jz(h:∀x,x∈L↔x∈L')(s:Stt):bx L s=bx L' s:=by
 unfold bx
 have:(λp:Pair=>decide (p.1∈L))=λp=>decide (p.1∈L'):=funext λp=>decide_eq_decide.mpr (h p.1)
 rw[this]
theorem wD(h:∀x,x∈L↔x∈L'):∀ss,bxs L ss=bxs L' ss
 | []=>rfl
 | s::ss=>by rw[bxs,bxs,Jz h,wD h ss]
theorem qD:∀l:List Int,immL (l.map .int)=Y_
 | []=>rfl
 | x::l=>by
   have:=qD l;simp only[Ro,immL,D.imm,Bool.true_and];exact this
theorem G3(o:Orc)(A B:Option Slot)(L:List (List Nat))(row:List Int)(s:Stt)(h:isA s=Y_)(hl:(prs s).length<=1000)(hr:row.length<=50000)(p:Option Slot):evSs o llX [A,B,some (.ow,.lst (L.map .str)),some (.ow,.lst (row.map .int)),some (.sh,toD s),p]=.nx [A,B,some (.ow,.lst (L.map .str)),some (.ow,.lst ((row++bi L s).map .int)),some (.sh,toD s),p]:=by
 obtain⟨c,hc⟩:=Cr s h
 have hb:(bi L s).length<=1000:=by
  unfold bi;rw[Rq];exact RW (TF _ _) hl
 have e2:ev o [A,B,some (.ow,.lst (L.map .str)),some (.ow,.lst (row.map .int)),some (.sh,toD s),p] Zd llE=.ok (Y_,.lst ((bi L s).map .int)):=by
  refine lJ _ _ _ _ [2] [.lst (L.map .str)] ((prs s).map prD) _ 1 Zd _ _ (bC (w:=Zd) (x:=.tup ((prs s).map prD)) (dW (dW (ao rfl) neg1 hc) au (aQ rfl rfl)) rfl) rfl (qD _) (by rw[Rq];omega) ?_;unfold bi;rw[Sg]
  exact bZ (ts:=λp:Pair=>[prD p]) (λp _=>rfl) (λp _=>cz (dW (ao rfl) au (aQ rfl rfl)) (ao rfl) (in_L L p.1)) λp _ _=>⟨false,dW (ao rfl) au (aQ rfl rfl)⟩
 have e3:=vP (i:=3) (q:=.ow) (a:=row.map .int) e2 rfl (by rw[Rq,Rq];omega);rw[<-U3]at e3;exact one e3
theorem wU(o:Orc)(A B:Option Slot)(L:List (List Nat))(p:Option Slot):∀(ss:List Stt)(row:List Int)(a:Option Slot),(∀s∈ss,isA s=Y_/\(prs s).length<=10)->row.length+10*ss.length<=50000 ->
 ∃a',bR (evSs o llX) [4] Zd (ss.map toD) [A,B,some (.ow,.lst (L.map .str)),some (.ow,.lst (row.map .int)),a,p]=.nx [A,B,some (.ow,.lst (L.map .str)),some (.ow,.lst ((row++bis L ss).map .int)),a',p]
 | [],row,a,_,_=>⟨a,by rw[bis,Ur];rfl⟩
 | s::ss,row,a,h,hl=>by
   rw[RK]at hl;obtain⟨h1,h2⟩:=h s Ru
   have hb:(bi L s).length<=10:=by
    unfold bi;rw[Rq];exact RW (TF _ _) h2
   have e1:=G3 o A B L row s h1 (by omega) (by omega) p;obtain⟨a',ih⟩:=wU o A B L p ss (row++bi L s) (Z_ (.sh,toD s)) (λx hx=>h x (Rt _ hx)) (by rw[RJ];omega);exact⟨a',fM (ds:=[toD s]) rfl rfl e1 (ih.trans (by rw[bis,Um]))⟩
def ri(s:Stt):List Int:=((ats s).filter isR).map dv
theorem Mv(h:∀a∈ats s,0<=dv a):(ri s).map Yy=rn s:=by
 unfold ri rn;rw[Sg]
 refine WN λa ha=>?_
 have:=h a (Ve.mp ha).1;show(dv a).natAbs=(dv a).toNat;omega
section
variable{P:Prg}{ic il ild:Nat}(hc:P.fns[ic]?=Z_ lcommonFd)(hl:P.fns[il]?=Z_ (llFd ic))(hd':P.fns[ild]?=Z_ (lldFd il))(w:Nat)
include hc hl hd'
theorem G4(s:Stt)(M N:Nat)(h:Mok s M N w)(m:Nat):(orc P w (m+3)).fn ild [.lst ((aw s).map toD)]=.ok (Zd,.int (ld s:Nat)):=by
 rw[aL hd'];have hsz:=h.sz;have hal:=fO s;have hbl:=Dy s
 have hlen:((aw s).map toD).length=sz s:=by rw[Rq,gB]
 have bM:Bg M:=VR h.M2 (by decide);have bN:Bg N:=VR h.N2 (by decide)
 have eN:(bis (bn s) (ats s)).map Yy=bxs (bnS s) (ats s):=by rw[vo,wD (λx=>(Hj s x).symm)]
 have h3:=Ef hc hl w (bis (bn s) (ats s)) M h.M0 bM h.Mw (λx hx=>h.bd _ (by rw[<-eN];exact U0 hx)) m;have eR:=Mv h.rp;have h5:=Ef hc hl w (ri s) N h.N0 bN h.Nw (λx hx=>h.rd _ (by rw[<-eR];exact U0 hx)) m;rw[eN]at h3;rw[eR]at h5;have b1:=pR h.bd h.M0;have b2:=pR h.rd h.N0;have hM:=h.M2;have hN:=h.N2;have m1:(ats s).length*(ats s).length<=390*390:=VB (by omega) (by omega)
 have small:∀c:Nat,c<=390*390->Bg c:=λc hc=>Bg.le hc (by unfold Bg;decide +kernel)
 have m2:Bg ((ats s).length*(ats s).length*bv s):=by
  unfold Bg
  by_cases h0:(ats s).length*(ats s).length*bv s=0
  .rw[h0];decide
  .have hM0:M≠0:=by have:=h.M0;omega
   have h5:=(Wx hM0).mp hM;refine(Wx h0).mpr ?_;refine TX (VB m1 (XS (TX b1 h5))) ?_;have:390*390*2 ^ 1500<=2 ^ 20*2 ^ 1500:=Nat.mul_le_mul_right _ (by decide);refine TX this ?_;rw[<-Zg];exact XF (by decide) (by decide)
 have o1:o2 .pow (.int ((ats s).length:Int)) (.int 2)=.ok (Zd,.int (((ats s).length*(ats s).length:Nat):Int)):=by
  refine Ni ?_ ?_
  .have:((ats s).length:Int).natAbs<18446744073709551616:=by omega
   simp only[this,decide_true,Z0]
   rfl
  .rw[VN];show _ ^ 2=_;rw[Int.pow_succ,Int.pow_succ,Int.pow_zero,Int.one_mul]
 have o2':o2 .mul (.int (((ats s).length*(ats s).length:Nat):Int)) (.int (bv s:Nat))=.ok (Zd,.int (((ats s).length*(ats s).length*bv s:Nat):Int)):=by
  rw[VN ((ats s).length*(ats s).length)];exact mulE (ir (small _ m1) (Bg.le b1 (VR hM (by decide))))
 have o3:o2 .mul (.int (((ats s).length*(ats s).length*bv s:Nat):Int)) (.int (rv s:Nat))=.ok (Zd,.int (ld s:Nat)):=by
  unfold ld;rw[VN ((ats s).length*(ats s).length*bv s)];exact mulE (ir m2 (Bg.le b2 (VR hN (by decide))))
 generalize hrow:some (Own.sh,a0T ((aw s).map toD))=R0
 have s1:evS (orc P w (m+2)) (a0y 1 llA) [R0,none,none,none,none,none]=.nx [R0,some (.ow,.lst ((ats s).map toD)),none,none,none,none]:=by
  subst hrow;refine b7 (w:=Y_) (d:=.lst ((ats s).map toD)) (cB _ ((aw s).map toD) _ _ _ (bC (ao rfl) rfl) (by rw[Rq];omega) ?_) rfl
  exact bZ (ts:=λq=>[toD q]) (λ_ _=>rfl) (λq _=>or_A _ q _ _) λq _ _=>⟨false,ao rfl⟩
 have s2:evS (orc P w (m+2)) (a0y 2 llN) [R0,some (.ow,.lst ((ats s).map toD)),none,none,none,none]=.nx [R0,some (.ow,.lst ((ats s).map toD)),some (.ow,.lst ((bn s).map .str)),none,none,none]:=by
  subst hrow;refine b7 (w:=Y_) (d:=.lst ((bn s).map .str)) (cB _ ((aw s).map toD) _ _ _ (bC (ao rfl) rfl) (by rw[Rq];omega) ?_) rfl;unfold bn;rw[Sg]
  refine bZ (ts:=λq=>[toD q]) (λ_ _=>rfl) (λq _=>or_T _ q _ _) λq _ hq=>⟨false,?_⟩
  cases q with
  | trn b x s=>rw[toD];exact(dY (ao rfl) au).trans (aQ rfl rfl)
  | _=>cases hq
 obtain⟨a',hf⟩:=wU (orc P w (m+2)) R0 (Z_ (.sh,.lst ((ats s).map toD))) (bn s) none (ats s) [] none (λa ha=>⟨(Ve.mp ha).2,h.pr a ha⟩) (by simp only[V0];omega);rw[X3]at hf
 have s5:evS (orc P w (m+2)) (a0y 5 llR) [R0,some (.sh,.lst ((ats s).map toD)),some (.ow,.lst ((bn s).map .str)),some (.ow,.lst ((bis (bn s) (ats s)).map .int)),a',none]=.nx [R0,some (.sh,.lst ((ats s).map toD)),some (.ow,.lst ((bn s).map .str)),some (.ow,.lst ((bis (bn s) (ats s)).map .int)),a',some (.ow,.lst ((ri s).map .int))]:=by
  have hrl:(ri s).length<=390:=by
   unfold ri;rw[Rq];exact RW (TF _ _) (by omega)
  refine b7 (w:=Y_) (d:=.lst ((ri s).map .int)) (cB _ ((ats s).map toD) _ _ _ (bC (ao rfl) rfl) (by rw[Rq];omega) ?_) rfl;unfold ri;rw[Sg]
  refine bZ (ts:=λq=>[toD q]) (λ_ _=>rfl) (λq _=>?_) λq hq hr=>⟨false,?_⟩
  .rw[<-hw_R]
   obtain⟨r,e⟩:=hd q;rw[e];exact(aG ((dY (ao rfl) au).trans (aQ rfl rfl)) au).trans (sZ _ _)
  .cases q with
   | rest m c l=>
     rw[toD];exact(dY (ao rfl) au).trans (aQ rfl rfl)
   | _=>cases hr
 have hln:b1D .len (.lst ((ats s).map toD))=.ok (Zd,.int ((ats s).length:Int)):=by rw[iu,Rq]
 exact aq rfl (δ0:=[R0,none,none,none,none,none]) (by rw[<-hrow];rfl) (stp _ s1 (stp _ s2 (stp [R0,some (.ow,.lst ((ats s).map toD)),some (.ow,.lst ((bn s).map .str)),some (.ow,.lst (([]:List Int).map .int)),none,none] (b7 (w:=Y_) (d:=.lst []) (cN rfl rfl) rfl) (stp _ (R8 rfl (bC (ao rfl) rfl) hf) (stp _ s5 (stpR (retR (cz (cz (cz (e_b1 (ao rfl) hln) au o1) (gK (j9 rfl (dX rfl) rfl) h3 rfl) o2') (gK (j9 rfl (dX rfl) rfl) h5 rfl) o3) rfl)))))))
end
mutual
theorem immD:∀s:Stt,(toD s).imm=Y_
 | .least c l=>by rw[toD];simp[D.imm,immL,qK]
 | .rest m c l=>by rw[toD];simp[D.imm,immL,qK]
 | .nt s=>by rw[toD];simp[D.imm,immL,immD s]
 | .grp w ss=>by rw[toD];simp[D.imm,immL,Eh ss]
 | .trn w x s=>by rw[toD];simp[D.imm,immL,immD s]
theorem Eh:∀ss:List Stt,immL (toDs ss)=Y_
 | []=>by rw[toDs];rfl
 | s::ss=>by rw[toDs,immL,immD s,Eh ss];rfl
end
mutual
noncomputable def psh:Stt->Bool->Stt
 | .least c l,g=>if g then .least (-1-c) (negL l)else .least c l
 | .rest m c l,g=>if g then .nt (.rest m c l)else .rest m c l
 | .nt s,g=>psh s (!g)
 | .grp w ss,g=>.grp (Y4 g w) (pshs ss g)
 | .trn w x s,g=>.trn (Y4 g w) x (psh s g)
noncomputable def pshs:List Stt->Bool->List Stt
 | [],_=>[]
 | s::ss,g=>psh s g::pshs ss g
end
theorem gR(g:Bool):∀ss,pshs ss g=ss.map λs=>psh s g
 | []=>by rw[pshs];rfl
 | s::ss=>by rw[pshs,gR g ss];rfl
noncomputable def puE:T:=(a0D .tuple (a0G [1] 1 Zd (a0F (a0x (a0n 0) (a0o (a0p 1)))) (a0o (a0I Y_)) (a0z 15 (a0r (a0n 0) (a0r (a0n 1) a0t)))))
noncomputable def puL:T:=(a0E (a0r (a0o (a0A [108,101,97,115,116])) (a0r (a0z 13 (a0r (a0E (a0r (a0L (a0o (a0p 1))) (a0r (a0E a0t) a0t))) (a0r (a0z 14 (a0r (a0L (a0o (a0p 1))) (a0r (a0x (a0n 0) (a0o (a0p 1))) a0t))) a0t))) a0t)))
noncomputable def puK:T:=(a0Y (a0n 1) (T.kidx [.s [97,110,100],.s [111,114],.s [115,111,109,101],.s [97,108,108]] [(a0A [111,114]),(a0A [97,110,100]),(a0A [97,108,108]),(a0A [115,111,109,101])] (a0n 2)) (a0n 2))
noncomputable def puFd:Fd:=⟨2,4,(a0s (a0y 2 (a0x (a0n 0) (a0o (a0p 0)))) (a0s (a0H (a0q .eq (a0n 2) (a0o (a0A [110,111,116]))) (a0s (a0B (a0z 15 (a0r (a0x (a0n 0) (a0o (a0p 1))) (a0r (a0U (a0n 1)) a0t)))) a0v) a0v) (a0s (a0H (a0q .eq (a0n 2) (a0o (a0A [108,101,97,115,116]))) (a0s (a0B (a0Y (a0n 1) puL (a0n 0))) a0v) a0v) (a0s (a0H (a0q .eq (a0n 2) (a0o (a0A [114,101,115,116]))) (a0s (a0B (a0Y (a0n 1) (a0E (a0r (a0o (a0A [110,111,116])) (a0r (a0n 0) a0t))) (a0n 0))) a0v) a0v) (a0s (a0y 3 puK) (a0s (a0H (a0q .in (a0n 2) (a0E (a0r (a0o (a0A [97,110,100])) (a0r (a0o (a0A [111,114])) a0t)))) (a0s (a0B (a0E (a0r (a0n 3) (a0r puE a0t)))) a0v) a0v) (a0s (a0B (a0E (a0r (a0n 3) (a0r (a0x (a0n 0) (a0o (a0p 1))) (a0r (a0z 15 (a0r (a0x (a0n 0) (a0o (a0p 2))) (a0r (a0n 1) a0t))) a0t))))) a0v)))))))⟩
def SmO(L:List Pair):Prop:=Srt (L.map (·.1))/\(L.map (·.1)).Nodup/\(∀p∈L,p.2≠0)/\L.length<=4
theorem SmO.neg(h:SmO L):SmO (negL L):=by
 refine⟨by rw[qy];exact h.1,by rw[qy];exact h.2.1,λp hp=>?_,by simpa[negL]using h.2.2.2⟩;obtain⟨q,hq,rfl⟩:=Sw.mp hp;have:=h.2.2.1 q hq;show -q.2≠0;omega
def OD(hp:p∈pt s)(ha:a∈ats p):a∈ats s:=by
 unfold ats at *;rw[Ve]at *;refine⟨?_,ha.2⟩;rw[IV];refine Rt _ ?_
 have:∀ss:List Stt,p∈ss->a∈aws ss:=by
  intro ss
  induction ss with
  | nil=>intro h;cases h
  | cons x ss ih=>
    intro h;rw[aws];rcases Rp.mp h with rfl | h
    .exact Uo _ ha.1
    .exact T3 _ (ih h)
 exact this _ hp
section
variable{P:Prg}(h12:P.fns[12]?=Z_ soFd)(h13:P.fns[13]?=Z_ (plusFd 12))(h14:P.fns[14]?=Z_ (timesFd 12))(h15:P.fns[15]?=Z_ puFd)(w:Nat)
include h12
theorem Oi(n:Nat)(c:Int)(L:List Pair)(x:D)(hx:gk x=Z_ (L.map prD))(h:SmO L):(orc P w (n+1)).fn 12 [.int c,x]=.ok (Zd,smT c L):=by
 have hl:=h.2.2.2;rw[aL h12];refine Eq.trans ?_ (congrArg (λd=>a0S (Zd,d)) (HS c L h.1 h.2.1 h.2.2.1));exact GP _ c L x hx (by omega) (sS L (by omega))
include h13 h14 h15
theorem Ho:∀(n:Nat)(s:Stt),wf n s->(∀a∈ats s,SmO (prs a))->∀(g:Bool)(m:Nat),n+4<=m->(orc P w m).fn 15 [toD s,.bl g]=.ok (Zd,toD (psh s g)):=by
 intro n
 induction n using XM with
 | ind n ih=>
 intro s hs ha g m hm
 obtain⟨k,rfl⟩:∃k,m=k+4:=⟨m-4,by omega⟩
 have hc:∀p∈pt s,∀g,(orc P w (k+3)).fn 15 [toD p,.bl g]=.ok (Zd,toD (psh p g)):=λp q g=>by
  obtain⟨j,rfl,h⟩:=u9 hs q;exact ih j (by omega) p h (λa h=>ha a (OD q h)) g (k+3) (by omega)
 rw[aL h15]
 have e0:∀(x y:List Nat)(d:D)(z:Option Slot),ev (orc P w (k+3)) [some (.sh,d),some (.sh,.bl g),some (.sh,.str x),z] Y_ (a0q .eq (a0n 2) (a0o (a0A y)))=.ok (Zd,.bl (decide (x=y))):=λx y d z=>by array_get_dec
 have e1:∀(x:List Nat)(d:D)(z:Option Slot),ev (orc P w (k+3)) [some (.sh,d),some (.sh,.bl g),some (.sh,.str x),z] Y_ (a0q .in (a0n 2) (a0E (a0r (a0o (a0A [97,110,100])) (a0r (a0o (a0A [111,114])) a0t))))=.ok (Zd,.bl (decide ([97,110,100]=x)||(decide ([111,114]=x)||false))):=λx d z=>by
  refine cz (w1:=Zd) (w2:=Zd) (x:=.str x) (y:=.tup [.str [97,110,100],.str [111,114]]) (by array_get_dec) (by array_get_dec) ?_
  rfl
 have f0:∀(x:List Nat)(r:List D),evS (orc P w (k+3)) (a0y 2 (a0x (a0n 0) (a0o (a0p 0)))) [some (.sh,.tup (.str x::r)),some (.sh,.bl g),none,none]=.nx [some (.sh,.tup (.str x::r)),some (.sh,.bl g),some (.sh,.str x),none]:=λx r=>b7 (w:=Zd) (d:=.str x) (by array_get_dec) rfl
 cases s with
 | least c l=>
   have hL:SmO l:=ha (.least c l) (by unfold ats;rw[aw];simp[isA]);rw[toD,psh]
   cases g with
   | false=>
     rw[if_neg (by decide),toD];refine aq rfl rfl (stp _ (f0 _ _) (stp _ (ifF (e0 _ _ _ _) rfl) (stpR (ifT (e0 _ _ _ _) rfl (retR (w:=Zd) ((gZ (ao rfl)).trans ?_) rfl)))));rw[if_neg (by decide)];exact ao rfl
   | true=>
     rw[if_pos rfl,toD]
     have t1:(orc P w (k+3)).fn 14 [.int (-1),smT c l]=.ok (Zd,smT (-1*c) (negL l)):=by
      rw[aL h14];exact yK _ 12 c l _ (by have:=hL.2.2.2;omega) (Oi h12 w (k+1) _ _ _ rfl hL.neg)
     have t2:(orc P w (k+3)).fn 13 [.tup [.int (-1),.tup []],smT (-1*c) (negL l)]=.ok (Zd,smT (-1-c) (negL l)):=by
      rw[aL h13];refine uV _ 12 (-1) (-1*c) _ _ (by have:=hL.neg.2.2.2;rw[Rq];omega) ?_;rw[show -1+-1*c=-1-c by omega];exact Oi h12 w (k+1) _ _ _ rfl hL.neg
     refine aq rfl rfl (stp _ (f0 _ _) (stp _ (ifF (e0 _ _ _ _) rfl) (stpR (ifT (e0 _ _ _ _) rfl (retR (w:=Zd) ((gZ (ao rfl)).trans ?_) rfl)))));rw[if_pos rfl];exact bu (xs:=[.str lW,smT (-1-c) (negL l)]) (aj rfl au (aj rfl (aA (aj rfl (bu (xs:=[.int (-1),.tup []]) (aj rfl neg1 (aj rfl (bu (xs:=[]) rfl rfl) rfl)) rfl) (aj rfl (aA (aj rfl neg1 (aj rfl (dW (ao rfl) au (aQ rfl rfl)) rfl)) t1) rfl)) t2) rfl)) rfl
 | rest q c l=>
   rw[toD,psh]
   cases g with
   | false=>
     rw[if_neg (by decide),toD];refine aq rfl rfl (stp _ (f0 _ _) (stp _ (ifF (e0 _ _ _ _) rfl) (stp _ (ifF (e0 _ _ _ _) rfl) (stpR (ifT (e0 _ _ _ _) rfl (retR (w:=Zd) ((gZ (ao rfl)).trans ?_) rfl))))));rw[if_neg (by decide)];exact ao rfl
   | true=>
     rw[if_pos rfl,toD,toD];refine aq rfl rfl (stp _ (f0 _ _) (stp _ (ifF (e0 _ _ _ _) rfl) (stp _ (ifF (e0 _ _ _ _) rfl) (stpR (ifT (e0 _ _ _ _) rfl (retR (w:=Zd) ((gZ (ao rfl)).trans ?_) rfl))))));rw[if_pos rfl];exact bu (xs:=[.str sNot,.tup [.str tW,.int q,smT c l]]) (aj rfl au (aj rfl (ao rfl) rfl)) rfl
 | nt s=>
   have h1:=hc s (by simp[pt]) (!g);rw[toD,psh];exact aq rfl rfl (stp _ (f0 _ _) (stpR (ifT (e0 _ _ _ _) rfl (retR (w:=Zd) (aA (aj rfl (dW (ao rfl) au (aQ rfl rfl)) (aj rfl (gC (ao rfl)) rfl)) h1) rfl))))
 | grp b ss=>
   have hss:ss.length<=100:=by
    cases n with
    | zero=>simp only[wf]at hs
    | succ j=>simp only[wf]at hs;exact hs.1
   rw[toD,psh,toD,cM]
   have s3:evS (orc P w (k+3)) (a0y 3 puK) [some (.sh,.tup [.str (gw b),.tup (ss.map toD)]),some (.sh,.bl g),some (.sh,.str (gw b)),none]=.nx [some (.sh,.tup [.str (gw b),.tup (ss.map toD)]),some (.sh,.bl g),some (.sh,.str (gw b)),some (.sh,.str (gw (Y4 g b)))]:=by
    refine b7 (w:=Zd) (d:=.str (gw (Y4 g b))) ((gZ (ao rfl)).trans ?_) rfl;cases g<;>cases b<;>rfl
   have e4:ev (orc P w (k+3)) [some (.sh,.tup [.str (gw b),.tup (ss.map toD)]),some (.sh,.bl g),some (.sh,.str (gw b)),some (.sh,.str (gw (Y4 g b)))] Zd puE=.ok (Zd,.tup (toDs (pshs ss g))):=by
    refine e_b1 (w:=Y_) (x:=.lst (toDs (pshs ss g))) ?_ rfl;refine lJ _ _ _ _ [1] [.bl g] (ss.map toD) _ 1 Zd _ _ (bC (w:=Zd) (x:=.tup (ss.map toD)) (dW (ao rfl) au (aQ rfl rfl)) rfl) rfl (Eh _) (by rw[cM,gR,Rq,Rq];omega) ?_;rw[cM,gR,Sg]
    exact dM (λd _=>au) λd hd=>⟨false,aA (aj rfl (ao rfl) (aj rfl (ao rfl) rfl)) (hc d hd g)⟩
   exact aq rfl rfl (stp _ (f0 _ _) (stp _ (ifF (e0 _ _ _ _) (by cases b<;>rfl)) (stp _ (ifF (e0 _ _ _ _) (by cases b<;>rfl)) (stp _ (ifF (e0 _ _ _ _) (by cases b<;>rfl)) (stp _ s3 (stpR (ifT (e1 _ _ _) (by cases b<;>rfl) (retR (w:=Zd) (bu (xs:=[.str (gw (Y4 g b)),.tup (toDs (pshs ss g))]) (aj rfl (ao rfl) (aj rfl e4 rfl)) rfl) rfl))))))))
 | trn b x s=>
   have h1:=hc s (by simp[pt]) g;rw[toD,psh,toD]
   have s3:evS (orc P w (k+3)) (a0y 3 puK) [some (.sh,.tup [.str (tww b),.str x,toD s]),some (.sh,.bl g),some (.sh,.str (tww b)),none]=.nx [some (.sh,.tup [.str (tww b),.str x,toD s]),some (.sh,.bl g),some (.sh,.str (tww b)),some (.sh,.str (tww (Y4 g b)))]:=by
    refine b7 (w:=Zd) (d:=.str (tww (Y4 g b))) ((gZ (ao rfl)).trans ?_) rfl;cases g<;>cases b<;>rfl
   exact aq rfl rfl (stp _ (f0 _ _) (stp _ (ifF (e0 _ _ _ _) (by cases b<;>rfl)) (stp _ (ifF (e0 _ _ _ _) (by cases b<;>rfl)) (stp _ (ifF (e0 _ _ _ _) (by cases b<;>rfl)) (stp _ s3 (stp _ (ifF (e1 _ _ _) (by cases b<;>rfl)) (stpR (retR (w:=Zd) (bu (xs:=[.str (tww (Y4 g b)),.str x,toD (psh s g)]) (aj rfl (ao rfl) (aj rfl (dW (ao rfl) au (aQ rfl rfl)) (aj rfl (aA (aj rfl (dW (ao rfl) au (aQ rfl rfl)) (aj rfl (ao rfl) rfl)) h1) rfl))) rfl) rfl))))))))
end
def atss(ss:List Stt):List Stt:=(aws ss).filter isA
def bns(ss:List Stt):List (List Nat):=((aws ss).filter isT).map nmOf
def Ga(c:Int)(l:List Pair):ats (.least c l)=[.least c l]:=by unfold ats;rw[aw];rfl
def Q7(m c:Int)(l:List Pair):ats (.rest m c l)=[.rest m c l]:=by unfold ats;rw[aw];rfl
def w6(s:Stt):ats (.nt s)=ats s:=by unfold ats;rw[aw];rfl
def Gq(w:Bool)(ss:List Stt):ats (.grp w ss)=atss ss:=by unfold ats atss;rw[aw];rfl
def Ag(w:Bool)(x:List Nat)(s:Stt):ats (.trn w x s)=ats s:=by unfold ats;rw[aw];rfl
def yu(s:Stt)(ss:List Stt):atss (s::ss)=ats s++atss ss:=by unfold ats atss;rw[aws,List.filter_append]
def bn_l(c:Int)(l:List Pair):bn (.least c l)=[]:=by unfold bn;rw[aw];rfl
def bn_r(m c:Int)(l:List Pair):bn (.rest m c l)=[]:=by unfold bn;rw[aw];rfl
def bn_n(s:Stt):bn (.nt s)=bn s:=by unfold bn;rw[aw];rfl
def bn_g(w:Bool)(ss:List Stt):bn (.grp w ss)=bns ss:=by unfold bn bns;rw[aw];rfl
def bn_t(w:Bool)(x:List Nat)(s:Stt):bn (.trn w x s)=x::bn s:=by unfold bn;rw[aw];rfl
def HW(s:Stt)(ss:List Stt):bns (s::ss)=bn s++bns ss:=by unfold bn bns;rw[aws,List.filter_append,U3]
def sig(a:Stt):List (List Nat×Nat)×Bool×Int:=((prs a).map λp=>(p.1,p.2.natAbs),isR a,dv a)
def Ek(L:List Pair):((negL L).map λp=>(p.1,p.2.natAbs))=L.map λp=>(p.1,p.2.natAbs):=by
 unfold negL;rw[Sg]
 refine WN λp _=>?_
 show(p.1,(-p.2).natAbs)=_;rw[Int.natAbs_neg]
mutual
theorem lC:∀(s:Stt)(g:Bool),(ats (psh s g)).map sig=(ats s).map sig
 | .least c l,g=>by
   rw[psh];cases g
   .rfl
   .rw[if_pos rfl,Ga,Ga]
    show[(((negL l).map λp=>(p.1,p.2.natAbs)),_,_)]=_;rw[Ek];rfl
 | .rest m c l,g=>by
   rw[psh];cases g
   .rfl
   .rw[if_pos rfl,w6]
 | .nt s,g=>by rw[psh,w6,lC s]
 | .grp w ss,g=>by rw[psh,Gq,Gq,qG ss]
 | .trn w x s,g=>by rw[psh,Ag,Ag,lC s]
theorem qG:∀(ss:List Stt)(g:Bool),(atss (pshs ss g)).map sig=(atss ss).map sig
 | [],g=>by rw[pshs]
 | s::ss,g=>by rw[pshs,yu,yu,U3,U3,lC s,qG ss]
end
mutual
theorem qb:∀(s:Stt)(g:Bool),bn (psh s g)=bn s
 | .least c l,g=>by
   rw[psh];cases g
   .rfl
   .rw[if_pos rfl,bn_l,bn_l]
 | .rest m c l,g=>by
   rw[psh];cases g
   .rfl
   .rw[if_pos rfl,bn_n]
 | .nt s,g=>by rw[psh,bn_n,qb s]
 | .grp w ss,g=>by rw[psh,bn_g,bn_g,wC ss]
 | .trn w x s,g=>by rw[psh,bn_t,bn_t,qb s]
theorem wC:∀(ss:List Stt)(g:Bool),bns (pshs ss g)=bns ss
 | [],g=>by rw[pshs]
 | s::ss,g=>by rw[pshs,HW,HW,qb s,wC ss]
end
mutual
theorem rm:∀(s:Stt)(g:Bool),dp (psh s g)=dp s
 | .least c l,g=>by
   rw[psh];cases g
   .rfl
   .rw[if_pos rfl];simp only[dp]
 | .rest m c l,g=>by
   rw[psh];cases g
   .rfl
   .rw[if_pos rfl];simp only[dp]
 | .nt s,g=>by rw[psh,dp,rm s]
 | .grp w ss,g=>by rw[psh,dp,dp,xQ ss]
 | .trn w x s,g=>by rw[psh,dp,dp,rm s]
theorem xQ:∀(ss:List Stt)(g:Bool),dps (pshs ss g)=dps ss
 | [],g=>by rw[pshs]
 | s::ss,g=>by rw[pshs,dps,dps,rm s,xQ ss]
end
mutual
theorem rN:∀(s:Stt)(g:Bool),sz (psh s g)<=2*sz s
 | .least c l,g=>by
   rw[psh];cases g
   .rw[if_neg (by decide)];simp only[sz];omega
   .rw[if_pos rfl];simp only[sz];omega
 | .rest m c l,g=>by
   rw[psh];cases g
   .rw[if_neg (by decide)];simp only[sz];omega
   .rw[if_pos rfl];simp only[sz];omega
 | .nt s,g=>by rw[psh,sz];have:=rN s (!g);omega
 | .grp w ss,g=>by rw[psh,sz,sz];have:=vp ss g;omega
 | .trn w x s,g=>by rw[psh,sz,sz];have:=rN s g;omega
theorem vp:∀(ss:List Stt)(g:Bool),szs (pshs ss g)<=2*szs ss
 | [],g=>by rw[pshs,szs];omega
 | s::ss,g=>by rw[pshs,szs,szs];have:=rN s g;have:=vp ss g;omega
end
def v5(h:Lw l):Lw (negL l):=by
 refine⟨by unfold negL;rw[Rq];exact h.1,λp hp=>?_⟩;obtain⟨q,hq,rfl⟩:=Sw.mp hp;have:=h.2 q hq;unfold Bd at *;show(-q.2).natAbs<_;rw[Int.natAbs_neg];exact this
def Oz:∀(n:Nat)(s:Stt)(g:Bool),wf n s->wf (n+1) (psh s g):=by
 intro n
 induction n with
 | zero=>
   intro s g h
   cases s with
   | least c l=>
     rw[psh];cases g
     .exact dz h (by omega)
     .rw[if_pos rfl];simp only[wf]at h ⊢;exact v5 h
   | rest m c l=>
     rw[psh];cases g
     .exact dz h (by omega)
     .rw[if_pos rfl];simp only[wf]at h ⊢;exact h
   | _=>simp only[wf]at h
 | succ n ih=>
   intro s g h
   cases s with
   | least c l=>
     rw[psh];cases g
     .exact dz h (by omega)
     .rw[if_pos rfl];simp only[wf]at h ⊢;exact v5 h
   | rest m c l=>
     rw[psh];cases g
     .exact dz h (by omega)
     .rw[if_pos rfl];simp only[wf]at h ⊢;exact h
   | nt s=>simp only[wf]at h;rw[psh];exact dz (ih s _ h) (by omega)
   | grp w ss=>
     simp only[wf]at h;rw[psh,gR];simp only[wf];refine⟨by rw[Rq];exact h.1,λs hs=>?_⟩;obtain⟨q,hq,rfl⟩:=Sw.mp hs;exact ih q g (h.2 q hq)
   | trn w x s=>simp only[wf]at h;rw[psh];simp only[wf];exact ih s g h
structure Same(s t:Stt):Prop where
 a:(ats t).map sig=(ats s).map sig
 b:bn t=bn s
def Nt(L:List (List Nat))(a:Stt):bx L a=((sig a).1.filter λp=>decide (p.1∈L)).map (·.2):=by
 unfold bx sig;rw[Yx,Sg]
 rfl
theorem o9(L:List (List Nat)):∀l:List Stt,bxs L l=((l.map sig).map λq=>(q.1.filter λp=>decide (p.1∈L)).map (·.2)).flatten
 | []=>rfl
 | a::l=>by rw[bxs,o9 L l,Nt];rfl
def Cg(s:Stt):rn s=(((ats s).map sig).filter λq=>q.2.1).map λq=>q.2.2.toNat:=by
 unfold rn;rw[Yx,Sg]
 rfl
section
variable{s t:Stt}(h:Same s t)
include h
theorem Same.len:(ats t).length=(ats s).length:=by
 have:=congrArg VM h.a
 rwa [Rq,Rq]at this
theorem Same.bS:bnS t=bnS s:=by unfold bnS;rw[h.b]
theorem Same.bx:bxs (bnS t) (ats t)=bxs (bnS s) (ats s):=by rw[h.bS,o9,o9,h.a]
theorem Same.rn:rn t=rn s:=by rw[Cg,Cg,h.a]
theorem Same.ld:ld t=ld s:=by unfold KM.ld bv rv;rw[h.len,h.bx,h.rn]
theorem Same.mem{a:Stt}(ha:a∈ats t):∃b∈ats s,sig b=sig a:=by
 have:=U0 (f:=sig) ha;rw[h.a]at this;exact Sw.mp this
theorem Same.mok{M N w:Nat}(k:Mok s M N w)(hz:sz t<=390):Mok t M N w where
 sz:=hz
 bn:=by rw[h.b];exact k.bn
 pr a ha:=by
  obtain⟨b,hb,e⟩:=h.mem ha;have h1:=congrArg (λq=>q.1.length) e;simp only[sig,Rq]at h1;rw[<-h1];exact k.pr b hb
 bd:=by rw[h.bx];exact k.bd
 bdd:=by rw[h.bx];exact k.bdd
 rp a ha:=by
  obtain⟨b,hb,e⟩:=h.mem ha;have h1:=congrArg (λq=>q.2.2) e;simp only[sig]at h1;rw[<-h1];exact k.rp b hb
 rd:=by rw[h.rn];exact k.rd
 rdd:=by rw[h.rn];exact k.rdd
 M0:=k.M0
 M2:=k.M2
 Mw:=k.Mw
 N0:=k.N0
 N2:=k.N2
 Nw:=k.Nw
end
def Bf(s:Stt)(g:Bool):Same s (psh s g):=⟨lC s g,qb s g⟩
def Dr(N:List (List Nat))(s:Stt):Prop:=(∀a∈ats s,AtmK N a)/\∀x∈bn s,x∈N
theorem rD:∀{ss:List Stt},a∈atss ss->∃s∈ss,a∈ats s
 | [],h=>by unfold atss at h;rw[aws]at h;cases h
 | s::ss,h=>by
   rw[yu]at h;rcases Tf.mp h with h | h
   .exact⟨s,Ru,h⟩
   .obtain⟨t,h1,h2⟩:=rD h
    exact⟨t,Rt _ h1,h2⟩
theorem yt:∀{ss:List Stt},a∈bns ss->∃s∈ss,a∈bn s
 | [],h=>by unfold bns at h;rw[aws]at h;cases h
 | s::ss,h=>by
   rw[HW]at h;rcases Tf.mp h with h | h
   .exact⟨s,Ru,h⟩
   .obtain⟨t,h1,h2⟩:=yt h
    exact⟨t,Rt _ h1,h2⟩
def Dr.cl(N:List (List Nat)):ClK (Dr N) (·∈N)where
 nt s h:=⟨by rw[w6];exact h.1,by rw[bn_n];exact h.2⟩
 grp w ss h:=by
  refine⟨λa ha=>?_,λx hx=>?_⟩
  .rw[Gq]at ha
   obtain⟨s,h1,h2⟩:=rD ha;exact(h s h1).1 a h2
  .rw[bn_g]at hx
   obtain⟨s,h1,h2⟩:=yt hx;exact(h s h1).2 x h2
 trn w x s hx h:=by
  refine⟨by rw[Ag];exact h.1,λy hy=>?_⟩;rw[bn_t]at hy;rcases Rp.mp hy with rfl | hy
  .exact hx
  .exact h.2 y hy
theorem Dr.atom(h:AtmK N s):wf 0 s/\sz s=1/\Dr N s:=by
 obtain⟨key,k0,k1,hA,⟨q1,q2,q3,q4⟩,hr⟩:=h
 have hL:Lw (prs s):=by
  refine⟨by omega,λp hp=>?_⟩;have:=(q3 p hp).2.2.1;unfold Bd
  have h1:p.2.natAbs<=10000:=by
   rcases this with h | h
   .exact(show∀x∈[0,1,2,3,4,6,8,9,12],x<=10000 by decide) _ h
   .omega
  exact TX h1 (by decide)
 cases s with
 | least c l=>exact⟨by simp only[wf];exact hL,by rw[sz],λa ha=>by rw[Ga,Sv]at ha;rw[ha];exact⟨key,k0,k1,hA,⟨q1,q2,q3,q4⟩,hr⟩,λx hx=>by rw[bn_l]at hx;cases hx⟩
 | rest m c l=>exact⟨by simp only[wf];exact hL,by rw[sz],λa ha=>by rw[Q7,Sv]at ha;rw[ha];exact⟨key,k0,k1,hA,⟨q1,q2,q3,q4⟩,hr⟩,λx hx=>by rw[bn_r]at hx;cases hx⟩
 | _=>cases hA
def AtmK.smo(h:AtmK N s):SmO (prs s):=by
 obtain⟨key,k0,k1,hA,⟨q1,q2,q3,q4⟩,hr⟩:=h;exact⟨q1,q2,λp hp=>(q3 p hp).1,q4⟩
def Ky(a:Stt)(K:Nat):Prop:=(1<=K/\K<=10000)/\(∀p∈prs a,p.2.natAbs∈[1,2,3,4,6,8,9,12]\/p.2.natAbs=K)/\(0<=dv a/\(isR a=Y_->(dv a).toNat∈[1,2,3,4,5,6,7,8]\/(dv a).toNat=K))
theorem AtmK.ky(h:AtmK N s):∃K,Ky s K:=by
 obtain⟨key,k0,k1,hA,⟨q1,q2,q3,q4⟩,hr⟩:=h;refine⟨key.toNat+1,⟨by omega,by omega⟩,λp hp=>?_,?_⟩
 .obtain⟨n0,_,hk,_⟩:=q3 p hp
  rcases hk with h | h
  .exact .inl ((Rp.mp h).resolve_left λz=>n0 (Int.natAbs_eq_zero.mp z))
  .exact .inr h
 .cases s with
  | least c l=>exact⟨by simp[dv],λh=>by cases h⟩
  | rest m c l=>
    have:=hr m c l rfl;have h8:∀t:Nat,t<=8->1<=t->t∈[1,2,3,4,5,6,7,8]:=by decide
    exact⟨by simp only[dv];omega,λ_=>this.imp (λq=>h8 _ (by simp only[dv];omega) (by simp only[dv];omega)) λq=>by simp only[dv];omega⟩
  | _=>cases hA
theorem xM:∀l:List Stt,(∀a∈l,∃K,Ky a K)->∃Ks:List Nat,Ks.length=l.length/\(∀K∈Ks,1<=K/\K<=10000)/\∀a∈l,∃K∈Ks,Ky a K
 | [],_=>⟨[],rfl,(λ_ h=>by cases h),(λ_ h=>by cases h)⟩
 | a::l,h=>by
   obtain⟨K,hK⟩:=h a Ru
   obtain⟨Ks,h1,h2,h3⟩:=xM l λx hx=>h x (Rt _ hx)
   refine⟨K::Ks,by rw[RK,RK,h1],λx hx=>?_,λx hx=>?_⟩
   .rcases Rp.mp hx with rfl | hx
    .exact hK.1
    .exact h2 x hx
   .rcases Rp.mp hx with rfl | hx
    .exact⟨K,Ru,hK⟩
    .obtain⟨J,q1,q2⟩:=h3 x hx
     exact⟨J,Rt _ q1,q2⟩
noncomputable def prd(l:List Nat):Nat:=l.foldr (·*·) 1
theorem pC:∀{l:List Nat},K∈l->K ∣ prd l
 | [],h=>by cases h
 | x::l,h=>by
   show K ∣ x*prd l;rcases Rp.mp h with rfl | h
   .exact Nat.dvd_mul_right _ _
   .exact W0 (pC h) (Nat.dvd_mul_left _ _)
theorem Dc:∀l:List Nat,(∀K∈l,1<=K/\K<=10000)->0<prd l/\prd l<=2 ^ (14*l.length)
 | [],_=>⟨by decide,by decide⟩
 | x::l,h=>by
   obtain⟨h1,h2⟩:=Dc l λK hK=>h K (Rt _ hK)
   have hx:=h x Ru;refine⟨Nat.mul_pos (by omega) h1,?_⟩;rw[RK,show 14*(l.length+1)=14+14*l.length by omega,Zg];exact VB (RW hx.2 (by decide)) h2
theorem lg(hc:0<c)(hc2:c<=2 ^ 10)(h:0<prd l/\prd l<=2 ^ (14*l.length))(hl:l.length<=70):0<c*prd l/\(c*prd l).log2<1500/\c*prd l<2 ^ 1500:=by
 have h0:0<c*prd l:=Nat.mul_pos hc h.1
 have h1:c*prd l<2 ^ 1500:=by
  refine TX (VB hc2 h.2) ?_;rw[<-Zg];exact XF (by decide) (by omega)
 exact⟨h0,(Wx (by omega)).mpr h1,h1⟩
def Ed{α:Type} [DecidableEq α]{l L:List α}(h:∀x∈l,x∈L):(bB l).length<=L.length:=iZ (Lh l) λx hx=>h x ((lR x l).mp hx)
theorem wW:∀{ss:List Stt},x∈bxs L ss->∃a∈ss,∃p∈prs a,x=p.2.natAbs
 | [],h=>by cases h
 | s::ss,h=>by
   rw[bxs]at h;rcases Tf.mp h with h | h
   .unfold bx at h
    obtain⟨p,hp,rfl⟩:=Sw.mp h;exact⟨s,Ru,p,(Ve.mp hp).1,rfl⟩
   .obtain⟨a,h1,h2⟩:=wW h
    exact⟨a,Rt _ h1,h2⟩
theorem Dr.mok{N:List (List Nat)}(hN:N.length<=4){s:Stt}(h:Dr N s)(hz:sz s<=70):∃M K,Mok s M K (2 ^ 1500):=by
 have hal:=fO s
 obtain⟨Ks,k1,k2,k3⟩:=xM (ats s) λa ha=>(h.1 a ha).ky
 have hb:=Dc Ks k2;obtain⟨m1,m2,m3⟩:=lg (c:=72) (by decide) (by decide) hb (by omega);obtain⟨n1,n2,n3⟩:=lg (c:=840) (by decide) (by decide) hb (by omega)
 have q1:∀x∈bxs (bnS s) (ats s),x∈[1,2,3,4,6,8,9,12]++Ks:=λx hx=>by
  obtain⟨a,ha,p,hp,rfl⟩:=wW hx;obtain⟨K,hK,hy⟩:=k3 a ha;rcases hy.2.1 p hp with e | e
  .exact Uo _ e
  .rw[e];exact T3 _ hK
 have q2:∀x∈rn s,x∈[1,2,3,4,5,6,7,8]++Ks:=λx hx=>by
  obtain⟨a,ha,rfl⟩:=Sw.mp hx;obtain⟨ha,hr⟩:=Ve.mp ha;obtain⟨K,hK,hy⟩:=k3 a ha;rcases hy.2.2.2 hr with e | e
  .exact Uo _ e
  .rw[e];exact T3 _ hK
 have dd:∀(l S:List Nat),S.length=8->(∀x∈l,x∈S++Ks)->(bB (l.map λ(n:Nat)=>(n:Int))).length<128:=λl S hS hx=>by
  have:=Ed (l:=l.map λ(n:Nat)=>(n:Int)) (L:=(S++Ks).map λ(n:Nat)=>(n:Int)) λx h=>by
   obtain⟨y,hy,rfl⟩:=Sw.mp h;exact U0 (hx y hy)
  rw[Rq,RJ,hS,k1]at this;omega
 refine⟨72*prd Ks,840*prd Ks,⟨by omega,?_,λa ha=>?_,λx hx=>?_,dd _ _ rfl q1,λa ha=>?_,λx hx=>?_,dd _ _ rfl q2,m1,m2,m3,n1,n2,n3⟩⟩
 .have:=Ed (l:=bn s) (L:=N) h.2
  omega
 .obtain⟨key,k0,k1,hA,⟨q1,q2,q3,q4⟩,hr⟩:=h.1 a ha
  omega
 .rcases Tf.mp (q1 x hx)with e | e
  .refine W0 ?_ (Nat.dvd_mul_right 72 _)
   have:∀y∈[1,2,3,4,6,8,9,12],y ∣ 72:=by decide
   exact this x e
  .exact W0 (pC e) (Nat.dvd_mul_left _ _)
 .obtain⟨K,hK,hy⟩:=k3 a ha
  exact hy.2.2.1
 .rcases Tf.mp (q2 x hx)with e | e
  .refine W0 ?_ (Nat.dvd_mul_right 840 _)
   have:∀y∈[1,2,3,4,5,6,7,8],y ∣ 840:=by decide
   exact this x e
  .exact W0 (pC e) (Nat.dvd_mul_left _ _)
end KM
namespace P15
open Z
def f0:Fd:=KM.commonFd
def f1:Fd:=KM.lcFd 0
def f2:Fd:=KM.poFd
def f3:Fd:=KM.awFd 2 3
def f4:Fd:=KM.alFd 3
def f5:Fd:=KM.blFd 3
def f6:Fd:=KM.lcoFd 1
def f7:Fd:=KM.bsFd 5 4 6
def f8:Fd:=KM.dsFd 4 6
noncomputable def f9:Fd:=KM.atFd 4
def f10:Fd:=KM.dpFd 2 10
def f11:Fd:=KM.ldFd 9 7 8
def f12:Fd:=KG.soFd
def f13:Fd:=KU.plusFd 12
def f14:Fd:=KU.timesFd 12
def f15:Fd:=KM.puFd
noncomputable def f16:Fd:=⟨1,1,(a0s (a0B (a0z 15 (a0r (a0n 0) (a0r (a0o (a0I Zd)) a0t)))) a0v)⟩
def f17:Fd:=KG.cellFd
def f18:Fd:=KG.samezFd 18
def f19:Fd:=KG.namesFd
def f20:Fd:=KG.numbFd
def f21:Fd:=KG.pointFd 20 17
def f22:Fd:=KG.manyFd
def f23:Fd:=KG.nearFd
def f24:Fd:=KG.lsumFd 23 22
def f25:Fd:=KG.atomFd 24
def f26:Fd:=KG.grpFd
def f27:Fd:=KG.stepFd 25 26
def f28:Fd:=KG.treeFd 27
def f29:Fd:=KM.lcommonFd
def f30:Fd:=KM.lpFd
def f31:Fd:=KM.awFd 30 31
def f32:Fd:=KM.ldpFd 30 32
def f33:Fd:=KM.llFd 29
def f34:Fd:=KM.lldFd 33
noncomputable def f35:Fd:=⟨2,2,(a0s (a0B (a0z 18 (a0r (a0E (a0r (a0z 9 (a0r (a0n 0) a0t)) (a0r (a0z 10 (a0r (a0n 0) a0t)) (a0r (a0z 11 (a0r (a0n 0) a0t)) a0t)))) (a0r (a0n 1) a0t)))) a0v)⟩
noncomputable def f36:Fd:=⟨1,8,(a0s (a0y 1 (a0z 17 (a0r (a0n 0) (a0r (a0o (a0p 0)) a0t)))) (a0s (a0y 2 (a0z 19 (a0r (a0q .fdiv (a0n 1) (a0o (a0p 16))) a0t))) (a0s (a0y 3 (a0z 28 (a0r (a0K (a0n 0) (a0o (a0p 5)) (a0o (a0p 68))) (a0r (a0z 21 (a0r (a0n 0) (a0r (a0n 2) a0t))) (a0r (a0x (a0J (a0r (a0o (a0p 3)) (a0r (a0q .pow (a0o (a0p 10)) (a0o (a0p 4))) a0t))) (a0q .mod (a0n 1) (a0o (a0p 2)))) (a0r (a0x (a0J (a0r (a0o (a0A [97,110,100])) (a0r (a0o (a0A [111,114])) a0t))) (a0q .mod (a0q .fdiv (a0n 1) (a0o (a0p 2))) (a0o (a0p 2)))) a0t)))))) (a0s (a0y 4 (a0E (a0r (a0x (a0J (a0r (a0o (a0A [115,111,109,101])) (a0r (a0o (a0A [97,108,108])) a0t))) (a0q .mod (a0q .fdiv (a0n 1) (a0o (a0p 4))) (a0o (a0p 2)))) (a0r (a0x (a0n 2) (a0q .mod (a0q .fdiv (a0n 1) (a0o (a0p 8))) (a0o (a0p 4)))) (a0r (a0n 3) a0t))))) (a0s (a0y 5 (a0z 31 (a0r (a0n 4) a0t))) (a0s (a0y 6 (a0D .len (a0G [] 1 Zd (a0F (a0n 5)) (a0W (a0q .eq (a0x (a0n 0) (a0o (a0p 0))) (a0o (a0A [108,101,97,115,116]))) (a0q .eq (a0x (a0n 0) (a0o (a0p 0))) (a0o (a0A [114,101,115,116])))) (a0n 0)))) (a0s (a0y 7 (a0E (a0r (a0n 6) (a0r (a0z 32 (a0r (a0n 4) a0t)) (a0r (a0z 34 (a0r (a0n 5) a0t)) a0t))))) (a0s (a0H (a0W (a0U (a0z 35 (a0r (a0n 4) (a0r (a0n 7) a0t)))) (a0U (a0z 35 (a0r (a0z 16 (a0r (a0E (a0r (a0o (a0A [110,111,116])) (a0r (a0n 4) a0t))) a0t)) (a0r (a0n 7) a0t))))) (a0s (a0B (a0o (a0I Zd))) a0v) a0v) (a0s (a0H (a0U (a0z 18 (a0r (a0E (a0r (a0z 9 (a0r (a0n 3) a0t)) (a0r (a0z 10 (a0r (a0n 3) a0t)) a0t))) (a0r (a0E (a0r (a0n 6) (a0r (a0q .sub (a0x (a0n 7) (a0o (a0p 1))) (a0o (a0p 1))) a0t))) a0t)))) (a0s (a0B (a0o (a0I Zd))) a0v) a0v) (a0s (a0B (a0z 18 (a0r (a0E (a0r (a0z 9 (a0r (a0E (a0r (a0o (a0A [110,111,116])) (a0r (a0n 4) a0t))) a0t)) (a0r (a0z 10 (a0r (a0E (a0r (a0o (a0A [110,111,116])) (a0r (a0n 4) a0t))) a0t)) a0t))) (a0r (a0K (a0n 7) (a0o a0M) (a0o (a0p 2))) a0t)))) a0v))))))))))⟩
def mtab:List (Nat×List Nat×Nat):=[]
def itab:List (Nat×Nat):=[]
def meth:Nat->List Nat->Option Nat:=tabOf mtab
def init:Nat->Option Nat:=CZ itab
noncomputable def sub:Nat->Nat->Bool:=λ_ _=>false
noncomputable def prg:Prg:=⟨[f0,f1,f2,f3,f4,f5,f6,f7,f8,f9,f10,f11,f12,f13,f14,f15,f16,f17,f18,f19,f20,f21,f22,f23,f24,f25,f26,f27,f28,f29,f30,f31,f32,f33,f34,f35,f36],meth,init,sub⟩
def Ri:Nat:=36
end P15
namespace KM
open Z KG KU P15
def HM:Ms prg 0 1 2 3 4 5 0 6 7 8 9 10 11:=⟨rfl,rfl,rfl,rfl,rfl,rfl,rfl,rfl,rfl,rfl,rfl,rfl⟩
def Hc(h1:ev o δ Zd e=.stuck)(h2:share δ (aW e)=δ1)(h3:ev o δ1 Zd e=.ok (w,d))(h4:setSlot δ1 i w d=Z_ δ2):evS o (.set i e) δ=.nx δ2:=by
 simp only[evS,evF,h1,h2,h3,SO.of,h4,Te,aF]
def cutI(ns:List Int):slcD (.lst (ns.map .int)) (Z_ 5) (Z_ 68)=Z_ (Y_,.lst ((cut ns (min 5 ns.length) (min 68 ns.length)).map .int)):=by
 simp[slcD,cV,bQ,clip,cut,List.map_drop,List.map_take]
theorem Ej(ns:List Int):(cut ns (min 5 ns.length) (min 68 ns.length)).length<=63:=by
 simp[cut];omega
def JR(w m:Nat)(a b:Int):(orc prg w (m+2)).fn 18 [.tup [.int a,.int b],.tup [.int a,.int b]]=.ok (Zd,.bl Y_) :=
 jH prg w 18 rfl 1 _ (m+2) (by simp[okZ]) (by omega)
def P0(w m:Nat)(a b c:Int):(orc prg w (m+2)).fn 18 [.tup [.int a,.int b,.int c],.tup [.int a,.int b,.int c]]=.ok (Zd,.bl Y_) :=
 jH prg w 18 rfl 1 _ (m+2) (by simp[okZ]) (by omega)
theorem gh(w n:Nat)(t:Stt)(M K:Nat)(hs:wf n t)(h:Mok t M K w)(m:Nat)(hm:n+7<=m):(orc prg w m).fn 35 [toD t,.tup [.int (ats t).length,.int (dp t:Int),.int (ld t:Nat)]]=.ok (Zd,.bl Y_):=by
 obtain⟨k,rfl⟩:∃k,m=k+3:=⟨m-3,by omega⟩
 have hz:=h.sz;have h1:=vX HM.po HM.aw HM.al w HM.at' n t hs (by omega) (k+2) (by omega);have h2:=DN HM.po HM.dp w n t hs (k+2) (by omega);have h3:=NT HM w n t M K hs h (k+2) (by omega);have h4:=P0 w k (ats t).length (dp t:Int) (ld t:Nat);rw[aL (d:=f35) rfl];exact aq rfl rfl (stpR (retR (aA (aj rfl (bu (aj rfl (aA (aj rfl (ao rfl) rfl) h1) (aj rfl (aA (aj rfl (ao rfl) rfl) h2) (aj rfl (aA (aj rfl (ao rfl) rfl) h3) rfl))) rfl) (aj rfl (ao rfl) rfl)) h4) rfl))
theorem rJ(w n:Nat)(t:Stt)(hs:wf n t)(hz:sz t<=390)(m:Nat)(hm:n+4<=m):(orc prg w m).fn 9 [toD t]=.ok (Zd,.int (ats t).length)/\(orc prg w m).fn 10 [toD t]=.ok (Zd,.int (dp t:Int)) :=
 ⟨vX HM.po HM.aw HM.al w HM.at' n t hs (by omega) m hm,DN HM.po HM.dp w n t hs m (by omega)⟩
theorem Ja(c:Int):∃b:Bool,c.fmod 2=(if b then 1 else 0):=by
 have r:=aB c 2 (by decide)
 have:c.fmod 2=0\/c.fmod 2=1:=by omega
 rcases this with e | e
 .exact⟨false,e⟩
 .exact⟨true,e⟩
theorem Gb(w k:Nat)(ns:List Int)(c0:Int)(sp:Int)(hsp:0<sp/\sp<=10000)(bw:Bool)(N:List (List Nat))(hN:NmOk N):∃(M:List Pair)(s:Stt),wf 18 s/\Dr N s/\sz s<=64/\(orc prg w (k+8)).fn 21 [.lst (ns.map .int),.lst (N.map .str)]=.ok (Y_,dctP M) /\
 (orc prg w (k+8)).fn 28 [.lst ((cut ns (min 5 ns.length) (min 68 ns.length)).map .int),dctP M,.int sp,.str (gw bw)]=.ok (Zd,toD s):=by
 have F5:∀(m j:Nat),(orc prg w (m+1)).fn 17 [.lst (ns.map .int),.int (j:Int)]=.ok (Zd,.int (ns.getD j 0)):=λm j=>(aL (d:=cellFd) rfl).trans (qF _ ns j)
 have F9:∀(m:Nat)(c:Int),(orc prg w (m+1)).fn 20 [.int c]=.ok (Zd,.int (jl c)):=λm c=>(aL (d:=numbFd) rfl).trans (Bs _ c)
 have F11:∀(m:Nat)(x y:Int),(orc prg w (m+1)).fn 22 [.int x,.int y]=.ok (Zd,.int (lB x y)):=λm x y=>(aL (d:=manyFd) rfl).trans (BZ _ x y)
 have F12:∀(m:Nat)(c:Int),∃v,(orc prg w (m+1)).fn 23 [.int c]=.ok (Zd,.int v):=λm c=>by
  obtain⟨v,h⟩:=zA (orc prg w m) c;exact⟨v,(aL (d:=nearFd) rfl).trans h⟩
 obtain⟨M,hM1,hM2,hM3⟩:=wV (o:=orc prg w (k+7)) (inum:=20) (icell:=17) (ns:=ns) (λj=>F5 (k+6) j) (λc=>F9 (k+6) c) N hN;have h10:(orc prg w (k+8)).fn 21 [.lst (ns.map .int),.lst (N.map .str)]=.ok (Y_,dctP M):=(aL (d:=pointFd 20 17) rfl).trans hM3
 have P:PtOk N M:=⟨hM1,hN.2.1,by rw[hN.1];omega,hM2⟩
 have F13:∀(m:Nat)(c:Int),∃c' L,SumK N (c.fmod sp) L/\(orc prg w (m+2)).fn 24 [.int c,dctP M,.int sp]=.ok (Zd,smT c' L):=λm c=>by
  obtain⟨c',L,q1,q2⟩:=xr (o:=orc prg w (m+1)) (imany:=22) (inear:=23) (F11 m) (F12 m) P ⟨hsp.1,by omega⟩ c;exact⟨c',L,q1,(aL (d:=lsumFd 23 22) rfl).trans q2⟩
 have F14:∀(m:Nat)(c:Int),∃s,(wf 0 s/\sz s=1/\Dr N s)/\(orc prg w (m+3)).fn 25 [.int c,dctP M,.int sp]=.ok (Zd,toD s):=λm c=>by
  obtain⟨s,q1,q2⟩:=uD (o:=orc prg w (m+2)) (isum:=24) (N:=N) hsp c (F13 m c);exact⟨s,Dr.atom q1,(aL (d:=atomFd 24) rfl).trans q2⟩
 have F15:∀(m:Nat)(bw:Bool)(l:List (Stt×Nat))(j:Nat)(many:Int)(s:Stt),StK (Dr N) j l->j<=90->0<=many/\many<4->(wf 0 s/\sz s=1/\Dr N s)->∃l',StK (Dr N) (j+1) l'/\(orc prg w (m+1)).fn 26 [.str (gw bw),.lst (stkK l),.int many,toD s]=.ok (Y_,.lst (stkK l')):=λm bw l j many s a1 a2 a3 a4=>by
  obtain⟨l',q1,q2⟩:=Al (Dr.cl N) (orc prg w m) bw l j a1 a2 many a3 s a4;exact⟨l',q1,(aL (d:=grpFd) rfl).trans q2⟩
 have F16:∀(m:Nat)(l:List (Stt×Nat))(j:Nat)(cell:Int),StK (Dr N) j l->j<=90->∃l',StK (Dr N) (j+1) l'/\(orc prg w (m+4)).fn 27 [.lst (stkK l),.int cell,dctP M,.int sp]=.ok (Y_,.lst (stkK l')):=λm l j cell a1 a2=>by
  obtain⟨l',q1,q2⟩:=uB (o:=orc prg w (m+3)) (iatom:=25) (igrp:=26) (Dr.cl N) (F14 m) (F15 (m+2)) P.sorted hN.1 (λ_ h=>h) l j a1 a2 cell;exact⟨l',q1,(aL (d:=stepFd 25 26) rfl).trans q2⟩
 have hcl:=Ej ns;obtain⟨s,q1,q2,q3,q4⟩:=vq (o:=orc prg w (k+7)) (istep:=27) (Dr.cl N) (F16 (k+3)) (cut ns (min 5 ns.length) (min 68 ns.length)) (by omega) bw;exact⟨M,s,q1,q2,by omega,h10,(aL (d:=treeFd 27) rfl).trans q4⟩
noncomputable def lE3:T:=(a0z 28 (a0r (a0K (a0n 0) (a0o (a0p 5)) (a0o (a0p 68))) (a0r (a0z 21 (a0r (a0n 0) (a0r (a0n 2) a0t))) (a0r (a0x (a0J (a0r (a0o (a0p 3)) (a0r (a0q .pow (a0o (a0p 10)) (a0o (a0p 4))) a0t))) (a0q .mod (a0n 1) (a0o (a0p 2)))) (a0r (a0x (a0J (a0r (a0o (a0A [97,110,100])) (a0r (a0o (a0A [111,114])) a0t))) (a0q .mod (a0q .fdiv (a0n 1) (a0o (a0p 2))) (a0o (a0p 2)))) a0t)))))
theorem Hb(w k:Nat)(hw:w=2 ^ 1500)(ns:List Int):bc (orc prg w (k+40)) f36 [.lst (ns.map .int)]=.ok (Zd,.bl Y_):=by
 generalize hc0:ns.getD 0 0=c0
 have h0:(orc prg w (k+40)).fn 17 [.lst (ns.map .int),.int 0]=.ok (Zd,.int c0):=by rw[<-hc0];exact(aL (d:=cellFd) rfl).trans (qF _ ns 0)
 obtain⟨N,hN,hNr⟩:=uH (orc prg w (k+39)) (c0.fdiv 16);have h8:(orc prg w (k+40)).fn 19 [.int (c0.fdiv 16)]=.ok (Y_,.lst (N.map .str)):=(aL (d:=namesFd) rfl).trans hNr;obtain⟨b1,hb1⟩:=Ja c0;obtain⟨b2,hb2⟩:=Ja (c0.fdiv 2);obtain⟨b3,hb3⟩:=Ja (c0.fdiv 4);obtain⟨M,s,s1,s2,s3,h21,h28⟩:=Gb w (k+32) ns c0 (if b1 then 10000 else 3) (by cases b1<;>decide) b2 N hN;have r4:=aB (c0.fdiv 8) 4 (by decide)
 obtain⟨x,hx,ex⟩:∃x,x∈N/\idxD (.lst (N.map .str)) (.int ((c0.fdiv 8).fmod 4))=.ok (Zd,.str x):=by
  have hl:=hN.1
  have hlt:((c0.fdiv 8).fmod 4).toNat<N.length:=by omega
  refine⟨N[((c0.fdiv 8).fmod 4).toNat],Wy _,Gr r4.1 ?_⟩;rw[T8,RC hlt];rfl
 have t1:wf 19 (.trn b3 x s):=by simp only[wf];exact s1
 have t2:Dr N (.trn b3 x s):=(Dr.cl N).trn b3 x s hx s2
 have t3:sz (.trn b3 x s)<=65:=by rw[sz];omega
 have pa:=rJ w 18 s s1 (by omega) (k+40) (by omega);have ea:ats (.trn b3 x s)=ats s:=Ag _ _ _
 have ed:dp (.trn b3 x s)=dp s+1:=by rw[dp]
 have et:toD (.trn b3 x s)=.tup [.str (tww b3),.str x,toD s]:=by rw[toD]
 generalize htd:Stt.trn b3 x s=t at t1 t2 t3 ea ed et;obtain⟨m1,m2,hmo⟩:=t2.mok (by rw[hN.1];exact Rx 4) (by omega);rw[<-hw]at hmo;have g1:=gh w 19 t m1 m2 t1 hmo (k+40) (by omega);have g2:=Nu (P:=prg) (ipo:=30) (iaw:=31) rfl rfl w 19 t t1 (by omega) (k+40) (by omega);have g3:=GD (P:=prg) (ipo:=30) (idp:=32) rfl rfl w 19 t t1 (k+40) (by omega);have g4:=G4 (P:=prg) (ic:=29) (il:=33) (ild:=34) rfl rfl rfl w t m1 m2 hmo (k+37)
 have hn:wf 20 (.nt t):=by simp only[wf];exact t1
 have pn:=rJ w 20 (.nt t) hn (by rw[sz];omega) (k+40) (by omega);rw[w6,show dp (.nt t)=dp t by rw[dp],show toD (.nt t)=.tup [.str sNot,toD t] by rw[toD]]at pn;have sm:=Bf t Y_
 have g5:(orc prg w (k+40)).fn 16 [.tup [.str sNot,toD t]]=.ok (Zd,toD (psh t Y_)):=by
  rw[aL (d:=f16) rfl];have:=Ho (P:=prg) rfl rfl rfl rfl w 20 (.nt t) hn (λa ha=>by rw[w6]at ha;exact(t2.1 a ha).smo) Zd (k+39) (by omega);rw[show psh (.nt t) Zd=psh t Y_ by rw[psh];rfl,show toD (.nt t)=.tup [.str sNot,toD t] by rw[toD]]at this;exact aq rfl rfl (stpR (retR (aA (aj rfl (ao rfl) (aj rfl au rfl)) this) rfl))
 have g6:=gh w 20 (psh t Y_) m1 m2 (Oz 19 t Y_ t1) (sm.mok hmo (by have:=rN t Y_;omega)) (k+40) (by omega);rw[sm.len,rm,sm.ld]at g6;have q1:=JR w (k+38) (ats t).length (dp s:Int);have q2:=JR w (k+38) (ats t).length (dp t:Int);rw[<-ea]at pa;have hlen:=gB t;have hal:=fO t;generalize hL:a0T (ns.map .int)=L at h0 h21 ⊢;have hcut:=cutI ns;rw[hL]at hcut;generalize a0T ((cut ns (min 5 ns.length) (min 68 ns.length)).map .int)=CS at h28 hcut;generalize hNL:a0T (N.map .str)=NL at h8 h21 ex
 have hNLi:∃l,NL=.lst l:=⟨_,hNL.symm⟩
 generalize hMM:dctP M=MM at h21 h28
 have hMi:MM.imm=Zd:=by rw[<-hMM];rfl
 generalize orc prg w (k+40)=o at *;have u1:evS o (a0y 1 (a0z 17 (a0r (a0n 0) (a0r (a0o (a0p 0)) a0t)))) [some (.sh,L),none,none,none,none,none,none,none]=.nx [some (.sh,L),some (.sh,.int c0),none,none,none,none,none,none]:=b7 (aA (aj rfl (ao rfl) (aj rfl au rfl)) h0) rfl;have u2:evS o (a0y 2 (a0z 19 (a0r (a0q .fdiv (a0n 1) (a0o (a0p 16))) a0t))) [some (.sh,L),some (.sh,.int c0),none,none,none,none,none,none]=.nx [some (.sh,L),some (.sh,.int c0),some (.ow,NL),none,none,none,none,none]:=b7 (w:=Y_) (aA (aj rfl (cz (ao rfl) au (eF _ 16 (by decide))) rfl) h8) rfl
 have u3:evS o (a0y 3 lE3) [some (.sh,L),some (.sh,.int c0),some (.ow,NL),none,none,none,none,none]=.nx [some (.sh,L),some (.sh,.int c0),some (.sh,NL),some (.sh,toD s),none,none,none,none]:=by
  have e1:∀z,ev o [some (.sh,L),some (.sh,.int c0),z,none,none,none,none,none] Zd (a0K (a0n 0) (a0o (a0p 5)) (a0o (a0p 68)))=.ok (Y_,CS):=λz=>g8 (ao rfl) au au rfl rfl hcut
  have e2:ev o [some (.sh,L),some (.sh,.int c0),some (.ow,NL),none,none,none,none,none] Zd (a0z 21 (a0r (a0n 0) (a0r (a0n 2) a0t)))=.stuck:=by
   have:evL o [some (.sh,L),some (.sh,.int c0),some (.ow,NL),none,none,none,none,none] (a0r (a0n 0) (a0r (a0n 2) a0t))=.ok (Y_,[L,NL]):=Gi rfl (ao rfl) (j9 rfl (dX rfl) rfl);simp only[ev,this,a0u,h21,lent,if_true,hMi,Rv,if_false]
  refine Hc (w:=Zd) (d:=toD s) (δ1:=[some (.sh,L),some (.sh,.int c0),some (.sh,NL),none,none,none,none,none]) ?_ rfl ?_ rfl
  .unfold lE3
   have k1:bG [some (Own.sh,L),some (.sh,.int c0),some (.ow,NL),none,none,none,none,none] (a0K (a0n 0) (a0o (a0p 5)) (a0o (a0p 68)))=Zd:=rfl;have k2:bG [some (Own.sh,L),some (.sh,.int c0),some (.ow,NL),none,none,none,none,none] (a0z 21 (a0r (a0n 0) (a0r (a0n 2) a0t)))=Zd:=rfl;rw[ev,evL,k1,e1,evL,k2,e2]
   rfl
  .refine aA (aj rfl (e1 _) (aj rfl (aA (aj rfl (ao rfl) (aj rfl (ao rfl) rfl)) h21) (aj rfl (x:=.int (if b1 then 10000 else 3)) (w:=Zd) ?_ (aj rfl (x:=.str (gw b2)) (w:=Zd) ?_ rfl)))) h28
   .refine(dW (cN (xs:=[.int 3,.int 10000]) (aj rfl au (aj rfl (cz au au (Ni rfl rfl)) rfl)) rfl) (cz (ao rfl) au (mK _ 2 (by decide))) ?_)
    rw[hb1];cases b1<;>rfl
   .exact rR (b:=b2) (cz (cz (ao rfl) au (eF _ 2 (by decide))) au (mK _ 2 (by decide))) hb2
 have u4:evS o (a0y 4 (a0E (a0r (a0x (a0J (a0r (a0o (a0A [115,111,109,101])) (a0r (a0o (a0A [97,108,108])) a0t))) (a0q .mod (a0q .fdiv (a0n 1) (a0o (a0p 4))) (a0o (a0p 2)))) (a0r (a0x (a0n 2) (a0q .mod (a0q .fdiv (a0n 1) (a0o (a0p 8))) (a0o (a0p 4)))) (a0r (a0n 3) a0t))))) [some (.sh,L),some (.sh,.int c0),some (.sh,NL),some (.sh,toD s),none,none,none,none]=.nx [some (.sh,L),some (.sh,.int c0),some (.sh,NL),some (.sh,toD s),some (.sh,toD t),none,none,none]:=by
  rw[et];exact b7 (w:=Zd) (bu (xs:=[.str (tww b3),.str x,toD s]) (aj rfl (rR (b:=b3) (cz (cz (ao rfl) au (eF _ 4 (by decide))) au (mK _ 2 (by decide))) hb3) (aj rfl (dW (ao rfl) (cz (cz (ao rfl) au (eF _ 8 (by decide))) au (mK _ 4 (by decide))) ex) (aj rfl (ao rfl) rfl))) rfl) rfl
 have u5:evS o (a0y 5 (a0z 31 (a0r (a0n 4) a0t))) [some (.sh,L),some (.sh,.int c0),some (.sh,NL),some (.sh,toD s),some (.sh,toD t),none,none,none]=.nx [some (.sh,L),some (.sh,.int c0),some (.sh,NL),some (.sh,toD s),some (.sh,toD t),some (.ow,.lst ((aw t).map toD)),none,none]:=b7 (w:=Y_) (aA (aj rfl (ao rfl) rfl) g2) rfl
 have u6:evS o (a0y 6 (a0D .len (a0G [] 1 Zd (a0F (a0n 5)) (orT [108,101,97,115,116] [114,101,115,116]) (a0n 0)))) [some (.sh,L),some (.sh,.int c0),some (.sh,NL),some (.sh,toD s),some (.sh,toD t),some (.ow,.lst ((aw t).map toD)),none,none]=.nx [some (.sh,L),some (.sh,.int c0),some (.sh,NL),some (.sh,toD s),some (.sh,toD t),some (.ow,.lst ((aw t).map toD)),some (.sh,.int ((ats t).length:Int)),none]:=by
  refine b7 (w:=Zd) (d:=.int ((ats t).length:Int)) ((sY (cB _ ((aw t).map toD) ((ats t).map toD) _ _ (bC (dX rfl) rfl) (by rw[Rq];omega) (bZ (ts:=λq=>[toD q]) (λ_ _=>rfl) (λq _=>or_A _ q _ _) λq _ _=>⟨false,ao rfl⟩))).trans ?_) rfl;rw[iu,Rq]
 have u7:evS o (a0y 7 (a0E (a0r (a0n 6) (a0r (a0z 32 (a0r (a0n 4) a0t)) (a0r (a0z 34 (a0r (a0n 5) a0t)) a0t))))) [some (.sh,L),some (.sh,.int c0),some (.sh,NL),some (.sh,toD s),some (.sh,toD t),some (.ow,.lst ((aw t).map toD)),some (.sh,.int ((ats t).length:Int)),none]=.nx [some (.sh,L),some (.sh,.int c0),some (.sh,NL),some (.sh,toD s),some (.sh,toD t),some (.ow,.lst ((aw t).map toD)),some (.sh,.int ((ats t).length:Int)),some (.sh,.tup [.int (ats t).length,.int (dp t:Int),.int (ld t:Nat)])]:=b7 (w:=Zd) (bu (aj rfl (ao rfl) (aj rfl (aA (aj rfl (ao rfl) rfl) g3) (aj rfl (gK (j9 rfl (dX rfl) rfl) g4 rfl) rfl))) rfl) rfl;refine aq rfl rfl (stp _ u1 (stp _ u2 (stp _ u3 (stp _ u4 (stp _ u5 (stp _ u6 (stp _ u7 (stp _ (ifF (b:=Zd) (vM (gC (aA (aj rfl (ao rfl) (aj rfl (ao rfl) rfl)) g1)) (gC (aA (aj rfl (aA (aj rfl (bu (xs:=[.str sNot,toD t]) (aj rfl au (aj rfl (ao rfl) rfl)) rfl) rfl) g5) (aj rfl (ao rfl) rfl)) g6))) rfl) (stp _ (ifF (b:=Zd) (gC (aA (aj rfl (bu (xs:=[.int (ats t).length,.int (dp s:Int)]) (aj rfl (aA (aj rfl (ao rfl) rfl) pa.1) (aj rfl (aA (aj rfl (ao rfl) rfl) pa.2) rfl)) rfl) (aj rfl (bu (xs:=[.int (ats t).length,.int (dp s:Int)]) (aj rfl (ao rfl) (aj (w:=Zd) rfl ?_ rfl)) rfl) rfl)) q1)) rfl) (stpR (retR (aA (aj rfl (bu (xs:=[.int (ats t).length,.int (dp t:Int)]) (aj rfl (aA (aj rfl (bu (xs:=[.str sNot,toD t]) (aj rfl au (aj rfl (ao rfl) rfl)) rfl) rfl) pn.1) (aj rfl (aA (aj rfl (bu (xs:=[.str sNot,toD t]) (aj rfl au (aj rfl (ao rfl) rfl)) rfl) rfl) pn.2) rfl)) rfl) (aj rfl (g8 (ao rfl) au au rfl rfl rfl) rfl)) q2) rfl)))))))))));refine(cz (dW (ao rfl) au (aQ rfl rfl)) au (wX _ _)).trans ?_;rw[ed]
 congr 3
 omega
def law_ok(w:Nat)(hw:w=2 ^ 1500)(ns:List Int):(orc prg w (40+1)).fn 36 [.lst (ns.map .int)]=.ok (Zd,.bl Y_):=(aL (d:=f36) rfl).trans (Hb w 0 hw ns)
end KM
namespace P15
open Z
def pure(ns:List Int)(_:ns.length<=63):∃w0,(orc prg w0 (40+1)).fn 36 [.lst (ns.map .int)]=.ok (Zd,.bl Y_):=⟨2 ^ 1500,KM.law_ok _ rfl ns⟩
end P15
namespace KF15
open PySem L2 Z P15
noncomputable def top(i:Nat):Stmt:=PySem.Challenge.pw_sumlaw_k15_measured.main.body.getD i (.Pass ⟨0,0,0,0⟩)
def mkd(x:Str)(i n:Nat)(N:List Str)(f:Fd):Df:=⟨x,x,top i,N,N.take n,f⟩
noncomputable def d0:Df:=mkd "common" 1 2 ["a","b","greater","smaller","left"] f0
noncomputable def d1:Df:=mkd "least_common" 2 2 ["a","b"] f1
noncomputable def d2:Df:=mkd "parts_of" 4 1 ["told"] f2
noncomputable def d3:Df:=mkd "all_within" 5 1 ["told","found","part"] f3
noncomputable def d4:Df:=mkd "atom_list" 6 1 ["told"] f4
noncomputable def d5:Df:=mkd "bound_list" 7 1 ["told"] f5
noncomputable def d6:Df:=mkd "least_common_of" 8 1 ["numbers","total","number"] f6
noncomputable def d7:Df:=mkd "bound_share" 9 1 ["told","bound","numbers","atom","total"] f7
noncomputable def d8:Df:=mkd "divisor_share" 10 1 ["told"] f8
noncomputable def d9:Df:=mkd "atoms" 11 1 ["told"] f9
noncomputable def d10:Df:=mkd "depth" 12 1 ["told","inner"] f10
noncomputable def d11:Df:=mkd "load" 13 1 ["told"] f11
noncomputable def d12:Df:=mkd "sum_of" 15 2 ["c","pairs","totals","name","k"] f12
noncomputable def d13:Df:=mkd "plus" 16 2 ["one","other"] f13
noncomputable def d14:Df:=mkd "times" 17 2 ["k","one"] f14
noncomputable def d15:Df:=mkd "pushed" 20 2 ["told","against","word","turned"] f15
noncomputable def d16:Df:=mkd "inward" 21 1 ["told"] f16
noncomputable def d17:Df:=mkd "_law_cell_at" 23 2 ["_law_script","_law_k"] f17
noncomputable def d18:Df:=mkd "_law_same" 24 2 ["_law_made","_law_due"] f18
noncomputable def d19:Df:=mkd "_law_names" 25 1 ["_law_cell","_law_letters","_law_word","_law_k","_law_start","_law_at"] f19
noncomputable def d20:Df:=mkd "_law_number" 26 1 ["_law_cell"] f20
noncomputable def d21:Df:=mkd "_law_point" 27 2 ["_law_script","_law_names_here","_law_point_here","_law_k","_law_name"] f21
noncomputable def d22:Df:=mkd "_law_many" 28 2 ["_law_mixed","_law_key"] f22
noncomputable def d23:Df:=mkd "_law_near" 29 1 ["_law_cell"] f23
noncomputable def d24:Df:=mkd "_law_sum" 30 3 ["_law_cell","_law_point_here","_law_spread","_law_pairs","_law_c","_law_k","_law_name","_law_mixed","_law_many_here"] f24
noncomputable def d25:Df:=mkd "_law_atom" 31 3 ["_law_cell","_law_point_here","_law_spread","_law_made"] f25
noncomputable def d26:Df:=mkd "_law_grouped" 32 4 ["_law_word","_law_stack","_law_many_here","_law_spare","_law_took","_law_deep_here"] f26
noncomputable def d27:Df:=mkd "_law_step" 33 4 ["_law_stack","_law_cell","_law_point_here","_law_spread","_law_atom_here","_law_turn"] f27
noncomputable def d28:Df:=mkd "_law_tree" 34 4 ["_law_cells","_law_point_here","_law_spread","_law_word","_law_stack","_law_cell"] f28
noncomputable def d29:Df:=mkd "_law_common" 35 2 ["_law_a","_law_b","_law_c"] f29
noncomputable def d30:Df:=mkd "_law_parts" 36 1 ["_law_told"] f30
noncomputable def d31:Df:=mkd "_law_listed" 37 1 ["_law_told","_law_row","_law_part"] f31
noncomputable def d32:Df:=mkd "_law_deep" 38 1 ["_law_told","_law_deep_here"] f32
noncomputable def d33:Df:=mkd "_law_least_common" 39 1 ["_law_numbers","_law_due","_law_number_here"] f33
noncomputable def d34:Df:=mkd "_law_load" 40 1 ["_law_row","_law_lone","_law_bound","_law_numbers","_law_part","_law_rests"] f34
noncomputable def d35:Df:=mkd "_law_measured" 41 2 ["_law_told","_law_due"] f35
noncomputable def d36:Df:=mkd "law" 42 1 ["_law_script","_law_first","_law_names_here","_law_part","_law_told","_law_row","_law_many_here","_law_due"] f36
noncomputable def cs:List (Str×Gk):=[("TURNED",.dct [.s [97,110,100],.s [111,114],.s [115,111,109,101],.s [97,108,108]] [(a0A [111,114]),(a0A [97,110,100]),(a0A [97,108,108]),(a0A [115,111,109,101])])]
noncomputable def ds:List Df:=[d0,d1,d2,d3,d4,d5,d6,d7,d8,d9,d10,d11,d12,d13,d14,d15,d16,d17,d18,d19,d20,d21,d22,d23,d24,d25,d26,d27,d28,d29,d30,d31,d32,d33,d34,d35,d36]
theorem oks:∀d∈ds,DfOk (glOf 0 ds++cs) d:=by
 intro d hd;simp only[ds,Rp,Sd,or_false]at hd;rcases hd with rfl | rfl | rfl | rfl | rfl | rfl | rfl | rfl | rfl | rfl | rfl | rfl | rfl | rfl | rfl | rfl | rfl | rfl | rfl | rfl | rfl | rfl | rfl | rfl | rfl | rfl | rfl | rfl | rfl | rfl | rfl | rfl | rfl | rfl | rfl | rfl | rfl
 all_goals exact⟨⟨rfl,rfl,rfl,by decide +kernel,rfl,by decide +kernel,by decide +kernel⟩,rfl,rfl,.inl (by kernel_rfl)⟩
set_option maxHeartbeats 0 in
def bds:∀d∈ds,pD d:=by
 intro d hd;simp only[ds,Rp,Sd,or_false]at hd;rcases hd with rfl | rfl | rfl | rfl | rfl | rfl | rfl | rfl | rfl | rfl | rfl | rfl | rfl | rfl | rfl | rfl | rfl | rfl | rfl | rfl | rfl | rfl | rfl | rfl | rfl | rfl | rfl | rfl | rfl | rfl | rfl | rfl | rfl | rfl | rfl | rfl | rfl
 all_goals first | exact KH rfl λ_ _ _ _ _ _ _=>rfl | exact O7 rfl λ_ _ _ _ _ _ _ _=>rfl | exact KD rfl λ_ _ _ _ _ _ _ _ _=>rfl | exact MK rfl λ_ _ _ _ _ _ _ _ _ _=>rfl
open PySem.W
noncomputable def ge(P:Params)(x:Str)(t:Tok)(v:Rm):DictEntry:=⟨Xb P x,.str x t,v⟩
noncomputable def co(a:Addr)(x:Str)(t:Nat)(l n f:Int)(r:Addr)(b:Bool)(r2:Addr)(v1 v2 v3:Rm)(r3:Addr)(u:Nat):Addr×Obj:=(a,⟨.type "code",none,.fields #[.str x t,.str x (t+1),.str "/claim/cut.py" (t+2),.int l 0,.int n 0,.int 0 0,.int 0 0,.int f 0,.ref r,.bool b,.int 181 0,.ref r2,v1,v2,v3,.ref r3,.int u 0,.int l 0,.str "/claim/cut.py" (u+1)],#[]⟩)
noncomputable def fo(a:Addr)(x:Str)(i:Nat)(m:Str)(t:Tok)(c:Addr):Addr×Obj:=(a,⟨.type "function",none,.func (fnOf x x (bH (top i)) (b8 (top i)) (aD (top i)) .none .none .none (.str m t) none (.ref c) .none),#[]⟩)
noncomputable def KK:Params->Frag:=λP=>[(3,⟨.type "dict",none,.dict #[ge P "__name__" 165 (.str "law_sumlaw_k15_measured" 329),ge P "__doc__" 166 .none,ge P "__package__" 167 .none,ge P "__loader__" 168 (.builtin "__main__.__loader__#opaque"),ge P "__spec__" 169 .none,ge P "__annotations__" 170 (.ref 6),ge P "__builtins__" 171 (.ref 4),ge P "__file__" 173 (.str "/claim/cut.py" 172),ge P "__cached__" 174 .none,ge P "common" 199 (.ref 21),ge P "least_common" 207 (.ref 28),ge P "parts_of" 216 (.ref 35),ge P "all_within" 225 (.ref 42),ge P "atom_list" 231 (.ref 47),ge P "bound_list" 237 (.ref 52),ge P "least_common_of" 246 (.ref 59),ge P "bound_share" 252 (.ref 64),ge P "divisor_share" 258 (.ref 69),ge P "atoms" 265 (.ref 76),ge P "depth" 271 (.ref 81),ge P "load" 278 (.ref 88),ge P "sum_of" 286 (.ref 93),ge P "plus" 294 (.ref 100),ge P "times" 300 (.ref 105),ge P "TURNED" 315 (.ref 106),ge P "pushed" 321 (.ref 111),ge P "inward" 328 (.ref 118),ge P "_law_cell_at" 338 (.ref 125),ge P "_law_same" 344 (.ref 130),ge P "_law_names" 350 (.ref 135),ge P "_law_number" 357 (.ref 142),ge P "_law_point" 368 (.ref 149),ge P "_law_many" 376 (.ref 156),ge P "_law_near" 383 (.ref 163),ge P "_law_sum" 398 (.ref 170),ge P "_law_atom" 408 (.ref 177),ge P "_law_grouped" 414 (.ref 182),ge P "_law_step" 426 (.ref 189),ge P "_law_tree" 432 (.ref 194),ge P "_law_common" 441 (.ref 201),ge P "_law_parts" 448 (.ref 208),ge P "_law_listed" 457 (.ref 215),ge P "_law_deep" 463 (.ref 220),ge P "_law_least_common" 472 (.ref 227),ge P "_law_load" 478 (.ref 232),ge P "_law_measured" 486 (.ref 239),ge P "law" 492 (.ref 244)] 47,#[]⟩),co 20 "common" 189 2 2 3 15 Y_ 16 .none (.ref 17) (.ref 18) 19 197,fo 21 "common" 1 "sumlaw.numbers" 187 20,co 27 "least_common" 200 10 2 3 22 Y_ 23 .none (.ref 24) (.ref 25) 26 205,fo 28 "least_common" 2 "sumlaw.numbers" 187 27,co 34 "parts_of" 210 13 1 3 29 Y_ 30 .none (.ref 31) (.ref 32) 33 214,fo 35 "parts_of" 4 "sumlaw.measure" 208 34,co 41 "all_within" 217 21 1 3 36 Y_ 37 .none (.ref 38) (.ref 39) 40 223,fo 42 "all_within" 5 "sumlaw.measure" 208 41,co 46 "atom_list" 226 26 1 3 43 Y_ 44 .none .none .none 45 229,fo 47 "atom_list" 6 "sumlaw.measure" 208 46,co 51 "bound_list" 232 28 1 3 48 Y_ 49 .none .none .none 50 235,fo 52 "bound_list" 7 "sumlaw.measure" 208 51,co 58 "least_common_of" 238 30 1 3 53 Y_ 54 .none (.ref 55) (.ref 56) 57 244,fo 59 "least_common_of" 8 "sumlaw.measure" 208 58,co 63 "bound_share" 247 35 1 3 60 Y_ 61 .none .none .none 62 250,fo 64 "bound_share" 9 "sumlaw.measure" 208 63,co 68 "divisor_share" 253 42 1 3 65 Y_ 66 .none .none .none 67 256,fo 69 "divisor_share" 10 "sumlaw.measure" 208 68,co 75 "atoms" 259 44 1 3 70 Y_ 71 .none (.ref 72) (.ref 73) 74 263,fo 76 "atoms" 11 "sumlaw.measure" 208 75,co 80 "depth" 266 46 1 3 77 Y_ 78 .none .none .none 79 269,fo 81 "depth" 12 "sumlaw.measure" 208 80,co 87 "load" 272 49 1 3 82 Y_ 83 .none (.ref 84) (.ref 85) 86 276,fo 88 "load" 13 "sumlaw.measure" 208 87,co 92 "sum_of" 281 52 2 3 89 Y_ 90 .none .none .none 91 284,fo 93 "sum_of" 15 "sumlaw.sums" 279 92,co 99 "plus" 287 57 2 3 94 Y_ 95 .none (.ref 96) (.ref 97) 98 292,fo 100 "plus" 16 "sumlaw.sums" 279 99,co 104 "times" 295 59 2 3 101 Y_ 102 .none .none .none 103 298,fo 105 "times" 17 "sumlaw.sums" 279 104,co 110 "pushed" 316 63 2 3 107 Y_ 108 .none .none .none 109 319,fo 111 "pushed" 20 "sumlaw.inward" 301 110,co 117 "inward" 322 75 1 3 112 Y_ 113 .none (.ref 114) (.ref 115) 116 326,fo 118 "inward" 21 "sumlaw.inward" 301 117,co 124 "_law_cell_at" 331 78 2 3 119 Y_ 120 .none (.ref 121) (.ref 122) 123 336,fo 125 "_law_cell_at" 23 "law_sumlaw_k15_measured" 329 124,co 129 "_law_same" 339 82 2 3 126 Y_ 127 .none .none .none 128 342,fo 130 "_law_same" 24 "law_sumlaw_k15_measured" 329 129,co 134 "_law_names" 345 90 1 3 131 Y_ 132 .none .none .none 133 348,fo 135 "_law_names" 25 "law_sumlaw_k15_measured" 329 134,co 141 "_law_number" 351 101 1 3 136 Y_ 137 .none (.ref 138) (.ref 139) 140 355,fo 142 "_law_number" 26 "law_sumlaw_k15_measured" 329 141,co 148 "_law_point" 358 105 2 3 143 Y_ 144 .none (.ref 145) (.ref 146) 147 366,fo 149 "_law_point" 27 "law_sumlaw_k15_measured" 329 148,co 155 "_law_many" 369 110 2 3 150 Y_ 151 .none (.ref 152) (.ref 153) 154 374,fo 156 "_law_many" 28 "law_sumlaw_k15_measured" 329 155,co 162 "_law_near" 377 114 1 3 157 Y_ 158 .none (.ref 159) (.ref 160) 161 381,fo 163 "_law_near" 29 "law_sumlaw_k15_measured" 329 162,co 169 "_law_sum" 384 118 3 3 164 Y_ 165 .none (.ref 166) (.ref 167) 168 396,fo 170 "_law_sum" 30 "law_sumlaw_k15_measured" 329 169,co 176 "_law_atom" 399 128 3 3 171 Y_ 172 .none (.ref 173) (.ref 174) 175 406,fo 177 "_law_atom" 31 "law_sumlaw_k15_measured" 329 176,co 181 "_law_grouped" 409 135 4 3 178 Y_ 179 .none .none .none 180 412,fo 182 "_law_grouped" 32 "law_sumlaw_k15_measured" 329 181,co 188 "_law_step" 415 141 4 3 183 Y_ 184 .none (.ref 185) (.ref 186) 187 424,fo 189 "_law_step" 33 "law_sumlaw_k15_measured" 329 188,co 193 "_law_tree" 427 153 4 3 190 Y_ 191 .none .none .none 192 430,fo 194 "_law_tree" 34 "law_sumlaw_k15_measured" 329 193,co 200 "_law_common" 433 160 2 3 195 Y_ 196 .none (.ref 197) (.ref 198) 199 439,fo 201 "_law_common" 35 "law_sumlaw_k15_measured" 329 200,co 207 "_law_parts" 442 168 1 3 202 Y_ 203 .none (.ref 204) (.ref 205) 206 446,fo 208 "_law_parts" 36 "law_sumlaw_k15_measured" 329 207,co 214 "_law_listed" 449 176 1 3 209 Y_ 210 .none (.ref 211) (.ref 212) 213 455,fo 215 "_law_listed" 37 "law_sumlaw_k15_measured" 329 214,co 219 "_law_deep" 458 181 1 3 216 Y_ 217 .none .none .none 218 461,fo 220 "_law_deep" 38 "law_sumlaw_k15_measured" 329 219,co 226 "_law_least_common" 464 184 1 3 221 Y_ 222 .none (.ref 223) (.ref 224) 225 470,fo 227 "_law_least_common" 39 "law_sumlaw_k15_measured" 329 226,co 231 "_law_load" 473 189 1 3 228 Y_ 229 .none .none .none 230 476,fo 232 "_law_load" 40 "law_sumlaw_k15_measured" 329 231,co 238 "_law_measured" 479 197 2 3 233 Y_ 234 .none (.ref 235) (.ref 236) 237 484,fo 239 "_law_measured" 41 "law_sumlaw_k15_measured" 329 238,co 243 "law" 487 199 1 3 240 Y_ 241 .none .none .none 242 490,fo 244 "law" 42 "law_sumlaw_k15_measured" 329 243,(106,⟨.type "dict",none,.dict #[ge P "and" 303 (.str "or" 304),ge P "or" 305 (.str "and" 306),ge P "some" 307 (.str "all" 308),ge P "all" 309 (.str "some" 310)] 4,#[]⟩)]
noncomputable def Kas:List Addr:=[3,20,21,27,28,34,35,41,42,46,47,51,52,58,59,63,64,68,69,75,76,80,81,87,88,92,93,99,100,104,105,110,111,117,118,124,125,129,130,134,135,141,142,148,149,155,156,162,163,169,170,176,177,181,182,188,189,193,194,200,201,207,208,214,215,219,220,226,227,231,232,238,239,243,244,106]
noncomputable def u0:Str×Tok:=("sumlaw.numbers",187)
noncomputable def u1:Str×Tok:=("sumlaw.measure",208)
noncomputable def u2:Str×Tok:=("sumlaw.sums",279)
noncomputable def u3:Str×Tok:=("sumlaw.inward",301)
noncomputable def u4:Str×Tok:=("law_sumlaw_k15_measured",329)
noncomputable def dk{K:Frag}{h:Rz}{mg:Str->Option Rm}{d:Df}(a:Addr)(m:Str×Tok)(X:K.In h)(G:h.Ns Vb mg)(hb:pD d)(n:nsIn K Vb d.name=Z_ (Z_ (.ref a)):=by kernel_rfl)(l:K.lookup a=Z_ ⟨.type "function",none,.func (fnOf d.name d.qual (bH d.st) (b8 d.st) (aD d.st) .none .none .none (.str m.1 m.2) none (.ref (a-1)) .none),#[]⟩:=by kernel_rfl)(e:codeIn K (.ref (a-1)) d.qual=Y_:=by kernel_rfl)(k:keepIn K (.ref a)=Y_:=by kernel_rfl):DfAt K mg d:=Rf X G n l e k hb
def all_mk{lw:PySem.W.OpenLaw}{w:Th}{h:Rz}{mg:Str->Option Rm}{fa:Addr}(X:(KK w.params).In h)(G:h.Ns Vb mg)(hfa:mg "law"=Z_ (.ref fa)):∃(fd:Wr)(CT:Nat->Addr),(∀(s:Rr)(u:Rm),Zr s fd ⟨[u],[]⟩ [("_law_script",u)])/\∀(base:Rz)(w0:Nat),FnOk lw.prog w (KK w.params) mg base CX0 (40+1) fa fd ["_law_script"] (spFn ⟨(KK w.params),CT⟩ ((orc prg w0 (40+1)).fn 36) 1):=by
 have e:=hfa.symm.trans (PySem.W.mg_of X G (show nsIn (KK w.params) Vb "law"=Z_ (Z_ (.ref 244)) by kernel_rfl));cases e
 have hat:∀d∈ds,DfAt (KK w.params) mg d:=by
  intro d hd;have hb:=bds d hd;simp only[ds,Rp,Sd,or_false]at hd;rcases hd with rfl | rfl | rfl | rfl | rfl | rfl | rfl | rfl | rfl | rfl | rfl | rfl | rfl | rfl | rfl | rfl | rfl | rfl | rfl | rfl | rfl | rfl | rfl | rfl | rfl | rfl | rfl | rfl | rfl | rfl | rfl | rfl | rfl | rfl | rfl | rfl | rfl
  .exact dk 21 u0 X G hb
  .exact dk 28 u0 X G hb
  .exact dk 35 u1 X G hb
  .exact dk 42 u1 X G hb
  .exact dk 47 u1 X G hb
  .exact dk 52 u1 X G hb
  .exact dk 59 u1 X G hb
  .exact dk 64 u1 X G hb
  .exact dk 69 u1 X G hb
  .exact dk 76 u1 X G hb
  .exact dk 81 u1 X G hb
  .exact dk 88 u1 X G hb
  .exact dk 93 u2 X G hb
  .exact dk 100 u2 X G hb
  .exact dk 105 u2 X G hb
  .exact dk 111 u3 X G hb
  .exact dk 118 u3 X G hb
  .exact dk 125 u4 X G hb
  .exact dk 130 u4 X G hb
  .exact dk 135 u4 X G hb
  .exact dk 142 u4 X G hb
  .exact dk 149 u4 X G hb
  .exact dk 156 u4 X G hb
  .exact dk 163 u4 X G hb
  .exact dk 170 u4 X G hb
  .exact dk 177 u4 X G hb
  .exact dk 182 u4 X G hb
  .exact dk 189 u4 X G hb
  .exact dk 194 u4 X G hb
  .exact dk 201 u4 X G hb
  .exact dk 208 u4 X G hb
  .exact dk 215 u4 X G hb
  .exact dk 220 u4 X G hb
  .exact dk 227 u4 X G hb
  .exact dk 232 u4 X G hb
  .exact dk 239 u4 X G hb
  .exact dk 244 u4 X G hb
 have hgb:∀x∈c7,(glOf 0 ds++cs).lookup x=Yt->mg x=Yt:=by
  intro x hx _;simp only[c7,Rp,Sd,or_false]at hx;rcases hx with rfl | rfl | rfl | rfl | rfl | rfl | rfl | rfl | rfl | rfl | rfl | rfl | rfl | rfl | rfl | rfl | rfl | rfl | rfl | rfl
  all_goals(exact PySem.W.mg_none_of X G (by kernel_rfl))
 have hcs:∀q∈cs,CsOk lw.prog w ⟨(KK w.params),λ_=>0⟩ mg q:=by
  intro q hq;simp only[cs,Rp,Sd,or_false]at hq;rcases hq with rfl
  .exact⟨λd e=>(by cases e),λks vs e=>(by cases e;exact⟨106,PySem.W.mg_of X G (show PySem.W.nsIn (KK w.params) Vb "TURNED"=Z_ (Z_ (.ref 106)) by kernel_rfl),Q5 (P:=lw.prog) (w:=w) (W:=⟨(KK w.params),λ_=>0⟩) (qs:=[(.s [97,110,100],303,.str "or" 304,(a0A [111,114])),(.s [111,114],305,.str "and" 306,(a0A [97,110,100])),(.s [115,111,109,101],307,.str "all" 308,(a0A [97,108,108])),(.s [97,108,108],309,.str "some" 310,(a0A [115,111,109,101]))]) (show(KK w.params).lookup 106=Z_ { cls:=.type "dict",data:=.dict #[⟨Xb w.params "and",.str "and" 303,.str "or" 304⟩,⟨Xb w.params "or",.str "or" 305,.str "and" 306⟩,⟨Xb w.params "some",.str "some" 307,.str "all" 308⟩,⟨Xb w.params "all",.str "all" 309,.str "some" 310⟩] 4 } by kernel_rfl) (by kernel_rfl) (show([.s [97,110,100],.s [111,114],.s [115,111,109,101],.s [97,108,108]]:List DK).Nodup from by decide) (show(106==Vx)=Zd by kernel_rfl) ⟨⟨.str (strV [111,114]),⟨304,by kernel_rfl⟩,Bo (by decide)⟩,⟨⟨.str (strV [97,110,100]),⟨306,by kernel_rfl⟩,Bo (by decide)⟩,⟨⟨.str (strV [97,108,108]),⟨308,by kernel_rfl⟩,Bo (by decide)⟩,⟨⟨.str (strV [115,111,109,101]),⟨310,by kernel_rfl⟩,Bo (by decide)⟩,trivial⟩⟩⟩⟩⟩)⟩
 obtain⟨hgv,hgd⟩:=Lb (ds:=ds) hcs
 have hno:NoFn cs:=by
  intro q hq i np;simp only[cs,Rp,Sd,or_false]at hq;rcases hq with rfl<;>simp
 have hdf:∀x v i np,(glOf 0 ds++cs).lookup ("!d":Str)=Z_ (.dfl x v)->(glOf 0 ds++cs).lookup x=Z_ (.fn i np)->∃d f fd vs,prg.fns[i]?=Z_ d.fd/\DfOk (glOf 0 ds++cs) d/\d.ps.length=np/\Fun (KK w.params) d.name d.qual d.st f fd/\Binds (KK w.params) fd d.ps vs/\L2.Vals [.int v] vs/\mg x=Z_ (.ref f):=by
  intro x v i np h h'
  have e:(glOf 0 ds++cs).lookup ("!d":Str)=Yt:=by kernel_rfl
  rw[e]at h;cases h
 have GR0:Ground lw.prog w (KK w.params) mg ⟨(KK w.params),λ_=>0⟩ prg (glOf 0 ds++cs):=⟨rfl,hgb,hgv,hgd,hdf⟩
 refine⟨Ui "law" "law" (bH (top 42)) (b8 (top 42)) (aD (top 42)) .none .none .none (.str "law_sumlaw_k15_measured" 329) none (.ref 243) .none,λ_=>0,λs v=>.of_eq rfl,λbase w0=>?_⟩;exact Ou (d:=d36) (i:=36) (n:=40) (W:=⟨(KK w.params),λ_=>0⟩) (p:=prg) (ds:=ds) (cs:=cs) hno GR0 rfl oks hat (Dl (st:=top 42) (show(KK w.params).lookup 244=Z_ ⟨.type "function",none,.func (fnOf "law" "law" (bH (top 42)) (b8 (top 42)) (aD (top 42)) .none .none .none (.str "law_sumlaw_k15_measured" 329) none (.ref 243) .none),#[]⟩ by kernel_rfl) (show codeIn (KK w.params) (.ref 243) "law"=Y_ by kernel_rfl) (by kernel_rfl)) (oks d36 (S5 (i:=36) rfl)) rfl
end KF15
open PySem PySem.W PyProof.Rows
namespace KF15
open PySem PySem.W L2
noncomputable def Q:Sx:={ PySem.Challenge.pw_sumlaw_k15_measured with main:={ PySem.Challenge.pw_sumlaw_k15_measured.main with body:=[1,2,4,5,6,7,8,9,10,11,12,13,15,16,17,20,21,22,23,24,25,26,27,28,29,30,31,32,33,34,35,36,37,38,39,40,41,42].filterMap λi=>PySem.Challenge.pw_sumlaw_k15_measured.main.body[i]? } }
def Lk:∀P,Kas=(KK P).map (·.1):=λP=>by kernel_rfl
def HH:Hook:=kHook KK Kas Lk
set_option maxHeartbeats 0 in
def left:LeftO PySem.Challenge.rw_sumlaw_k15_measured.row.prog Q [Str.ofString "TURNED"] (λs=>xlAt Q [] s&&recOk (RowW.records (OpenRow.toRowW PySem.Challenge.rw_sumlaw_k15_measured.row)) s) (Hook.obs HH) (Hook.val HH) 2490 :=
 λw=>byRow2 (P:=λw=>(openEnds treeTable PySem.Challenge.rw_sumlaw_k15_measured.row.prog w 2490).map (λs=>(openSeen Q [Str.ofString "TURNED"] (importedModules PySem.Challenge.rw_sumlaw_k15_measured.row.prog.main.body) (λs=>xlAt Q [] s&&recOk (RowW.records (OpenRow.toRowW PySem.Challenge.rw_sumlaw_k15_measured.row)) s) Y_ s,Hook.obs HH s))=Z_ (openGood Q [Str.ofString "TURNED"],Hook.val HH w)) "special-get-raises" (λw=>by kernel_rfl) (λw=>by kernel_rfl) w
end KF15
set_option maxRecDepth 100000 in
set_option maxHeartbeats 0 in
theorem PySem.Challenge.cw_sumlaw_k15_measured_holds : PySem.Challenge.rw_sumlaw_k15_measured.Holds := by
 refine PySem.W.holds_law (by kernel_rfl) λsaid=>?_
 refine PySem.W.holds_open (q:=KF15.Q) (YP:=PySem.W.Hook.says KF15.HH) (XP:=PySem.W.XL KF15.Q []) KF15.left (PySem.W.Hook.of KF15.HH) (PySem.W.Hook.keeps KF15.HH) (λs e=>PySem.W.xl_of s (Bool.and_eq_true_iff.mp e).1) PySem.W.XL.keeps (by rfl) (by rfl) (by rfl) (λs e=>PySem.W.recFacts_of (Bool.and_eq_true_iff.mp e).2) (by rfl) (by first | assumption | decide +kernel) (by decide +kernel) ⟨rfl,rfl,rfl,rfl,rfl,by decide +kernel⟩ ?hw ?hc
 case hw=>w_witness2
 case hc=>
  refine Z.walkZ (l:=PySem.Challenge.rw_sumlaw_k15_measured) (p:=P15.prg) (n:=40+1) (i:=36) (x:="_law_script") rfl rfl ⟨rfl,by decide,by decide⟩ (λw h Y=>PySem.W.kIn_of Y) ?F P15.pure
  case F=>
   intro w mg fa h KX G hmg;exact KF15.all_mk KX G hmg
