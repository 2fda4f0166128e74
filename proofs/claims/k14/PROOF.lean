import PyProof.Rows.All
import Wide.All
import OpenK.AllK
import Wide.FinOn
import Lean
import PyProof.EqAt
import PyProof.EqKinds
import PyProof.TupleCall
import PyProof.Draws
import PyProof.Rows.Range3
import PyProof.Rows.SumAny
import PySem.Challenge.RW_sumlaw_k14_pushed_worth
set_option Elab.async false
set_option linter.all false
set_option maxRecDepth 100000
namespace L2
open PySem PySem.Spec PyProof.Rows
noncomputable abbrev Key:=Sum Int Str
noncomputable def keyIs:Key → Value → Bool
 | .inl k,v =>Value.isInt k v
 | .inr x,v =>Value.isStrOf x v
noncomputable def keyH (w:World):Key → Int
 | .inl k =>hashInt k
 | .inr x =>hashStr w x
theorem keyIs_shape:∀ {k:Key} {v:Value},keyIs k v = true → (∃ i t,k = Sum.inl i ∧ v = Value.int i t) ∨ (∃ x t,k = Sum.inr x ∧ v = Value.str x t)
 | .inl i,v,h =>by
   obtain ⟨t,e⟩:=Value.isInt_shape (k:=i) (v:=v) h
   exact .inl ⟨i,t,rfl,e⟩
 | .inr x,v,h =>by
   obtain ⟨t,e⟩:=Value.isStrOf_shape (x:=x) (v:=v) h
   exact .inr ⟨x,t,rfl,e⟩
theorem keyIs_int (i:Int) (t:Tok):keyIs (.inl i) (.int i t) = true:=by simp [keyIs,Value.isInt]
theorem keyIs_str (x:Str) (t:Tok):keyIs (.inr x) (.str x t) = true:=by simp [keyIs,Value.isStrOf]
theorem key_ll (a b:Int):decide ((Sum.inl a:Key) = Sum.inl b) = (a == b):=by
 by_cases e:a = b
 ·subst e; simp
 ·have h:¬ (Sum.inl a:Key) = Sum.inl b:=fun q =>e (Sum.inl.inj q)
  rw [decide_eq_false h]
  exact (beq_eq_false_iff_ne.mpr e).symm
theorem key_rr (a b:Str):decide ((Sum.inr a:Key) = Sum.inr b) = decide (a = b):=by
 by_cases e:a = b
 ·subst e; simp
 ·have h:¬ (Sum.inr a:Key) = Sum.inr b:=fun q =>e (Sum.inr.inj q)
  rw [decide_eq_false h,decide_eq_false e]
theorem key_lr (a:Int) (b:Str):decide ((Sum.inl a:Key) = Sum.inr b) = false:=decide_eq_false (fun q =>nomatch q)
theorem key_rl (a:Str) (b:Int):decide ((Sum.inr a:Key) = Sum.inl b) = false:=decide_eq_false (fun q =>nomatch q)
noncomputable def mixKind (prog:Program) (w:World):PySem.KeyKind prog w Key where
 is:=keyIs
 hash:=keyH w
 inj:=fun v a b ha hb =>by
  rcases keyIs_shape ha with ⟨i,t,rfl,rfl⟩ | ⟨x,t,rfl,rfl⟩
  ·rcases keyIs_shape hb with ⟨j,u,rfl,e⟩ | ⟨y,u,rfl,e⟩
   ·injection e with e1 _; rw [e1]
   ·exact nomatch e
  ·rcases keyIs_shape hb with ⟨j,u,rfl,e⟩ | ⟨y,u,rfl,e⟩
   ·exact nomatch e
   ·injection e with e1 _; rw [e1]
 byValue:=fun k v h =>by
  rcases keyIs_shape h with ⟨i,t,rfl,rfl⟩ | ⟨x,t,rfl,rfl⟩ <;> rfl
 pyHash:=fun hv h =>by
  rcases keyIs_shape hv with ⟨i,t,rfl,rfl⟩ | ⟨x,t,rfl,rfl⟩
  ·exact wpAny_pyHash_int h
  ·exact wpAny_pyHash_str h
 eqBool:=fun hu hv h =>by
  rcases keyIs_shape hu with ⟨i,t,rfl,rfl⟩ | ⟨x,t,rfl,rfl⟩
  ·rcases keyIs_shape hv with ⟨j,u,rfl,rfl⟩ | ⟨y,u,rfl,rfl⟩
   ·rw [key_ll] at h; exact wpAny_eqBool_int h
   ·rw [key_lr] at h; exact SeqAt.EqAt.int_str i t y u _ _ _ _ h
  ·rcases keyIs_shape hv with ⟨j,u,rfl,rfl⟩ | ⟨y,u,rfl,rfl⟩
   ·rw [key_rl] at h; exact SeqAt.EqAt.str_int x t j u _ _ _ _ h
   ·rw [key_rr] at h; exact wpAny_eqBool_str h
 «strs»:=fun k x t v h =>by
  rcases keyIs_shape h with ⟨i,u,rfl,e⟩ | ⟨y,u,rfl,e⟩
  ·exact nomatch e
  ·injection e with e1 _
   subst e1
   cases v <;> rfl
theorem mixKind_int (prog:Program) (w:World) (i:Int) (t:Tok):(mixKind prog w).is (.inl i) (.int i t) = true:=keyIs_int i t
theorem mixKind_str (prog:Program) (w:World) (x:Str) (t:Tok):(mixKind prog w).is (.inr x) (.str x t) = true:=keyIs_str x t
end L2
namespace L2
open PySem PySem.Spec PyProof.Rows
inductive V where
 | non | bl (b:Bool) | int (i:Int) | str (x:Str) | byt (b:Array UInt8) | flt (b:UInt64) | ref (a:Addr) | ty (n:String)
 deriving DecidableEq
noncomputable def RelV:V → Value → Prop
 | .non,u =>u = Value.none
 | .bl b,u =>u = Value.bool b
 | .int i,u =>∃ t,u = Value.int i t
 | .str x,u =>∃ t,u = Value.str x t
 | .byt b,u =>∃ t,u = Value.bytes b t
 | .flt b,u =>∃ t,u = Value.float b t
 | .ref a,u =>u = Value.ref a
 | .ty n,u =>u = Value.type n
noncomputable abbrev Vals:List V → List Value → Prop:=Paired RelV
theorem Vals.length {xs:List V} {us:List Value} (r:Vals xs us):xs.length = us.length:=Paired.length r
theorem Vals.get:∀ {xs:List V} {us:List Value} {i:Nat} {x:V},Vals xs us → xs[i]? = some x → ∃ u,us[i]? = some u ∧ RelV x u
 | _,_,_,_,.nil,e =>by simp at e
 | _,_,0,_,.cons r _,e =>by simp at e; subst e; exact ⟨_,rfl,r⟩
 | _,_,i + 1,x,.cons _ t,e =>by
   obtain ⟨u,h1,h2⟩:=Vals.get (i:=i) (x:=x) t (by simpa using e)
   exact ⟨u,by simpa using h1,h2⟩
theorem Vals.set {x:V} {u:Value} (r:RelV x u):∀ {xs:List V} {us:List Value} (i:Nat),Vals xs us → Vals (xs.set i x) (us.set i u)
 | _,_,_,.nil =>.nil
 | _,_,0,.cons _ t =>.cons r t
 | _,_,i + 1,.cons q t =>.cons q (Vals.set r i t)
theorem Vals.append:∀ {xs ys:List V} {us ws:List Value},Vals xs us → Vals ys ws → Vals (xs ++ ys) (us ++ ws)
 | _,_,_,_,.nil,s =>s
 | _,_,_,_,.cons r t,s =>.cons r (Vals.append t s)
theorem Vals.take:∀ {xs:List V} {us:List Value} (n:Nat),Vals xs us → Vals (xs.take n) (us.take n)
 | _,_,0,_ =>.nil
 | _,_,_ + 1,.nil =>.nil
 | _,_,n + 1,.cons r t =>.cons r (Vals.take n t)
theorem Vals.drop:∀ {xs:List V} {us:List Value} (n:Nat),Vals xs us → Vals (xs.drop n) (us.drop n)
 | _,_,0,r =>r
 | _,_,_ + 1,.nil =>.nil
 | _,_,n + 1,.cons _ t =>Vals.drop n t
noncomputable def RelO:Option V → Option Value → Prop
 | some v,some u =>RelV v u
 | none,none =>True
 | _,_ =>False
noncomputable def KV {κ:Type}:List (κ × V) → List (κ × Value) → Prop:=Paired fun (p:κ × V) (q:κ × Value) =>p.1 = q.1 ∧ RelV p.2 q.2
noncomputable def kV:Key → V
 | .inl i =>.int i
 | .inr x =>.str x
inductive HO where
 | lst (xs:List V)
 | tup (xs:List V)
 | dK (kvs:List (Key × V)) (ep:Nat) | dT (kvs:List (List Key × V))
 | set (S:Int → Bool) (n:Nat)
 | ins (C dx:Addr) (fs:List (Str × V))
 | own (x:Addr)
 | xd (fs:List (Str × V))
 | met (f x:Addr)
 | rng (lo hi:Int)
 | frz (o:Obj) (u:HO)
 | tbl (ps:Array Value)
 | ext (φ:Heap → Prop)
noncomputable abbrev Hp:=Addr → Option HO
noncomputable def upd (H:Hp) (a:Addr) (o:HO):Hp:=fun b =>if b = a then some o else H b
theorem upd_same {H:Hp} {a:Addr} {o:HO}:upd H a o a = some o:=by unfold upd; rw [if_pos rfl]
theorem upd_ne {H:Hp} {a b:Addr} {o:HO} (h:b ≠ a):upd H a o b = H b:=by unfold upd; rw [if_neg h]
theorem ne_of {H:Hp} {a b:Addr} {o u:HO} (h:H a = some o) (h':H b = some u) (d:o ≠ u):a ≠ b:=by
 intro e; subst e; rw [h] at h'; exact d (Option.some.inj h')
theorem ne_of_none {H:Hp} {a b:Addr} {o:HO} (h:H a = some o) (h':H b = none):a ≠ b:=by
 intro e; subst e; rw [h] at h'; cases h'
section
variable (P:Program) (w:World)
noncomputable def ObjOk (H:Hp) (h:Heap) (a:Addr):HO → Prop
 | .lst xs =>xs.length ≤ sizeLine ∧ ∃ (its:List Value) (n:Nat),Vals xs its ∧ h.get? a = some { cls:=.type "list",data:=.seq its.toArray n }
 | .tup xs =>xs.length ≤ sizeLine ∧ ∃ its:List Value,Vals xs its ∧ IsTup h a its.toArray
 | .dK kvs ep =>kvs.length ≤ sizeLine ∧ (a == sysModules) = false ∧ ∃ vs,KV kvs vs ∧ h.DictAt (mixKind P w) a vs ep
 | .dT kvs =>kvs.length ≤ sizeLine ∧ (a == sysModules) = false ∧ ∃ xs:List (List Key × Addr × Value),
  Paired (fun (p:List Key × V) (q:List Key × Addr × Value) =>p.1 = q.1 ∧ H q.2.1 = some (.tup (p.1.map kV)) ∧ RelV p.2 q.2.2) kvs xs ∧
  ∃ o es ep,h.get? a = some o ∧ o.ExactDict ∧ o.data = .dict es ep ∧ es.toList = xs.map (entryOfKey (tupleKind (mixKind P w))) ∧ (xs.map (·.1)).Nodup
 | .set S n =>h.SetOf (intKind P w) a S n
 | .ins C dx fs =>H dx = some (.own a) ∧ fs.length ≤ 1000 ∧ dx ≠ a ∧ h.get? a = some (PySem.W.instObj C dx) ∧
  ∃ mA,h.Ns1 dx mA ∧ (∀ f,RelO (fs.lookup f) (mA f)) ∧ PySem.Within mA (fs.map (·.1))
 | .own _ =>∃ o,h.get? a = some o
 | .xd fs =>∃ mA,h.Ns1 a mA ∧ ∀ f,RelO (fs.lookup f) (mA f)
 | .rng lo hi =>∃ t u v,h.get? a = some { cls:=.type "range",data:=.fields #[.int lo t,.int hi u,.int 1 v] }
 | .frz o u =>h.get? a = some o ∧ ObjOk H h a u
 | .tbl ps =>h.get? a = some { cls:=.none,data:=.fields ps }
 | .met f x =>h.get? a = some (PySem.W.methodObj (.ref f) (.ref x))
 | .ext φ =>φ h ∧ (∃ o,h.get? a = some o) ∧ ∀ h1 h2:Heap,φ h1 → (∀ o,h1.get? a = some o → h2.get? a = some o) → φ h2
noncomputable def HOk (H:Hp) (h:Heap):Prop:=∀ a o,H a = some o → ObjOk P w H h a o
end
section
variable {P:Program} {w:World} {H H':Hp} {h h':Heap} {a:Addr} {o:HO}
theorem ObjOk.lt (x:ObjOk P w H h a o):a < h.objs.size:=by
 cases o with
 | lst xs =>obtain ⟨_,_,_,_,e⟩:=x; exact Heap.lt_size e
 | tup xs =>obtain ⟨_,_,_,p⟩:=x; exact p.lt
 | dK kvs ep =>obtain ⟨_,_,_,_,o,_,e,_⟩:=x; exact Heap.lt_size e
 | dT kvs =>obtain ⟨_,_,_,_,o,_,_,e,_⟩:=x; exact Heap.lt_size e
 | set S n =>obtain ⟨o,_,_,_,e,_⟩:=x; exact Heap.lt_size e
 | ins C dx fs =>obtain ⟨_,_,_,e,_⟩:=x; exact Heap.lt_size e
 | own y =>obtain ⟨_,e⟩:=x; exact Heap.lt_size e
 | xd fs =>obtain ⟨_,⟨_,_,_,e,_⟩,_⟩:=x; exact Heap.lt_size e
 | rng lo hi =>obtain ⟨_,_,_,e⟩:=x; exact Heap.lt_size e
 | frz ob u =>obtain ⟨e,_⟩:=x; exact Heap.lt_size e
 | tbl ps =>exact Heap.lt_size (show h.get? a = some _ from x)
 | met f y =>exact Heap.lt_size (show h.get? a = some _ from x)
 | ext φ =>obtain ⟨_,⟨_,e⟩,_⟩:=x; exact Heap.lt_size e
theorem Paired.mapP {α β:Type} {F G:α → β → Prop}:∀ {l₁:List α} {l₂:List β},Paired F l₁ l₂ → (∀ a b,F a b → G a b) → Paired G l₁ l₂
 | _,_,.nil,_ =>.nil
 | _,_,.cons r t,f =>.cons (f _ _ r) (Paired.mapP t f)
theorem ObjOk.stay (x:ObjOk P w H h a o) (k:∀ b u,(b = a ∨ H b = some (.own a)) → h.get? b = some u → h'.get? b = some u)
 (ho:∀ b,H b = some (.own a) → H' b = some (.own a)) (ht:∀ b xs,H b = some (.tup xs) → H' b = some (.tup xs)):ObjOk P w H' h' a o:=by
 induction o with
 | lst xs =>obtain ⟨z,its,n,r,e⟩:=x; exact ⟨z,its,n,r,k _ _ (.inl rfl) e⟩
 | tup xs =>obtain ⟨z,its,r,ob,e,c⟩:=x; exact ⟨z,its,r,ob,k _ _ (.inl rfl) e,c⟩
 | dK kvs ep =>obtain ⟨z,y,vs,r,ob,es,e,c⟩:=x; exact ⟨z,y,vs,r,ob,es,k _ _ (.inl rfl) e,c⟩
 | dT kvs =>
   obtain ⟨z,y,xs,r,ob,es,ep,e,c⟩:=x
   exact ⟨z,y,xs,Paired.mapP r fun p q z =>⟨z.1,ht _ _ z.2.1,z.2.2⟩,ob,es,ep,k _ _ (.inl rfl) e,c⟩
 | set S n =>obtain ⟨ob,es,ep,t,e,c⟩:=x; exact ⟨ob,es,ep,t,k _ _ (.inl rfl) e,c⟩
 | ins C dx fs =>
   obtain ⟨d,z,ne,e,mA,⟨od,es,ep,e2,c⟩,r⟩:=x
   exact ⟨ho _ d,z,ne,k _ _ (.inl rfl) e,mA,⟨od,es,ep,k _ _ (.inr d) e2,c⟩,r⟩
 | own y =>obtain ⟨ob,e⟩:=x; exact ⟨ob,k _ _ (.inl rfl) e⟩
 | xd fs =>obtain ⟨mA,⟨od,es,ep,e,c⟩,r⟩:=x; exact ⟨mA,⟨od,es,ep,k _ _ (.inl rfl) e,c⟩,r⟩
 | rng lo hi =>obtain ⟨t,u,v,e⟩:=x; exact ⟨t,u,v,k _ _ (.inl rfl) e⟩
 | frz ob u ih =>obtain ⟨e,q⟩:=x; exact ⟨k _ _ (.inl rfl) e,ih q⟩
 | tbl ps =>
   have e:h.get? a = some { cls:=.none,data:=.fields ps }:=x
   show h'.get? a = some { cls:=.none,data:=.fields ps }
   exact k a _ (.inl rfl) e
 | met f y =>
   have e:h.get? a = some (PySem.W.methodObj (.ref f) (.ref y)):=x
   show h'.get? a = some (PySem.W.methodObj (.ref f) (.ref y))
   exact k a _ (.inl rfl) e
 | ext φ =>obtain ⟨p,⟨o,e⟩,st⟩:=x; exact ⟨st _ _ p fun o q =>k _ _ (.inl rfl) q,⟨o,k _ _ (.inl rfl) e⟩,st⟩
theorem HOk.lt (x:HOk P w H h) (e:H a = some o):a < h.objs.size:=(x a o e).lt
theorem HOk.fresh (x:HOk P w H h) (e:h.objs.size ≤ a):H a = none:=by
 cases q:H a with
 | none =>rfl
 | some u =>exact absurd (Nat.lt_of_lt_of_le (x.lt q) e) (Nat.lt_irrefl _)
theorem HOk.kept (x:HOk P w H h) (k:∀ b u,h.get? b = some u → h'.get? b = some u):HOk P w H h':=fun a o e =>
 (x a o e).stay (fun b u _ q =>k b u q) (fun _ q =>q) fun _ _ q =>q
theorem HOk.laid (x:HOk P w H h) (k:∀ b u,h.get? b = some u → h'.get? b = some u) (hp:h.objs.size ≤ a) (new:ObjOk P w (upd H a o) h' a o):HOk P w (upd H a o) h':=fun b u e =>by
 have hn:=x.fresh hp
 by_cases hb:b = a
 ·subst hb; rw [upd_same] at e; cases e; exact new
 ·rw [upd_ne hb] at e
  exact (x b u e).stay (fun c v _ q =>k c v q) (fun c q =>by rw [upd_ne (ne_of_none q hn)]; exact q) fun c xs q =>by rw [upd_ne (ne_of_none q hn)]; exact q
end
noncomputable def Rd (H:Hp) (a:Addr) (u:HO):Prop:=H a = some u ∨ ∃ o,H a = some (.frz o u)
theorem Rd.ok {P:Program} {w:World} {H:Hp} {h:Heap} {a:Addr} {u:HO} (r:Rd H a u) (x:HOk P w H h):ObjOk P w H h a u:=by
 rcases r with r | ⟨o,r⟩
 ·exact x a u r
 ·obtain ⟨_,q⟩:=x a _ r
  exact q
noncomputable def Mut:Option HO → Prop
 | some (.lst _) =>True
 | some (.dK _ _) =>True
 | some (.dT _) =>True
 | some (.set _ _) =>True
 | some (.ins _ _ _) =>True
 | some (.ext _) =>True
 | _ =>False
section
variable {P:Program} {w:World} {H:Hp} {h h':Heap} {x e:Addr} {o':HO}
theorem HOk.write (ok:HOk P w H h) (mu:Mut (H x)) (he:e = x ∨ H e = some (.own x)) (k:∀ b u,b ≠ e → h.get? b = some u → h'.get? b = some u) (heo:∃ u,h'.get? e = some u)
 (new:ObjOk P w (upd H x o') h' x o'):HOk P w (upd H x o') h':=fun b u q =>by
 have nown:∀ c y,H c = some (.own y) → c ≠ x:=fun c y r z =>by subst z; rw [r] at mu; exact mu
 have ntup:∀ c xs,H c = some (.tup xs) → c ≠ x:=fun c xs r z =>by subst z; rw [r] at mu; exact mu
 by_cases hb:b = x
 ·subst hb; rw [upd_same] at q; cases q; exact new
 ·rw [upd_ne hb] at q
  by_cases hbe:b = e
  ·have q':H b = some (.own x):=by
    rcases he with z | z
    ·exact absurd (hbe.trans z) hb
    ·rw [hbe]; exact z
   rw [q] at q'; cases q'
   obtain ⟨v,hv⟩:=heo
   exact ⟨v,by rw [hbe]; exact hv⟩
  ·refine (ok b u q).stay (fun c v hc r =>k c v ?_ r) (fun c r =>by rw [upd_ne (nown c b r)]; exact r) fun c xs r =>by rw [upd_ne (ntup c xs r)]; exact r
   rcases hc with rfl | hc
   ·exact hbe
   ·rintro rfl
    rcases he with z | z
    ·exact nown c b hc z
    ·rw [hc] at z; cases z; exact hb rfl
end
structure Un (fs ex:List Addr) (H H':Hp) (h h':Heap):Prop where
 keep:∀ b o,h.get? b = some o → H b = none → b ∉ fs → b ∉ ex → h'.get? b = some o
 slot:∀ b o,h.get? b = some o → H b = none → b ∈ fs → b ∉ ex → ∃ sl,h'.get? b = some { o with slots:=sl }
 free:∀ b o,h.get? b = some o → H b = none → b ∉ ex → H' b = none
 there:∀ b o,h.get? b = some o → b ∉ ex → ∃ o',h'.get? b = some o'
 tups:∀ b xs,H b = some (.tup xs) → H' b = some (.tup xs)
 frzs:∀ b o u,H b = some (.frz o u) → H' b = some (.frz o u)
 tbls:∀ b ps,H b = some (.tbl ps) → ∃ more,H' b = some (.tbl (ps ++ more))
section
variable {fs fs' ex ex':List Addr} {H H1 H2:Hp} {h h1 h2 h':Heap} {a x e:Addr} {o:HO}
theorem Un.any (u:Un fs ex H H1 h h1) {b:Addr} {ob:Obj} (q:h.get? b = some ob) (n:H b = none) (hx:b ∉ ex):∃ sl,h1.get? b = some { ob with slots:=sl }:=by
 by_cases hb:b ∈ fs
 ·exact u.slot b ob q n hb hx
 ·exact ⟨ob.slots,u.keep b ob q n hb hx⟩
theorem Un.kept (k:∀ b u,h.get? b = some u → h'.get? b = some u):Un fs ex H H h h' :=
 ⟨fun b ob q _ _ _ =>k b ob q,fun b ob q _ _ _ =>⟨ob.slots,k b ob q⟩,fun _ _ _ n _ =>n,fun b ob q _ =>⟨ob,k b ob q⟩,fun _ _ q =>q,fun _ _ _ q =>q,fun _ ps q =>⟨#[],by rw [q]; simp⟩⟩
theorem Un.refl:Un fs ex H H h h:=Un.kept fun _ _ q =>q
theorem Un.laid (k:∀ b u,h.get? b = some u → h'.get? b = some u) (hp:h.objs.size ≤ a) (hn:H a = none):Un fs ex H (upd H a o) h h' where
 keep:=fun b u q _ _ _ =>k b u q
 slot:=fun b u q _ _ _ =>⟨u.slots,k b u q⟩
 free:=fun b u q n _ =>by rw [upd_ne (Nat.ne_of_lt (Nat.lt_of_lt_of_le (Heap.lt_size q) hp))]; exact n
 there:=fun b u q _ =>⟨u,k b u q⟩
 tups:=fun b xs q =>by rw [upd_ne (ne_of_none q hn)]; exact q
 frzs:=fun b u xs q =>by rw [upd_ne (ne_of_none q hn)]; exact q
 tbls:=fun b ps q =>⟨#[],by rw [upd_ne (ne_of_none q hn),q]; simp⟩
theorem Un.write (mu:Mut (H x)) (he:e = x ∨ H e = some (.own x)) (k:∀ b u,b ≠ e → h.get? b = some u → h'.get? b = some u) (heo:∃ u,h'.get? e = some u):Un fs ex H (upd H x o) h h':=by
 have hx:∀ b,H b = none → b ≠ x:=fun b n z =>by subst z; rw [n] at mu; exact mu
 have hb:∀ b,H b = none → b ≠ e:=fun b n z =>by
  subst z
  rcases he with r | r
  ·exact hx b n r
  ·rw [n] at r; cases r
 have hm:∀ b u,H b = some u → ¬ Mut (some u) → b ≠ x:=fun b u q nm z =>by subst z; rw [q] at mu; exact nm mu
 refine ⟨fun b u q n _ _ =>k b u (hb b n) q,fun b u q n _ _ =>⟨u.slots,k b u (hb b n) q⟩,fun b u q n _ =>by rw [upd_ne (hx b n)]; exact n,fun b u q _ =>?_,
  fun b xs q =>by rw [upd_ne (hm b _ q fun z =>z)]; exact q,fun b u xs q =>by rw [upd_ne (hm b _ q fun z =>z)]; exact q,fun b ps q =>⟨#[],by rw [upd_ne (hm b _ q fun z =>z),q]; simp⟩⟩
 by_cases hbe:b = e
 ·subst hbe; exact heo
 ·exact ⟨u,k b u hbe q⟩
end
noncomputable def trk (h:Heap) (H:Hp):List Addr:=(List.range h.objs.size).filter fun a =>(H a).isSome
noncomputable def hidT (h:Heap) (H:Hp):Heap:=PySem.W.hideAll h (trk h H)
theorem hidT_size (h:Heap) (H:Hp):(hidT h H).objs.size = h.objs.size:=PySem.W.hideAll_size _ _
theorem hidT_get {h:Heap} {H:Hp} {b:Addr} {o:Obj} (e:h.get? b = some o) (n:H b = none):(hidT h H).get? b = some o :=
 PySem.W.hideAll_get _ e fun hm =>by
  have q:(H b).isSome = true:=(List.mem_filter.mp hm).2
  rw [n] at q; simp at q
theorem of_hidT {h:Heap} {H:Hp} {b:Addr} {o:Obj} (e:(hidT h H).get? b = some o):h.get? b = some o ∧ H b = none:=by
 have e':h.get? b = some o:=PySem.W.of_hideAll (trk h H) e
 refine ⟨e',?_⟩
 cases q:H b with
 | none =>rfl
 | some x =>
   have hm:b ∈ trk h H:=List.mem_filter.mpr ⟨List.mem_range.mpr (Heap.lt_size e'),by simp [q]⟩
   have z:(hidT h H).get? b = none:=PySem.W.hideAll_none (trk h H) hm
   rw [z] at e; cases e
end L2
namespace L2
open PySem PySem.Spec PyProof.Rows
structure Mod (K:PySem.W.Frag) (mg:Str → Option Value) (base:Heap):Prop where
 kin:K.In base
 glob:base.Ns mainGlobals mg
 blt:∃ mb,base.Ns builtinsNs mb ∧ ∀ x:Str,x ≠ "__name__" → mb x = bootBuiltins x
 nolimit:base.NoLimit
structure Cx where
 prog:Program
 w:World
 K:PySem.W.Frag
 mg:Str → Option Value
 base:Heap
 A:Around
 N:List Str
 s₀:Shared
 H₀:Hp
 env:Env
 outer:List Env
 stack:List Env
 ex:List Addr
 fn:Str → Bool
 calm:Bool
 pn:List (Addr × Obj)
 xe:Value → Shared → Prop
noncomputable def frs (l:List Env):List Addr:=l.filterMap (·.frame)
noncomputable abbrev Cx.fs (X:Cx):List Addr:=frs X.outer
noncomputable def Vis (sc:Scope) (x:Str):Prop:=sc.names.lookup x = some .local ∨ sc.names.lookup x = some .cell ∨ sc.names.lookup x = some .free
noncomputable def Loc (sc:Scope) (x:Str):Prop:=sc.names.lookup x = some .local ∨ sc.names.lookup x = some .cell
noncomputable def Look (env:Env) (h:Heap) (m:Str → Option Value) (x:Str) (u:Value):Prop :=
 (env.kindOf x = some .local ∧ m x = some u) ∨ ((env.kindOf x = some .cell ∨ env.kindOf x = some .free) ∧ ∃ c,env.cells.lookup x = some c ∧ h.IsCell c (some u))
structure Cx.Ok (X:Cx):Prop where
 mod:Mod X.K X.mg X.base
 kind:X.env.scope.kind = .function
 glob:X.env.globals = mainGlobals
 blt:X.env.builtins = builtinsNs
 above:X.s₀.heap.objs.size ≤ X.env.locals
 inj:∀ x y c,X.env.cells.lookup x = some c → X.env.cells.lookup y = some c → x = y
 has:∀ x,(X.env.kindOf x = some .cell ∨ X.env.kindOf x = some .free) → ∃ c,X.env.cells.lookup x = some c
 cab:∀ x c,X.fn x = true → X.env.cells.lookup x = some c → X.s₀.heap.objs.size ≤ c
 hd:X.calm = true → X.A.handled = none
 frames:X.A.frames = some X.stack
 stk:X.stack = X.outer ∨ (X.stack = X.env :: X.outer ∧ X.env.frame = some X.env.locals)
 exf:∀ b ∈ X.ex,b ≠ X.env.locals ∧ ∀ x c,X.env.cells.lookup x = some c → c ≠ b
 bs:∀ b o,X.base.get? b = some o → X.s₀.heap.get? b = some o ∧ X.H₀ b = none
 bsz:X.base.objs.size ≤ X.s₀.heap.objs.size
 noex:∀ b o,X.base.get? b = some o → b ∉ X.ex
 exfs:∀ b ∈ X.ex,b ∉ X.fs
 funs:X.s₀.heap.FunFrames X.base X.outer
 frf:∀ b ∈ X.fs,X.H₀ b = none
structure Inv (X:Cx) (pins:List (Addr × Obj)) (σ:List (Option V)) (H:Hp) (s:Shared):Prop where
 ok:X.Ok
 os:s.os = X.s₀.os
 bare:AllBare s.gens
 base:Un X.fs X.ex X.H₀ H X.s₀.heap s.heap
 loc:∃ m,s.heap.Ns X.env.locals m ∧ ∀ (i:Nat) (x:Str) (v:V),X.N[i]? = some x → σ[i]? = some (some v) → Vis X.env.scope x → ∃ u,RelV v u ∧ Look X.env s.heap m x u
 cell:∀ x c,X.env.cells.lookup x = some c → ∃ v,s.heap.IsCell c v
 free:H X.env.locals = none
 freeC:∀ x c,X.env.cells.lookup x = some c → H c = none
 pin:∀ p ∈ X.pn ++ pins,s.heap.get? p.1 = some p.2 ∧ H p.1 = none ∧ p.1 ≠ X.env.locals ∧ p.1 ∉ X.fs ∧ ∀ v,p.2.data ≠ .cell v
 hok:HOk X.prog X.w H s.heap
 len:σ.length = X.N.length
section
variable {X:Cx} {pins:List (Addr × Obj)} {σ:List (Option V)} {H H':Hp} {s:Shared} {h':Heap}
theorem Cx.Ok.nofr (ok:X.Ok) {b:Addr} {o:Obj} (e:X.base.get? b = some o):b ∉ X.fs:=fun hb =>by
 have:=(ok.funs.mem hb).1
 rw [e] at this; cases this
theorem Inv.bs (I:Inv X pins σ H s):∀ b o,X.base.get? b = some o → s.heap.get? b = some o ∧ H b = none:=fun b o e =>
 ⟨I.base.keep b o (I.ok.bs b o e).1 (I.ok.bs b o e).2 (I.ok.nofr e) (I.ok.noex b o e),I.base.free b o (I.ok.bs b o e).1 (I.ok.bs b o e).2 (I.ok.noex b o e)⟩
theorem Inv.bk (I:Inv X pins σ H s):∀ b o,X.base.get? b = some o → s.heap.get? b = some o:=fun b o e =>(I.bs b o e).1
theorem Inv.mod (I:Inv X pins σ H s):Mod X.K X.mg X.base:=I.ok.mod
theorem Inv.kIn (I:Inv X pins σ H s):X.K.In s.heap:=I.ok.mod.kin.keeps I.bk
theorem Inv.lt (I:Inv X pins σ H s):X.env.locals < s.heap.objs.size:=let ⟨_,hn,_⟩:=I.loc; hn.lt
theorem Inv.sz (I:Inv X pins σ H s):X.s₀.heap.objs.size ≤ s.heap.objs.size:=Nat.le_trans I.ok.above (Nat.le_of_lt I.lt)
theorem Inv.nofs (I:Inv X pins σ H s) {a:Addr} (h:s.heap.objs.size ≤ a):a ∉ X.fs:=fun hb =>by
 obtain ⟨_,o,ho,_⟩:=I.ok.funs.mem hb
 exact absurd (Nat.lt_of_lt_of_le (Heap.lt_size ho) (Nat.le_trans I.sz h)) (Nat.lt_irrefl _)
theorem Inv.cne (I:Inv X pins σ H s):∀ x c,X.env.cells.lookup x = some c → c ≠ X.env.locals:=fun x c e z =>by
 obtain ⟨v,o,ho,hd⟩:=I.cell x c e
 obtain ⟨m,⟨o',es,ep,ho',hd',_⟩,_⟩:=I.loc
 rw [z,ho'] at ho; cases ho; rw [hd'] at hd; cases hd
theorem Inv.funs (I:Inv X pins σ H s):s.heap.FunFrames X.base X.outer:=by
 have all:∀ (l:List Env),(∀ b ∈ frs l,b ∈ X.fs) → X.s₀.heap.FunFrames X.base l → s.heap.FunFrames X.base l:=by
  intro l
  induction l with
  | nil =>intro _ _; trivial
  | cons env r ih =>
    intro hs hl
    obtain ⟨hk,⟨L,o,hf,hn,ho,hd⟩,hr⟩:=hl
    have hL:L ∈ X.fs:=hs L (by unfold frs; rw [List.filterMap_cons,hf]; exact List.mem_cons_self)
    obtain ⟨sl,e⟩:=I.base.slot L o ho (I.ok.frf L hL) hL fun z =>I.ok.exfs L z hL
    exact ⟨hk,⟨L,_,hf,hn,e,hd⟩,ih (fun b hb =>hs b (by unfold frs; rw [List.filterMap_cons,hf]; exact List.mem_cons_of_mem _ hb)) hr⟩
 exact all X.outer (fun _ hb =>hb) I.ok.funs
theorem Inv.stack (I:Inv X pins σ H s):s.heap.FunFrames X.base X.stack:=by
 rcases I.ok.stk with e | ⟨e,hf⟩
 ·rw [e]; exact I.funs
 ·rw [e]
  obtain ⟨m,hn,_⟩:=I.loc
  refine .cons (by rw [I.ok.kind]; decide) hf hn ?_ I.funs
  exact Heap.get?_none_of_le (Nat.le_trans I.ok.bsz I.ok.above)
theorem Inv.stkSub (I:Inv X pins σ H s):∀ b ∈ frs X.stack,b ∈ X.env.locals :: X.fs:=fun b hb =>by
 rcases I.ok.stk with e | ⟨e,hf⟩
 ·rw [e] at hb; exact List.mem_cons_of_mem _ hb
 ·rw [e] at hb
  unfold frs at hb
  rw [List.filterMap_cons,hf] at hb
  exact hb
theorem Inv.stkFree (I:Inv X pins σ H s):∀ b ∈ frs X.stack,H b = none:=fun b hb =>by
 rcases List.mem_cons.mp (I.stkSub b hb) with e | hb
 ·rw [e]; exact I.free
 ·obtain ⟨_,o,ho,_⟩:=I.ok.funs.mem hb
  exact I.base.free b o ho (I.ok.frf b hb) fun z =>I.ok.exfs b z hb
theorem Inv.step {g':Array GenState} {t':Nat} {d':Drawn} {ch:List Addr} (I:Inv X pins σ H s)
 (hch:∀ b ∈ ch,(b ∈ X.ex ∨ X.s₀.heap.objs.size ≤ b) ∧ b ≠ X.env.locals ∧ (∀ x c,X.env.cells.lookup x = some c → c ≠ b) ∧ ∀ p ∈ X.pn ++ pins,p.1 ≠ b)
 (keep:∀ b o,b ≠ X.env.locals → b ∉ X.fs → b ∉ ch → s.heap.get? b = some o → H b = none → h'.get? b = some o)
 (slot:∀ b o,b ≠ X.env.locals → b ∈ X.fs → b ∉ ch → s.heap.get? b = some o → H b = none → ∃ sl,h'.get? b = some { o with slots:=sl }) (free:∀ b o,b ∉ ch → s.heap.get? b = some o → H b = none → H' b = none)
 (there:∀ b o,b ∉ ch → s.heap.get? b = some o → ∃ o',h'.get? b = some o')
 (tups:∀ b xs,H b = some (.tup xs) → H' b = some (.tup xs)) (frzs:∀ b o u,H b = some (.frz o u) → H' b = some (.frz o u)) (tbls:∀ b ps,H b = some (.tbl ps) → ∃ more,H' b = some (.tbl (ps ++ more)))
 (ns:∀ m,s.heap.Ns X.env.locals m → h'.Ns X.env.locals m) (hok:HOk X.prog X.w H' h') (hg:AllBare g') :
 Inv X pins σ H' { s with heap:=h',gens:=g',drawn:=d',toks:=t' }:=by
 have neL:∀ b o,X.s₀.heap.get? b = some o → b ≠ X.env.locals:=fun b o e =>Nat.ne_of_lt (Nat.lt_of_lt_of_le (Heap.lt_size e) I.ok.above)
 have neC:∀ b o,X.s₀.heap.get? b = some o → b ∉ X.ex → b ∉ ch:=fun b o e hx hb =>by
  rcases (hch b hb).1 with z | z
  ·exact hx z
  ·exact absurd (Nat.lt_of_lt_of_le (Heap.lt_size e) z) (Nat.lt_irrefl _)
 have cellK:∀ x c,X.env.cells.lookup x = some c → ∀ v,s.heap.IsCell c v → h'.IsCell c v:=fun x c e v ⟨o,ho,hd⟩ =>by
  have nch:c ∉ ch:=fun z =>(hch c z).2.2.1 x c e rfl
  by_cases hc:c ∈ X.fs
  ·obtain ⟨sl,q⟩:=slot c o (I.cne x c e) hc nch ho (I.freeC x c e)
   exact ⟨_,q,hd⟩
  ·exact ⟨o,keep c o (I.cne x c e) hc nch ho (I.freeC x c e),hd⟩
 refine ⟨I.ok,I.os,hg,⟨fun b o e n hb hx =>?_,fun b o e n hb hx =>?_,fun b o e n hx =>?_,fun b o e hx =>?_,fun b xs e =>tups b xs (I.base.tups b xs e),fun b o xs e =>frzs b o xs (I.base.frzs b o xs e),fun b ps e =>?_⟩,?_,fun x c e =>?_,?_,fun x c e =>?_,fun p hp =>?_,hok,I.len⟩
 ·exact keep b o (neL b o e) hb (neC b o e hx) (I.base.keep b o e n hb hx) (I.base.free b o e n hx)
 ·obtain ⟨sl,e1⟩:=I.base.slot b o e n hb hx
  obtain ⟨sl',e2⟩:=slot b _ (neL b o e) hb (neC b o e hx) e1 (I.base.free b o e n hx)
  exact ⟨sl',e2⟩
 ·obtain ⟨o',e1⟩:=I.base.there b o e hx
  exact free b o' (neC b o e hx) e1 (I.base.free b o e n hx)
 ·obtain ⟨o',e1⟩:=I.base.there b o e hx
  exact there b o' (neC b o e hx) e1
 ·obtain ⟨m1,e1⟩:=I.base.tbls b ps e
  obtain ⟨m2,e2⟩:=tbls b _ e1
  exact ⟨m1 ++ m2,by rw [e2,Array.append_assoc]⟩
 ·obtain ⟨m,hn,hl⟩:=I.loc
  refine ⟨m,ns m hn,fun i x v e1 e2 e3 =>?_⟩
  obtain ⟨u,r,l⟩:=hl i x v e1 e2 e3
  refine ⟨u,r,?_⟩
  rcases l with l | ⟨k,c,e,z⟩
  ·exact .inl l
  ·exact .inr ⟨k,c,e,cellK x c e _ z⟩
 ·obtain ⟨v,z⟩:=I.cell x c e
  exact ⟨v,cellK x c e v z⟩
 ·obtain ⟨m,⟨o,_,_,ho,_⟩,_⟩:=I.loc
  exact free _ o (fun z =>(hch _ z).2.1 rfl) ho I.free
 ·obtain ⟨v,o,ho,hd⟩:=I.cell x c e
  exact free c o (fun z =>(hch c z).2.2.1 x c e rfl) ho (I.freeC x c e)
 ·obtain ⟨e,n,ne,nf,d⟩:=I.pin p hp
  have nch:p.1 ∉ ch:=fun z =>(hch p.1 z).2.2.2 p hp rfl
  exact ⟨keep p.1 p.2 ne nf nch e n,free p.1 p.2 nch e n,ne,nf,d⟩
theorem Inv.un {t':Nat} (I:Inv X pins σ H s) (u:Un X.fs [] H H' s.heap h') (hok:HOk X.prog X.w H' h'):Inv X pins σ H' { s with heap:=h',toks:=t' }:=by
 obtain ⟨m,⟨o,es,ep,ho,r⟩,_⟩:=id I.loc
 obtain ⟨sl,hL⟩:=u.any ho I.free (by simp)
 exact I.step (g':=s.gens) (d':=s.drawn) (ch:=[]) (fun _ z =>nomatch z) (fun b o _ hb _ e n =>u.keep b o e n hb (by simp)) (fun b o _ hb _ e n =>u.slot b o e n hb (by simp)) (fun b o _ e n =>u.free b o e n (by simp)) (fun b o _ e =>u.there b o e (by simp)) u.tups u.frzs u.tbls (fun m' hm =>by
  obtain ⟨o',es',ep',ho',r'⟩:=hm
  rw [ho] at ho'; cases ho'
  exact ⟨_,es',ep',hL,r'⟩) hok I.bare
theorem Inv.call {g':Array GenState} {t':Nat} {d':Drawn} {ch:List Addr} (I:Inv X pins σ H s) (u:Un (frs X.stack) ch H H' s.heap h') (hok:HOk X.prog X.w H' h') (hg:AllBare g')
 (hch:∀ b ∈ ch,(b ∈ X.ex ∨ X.s₀.heap.objs.size ≤ b) ∧ b ≠ X.env.locals ∧ (∀ x c,X.env.cells.lookup x = some c → c ≠ b) ∧ ∀ p ∈ X.pn ++ pins,p.1 ≠ b) :
 Inv X pins σ H' { s with heap:=h',gens:=g',drawn:=d',toks:=t' }:=by
 obtain ⟨m,⟨o,es,ep,ho,r⟩,_⟩:=id I.loc
 obtain ⟨sl,hL⟩:=u.any ho I.free fun z =>(hch _ z).2.1 rfl
 exact I.step (ch:=ch) hch (fun b o hL hb hc e n =>u.keep b o e n (fun z =>(List.mem_cons.mp (I.stkSub b z)).elim hL hb) hc) (fun b o _ _ hc e n =>u.any e n hc) (fun b o hc e n =>u.free b o e n hc) (fun b o hc e =>u.there b o e hc) u.tups u.frzs u.tbls (fun m' hm =>by
  obtain ⟨o',es',ep',ho',r'⟩:=hm
  rw [ho] at ho'; cases ho'
  exact ⟨_,es',ep',hL,r'⟩) hok hg
theorem Inv.turned {t':Nat} {it:Addr} (I:Inv X pins σ H s) (k:∀ b o,b ≠ it → s.heap.get? b = some o → h'.get? b = some o) (hn:H it = none) (hL:it ≠ X.env.locals)
 (h1:it ∈ X.ex ∨ X.s₀.heap.objs.size ≤ it) (h2:∀ x c,X.env.cells.lookup x = some c → c ≠ it) (h3:∀ p ∈ X.pn ++ pins,p.1 ≠ it):Inv X pins σ H { s with heap:=h',toks:=t' }:=by
 have nit:∀ b u,H b = some u → b ≠ it:=fun b u e z =>by rw [z,hn] at e; cases e
 refine I.step (g':=s.gens) (d':=s.drawn) (ch:=[it]) (fun b hb =>?_) (fun b o _ _ hc e _ =>k b o (fun z =>hc (by simp [z])) e) (fun b o _ _ hc e _ =>⟨o.slots,k b o (fun z =>hc (by simp [z])) e⟩) (fun _ _ _ _ n =>n)
  (fun b o hc e =>⟨o,k b o (fun z =>hc (by simp [z])) e⟩) (fun _ _ e =>e) (fun _ _ _ e =>e) (fun b ps e =>⟨#[],by rw [e]; simp⟩) (fun m hm =>?_) (fun b u e =>?_) I.bare
 ·have e:b = it:=by simpa using hb
  subst e
  exact ⟨h1,hL,h2,h3⟩
 ·obtain ⟨o,es,ep,ho,r⟩:=hm
  exact ⟨o,es,ep,k _ o (Ne.symm hL) ho,r⟩
 ·refine (I.hok b u e).stay (fun c v hc q =>k c v ?_ q) (fun _ q =>q) fun _ _ q =>q
  rcases hc with z | z
  ·rw [z]; exact nit b u e
  ·exact nit c _ z
theorem Inv.tok (I:Inv X pins σ H s) (t:Nat):Inv X pins σ H { s with toks:=t }:=I.un (h':=s.heap) (t':=t) Un.refl I.hok
theorem Inv.kept {t':Nat} (I:Inv X pins σ H s) (k:∀ b u,s.heap.get? b = some u → h'.get? b = some u):Inv X pins σ H { s with heap:=h',toks:=t' }:=I.un (Un.kept k) (I.hok.kept k)
theorem Inv.laid {a:Addr} {o:HO} {t':Nat} (I:Inv X pins σ H s) (k:∀ b u,s.heap.get? b = some u → h'.get? b = some u) (hp:s.heap.objs.size ≤ a) (new:ObjOk X.prog X.w (upd H a o) h' a o) :
 Inv X pins σ (upd H a o) { s with heap:=h',toks:=t' }:=I.un (Un.laid k hp (I.hok.fresh hp)) (I.hok.laid k hp new)
theorem Inv.write {x e:Addr} {o:HO} {t':Nat} (I:Inv X pins σ H s) (mu:Mut (H x)) (he:e = x ∨ H e = some (.own x)) (k:∀ b u,b ≠ e → s.heap.get? b = some u → h'.get? b = some u) (heo:∃ u,h'.get? e = some u)
 (new:ObjOk X.prog X.w (upd H x o) h' x o):Inv X pins σ (upd H x o) { s with heap:=h',toks:=t' }:=I.un (Un.write mu he k heo) (I.hok.write mu he k heo new)
theorem Inv.pins_of {pins':List (Addr × Obj)} (I:Inv X pins σ H s) (h:∀ p ∈ pins',s.heap.get? p.1 = some p.2 ∧ H p.1 = none ∧ p.1 ≠ X.env.locals ∧ p.1 ∉ X.fs ∧ ∀ v,p.2.data ≠ .cell v):Inv X pins' σ H s :=
 ⟨I.ok,I.os,I.bare,I.base,I.loc,I.cell,I.free,I.freeC,fun p hp =>(List.mem_append.mp hp).elim (fun z =>I.pin p (List.mem_append_left _ z)) (h p),I.hok,I.len⟩
theorem nodup_ix {N:List Str} (hN:N.Nodup) {i j:Nat} {x:Str} (a:N[i]? = some x) (b:N[j]? = some x):i = j:=by
 obtain ⟨h1,e1⟩:=List.getElem?_eq_some_iff.mp a
 obtain ⟨h2,e2⟩:=List.getElem?_eq_some_iff.mp b
 exact (List.getElem_inj hN).mp (e1.trans e2.symm)
theorem store_ok2 {M:Model} {A:Around} {E:Value → Shared → Prop} {i:Nat} {x:Str} {v:V} {u:Value} {Q:Unit → Shared → Prop} (I:Inv X pins σ H s) (hN:X.N.Nodup) (hi:X.N[i]? = some x) (hx:Loc X.env.scope x) (r:RelV v u)
 (h:∀ s',Inv X pins (σ.set i (some v)) H s' → (∃ a,Heap.SameBut a s.heap s'.heap ∧ (a = X.env.locals ∨ X.env.cells.lookup x = some a)) → Q () s') (hf:X.fn x = true ∨ X.env.scope.names.lookup x = some .local:=by first | exact .inl rfl | exact .inr rfl | assumption):wpAny M A (storeName X.env x u) Q E s:=by
 obtain ⟨m,hn,hl⟩:=id I.loc
 have hcls:(X.env.scope.kind == .class || (X.env.scope.kind == .module && X.env.locals != X.env.globals)) = false:=by rw [I.ok.kind]; rfl
 have hiσ:i < σ.length:=by rw [I.len]; exact (List.getElem?_eq_some_iff.mp hi).1
 have cne:=I.cne
 have tracked:∀ {a:Addr} {h':Heap},(∃ o,s.heap.get? a = some o ∧ H a = none) → Heap.SameBut a s.heap h' → HOk X.prog X.w H h':=fun {a h'} ha hs b ob e =>by
  obtain ⟨_,_,hfree⟩:=ha
  refine (I.hok b ob e).stay (fun c w' hc q =>(hs.2 c ?_).trans q) (fun _ q =>q) fun _ _ q =>q
  rintro rfl
  rcases hc with rfl | hc
  ·rw [hfree] at e; cases e
  ·rw [hfree] at hc; cases hc
 rcases hx with hk | hk
 ·refine wpAny_storeName_local hk hn (fun h' hn' hs =>?_) hcls
  obtain ⟨oL,_,_,hoL,_⟩:=id hn
  refine h _ ⟨I.ok,I.os,I.bare,⟨fun b o e n hb hx =>?_,fun b o e n hb hx =>?_,I.base.free,fun b o e hx =>?_,I.base.tups,I.base.frzs,I.base.tbls⟩,⟨_,hn',fun j y v' e1 e2 e3 =>?_⟩,fun y c e =>?_,I.free,I.freeC,fun p hp =>?_,tracked ⟨oL,hoL,I.free⟩ hs,by simpa using I.len⟩ ⟨_,hs,.inl rfl⟩
  ·exact (hs.2 b (Nat.ne_of_lt (Nat.lt_of_lt_of_le (Heap.lt_size e) I.ok.above))).trans (I.base.keep b o e n hb hx)
  ·obtain ⟨sl,e1⟩:=I.base.slot b o e n hb hx
   exact ⟨sl,(hs.2 b (Nat.ne_of_lt (Nat.lt_of_lt_of_le (Heap.lt_size e) I.ok.above))).trans e1⟩
  ·obtain ⟨o',e1⟩:=I.base.there b o e hx
   exact ⟨o',(hs.2 b (Nat.ne_of_lt (Nat.lt_of_lt_of_le (Heap.lt_size e) I.ok.above))).trans e1⟩
  ·by_cases hj:j = i
   ·subst hj
    rw [hi] at e1; cases e1
    rw [List.getElem?_set_self hiσ] at e2
    cases e2
    exact ⟨u,r,.inl ⟨hk,by simp⟩⟩
   ·rw [List.getElem?_set_ne (Ne.symm hj)] at e2
    obtain ⟨u',r',q⟩:=hl j y v' e1 e2 e3
    refine ⟨u',r',?_⟩
    rcases q with ⟨k,e⟩ | ⟨k,c,e,z⟩
    ·refine .inl ⟨k,?_⟩
     have:y ≠ x:=fun e =>hj (nodup_ix hN e1 (e ▸ hi))
     simp [this,e]
    ·exact .inr ⟨k,c,e,z.sameBut hs (cne y c e)⟩
  ·obtain ⟨w',z⟩:=I.cell y c e
   exact ⟨w',z.sameBut hs (cne y c e)⟩
  ·obtain ⟨e,n,ne,nf,d⟩:=I.pin p hp
   exact ⟨(hs.2 p.1 ne).trans e,n,ne,nf,d⟩
 ·have hfn:X.fn x = true:=by
   rcases hf with z | z
   ·exact z
   ·rw [z] at hk; cases hk
  obtain ⟨c,hc⟩:=I.ok.has x (.inl hk)
  obtain ⟨w',z⟩:=I.cell x c hc
  refine wpAny_storeName_cell I.ok.kind hk hc z (fun h' hc' hs =>?_)
  obtain ⟨oc,hoc,hocd⟩:=id z
  refine h { s with heap:=h' } ⟨I.ok,I.os,I.bare,⟨fun b o e n hb hx =>?_,fun b o e n hb hx =>?_,I.base.free,fun b o e hx =>?_,I.base.tups,I.base.frzs,I.base.tbls⟩,⟨m,hn.sameBut hs (Ne.symm (cne x c hc)),fun j y v' e1 e2 e3 =>?_⟩,fun y c' e =>?_,I.free,I.freeC,fun p hp =>?_,tracked ⟨oc,hoc,I.freeC x c hc⟩ hs,by simpa using I.len⟩ ⟨c,hs,.inr hc⟩
  ·exact (hs.2 b (Nat.ne_of_lt (Nat.lt_of_lt_of_le (Heap.lt_size e) (I.ok.cab x c hfn hc)))).trans (I.base.keep b o e n hb hx)
  ·obtain ⟨sl,e1⟩:=I.base.slot b o e n hb hx
   exact ⟨sl,(hs.2 b (Nat.ne_of_lt (Nat.lt_of_lt_of_le (Heap.lt_size e) (I.ok.cab x c hfn hc)))).trans e1⟩
  ·obtain ⟨o',e1⟩:=I.base.there b o e hx
   exact ⟨o',(hs.2 b (Nat.ne_of_lt (Nat.lt_of_lt_of_le (Heap.lt_size e) (I.ok.cab x c hfn hc)))).trans e1⟩
  ·by_cases hj:j = i
   ·subst hj
    rw [hi] at e1; cases e1
    rw [List.getElem?_set_self hiσ] at e2
    cases e2
    exact ⟨u,r,.inr ⟨.inl hk,c,hc,hc'⟩⟩
   ·rw [List.getElem?_set_ne (Ne.symm hj)] at e2
    obtain ⟨u',r',q⟩:=hl j y v' e1 e2 e3
    refine ⟨u',r',?_⟩
    rcases q with q | ⟨k,c',e,z'⟩
    ·exact .inl q
    ·refine .inr ⟨k,c',e,z'.sameBut hs ?_⟩
     rintro rfl
     exact hj (nodup_ix hN e1 (I.ok.inj _ _ _ e hc ▸ hi))
  ·by_cases hcc:c' = c
   ·subst hcc; exact ⟨_,hc'⟩
   ·obtain ⟨w2,z2⟩:=I.cell y c' e
    exact ⟨w2,z2.sameBut hs hcc⟩
  ·obtain ⟨e,n,ne,nf,d⟩:=I.pin p hp
   refine ⟨(hs.2 p.1 ?_).trans e,n,ne,nf,d⟩
   intro q
   rw [q,hoc] at e
   have q':oc = p.2:=Option.some.inj e
   exact d w' (by rw [← q']; exact hocd)
theorem store_ok {M:Model} {A:Around} {E:Value → Shared → Prop} {i:Nat} {x:Str} {v:V} {u:Value} {Q:Unit → Shared → Prop} (I:Inv X pins σ H s) (hN:X.N.Nodup) (hi:X.N[i]? = some x) (hx:Loc X.env.scope x) (r:RelV v u)
 (h:∀ s',Inv X pins (σ.set i (some v)) H s' → Q () s') (hf:X.fn x = true ∨ X.env.scope.names.lookup x = some .local:=by first | exact .inl rfl | exact .inr rfl | assumption):wpAny M A (storeName X.env x u) Q E s :=
 store_ok2 I hN hi hx r (fun s' I' _ =>h s' I') hf
end
noncomputable abbrev XK:=Value → Option Addr → Hp → Prop
noncomputable abbrev St:=List (Option V)
noncomputable abbrev VK:=V → Hp → Prop
noncomputable abbrev TE:=St → Hp → VK → Prop
noncomputable abbrev TT:=St → Hp → (Bool → Hp → Prop) → Prop
noncomputable abbrev TA:=St → Hp → (List V → Hp → Prop) → Prop
structure Ends where
 nx:St → Hp → Prop
 rt:VK
 bk:St → Hp → Prop:=fun _ _ =>False
 ct:St → Hp → Prop:=fun _ _ =>False
noncomputable abbrev TS:=Ends → St → Hp → Prop
noncomputable def EP (X:Cx) (pins:List (Addr × Obj)) (σ:St) (Q:VK) (u:Value) (s':Shared):Prop:=∃ v H',Inv X pins σ H' s' ∧ RelV v u ∧ Q v H'
noncomputable def TP (X:Cx) (pins:List (Addr × Obj)) (σ:St) (Q:Bool → Hp → Prop) (b:Bool) (s':Shared):Prop:=∃ H',Inv X pins σ H' s' ∧ Q b H'
noncomputable def AP (X:Cx) (pins:List (Addr × Obj)) (σ:St) (Q:List V → Hp → Prop) (us:List Value) (s':Shared):Prop:=∃ vs H',Inv X pins σ H' s' ∧ Vals vs us ∧ Q vs H'
noncomputable def SP (X:Cx) (pins:List (Addr × Obj)) (D:Ends) (f:Flow) (s':Shared):Prop :=
 match f with
 | .next =>∃ σ' H',Inv X pins σ' H' s' ∧ D.nx σ' H'
 | .brk =>∃ σ' H',Inv X pins σ' H' s' ∧ D.bk σ' H'
 | .cont =>∃ σ' H',Inv X pins σ' H' s' ∧ D.ct σ' H'
 | .ret u =>∃ v σ' H',Inv X pins σ' H' s' ∧ RelV v u ∧ D.rt v H'
noncomputable def PE (X:Cx) (e:Expr) (t:TE):Prop :=
 ∀ (pins:List (Addr × Obj)) (s:Shared) (σ:St) (H:Hp) (Q:VK),Inv X pins σ H s → t σ H Q → wpAny (model X.prog X.w) X.A (eval e X.env) (EP X pins σ Q) X.xe s
noncomputable def PT (X:Cx) (e:Expr) (t:TT):Prop :=
 ∀ (pins:List (Addr × Obj)) (s:Shared) (σ:St) (H:Hp) (Q:Bool → Hp → Prop),Inv X pins σ H s → t σ H Q → wpAny (model X.prog X.w) X.A (isTrue e X.env (eval e X.env)) (TP X pins σ Q) X.xe s
noncomputable def PW (X:Cx) (e:Expr) (t:TT):Prop :=
 ∀ (whole:Sem Value) (pins:List (Addr × Obj)) (s:Shared) (σ:St) (H:Hp) (Q:Bool → Hp → Prop),Inv X pins σ H s → t σ H Q → wpAny (model X.prog X.w) X.A (isTrue e X.env whole) (TP X pins σ Q) X.xe s
theorem PW.pt {X:Cx} {e:Expr} {t:TT} (h:PW X e t):PT X e t:=h _
noncomputable def PA (X:Cx) (es:List Expr) (t:TA):Prop :=
 ∀ (pos:Pos) (pins:List (Addr × Obj)) (s:Shared) (σ:St) (H:Hp) (Q:List V → Hp → Prop),Inv X pins σ H s → t σ H Q → wpAny (model X.prog X.w) X.A (spliced (backTo pos (starEach es X.env))) (AP X pins σ Q) X.xe s
noncomputable def PS (X:Cx) (st:Stmt) (t:TS):Prop :=
 ∀ (pins:List (Addr × Obj)) (s:Shared) (σ:St) (H:Hp) (D:Ends),Inv X pins σ H s → t D σ H → wpAny (model X.prog X.w) X.A (exec st X.env) (SP X pins D) X.xe s
noncomputable def PSs (X:Cx) (st:List Stmt) (t:TS):Prop :=
 ∀ (pins:List (Addr × Obj)) (s:Shared) (σ:St) (H:Hp) (D:Ends),Inv X pins σ H s → t D σ H → wpAny (model X.prog X.w) X.A (execs st X.env) (SP X pins D) X.xe s
theorem thn {α:Type} {t:Sem α} {Q Q':α → Shared → Prop} {M:Model} {A:Around} {E:Value → Shared → Prop} {s:Shared} (h:wpAny M A t Q E s) (hQ:∀ a s,Q a s → Q' a s):wpAny M A t Q' E s:=wpAny_mono h hQ fun _ _ x =>x
end L2
namespace L2
open PySem PySem.Spec PyProof.Rows
section
variable {X:Cx}
noncomputable def tVar (i:Nat):TE:=fun σ H Q =>∃ v,σ[i]? = some (some v) ∧ Q v H
noncomputable def tC (v:V):TE:=fun _ H Q =>Q v H
theorem pe_var {i:Nat} {x:Str} {pos:Pos} (hN:X.N[i]? = some x) (hv:Vis X.env.scope x) (hd:(x == ("__debug__":Str)) = false:=by decide) (hcd:(x == ("__classdict__":Str)) = false:=by decide):PE X (.Name x pos) (tVar i):=by
 intro pins s σ H Q I h
 obtain ⟨v,e,h⟩:=h
 obtain ⟨m,hn,hl⟩:=I.loc
 obtain ⟨u,r,l⟩:=hl i x v hN e hv
 have fin:EP X pins σ Q u s:=⟨v,H,I,r,h⟩
 rcases l with ⟨hk,hm⟩ | ⟨hk,c,hc,hcell⟩
 ·exact wpAny_Name (wpAny_loadName_local I.ok.kind hk hn hm fin) hd
 ·rcases hk with hk | hk
  ·exact wpAny_Name (wpAny_loadName_cell I.ok.kind hk hc hcell fin) hd
  ·exact wpAny_Name (wpAny_loadName_free I.ok.kind hk hc hcell fin hcd) hd
theorem pe_int {i j pos}:PE X (.Constant (.int i) j pos) (tC (.int i)):=fun _ _ _ H _ I h =>wpAny_Constant_int ⟨.int i,H,I.tok _,⟨_,rfl⟩,h⟩
theorem pe_bl {b j pos}:PE X (.Constant (.bool b) j pos) (tC (.bl b)):=fun _ _ _ H _ I h =>Constant_bool ⟨.bl b,H,I,rfl,h⟩
theorem pe_non {j pos}:PE X (.Constant .none j pos) (tC .non):=fun _ _ _ H _ I h =>Constant_none ⟨.non,H,I,rfl,h⟩
theorem pe_str {x j pos}:PE X (.Constant (.str x) j pos) (tC (.str x)):=fun _ _ _ H _ I h =>Calls.Constant_str ⟨.str x,H,I.tok _,⟨_,rfl⟩,h⟩
noncomputable def Gl (X:Cx) (x:Str):Prop:=X.env.kindOf x = some .globalImplicit
theorem ld_glob {E:Value → Shared → Prop} {pins:List (Addr × Obj)} {s:Shared} {σ:St} {H:Hp} {x:Str} {u:Value} {pos:Pos} {Q:Value → Shared → Prop} (I:Inv X pins σ H s) (hg:Gl X x) (hm:X.mg x = some u) (h:Q u s)
 (hd:(x == ("__debug__":Str)) = false:=by decide):wpAny (model X.prog X.w) X.A (eval (.Name x pos) X.env) Q E s :=
 Calls.Name_function_global I.ok.kind hg (Calls.loadGlobal_global (by rw [I.ok.glob]; exact I.mod.glob.keeps I.bk) hm h) hd
theorem ld_blt {E:Value → Shared → Prop} {pins:List (Addr × Obj)} {s:Shared} {σ:St} {H:Hp} {x:Str} {u:Value} {pos:Pos} {Q:Value → Shared → Prop} (I:Inv X pins σ H s) (hg:Gl X x) (hm:X.mg x = none) (hv:bootBuiltins x = some u) (h:Q u s)
 (hn:x ≠ "__name__":=by decide) (hd:(x == ("__debug__":Str)) = false:=by decide):wpAny (model X.prog X.w) X.A (eval (.Name x pos) X.env) Q E s:=by
 obtain ⟨mb,h1,h2⟩:=I.mod.blt
 exact Calls.Name_function_global I.ok.kind hg (Calls.loadGlobal_builtin (by rw [I.ok.glob]; exact I.mod.glob.keeps I.bk) hm (by rw [I.ok.blt]; exact h1.keeps I.bk) ((h2 x hn).trans hv) h) hd
theorem pe_glob {x:Str} {v:V} {u:Value} {pos:Pos} (hg:Gl X x) (hm:X.mg x = some u) (r:RelV v u) (hd:(x == ("__debug__":Str)) = false:=by decide):PE X (.Name x pos) (tC v) :=
 fun _ _ _ H _ I h =>ld_glob I hg hm ⟨v,H,I,r,h⟩ hd
theorem pe_bltn {x:Str} {v:V} {u:Value} {pos:Pos} (hg:Gl X x) (hm:X.mg x = none) (hv:bootBuiltins x = some u) (r:RelV v u) (hn:x ≠ "__name__":=by decide) (hd:(x == ("__debug__":Str)) = false:=by decide):PE X (.Name x pos) (tC v) :=
 fun _ _ _ H _ I h =>ld_blt I hg hm hv ⟨v,H,I,r,h⟩ hn hd
variable {a b:Expr} {ta tb:TE} {pos:Pos}
noncomputable def PC (X:Cx) (op:CmpOp) (a b:Expr) (t:TE):Prop :=
 ∀ (pins:List (Addr × Obj)) (s:Shared) (σ:St) (H:Hp) (Q:VK),Inv X pins σ H s → t σ H Q →
  wpAny (model X.prog X.w) X.A (eval a X.env) (fun v s₁ =>wpAny (model X.prog X.w) X.A (eval b X.env) (fun u s₂ =>wpAny (model X.prog X.w) X.A (compareOp op v u) (EP X pins σ Q) X.xe s₂) X.xe s₁) X.xe s
noncomputable def tB (t:TE):TT:=fun σ H Q =>t σ H fun x H1 =>∃ c,x = .bl c ∧ Q c H1
theorem pe_cmp {op:CmpOp} {t:TE} (h:PC X op a b t) (h1:behindInMarks op b = false:=by first | exact nobehind _ (by decide) (by decide) | rfl):PE X (.Compare a [op] [b] pos) t:=fun pins s σ H Q I hw =>wpAny_Compare1 (h pins s σ H Q I hw) h1
theorem pt_cmp {op:CmpOp} {t:TE} (h:PC X op a b t) (h1:behindInMarks op b = false:=by first | exact nobehind _ (by decide) (by decide) | rfl):PT X (.Compare a [op] [b] pos) (tB t):=by
 intro pins s σ H Q I hw
 refine wpAny_isTrue_Compare1 (thn (h pins s σ H _ I hw) fun v s1 h1 =>thn h1 fun u s2 h2 =>thn h2 fun c s3 ⟨x,H1,I1,r1,q1⟩ =>?_) h1
 obtain ⟨d,rfl,q⟩:=q1
 cases r1
 exact wpAny_truthy_bool ⟨H1,I1,q⟩
variable {tA tB':TT} {rest:List Expr}
noncomputable def tAnd (t u:TT):TT:=fun σ H Q =>t σ H fun c H1 =>if c = true then u σ H1 Q else Q false H1
noncomputable def tOr (t u:TT):TT:=fun σ H Q =>t σ H fun c H1 =>if c = true then Q true H1 else u σ H1 Q
noncomputable def tNot (t:TT):TT:=fun σ H Q =>t σ H fun c H1 =>Q (!c) H1
theorem pw_and1 (ha:PT X a tA):PW X (.BoolOp .And [a] pos) tA:=by
 intro wh pins s σ H Q I h
 refine isTrue_and (thn (ha pins s σ H Q I h) fun c s1 e =>?_)
 cases c with
 | true =>exact isTrue_and_nil e
 | false =>exact e
theorem pw_or1 (ha:PT X a tA):PW X (.BoolOp .Or [a] pos) tA:=by
 intro wh pins s σ H Q I h
 refine isTrue_or (thn (ha pins s σ H Q I h) fun c s1 e =>?_)
 cases c with
 | false =>exact isTrue_or_nil e
 | true =>exact e
theorem pw_and (ha:PT X a tA) (hb:PW X (.BoolOp .And (b :: rest) pos) tB'):PW X (.BoolOp .And (a :: b :: rest) pos) (tAnd tA tB'):=by
 intro wh pins s σ H Q I h
 refine isTrue_and (thn (ha pins s σ H _ I h) fun c s1 ⟨H1,I1,q1⟩ =>?_)
 cases c with
 | true =>exact hb wh pins s1 σ H1 Q I1 q1
 | false =>exact ⟨H1,I1,q1⟩
theorem pw_or (ha:PT X a tA) (hb:PW X (.BoolOp .Or (b :: rest) pos) tB'):PW X (.BoolOp .Or (a :: b :: rest) pos) (tOr tA tB'):=by
 intro wh pins s σ H Q I h
 refine isTrue_or (thn (ha pins s σ H _ I h) fun c s1 ⟨H1,I1,q1⟩ =>?_)
 cases c with
 | true =>exact ⟨H1,I1,q1⟩
 | false =>exact hb wh pins s1 σ H1 Q I1 q1
theorem pt_not (ha:PT X a tA):PT X (.UnaryOp .Not a pos) (tNot tA):=by
 intro pins s σ H Q I h
 exact isTrue_not (ha pins s σ H (fun c H1 =>Q (!c) H1) I h)
noncomputable def tAndV (ta tb:TE):TE:=fun σ H Q =>ta σ H fun x H1 =>∃ c,x = .bl c ∧ if c = true then tb σ H1 Q else Q (.bl false) H1
noncomputable def tOrV (ta tb:TE):TE:=fun σ H Q =>ta σ H fun x H1 =>∃ c,x = .bl c ∧ if c = true then Q (.bl true) H1 else tb σ H1 Q
theorem pe_one {op} {t:TE} (h:PE X a t):PE X (.BoolOp op [a] pos) t:=fun pins s σ H Q I hw =>BoolOp_one (h pins s σ H Q I hw)
theorem pe_and (ha:PE X a ta) (hb:PE X (.BoolOp .And (b :: rest) pos) tb):PE X (.BoolOp .And (a :: b :: rest) pos) (tAndV ta tb):=by
 intro pins s σ H Q I h
 refine BoolOp_and (thn (ha pins s σ H _ I h) fun v s1 ⟨x,H1,I1,r1,q1⟩ =>?_)
 obtain ⟨c,rfl,q1⟩:=q1
 cases r1
 refine wpAny_truthy_bool ?_
 cases c with
 | true =>exact hb pins s1 σ H1 Q I1 q1
 | false =>exact ⟨.bl false,H1,I1,rfl,q1⟩
theorem pe_or (ha:PE X a ta) (hb:PE X (.BoolOp .Or (b :: rest) pos) tb):PE X (.BoolOp .Or (a :: b :: rest) pos) (tOrV ta tb):=by
 intro pins s σ H Q I h
 refine BoolOp_or (thn (ha pins s σ H _ I h) fun v s1 ⟨x,H1,I1,r1,q1⟩ =>?_)
 obtain ⟨c,rfl,q1⟩:=q1
 cases r1
 refine wpAny_truthy_bool ?_
 cases c with
 | false =>exact hb pins s1 σ H1 Q I1 q1
 | true =>exact ⟨.bl true,H1,I1,rfl,q1⟩
noncomputable def tIf (t:TT) (ta tb:TE):TE:=fun σ H Q =>t σ H fun c H1 =>if c = true then ta σ H1 Q else tb σ H1 Q
theorem pe_ifExp {c:Expr} (hc:PT X c tA) (ha:PE X a ta) (hb:PE X b tb):PE X (.IfExp c a b pos) (tIf tA ta tb):=by
 intro pins s σ H Q I h
 refine wpAny_IfExp (thn (hc pins s σ H _ I h) fun d s1 ⟨H1,I1,q1⟩ =>?_)
 cases d with
 | true =>exact ha pins s1 σ H1 Q I1 q1
 | false =>exact hb pins s1 σ H1 Q I1 q1
end
end L2
namespace L2
open PySem PySem.Spec PyProof.Rows
noncomputable def SqL (K:PySem.W.Frag) (H:Hp) (a:Addr) (xs:List V):Prop :=
 Rd H a (.lst xs) ∨
  ∃ (o:Obj) (its:Array Value) (n:Nat),K.lookup a = some o ∧ o.cls = .type "list" ∧ o.dict = none ∧ o.data = .seq its n ∧ its.size ≤ sizeLine ∧ Vals xs its.toList
noncomputable def SqT (K:PySem.W.Frag) (H:Hp) (a:Addr) (xs:List V):Prop :=
 Rd H a (.tup xs) ∨
  ∃ (o:Obj) (its:Array Value) (n:Nat),K.lookup a = some o ∧ o.cls = .type "tuple" ∧ o.data = .seq its n ∧ its.size ≤ sizeLine ∧ Vals xs its.toList
noncomputable def absV:Value → Option V
 | .none =>some .non
 | .bool b =>some (.bl b)
 | .int i _ =>some (.int i)
 | .str x _ =>some (.str x)
 | .bytes b _ =>some (.byt b)
 | .float b _ =>some (.flt b)
 | .ref a =>some (.ref a)
 | .type n =>some (.ty n)
 | _ =>none
theorem RelV.abs {x:V} {u:Value} (r:RelV x u):absV u = some x:=by
 cases x with
 | non =>cases r; rfl
 | bl _ =>cases r; rfl
 | int _ =>obtain ⟨t,rfl⟩:=r; rfl
 | str _ =>obtain ⟨t,rfl⟩:=r; rfl
 | byt _ =>obtain ⟨t,rfl⟩:=r; rfl
 | flt _ =>obtain ⟨t,rfl⟩:=r; rfl
 | ref _ =>cases r; rfl
 | ty _ =>cases r; rfl
theorem RelV.inj {x y:V} {u:Value} (r:RelV x u) (q:RelV y u):x = y:=Option.some.inj (r.abs.symm.trans q.abs)
theorem Vals.inj:∀ {xs ys:List V} {us:List Value},Vals xs us → Vals ys us → xs = ys
 | _,_,_,.nil,.nil =>rfl
 | _,_,_,.cons r t,.cons r' t' =>by rw [r.inj r',Vals.inj t t']
section
variable {X:Cx} {pins:List (Addr × Obj)} {σ:St} {H:Hp} {s:Shared} {a:Addr} {xs ys:List V}
theorem SqL.of {K:PySem.W.Frag} (h:H a = some (.lst xs)):SqL K H a xs:=.inl (.inl h)
theorem Inv.list (I:Inv X pins σ H s) (h:SqL X.K H a xs):∃ its:List Value,Vals xs its ∧ PlainL s.heap a its.toArray ∧ xs.length ≤ sizeLine:=by
 rcases h with h | ⟨o,its,n,hk,hc,hd,hs,hz,r⟩
 ·obtain ⟨z,its,n,r,e⟩:=h.ok I.hok
  exact ⟨its,r,⟨_,n,e,rfl,rfl,rfl⟩,z⟩
 ·refine ⟨its.toList,r,⟨o,n,I.kIn a o hk,hc,hd,by simpa using hs⟩,?_⟩
  have e:=r.length
  simp only [Array.length_toList] at e
  omega
theorem Inv.tuple (I:Inv X pins σ H s) (h:SqT X.K H a xs):∃ its:List Value,Vals xs its ∧ IsTup s.heap a its.toArray ∧ xs.length ≤ sizeLine:=by
 rcases h with h | ⟨o,its,n,hk,hc,hs,hz,r⟩
 ·obtain ⟨z,its,r,p⟩:=h.ok I.hok
  exact ⟨its,r,p,z⟩
 ·refine ⟨its.toList,r,⟨o,I.kIn a o hk,hc,n,by simpa using hs⟩,?_⟩
  have e:=r.length
  simp only [Array.length_toList] at e
  omega
theorem Inv.list_inj (I:Inv X pins σ H s) (h:SqL X.K H a xs) (h':SqL X.K H a ys):xs = ys:=by
 obtain ⟨its,r,⟨o,n,e,_,_,d⟩,_⟩:=I.list h
 obtain ⟨its',r',⟨o',n',e',_,_,d'⟩,_⟩:=I.list h'
 rw [e] at e'; cases e'
 rw [d] at d'
 injection d' with d1 _
 have:its = its':=by simpa using congrArg Array.toList d1
 subst this
 exact r.inj r'
theorem Inv.tuple_inj (I:Inv X pins σ H s) (h:SqT X.K H a xs) (h':SqT X.K H a ys):xs = ys:=by
 obtain ⟨its,r,⟨o,e,_,n,d⟩,_⟩:=I.tuple h
 obtain ⟨its',r',⟨o',e',_,n',d'⟩,_⟩:=I.tuple h'
 rw [e] at e'; cases e'
 rw [d] at d'
 injection d' with d1 _
 have:its = its':=by simpa using congrArg Array.toList d1
 subst this
 exact r.inj r'
end
noncomputable abbrev Cx.wish (X:Cx) (E:Value → Shared → Prop):Cx:={ X with xe:=E }
noncomputable abbrev Cx.nox (X:Cx):Cx:=X.wish fun _ _ =>False
theorem Cx.Ok.wish {X:Cx} (ok:X.Ok) (E:Value → Shared → Prop):(X.wish E).Ok :=
 ⟨ok.mod,ok.kind,ok.glob,ok.blt,ok.above,ok.inj,ok.has,ok.cab,ok.hd,ok.frames,ok.stk,ok.exf,ok.bs,ok.bsz,ok.noex,ok.exfs,ok.funs,ok.frf⟩
theorem Cx.Ok.unwish {X:Cx} {E:Value → Shared → Prop} (ok:(X.wish E).Ok):X.Ok :=
 ⟨ok.mod,ok.kind,ok.glob,ok.blt,ok.above,ok.inj,ok.has,ok.cab,ok.hd,ok.frames,ok.stk,ok.exf,ok.bs,ok.bsz,ok.noex,ok.exfs,ok.funs,ok.frf⟩
section
variable {X:Cx} {pins:List (Addr × Obj)} {σ:St} {H:Hp} {s:Shared} {E:Value → Shared → Prop}
theorem Inv.wish (I:Inv X pins σ H s) (E:Value → Shared → Prop):Inv (X.wish E) pins σ H s:=⟨I.ok.wish E,I.os,I.bare,I.base,I.loc,I.cell,I.free,I.freeC,I.pin,I.hok,I.len⟩
theorem Inv.unwish (I:Inv (X.wish E) pins σ H s):Inv X pins σ H s:=⟨I.ok.unwish,I.os,I.bare,I.base,I.loc,I.cell,I.free,I.freeC,I.pin,I.hok,I.len⟩
theorem SP.unwish {D:Ends} {f:Flow} {s':Shared} (h:SP (X.wish E) pins D f s'):SP X pins D f s':=by
 cases f with
 | next =>obtain ⟨σ',H',I,q⟩:=h; exact ⟨σ',H',I.unwish,q⟩
 | brk =>obtain ⟨σ',H',I,q⟩:=h; exact ⟨σ',H',I.unwish,q⟩
 | cont =>obtain ⟨σ',H',I,q⟩:=h; exact ⟨σ',H',I.unwish,q⟩
 | ret u =>obtain ⟨v,σ',H',I,r,q⟩:=h; exact ⟨v,σ',H',I.unwish,r,q⟩
theorem PSs.nox {st:List Stmt} {t:TS} (h:PSs X.nox st t):PSs X st t:=fun pins s σ H D I hw =>
 wpAny_mono (h pins s σ H D (I.wish _) hw) (fun _ _ q =>q.unwish) fun _ _ z =>False.elim z
end
section
variable {X:Cx} {st:Stmt} {rest:List Stmt} {t u:TS} {e:Expr} {te:TE} {pos:Pos}
noncomputable def tNext:TS:=fun D σ H =>D.nx σ H
noncomputable def tSeq (t u:TS):TS:=fun D σ H =>t { D with nx:=u D } σ H
theorem pss_nil:PSs X [] tNext:=fun _ _ σ H _ I h =>wpAny_execs_nil ⟨σ,H,I,h⟩
theorem pss_cons (h1:PS X st t) (h2:PSs X rest u):PSs X (st :: rest) (tSeq t u):=by
 intro pins s σ H D I h
 refine wpAny_execs_cons (thn (h1 pins s σ H { D with nx:=u D } I h) fun f s1 q =>?_)
 cases f with
 | next =>
   obtain ⟨σ',H',I',q⟩:=q
   exact h2 pins s1 σ' H' D I' q
 | ret v =>exact q
 | brk =>exact q
 | cont =>exact q
noncomputable def tBreak:TS:=fun D σ H =>D.bk σ H
noncomputable def tCont:TS:=fun D σ H =>D.ct σ H
theorem ps_pass:PS X (.Pass pos) tNext:=fun _ _ σ H _ I h =>wpAny_Pass ⟨σ,H,I,h⟩
theorem ps_break:PS X (.Break pos) tBreak:=fun _ _ σ H _ I h =>wpAny_Break ⟨σ,H,I,h⟩
theorem ps_continue:PS X (.Continue pos) tCont:=fun _ _ σ H _ I h =>wpAny_Continue ⟨σ,H,I,h⟩
theorem Inv.quiet {pins:List (Addr × Obj)} {σ:St} {H:Hp} {s:Shared} (I:Inv X pins σ H s):interactive X.env = false:=by simp [interactive,I.ok.kind]
noncomputable def tDrop (te:TE):TS:=fun D σ H =>te σ H fun _ H1 =>D.nx σ H1
theorem ps_expr (he:PE X e te) (hs:swapsWith e none pos.line X.env = pure false:=by rfl):PS X (.Expr e pos) (tDrop te):=by
 intro pins s σ H D I h
 exact wpAny_Expr_any (thn (he pins s σ H _ I h) fun v s1 ⟨x,H1,I1,r1,q1⟩ =>⟨σ,H1,I1,q1⟩) I.quiet hs
noncomputable def tRet (te:TE):TS:=fun D σ H =>te σ H D.rt
theorem ps_ret (he:PE X e te):PS X (.Return (some e) pos) (tRet te):=by
 intro pins s σ H D I h
 exact wpAny_Return_some (thn (he pins s σ H _ I h) fun v s1 ⟨x,H1,I1,r1,q1⟩ =>⟨x,σ,H1,I1,r1,q1⟩)
noncomputable def tRetN:TS:=fun D _ H =>D.rt .non H
theorem ps_retN:PS X (.Return none pos) tRetN:=fun _ _ σ H _ I h =>wpAny_Return_none ⟨.non,σ,H,I,rfl,h⟩
noncomputable def tIfS (c:TT) (t u:TS):TS:=fun D σ H =>c σ H fun b H1 =>if b = true then t D σ H1 else u D σ H1
theorem ps_if {c:Expr} {a b:List Stmt} {tc:TT} (hc:PT X c tc) (ha:PSs X a t) (hb:PSs X b u):PS X (.If c a b pos) (tIfS tc t u):=by
 intro pins s σ H D I h
 refine wpAny_If (thn (hc pins s σ H _ I h) fun d s1 ⟨H1,I1,q1⟩ =>?_)
 cases d with
 | true =>exact ha pins s1 σ H1 D I1 q1
 | false =>exact hb pins s1 σ H1 D I1 q1
end
noncomputable abbrev TG:=V → St → Hp → (St → Hp → Prop) → Prop
noncomputable abbrev TGs:=List V → St → Hp → (St → Hp → Prop) → Prop
noncomputable def PG (X:Cx) (target:Expr) (t:TG):Prop :=
 ∀ (pins:List (Addr × Obj)) (s:Shared) (σ:St) (H:Hp) (v:V) (u:Value) (Q:St → Hp → Prop),Inv X pins σ H s → RelV v u → t v σ H Q →
  wpAny (model X.prog X.w) X.A (assign target X.env u) (fun _ s' =>∃ σ' H',Inv X pins σ' H' s' ∧ Q σ' H') X.xe s
noncomputable def PGs (X:Cx) (ts:List Expr) (t:TGs):Prop :=
 ∀ (pins:List (Addr × Obj)) (s:Shared) (σ:St) (H:Hp) (vs:List V) (us:List Value) (Q:St → Hp → Prop),Inv X pins σ H s → Vals vs us → t vs σ H Q →
  wpAny (model X.prog X.w) X.A (assignInOrder ((assignEach ts X.env).map (·.2)) us) (fun _ s' =>∃ σ' H',Inv X pins σ' H' s' ∧ Q σ' H') X.xe s
noncomputable abbrev TSet:=V → V → V → Hp → (Hp → Prop) → Prop
noncomputable def PSet (X:Cx) (t:TSet):Prop :=
 ∀ (pins:List (Addr × Obj)) (s:Shared) (σ:St) (H:Hp) (o i v:V) (ov iv u:Value) (Q:Hp → Prop),Inv X pins σ H s → RelV o ov → RelV i iv → RelV v u → t o i v H Q →
  wpAny (model X.prog X.w) X.A (setItem ov iv u) (fun _ s' =>∃ H',Inv X pins σ H' s' ∧ Q H') X.xe s
section
variable {X:Cx} {pos:Pos}
noncomputable def gName (i:Nat):TG:=fun v σ H Q =>Q (σ.set i (some v)) H
theorem pg_name {i:Nat} {x:Str} (hN:X.N.Nodup) (hi:X.N[i]? = some x) (hx:Loc X.env.scope x) (hf:X.fn x = true ∨ X.env.scope.names.lookup x = some .local:=by first | exact .inl rfl | exact .inr rfl | assumption):PG X (.Name x pos) (gName i):=by
 intro pins s σ H v u Q I r h
 exact wpAny_assign_Name (store_ok I hN hi hx r (fun s' I' =>⟨_,H,I',h⟩) hf)
noncomputable def gNil:TGs:=fun vs σ H Q =>vs = [] ∧ Q σ H
noncomputable def gCons (t:TG) (u:TGs):TGs:=fun vs σ H Q =>∃ v r,vs = v :: r ∧ t v σ H fun σ' H' =>u r σ' H' Q
theorem pgs_nil:PGs X [] gNil:=by
 intro pins s σ H vs us Q I r h
 obtain ⟨e,h⟩:=h
 subst e
 cases r
 exact assignInOrder_nil ⟨σ,H,I,h⟩
theorem pgs_cons {e:Expr} {es:List Expr} {t:TG} {u:TGs} (h1:PG X e t) (h2:PGs X es u)
 (hs:(assignEach (e :: es) X.env).map (·.2) = assign e X.env :: (assignEach es X.env).map (·.2):=by rfl):PGs X (e :: es) (gCons t u):=by
 intro pins s σ H vs us Q I r h
 obtain ⟨v,vr,e1,h⟩:=h
 subst e1
 cases r with
 | cons r rr =>
   rw [hs]
   refine assignInOrder_cons (thn (h1 pins s σ H _ _ _ I r h) fun _ s1 ⟨σ1,H1,I1,q1⟩ =>?_)
   exact h2 pins s1 σ1 H1 _ _ Q I1 rr q1
noncomputable def gTup (K:PySem.W.Frag) (n:Nat) (t:TGs):TG:=fun v σ H Q =>∃ a xs,v = .ref a ∧ SqT K H a xs ∧ xs.length = n ∧ t xs σ H Q
theorem pg_tup {es:List Expr} {k:Nat} {t:TGs} {n:Nat} (hc:X.calm = true) (h:PGs X es t)
 (hn:(assignEach es X.env).length = n:=by rfl) (hst:(assignEach es X.env).findIdx? (·.1) = none:=by rfl):PG X (.Tuple es k pos) (gTup X.K n t):=by
 intro pins s σ H v u Q I r hw
 obtain ⟨a,xs,e1,hq,hl,hw⟩:=hw
 subst e1
 cases r
 obtain ⟨its,rv,ht,hz⟩:=I.tuple hq
 refine assign_Tuple_tuple (I.ok.hd hc) ht (by simp [hn,← hl,rv.length]) hst fun h' hx =>?_
 have I1:Inv X pins σ H { s with heap:=h' }:=I.kept (t':=s.toks) fun b o e =>hx b o (Nat.ne_of_lt (Heap.lt_size e)) e
 exact h pins _ σ H xs _ Q I1 (by simpa using rv) hw
noncomputable def gSub (to ti:TE) (t:TSet):TG:=fun v σ H Q =>to σ H fun o H1 =>ti σ H1 fun i H2 =>t o i v H2 fun H3 =>Q σ H3
theorem pg_sub {o i:Expr} {to ti:TE} {t:TSet} (ho:PE X o to) (hi:PE X i ti) (hs:PSet X t)
 (ha:∀ v,assign (.Subscript o i pos) X.env v = (do
  let ov ← holding [v] (eval o X.env)
  let iv ← holding [v,ov] (eval i X.env)
  standAt pos
  holding [v,ov,iv] (setItem ov iv v)
  release [v,ov,iv] []):=by intro _; rfl):PG X (.Subscript o i pos) (gSub to ti t):=by
 intro pins s σ H v u Q I r h
 rw [ha]
 refine wpAny_bind (wpAny_holding (thn (ho pins s σ H _ I h) fun ov s1 ⟨x,H1,I1,r1,q1⟩ =>?_))
 refine wpAny_bind (wpAny_holding (thn (hi pins s1 σ H1 _ I1 q1) fun iv s2 ⟨y,H2,I2,r2,q2⟩ =>?_))
 refine wpAny_bind (wpAny_standAt (wpAny_bind (wpAny_holding (thn (hs pins s2 σ H2 x y v ov iv u _ I2 r1 r2 r q2) fun _ s3 ⟨H3,I3,q3⟩ =>?_))))
 exact wpAny_release ⟨σ,H3,I3,q3⟩
noncomputable def tAsg (te:TE) (g:TG):TS:=fun D σ H =>te σ H fun x H1 =>g x σ H1 D.nx
theorem ps_asg {tg e:Expr} {te:TE} {g:TG} (he:PE X e te) (hg:PG X tg g) (hs:swapsWithSole [tg] e pos.line X.env = pure false:=by rfl) (hw:swappedStores [tg] e X.env = pure none:=by rfl)
 (h1:(assignEach [tg] X.env).map (·.2) = [assign tg X.env]:=by rfl):PS X (.Assign [tg] e pos) (tAsg te g):=by
 intro pins s σ H D I h
 refine wpAny_Assign_stores (thn (he pins s σ H _ I h) fun v s1 ⟨x,H1,I1,r1,q1⟩ =>?_) hs hw
 rw [h1]
 exact thn (hg pins s1 σ H1 x v _ I1 r1 q1) fun _ s2 q =>q
theorem ps_set {i:Nat} {x:Str} {e:Expr} {te:TE} {pos':Pos} (hN:X.N.Nodup) (hi:X.N[i]? = some x) (hx:Loc X.env.scope x) (he:PE X e te) (hs:swapsWith e (some (.Name x pos')) pos.line X.env = pure false:=by rfl) (hf:X.fn x = true ∨ X.env.scope.names.lookup x = some .local:=by first | exact .inl rfl | exact .inr rfl | assumption) :
 PS X (.Assign [.Name x pos'] e pos) (tAsg te (gName i)):=by
 intro pins s σ H D I h
 refine wpAny_Assign_Name (thn (he pins s σ H _ I h) fun v s1 ⟨y,H1,I1,r1,q1⟩ =>?_) hs
 exact store_ok I1 hN hi hx r1 (fun s2 I2 =>⟨_,H1,I2,q1⟩) hf
end
section
variable {X:Cx} {pos:Pos}
noncomputable def tWhile (c:TT) (tb:TS):TS:=fun D σ H =>∃ W:Nat → St → Hp → Prop,(∃ m,W m σ H) ∧ ∀ m σ H,W m σ H →
 c σ H fun b H1 =>if b = true then ∃ N:St → Hp → Prop,(∀ σ' H',N σ' H' → ∃ m',m' < m ∧ W m' σ' H') ∧ tb { D with nx:=N,ct:=N,bk:=D.nx } σ H1 else D.nx σ H1
theorem ps_while {c:Expr} {body:List Stmt} {tc:TT} {tb:TS} (hp:PassesOwn (model X.prog X.w) X.A X.env X.xe) (hc:PT X c tc) (hb:PSs X body tb):PS X (.While c body [] pos) (tWhile tc tb):=by
 intro pins s σ H D I h
 obtain ⟨W,⟨m0,w0⟩,turn⟩:=h
 refine wpAny_While (codeAny_whileLoop (fun n s' =>∃ σ' H',Inv X pins σ' H' s' ∧ W n σ' H') ?_ m0 ⟨σ,H,I,w0⟩)
 rintro n s1 ⟨σ1,H1,I1,w1⟩
 refine wpAny_passesOwn hp (thn (hc pins s1 σ1 H1 _ I1 (turn n σ1 H1 w1)) fun b s2 ⟨H2,I2,q2⟩ =>?_)
 cases b with
 | true =>
   obtain ⟨N,hN,q2⟩:=q2
   rw [if_pos rfl]
   refine wpAny_passesOwn hp (thn (hb pins s2 σ1 H2 _ I2 q2) fun f s3 q3 =>?_)
   cases f with
   | next =>
     obtain ⟨σ3,H3,I3,n3⟩:=q3
     obtain ⟨m',hm,w3⟩:=hN σ3 H3 n3
     exact ⟨m',hm,σ3,H3,I3,w3⟩
   | cont =>
     obtain ⟨σ3,H3,I3,n3⟩:=q3
     obtain ⟨m',hm,w3⟩:=hN σ3 H3 n3
     exact ⟨m',hm,σ3,H3,I3,w3⟩
   | brk =>exact q3
   | ret v =>exact q3
 | false =>
   rw [if_neg Bool.false_ne_true]
   exact wpAny_execs_nil ⟨σ1,H2,I2,q2⟩
end
structure It where
 go:Nat → Hp → Prop
 yld:Nat → Hp → V → Hp → Prop
 stop:Nat → Hp → Prop
noncomputable def FpOk (X:Cx) (pins:List (Addr × Obj)) (H:Hp) (b:Addr):Prop :=
 H b = none ∧ b ≠ X.env.locals ∧ b ∉ X.fs ∧ (b ∈ X.ex ∨ X.s₀.heap.objs.size ≤ b) ∧ (∀ x c,X.env.cells.lookup x = some c → c ≠ b) ∧ ∀ p ∈ X.pn ++ pins,p.1 ≠ b
theorem Inv.fpOk {X:Cx} {pins:List (Addr × Obj)} {σ:St} {H H':Hp} {s:Shared} {b:Addr} (I:Inv X pins σ H s) (hb:s.heap.objs.size ≤ b) (hn:H' b = none):FpOk X pins H' b:=by
 refine ⟨hn,Nat.ne_of_gt (Nat.lt_of_lt_of_le I.lt hb),I.nofs hb,.inr (Nat.le_trans I.sz hb),fun x c e z =>?_,fun p hp z =>?_⟩
 ·obtain ⟨v,q⟩:=I.cell x c e
  exact absurd (Nat.lt_of_lt_of_le q.lt (by rw [z]; exact hb)) (Nat.lt_irrefl _)
 ·exact absurd (Nat.lt_of_lt_of_le (Heap.lt_size (I.pin p hp).1) (by rw [z]; exact hb)) (Nat.lt_irrefl _)
structure Turn (P:Program) (w:World) (K:PySem.W.Frag) (tg:Expr) (J:It) (fp:List Addr) (it:Addr) (tn:Nat → Heap → Prop):Prop where
 mem:it ∈ fp
 obj:∀ i h,tn i h → ∀ b ∈ fp,∃ o,h.get? b = some o ∧ ∀ v,o.data ≠ .cell v
 keep:∀ i h h',tn i h → (∀ b ∈ fp,∀ o,h.get? b = some o → h'.get? b = some o) → tn i h'
 item:∀ (X:Cx),X.prog = P → X.w = w → X.K = K → X.calm = true → ∀ (i:Nat) (pins:List (Addr × Obj)) (s:Shared) (σ:St) (H:Hp) (E:Value → Shared → Prop),Inv X pins σ H s → (∀ b ∈ fp,FpOk X pins H b) → tn i s.heap → J.go i H →
  wpAny (model P w) X.A (pyNext (.ref it)) (fun r s1 =>∃ u,r = some u ∧
   wpAny (model P w) X.A (letOwnedTupleGo tg (.ref it) u) (fun _ s2 =>∃ x H',Inv X pins σ H' s2 ∧ RelV x u ∧ J.yld i H x H' ∧ tn (i + 1) s2.heap ∧ ∀ b ∈ fp,H' b = none) E s1) E s
 done:∀ (X:Cx),X.prog = P → X.w = w → X.K = K → X.calm = true → ∀ (i:Nat) (pins:List (Addr × Obj)) (s:Shared) (σ:St) (H:Hp) (E:Value → Shared → Prop),Inv X pins σ H s → (∀ b ∈ fp,FpOk X pins H b) → tn i s.heap → J.stop i H →
  wpAny (model P w) X.A (pyNext (.ref it)) (fun r s1 =>r = none ∧ Inv X pins σ H s1) E s
 self:∀ (A:Around) (i:Nat) (s:Shared) (Q:Value → Shared → Prop) (E:Value → Shared → Prop),tn i s.heap → Q (.ref it) s → wpAny (model P w) A (pyIter (.ref it)) Q E s
noncomputable abbrev TI:=St → Hp → (It → Hp → Prop) → Prop
noncomputable def PIE (X:Cx) (pins:List (Addr × Obj)) (σ:St) (tg:Expr) (R:It → Hp → Prop) (itv:Value) (s2:Shared):Prop :=
 ∃ (it:Addr) (fp:List Addr) (tn:Nat → Heap → Prop) (J:It) (H':Hp),itv = .ref it ∧ Inv X pins σ H' s2 ∧ Turn X.prog X.w X.K tg J fp it tn ∧ tn 0 s2.heap ∧ (∀ b ∈ fp,FpOk X pins H' b) ∧ R J H'
noncomputable def PI (X:Cx) (tg iter:Expr) (wi:TI):Prop :=
 ∀ (pins:List (Addr × Obj)) (s:Shared) (σ:St) (H:Hp) (R:It → Hp → Prop),Inv X pins σ H s → wi σ H R →
  wpAny (model X.prog X.w) X.A (eval iter X.env) (fun v s1 =>wpAny (model X.prog X.w) X.A (pyIter v) (PIE X pins σ tg R) X.xe s1) X.xe s
theorem go_of {M:Model} {A:Around} {E:Value → Shared → Prop} {s:Shared} {tg:Expr} {it:Addr} {u:Value} {o:Obj} {n:String} {vs:Array Value} {Q:Unit → Shared → Prop} (ho:s.heap.get? it = some o) (hc:o.cls = .type n) (hd:o.data = .fields vs)
 (hn:["enumerate","zip","dict_itemiterator","dict_reverseitemiterator","odict_iterator","itertools.zip_longest","itertools.pairwise"].contains n = false) (hQ:Q () s):wpAny M A (letOwnedTupleGo tg (.ref it) u) Q E s:=by
 unfold letOwnedTupleGo
 cases tg <;> first
  | exact wpAny_pure hQ
  | (cases u <;> first
   | exact wpAny_pure hQ
   | (refine wpAny_bind (wpAny_load ho ?_)
      rw [hc,hd]
      show wpAny M A (if (["enumerate","zip","dict_itemiterator","dict_reverseitemiterator","odict_iterator","itertools.zip_longest","itertools.pairwise"].contains n && vs[0]? == some (rawInt _)) = true then _ else _) Q E s
      rw [if_neg (by intro h; rw [hn,Bool.false_and] at h; cases h)]
      exact wpAny_pure hQ))
noncomputable def Itl (K:PySem.W.Frag) (a:Addr):It :=
 ⟨fun i H =>∃ xs x,SqL K H a xs ∧ xs[i]? = some x,fun i H x H' =>H' = H ∧ ∀ xs,SqL K H a xs → xs[i]? = some x,fun i H =>∃ xs,SqL K H a xs ∧ xs.length ≤ i⟩
noncomputable def Itt (K:PySem.W.Frag) (a:Addr):It :=
 ⟨fun i H =>∃ xs x,SqT K H a xs ∧ xs[i]? = some x,fun i H x H' =>H' = H ∧ ∀ xs,SqT K H a xs → xs[i]? = some x,fun i H =>∃ xs,SqT K H a xs ∧ xs.length ≤ i⟩
noncomputable def Itr (lo:Int) (n:Nat):It:=⟨fun i _ =>i < n,fun i H x H' =>H' = H ∧ x = .int (lo + i),fun i _ =>n ≤ i⟩
theorem turn_list {P:Program} {w:World} {K:PySem.W.Frag} {tg:Expr} (a it:Addr):Turn P w K tg (Itl K a) [it] it (fun i h =>h.IsListIter it a i) where
 mem:=by simp
 obj:=fun i h st b hb =>by
  have e:b = it:=by simpa using hb
  subst e
  obtain ⟨o,e,c,d⟩:=st
  exact ⟨o,e,fun v z =>by rw [d] at z; cases z⟩
 keep:=fun i h h' st k =>st.at fun o e =>k it (by simp) o e
 item:=by
  intro X hP hw hK hc i pins s σ H E I hf st hg
  subst hP hw hK
  obtain ⟨xs,x,hq,hx⟩:=hg
  obtain ⟨its,rv,p,hz⟩:=I.list hq
  obtain ⟨u,hu,ru⟩:=rv.get hx
  obtain ⟨f0,f1,f2,f3,f4,f5⟩:=hf it (by simp)
  refine wpAny_pyNext_list_item st p.isList (x:=u) (by simpa using hu) fun h' st' sb =>?_
  have I1:Inv X pins σ H { s with heap:=h' }:=I.turned (t':=s.toks) (fun b o hb e =>(sb.2 b hb).trans e) f0 f1 f3 f4 f5
  obtain ⟨o,e,c,d⟩:=id st'
  exact ⟨u,rfl,go_of (s:={ s with heap:=h' }) e c d (by decide) ⟨x,H,I1,ru,⟨rfl,fun ys hy =>by rw [I.list_inj hy hq]; exact hx⟩,st',fun b hb =>(hf b hb).1⟩⟩
 done:=by
  intro X hP hw hK hc i pins s σ H E I hf st hg
  subst hP hw hK
  obtain ⟨xs,hq,hx⟩:=hg
  obtain ⟨its,rv,p,hz⟩:=I.list hq
  obtain ⟨f0,f1,f2,f3,f4,f5⟩:=hf it (by simp)
  have hl:=rv.length
  exact wpAny_pyNext_list_end (I.ok.hd hc) st p.isList (by simp; omega) fun h' eb =>⟨rfl,I.turned (t':=s.toks) (fun b o hb e =>eb b o hb e) f0 f1 f3 f4 f5⟩
 self:=fun _ _ _ _ _ st h =>wpAny_pyIter_listiter st h
theorem turn_tuple {P:Program} {w:World} {K:PySem.W.Frag} {tg:Expr} (a it:Addr):Turn P w K tg (Itt K a) [it] it (fun i h =>h.IsTupleIter it a i) where
 mem:=by simp
 obj:=fun i h st b hb =>by
  have e:b = it:=by simpa using hb
  subst e
  obtain ⟨o,e,c,d⟩:=st
  exact ⟨o,e,fun v z =>by rw [d] at z; cases z⟩
 keep:=fun i h h' st k =>st.at fun o e =>k it (by simp) o e
 item:=by
  intro X hP hw hK hc i pins s σ H E I hf st hg
  subst hP hw hK
  obtain ⟨xs,x,hq,hx⟩:=hg
  obtain ⟨its,rv,p,hz⟩:=I.tuple hq
  obtain ⟨u,hu,ru⟩:=rv.get hx
  obtain ⟨f0,f1,f2,f3,f4,f5⟩:=hf it (by simp)
  refine wpAny_pyNext_tuple_item st (show s.heap.IsTuple a its.toArray from p) (x:=u) (by simpa using hu) fun h' st' sb =>?_
  have I1:Inv X pins σ H { s with heap:=h' }:=I.turned (t':=s.toks) (fun b o hb e =>(sb.2 b hb).trans e) f0 f1 f3 f4 f5
  obtain ⟨o,e,c,d⟩:=id st'
  exact ⟨u,rfl,go_of (s:={ s with heap:=h' }) e c d (by decide) ⟨x,H,I1,ru,⟨rfl,fun ys hy =>by rw [I.tuple_inj hy hq]; exact hx⟩,st',fun b hb =>(hf b hb).1⟩⟩
 done:=by
  intro X hP hw hK hc i pins s σ H E I hf st hg
  subst hP hw hK
  obtain ⟨xs,hq,hx⟩:=hg
  obtain ⟨its,rv,p,hz⟩:=I.tuple hq
  obtain ⟨f0,f1,f2,f3,f4,f5⟩:=hf it (by simp)
  have hl:=rv.length
  exact wpAny_pyNext_tuple_end (I.ok.hd hc) st (show s.heap.IsTuple a its.toArray from p) (by simp; omega) fun h' eb =>⟨rfl,I.turned (t':=s.toks) (fun b o hb e =>eb b o hb e) f0 f1 f3 f4 f5⟩
 self:=fun _ _ _ _ _ st h =>wpAny_pyIter_tupleiter st h
theorem turn_range {P:Program} {w:World} {K:PySem.W.Frag} {tg:Expr} (it:Addr) (lo:Int) (n:Nat):Turn P w K tg (Itr lo n) [it] it (fun i h =>IsRangeIter h it (lo + (i:Nat) * 1) ((n:Int) - (i:Nat)) 1) where
 mem:=by simp
 obj:=fun i h st b hb =>by
  have e:b = it:=by simpa using hb
  subst e
  exact ⟨_,st,fun v z =>by
   have z':Data.fields _ = Data.cell v:=z
   cases z'⟩
 keep:=fun i h h' st k =>k it (by simp) _ st
 item:=by
  intro X hP hw hK hc i pins s σ H E I hf st hg
  subst hP hw hK
  obtain ⟨f0,f1,f2,f3,f4,f5⟩:=hf it (by simp)
  have W:=Walks.range (prog:=X.prog) (w:=X.w) (I.ok.hd hc) it lo 1 n
  refine W.item i s _ _ hg st fun v h' tk hv st' kk =>?_
  obtain ⟨t,rfl⟩:=hv
  have I1:Inv X pins σ H { s with heap:=h',toks:=tk }:=I.turned (fun b o hb e =>kk b o (by simpa using hb) e) f0 f1 f3 f4 f5
  refine ⟨_,rfl,go_of (s:={ s with heap:=h',toks:=tk }) (n:="range_iterator") st' rfl rfl (by decide) ⟨.int (lo + i),H,I1,⟨t,?_⟩,⟨rfl,rfl⟩,st',fun b hb =>(hf b hb).1⟩⟩
  rw [Int.mul_one]
 done:=by
  intro X hP hw hK hc i pins s σ H E I hf st hg
  subst hP hw hK
  obtain ⟨f0,f1,f2,f3,f4,f5⟩:=hf it (by simp)
  exact wpAny_pyNext_range_end (I.ok.hd hc) st (by have:n ≤ i:=hg; omega) fun h' eb =>⟨rfl,I.turned (t':=s.toks) (fun b o hb e =>eb b o hb e) f0 f1 f3 f4 f5⟩
 self:=fun _ _ _ _ _ st h =>wpAny_pyIter_rangeiter st h
end L2
namespace L2
open PySem PySem.Spec PyProof.Rows
section
variable {X:Cx} {tg:Expr}
noncomputable def iList (K:PySem.W.Frag) (tl:TE):TI:=fun σ H R =>tl σ H fun x H1 =>∃ a,x = .ref a ∧ (∃ xs,SqL K H1 a xs) ∧ R (Itl K a) H1
noncomputable def iTup (K:PySem.W.Frag) (tl:TE):TI:=fun σ H R =>tl σ H fun x H1 =>∃ a,x = .ref a ∧ (∃ xs,SqT K H1 a xs) ∧ R (Itt K a) H1
theorem pi_list {l:Expr} {tl:TE} (hl:PE X l tl):PI X tg l (iList X.K tl):=by
 intro pins s σ H R I h
 refine thn (hl pins s σ H _ I h) fun v s1 ⟨x,H1,I1,r1,q1⟩ =>?_
 obtain ⟨a,e,⟨xs,hq⟩,q⟩:=q1
 subst e
 cases r1
 obtain ⟨its,rv,p,hz⟩:=I1.list hq
 refine wpAny_pyIter_list p.isList ?_
 refine ⟨s1.heap.objs.size,[s1.heap.objs.size],_,_,H1,rfl,I1.kept (t':=s1.toks) fun b o e =>Heap.get?_push_of_some _ e,turn_list a _,⟨_,Heap.get?_push_size _ rfl,rfl,rfl⟩,fun b hb =>?_,q⟩
 have e:b = s1.heap.objs.size:=by simpa using hb
 subst e
 exact I1.fpOk (Nat.le_refl _) (I1.hok.fresh (Nat.le_refl _))
theorem pi_tup {l:Expr} {tl:TE} (hl:PE X l tl):PI X tg l (iTup X.K tl):=by
 intro pins s σ H R I h
 refine thn (hl pins s σ H _ I h) fun v s1 ⟨x,H1,I1,r1,q1⟩ =>?_
 obtain ⟨a,e,⟨xs,hq⟩,q⟩:=q1
 subst e
 cases r1
 obtain ⟨its,rv,p,hz⟩:=I1.tuple hq
 refine wpAny_pyIter_tuple (show s1.heap.IsTuple a its.toArray from p) ?_
 refine ⟨s1.heap.objs.size,[s1.heap.objs.size],_,_,H1,rfl,I1.kept (t':=s1.toks) fun b o e =>Heap.get?_push_of_some _ e,turn_tuple a _,⟨_,Heap.get?_push_size _ rfl,rfl,rfl⟩,fun b hb =>?_,q⟩
 have e:b = s1.heap.objs.size:=by simpa using hb
 subst e
 exact I1.fpOk (Nat.le_refl _) (I1.hok.fresh (Nat.le_refl _))
theorem range_it {pins:List (Addr × Obj)} {σ:St} {H:Hp} {s:Shared} {R:It → Hp → Prop} {E:Value → Shared → Prop} {lo hi:Int} {t u v:Tok} {tk:Nat} (I:Inv X pins σ H s) (h1:-(2 ^ 62) ≤ lo) (h2:lo < 2 ^ 62) (h3:-(2 ^ 62) ≤ hi) (h4:hi < 2 ^ 62)
 (q:R (Itr lo (hi - lo).toNat) H):wpAny (model X.prog X.w) X.A (pyIter (.ref s.heap.objs.size)) (PIE X pins σ tg R) E { s with heap:=s.heap.push { cls:=.type "range",data:=.fields #[.int lo t,.int hi u,.int 1 v] },toks:=tk }:=by
 refine wpAny_pyIter_range (IsRange.new ..) (small_one h1 h2 h3 h4) ?_
 have I1:Inv X pins σ H { s with heap:=s.heap.push { cls:=.type "range",data:=.fields #[.int lo t,.int hi u,.int 1 v] },toks:=tk }:=I.kept fun b o e =>Heap.get?_push_of_some _ e
 refine ⟨(s.heap.push { cls:=.type "range",data:=.fields #[.int lo t,.int hi u,.int 1 v] }).objs.size,[(s.heap.push { cls:=.type "range",data:=.fields #[.int lo t,.int hi u,.int 1 v] }).objs.size],_,_,H,rfl,
  I1.kept (t':=tk) fun b o e =>Heap.get?_push_of_some _ e,turn_range _ lo (hi - lo).toNat,?_,fun b hb =>?_,q⟩
 ·have e1:lo + ((0:Nat):Int) * 1 = lo:=by simp
  have e2:(((hi - lo).toNat:Nat):Int) - ((0:Nat):Int) = Builtin.Range.rangeSize lo hi 1:=by rw [rangeSize_one]; split <;> omega
  show IsRangeIter _ _ (lo + ((0:Nat):Int) * 1) ((((hi - lo).toNat:Nat):Int) - ((0:Nat):Int)) 1
  rw [e1,e2]
  exact Heap.get?_push_size _ rfl
 ·have e:b = (s.heap.push { cls:=.type "range",data:=.fields #[.int lo t,.int hi u,.int 1 v] }).objs.size:=by simpa using hb
  subst e
  exact I1.fpOk (Nat.le_refl _) (I1.hok.fresh (Nat.le_refl _))
noncomputable def iRng1 (ta:TA):TI:=fun σ H R =>ta σ H fun vs H1 =>∃ j:Int,vs = [.int j] ∧ -(2 ^ 62) ≤ j ∧ j < 2 ^ 62 ∧ R (Itr 0 j.toNat) H1
theorem pi_range1 {a:Expr} {ta:TA} {p pos:Pos} (hg:Gl X "range") (hm:X.mg "range" = none) (ha:PA X [a] ta) (hs:starEach [a] X.env = [(false,eval a X.env)]:=by rfl):PI X tg (.Call (.Name "range" p) [a] [] pos) (iRng1 ta):=by
 intro pins s σ H R I h
 refine Call_ (ld_blt I hg hm boot_range (PyProof.Rows.callWith_type1 (thn (ha pos pins s σ H _ I h) fun us s1 ⟨vs,H1,I1,r1,q1⟩ =>?_) hs rfl))
 obtain ⟨j,e,q1,q2,q⟩:=q1
 subst e
 cases r1 with
 | cons r rr =>
   cases rr
   obtain ⟨t,rfl⟩:=r
   exact call_range_1 (range_it I1 (by omega) (by omega) q1 q2 (by simpa using q))
noncomputable def tFor (wi:TI) (g:TG) (tb:TS):TS:=fun D σ H =>wi σ H fun J H1 =>∃ W:Nat → Nat → St → Hp → Prop,(∃ m,W 0 m σ H1) ∧ ∀ i m σ H,W i m σ H →
 (J.stop i H ∧ D.nx σ H) ∨ (J.go i H ∧ ∃ N:St → Hp → Prop,(∀ σ' H',N σ' H' → ∃ m',m' < m ∧ W (i + 1) m' σ' H') ∧ ∀ x H',J.yld i H x H' → g x σ H' fun σ2 H2 =>tb { D with nx:=N,ct:=N,bk:=D.nx } σ2 H2)
noncomputable def pinsAt (fp:List Addr) (h:Heap):List (Addr × Obj):=fp.filterMap fun b =>(h.get? b).map fun o =>(b,o)
theorem mem_pinsAt {fp:List Addr} {h:Heap} {b:Addr} {o:Obj} (hb:b ∈ fp) (e:h.get? b = some o):(b,o) ∈ pinsAt fp h:=List.mem_filterMap.mpr ⟨b,hb,by rw [e]; rfl⟩
theorem of_pinsAt {fp:List Addr} {h:Heap} {p:Addr × Obj} (hp:p ∈ pinsAt fp h):p.1 ∈ fp ∧ h.get? p.1 = some p.2:=by
 obtain ⟨b,hb,e⟩:=List.mem_filterMap.mp hp
 cases q:h.get? b with
 | none =>rw [q] at e; cases e
 | some o =>
   rw [q] at e
   have e':(b,o) = p:=Option.some.inj e
   subst e'
   exact ⟨hb,q⟩
theorem Inv.pinned {pins:List (Addr × Obj)} {σ:St} {H:Hp} {s:Shared} {fp:List Addr} (I:Inv X pins σ H s) (hf:∀ b ∈ fp,FpOk X pins H b) (ho:∀ b ∈ fp,∃ o,s.heap.get? b = some o ∧ ∀ v,o.data ≠ .cell v):Inv X (pins ++ pinsAt fp s.heap) σ H s :=
 I.pins_of fun p hp =>(List.mem_append.mp hp).elim (fun z =>I.pin p (List.mem_append_right _ z)) fun z =>by
  obtain ⟨hb,e⟩:=of_pinsAt z
  obtain ⟨f0,f1,f2,_⟩:=hf p.1 hb
  obtain ⟨o,e',d⟩:=ho p.1 hb
  rw [e] at e'; cases e'
  exact ⟨e,f0,f1,f2,d⟩
theorem Inv.unpinned {pins pl:List (Addr × Obj)} {σ:St} {H:Hp} {s:Shared} (I:Inv X (pins ++ pl) σ H s):Inv X pins σ H s:=I.pins_of fun p hp =>I.pin p (List.mem_append_right _ (List.mem_append_left _ hp))
theorem ps_for {iter:Expr} {body:List Stmt} {wi:TI} {g:TG} {tb:TS} {pos:Pos} (hp:PassesOwn (model X.prog X.w) X.A X.env X.xe) (hc:X.calm = true) (hi:PI X tg iter wi) (hg:PG X tg g) (hb:PSs X body tb)
 (hs:∀ x,foldedSetIterable iter X.env x = pure x:=by intro _; rfl):PS X (.For tg iter body [] pos) (tFor wi g tb):=by
 intro pins s σ H D I h
 refine wpAny_For (thn (hi pins s σ H _ I h) fun v s1 h1 =>thn h1 fun itv s2 h2 =>?_) hs
 obtain ⟨it,fp,tn,J,H2,e,I2,T,st2,f2,W,⟨m0,w0⟩,turn⟩:=h2
 subst e
 have stat:∀ {H':Hp},(∀ b ∈ fp,H' b = none) → ∀ b ∈ fp,FpOk X pins H' b:=fun hn b hb =>⟨hn b hb,(f2 b hb).2⟩
 refine codeAny_forLoop_any (fun n s' =>∃ i σ' H',Inv X pins σ' H' s' ∧ tn i s'.heap ∧ (∀ b ∈ fp,H' b = none) ∧ W i n σ' H') ?_ m0 ⟨0,σ,H2,I2,st2,fun b hb =>(f2 b hb).1,w0⟩
 rintro n s3 ⟨i,σ3,H3,I3,st3,fr3,w3⟩
 rcases turn i n σ3 H3 w3 with ⟨stop,qn⟩ | ⟨go,N,hN,step⟩
 ·refine wpAny_passesOwn hp (thn (T.done X rfl rfl rfl hc i pins s3 σ3 H3 X.xe I3 (stat fr3) st3 stop) fun r s4 ⟨hr,I4⟩ =>?_)
  subst hr
  exact wpAny_execs_nil ⟨σ3,H3,I4,qn⟩
 ·refine wpAny_passesOwn hp (thn (T.item X rfl rfl rfl hc i pins s3 σ3 H3 X.xe I3 (stat fr3) st3 go) fun r s4 ⟨u,hr,h4⟩ =>?_)
  subst hr
  refine wpAny_passesOwn hp (thn h4 fun _ s5 ⟨x,H5,I5,r5,y5,st5,fr5⟩ =>?_)
  have I5':=I5.pinned (stat fr5) (T.obj _ _ st5)
  refine wpAny_passesOwn hp (thn (hg _ s5 σ3 H5 x u _ I5' r5 (step x H5 y5)) fun _ s6 ⟨σ6,H6,I6,q6⟩ =>?_)
  refine wpAny_passesOwn hp (thn (hb _ s6 σ6 H6 _ I6 q6) fun f s7 q7 =>?_)
  have again:∀ {σ7:St} {H7:Hp},Inv X (pins ++ pinsAt fp s5.heap) σ7 H7 s7 → N σ7 H7 → ∃ m,m < n ∧ ∃ i σ' H',Inv X pins σ' H' s7 ∧ tn i s7.heap ∧ (∀ b ∈ fp,H' b = none) ∧ W i m σ' H':=fun {σ7 H7} I7 n7 =>by
   obtain ⟨m',hm,w7⟩:=hN σ7 H7 n7
   refine ⟨m',hm,i + 1,σ7,H7,I7.unpinned,T.keep _ _ _ st5 fun b hb o e =>(I7.pin (b,o) (List.mem_append_right _ (List.mem_append_right _ (mem_pinsAt hb e)))).1,fun b hb =>?_,w7⟩
   obtain ⟨o,e,d⟩:=T.obj _ _ st5 b hb
   exact (I7.pin (b,o) (List.mem_append_right _ (List.mem_append_right _ (mem_pinsAt hb e)))).2.1
  cases f with
  | next =>obtain ⟨σ7,H7,I7,n7⟩:=q7; exact again I7 n7
  | cont =>obtain ⟨σ7,H7,I7,n7⟩:=q7; exact again I7 n7
  | brk =>obtain ⟨σ7,H7,I7,q7⟩:=q7; exact ⟨σ7,H7,I7.unpinned,q7⟩
  | ret v =>obtain ⟨x7,σ7,H7,I7,r7,q7⟩:=q7; exact ⟨x7,σ7,H7,I7.unpinned,r7,q7⟩
end
end L2
namespace L2
open PySem PySem.Spec PyProof.Rows
noncomputable abbrev R2:=V → V → Hp → VK → Prop
noncomputable def OpR (X:Cx) (f:Value → Value → Sem Value) (r:R2):Prop :=
 ∀ (pins:List (Addr × Obj)) (s:Shared) (σ:St) (H:Hp) (x y:V) (v u:Value) (Q:VK),Inv X pins σ H s → RelV x v → RelV y u → r x y H Q →
  wpAny (model X.prog X.w) X.A (f v u) (EP X pins σ Q) X.xe s
noncomputable def UnR (X:Cx) (f:Value → Sem Value) (r:V → Hp → VK → Prop):Prop :=
 ∀ (pins:List (Addr × Obj)) (s:Shared) (σ:St) (H:Hp) (x:V) (v:Value) (Q:VK),Inv X pins σ H s → RelV x v → r x H Q →
  wpAny (model X.prog X.w) X.A (f v) (EP X pins σ Q) X.xe s
noncomputable def CallR (X:Cx) (f:Value) (r:List V → Hp → VK → Prop):Prop :=
 ∀ (pins:List (Addr × Obj)) (s:Shared) (σ:St) (H:Hp) (xs:List V) (us:List Value) (Q:VK),Inv X pins σ H s → Vals xs us → r xs H Q →
  wpAny (model X.prog X.w) X.A (call f us) (EP X pins σ Q) X.xe s
noncomputable def TruR (X:Cx) (r:V → Hp → (Bool → Hp → Prop) → Prop):Prop :=
 ∀ (pins:List (Addr × Obj)) (s:Shared) (σ:St) (H:Hp) (x:V) (v:Value) (Q:Bool → Hp → Prop),Inv X pins σ H s → RelV x v → r x H Q →
  wpAny (model X.prog X.w) X.A (truthy v) (TP X pins σ Q) X.xe s
noncomputable def tOp (r:R2) (ta tb:TE):TE:=fun σ H Q =>ta σ H fun x H1 =>tb σ H1 fun y H2 =>r x y H2 Q
noncomputable def tUn (r:V → Hp → VK → Prop) (ta:TE):TE:=fun σ H Q =>ta σ H fun x H1 =>r x H1 Q
noncomputable def rI (C:Int → Int → Prop) (g:Int → Int → V):R2:=fun x y H Q =>∃ i j,x = .int i ∧ y = .int j ∧ C i j ∧ Q (g i j) H
noncomputable def rI0 (g:Int → Int → V):R2:=fun x y H Q =>∃ i j,x = .int i ∧ y = .int j ∧ Q (g i j) H
noncomputable def rU (g:Int → V):V → Hp → VK → Prop:=fun x H Q =>∃ i,x = .int i ∧ Q (g i) H
section
variable {X:Cx} {a b c:Expr} {ta tb tc:TE} {pos:Pos}
theorem binT (ha:PE X a ta) (hb:PE X b tb) {pins:List (Addr × Obj)} {s:Shared} {σ:St} {H:Hp} {R:V → V → Hp → Prop} (I:Inv X pins σ H s)
 (h:ta σ H fun x H1 =>tb σ H1 fun y H2 =>R x y H2) {Q:Value → Shared → Prop} {f:Value → Value → Sem Value}
 (hf:∀ v u s2 x y H2,Inv X pins σ H2 s2 → RelV x v → RelV y u → R x y H2 → wpAny (model X.prog X.w) X.A (f v u) Q X.xe s2) :
 wpAny (model X.prog X.w) X.A (eval a X.env) (fun v s₁ =>wpAny (model X.prog X.w) X.A (eval b X.env) (fun u s₂ =>wpAny (model X.prog X.w) X.A (f v u) Q X.xe s₂) X.xe s₁) X.xe s:=by
 refine thn (ha pins s σ H _ I h) fun v s1 ⟨x,H1,I1,r1,q1⟩ =>?_
 refine thn (hb pins s1 σ H1 _ I1 q1) fun u s2 ⟨y,H2,I2,r2,q2⟩ =>?_
 exact hf v u s2 x y H2 I2 r1 r2 q2
theorem pe_op {op:Operator} {r:R2} (ho:OpR X (binaryOp op) r) (ha:PE X a ta) (hb:PE X b tb):PE X (.BinOp a op b pos) (tOp r ta tb):=by
 intro pins s σ H Q I h
 exact wpAny_BinOp (binT ha hb I h fun v u s2 x y H2 I2 rx ry q =>ho pins s2 σ H2 x y v u Q I2 rx ry q)
theorem pe_un {op:UnaryOp} {r:V → Hp → VK → Prop} (ho:UnR X (unaryOp op) r) (ha:PE X a ta):PE X (.UnaryOp op a pos) (tUn r ta):=by
 intro pins s σ H Q I h
 exact UnaryOp_ (thn (ha pins s σ H _ I h) fun v s1 ⟨x,H1,I1,r1,q1⟩ =>ho pins s1 σ H1 x v Q I1 r1 q1)
theorem opI {f:Value → Value → Sem Value} {C:Int → Int → Prop} {g:Int → Int → Int}
 (rule:∀ (i j:Int) (t u:Tok) (s:Shared) (Q:Value → Shared → Prop) (E:Value → Shared → Prop),C i j → Q (.int (g i j) s.toks) { s with toks:=s.toks + 1 } → wpAny (model X.prog X.w) X.A (f (.int i t) (.int j u)) Q E s) :
 OpR X f (rI C fun i j =>.int (g i j)):=by
 intro pins s σ H x y v u Q I rx ry h
 obtain ⟨i,j,rfl,rfl,hc,q⟩:=h
 obtain ⟨t,rfl⟩:=rx
 obtain ⟨t',rfl⟩:=ry
 exact rule i j t t' s _ _ hc ⟨.int (g i j),H,I.tok _,⟨_,rfl⟩,q⟩
theorem opI0 {f:Value → Value → Sem Value} {g:Int → Int → Int}
 (rule:∀ (i j:Int) (t u:Tok) (s:Shared) (Q:Value → Shared → Prop) (E:Value → Shared → Prop),Q (.int (g i j) s.toks) { s with toks:=s.toks + 1 } → wpAny (model X.prog X.w) X.A (f (.int i t) (.int j u)) Q E s) :
 OpR X f (rI0 fun i j =>.int (g i j)):=by
 intro pins s σ H x y v u Q I rx ry h
 obtain ⟨i,j,rfl,rfl,q⟩:=h
 obtain ⟨t,rfl⟩:=rx
 obtain ⟨t',rfl⟩:=ry
 exact rule i j t t' s _ _ ⟨.int (g i j),H,I.tok _,⟨_,rfl⟩,q⟩
theorem opB0 {f:Value → Value → Sem Value} {g:Int → Int → Bool}
 (rule:∀ (i j:Int) (t u:Tok) (s:Shared) (Q:Value → Shared → Prop) (E:Value → Shared → Prop),Q (.bool (g i j)) s → wpAny (model X.prog X.w) X.A (f (.int i t) (.int j u)) Q E s) :
 OpR X f (rI0 fun i j =>.bl (g i j)):=by
 intro pins s σ H x y v u Q I rx ry h
 obtain ⟨i,j,rfl,rfl,q⟩:=h
 obtain ⟨t,rfl⟩:=rx
 obtain ⟨t',rfl⟩:=ry
 exact rule i j t t' s _ _ ⟨.bl (g i j),H,I,rfl,q⟩
noncomputable def CPow (i j:Int):Prop:=0 ≤ j ∧ j ≤ 1000000 ∧ i.natAbs < 2 ^ 64
theorem op_add:OpR X (binaryOp .Add) (rI0 fun i j =>.int (i + j)):=opI0 fun _ _ _ _ _ _ _ q =>add_int q
theorem op_sub:OpR X (binaryOp .Sub) (rI0 fun i j =>.int (i - j)):=opI0 fun _ _ _ _ _ _ _ q =>sub_int q
theorem op_modN:OpR X (binaryOp .Mod) (rI (fun _ j =>j ≠ 0) fun i j =>.int (i.fmod j)):=opI fun _ _ _ _ _ _ _ hc q =>mod_int' hc q
theorem op_pow:OpR X (binaryOp .Pow) (rI CPow fun i j =>.int (i ^ j.toNat)):=opI fun _ _ _ _ _ _ _ hc q =>pow_int_small hc.1 hc.2.1 hc.2.2 q
theorem unI {f:Value → Sem Value} {g:Int → Int}
 (rule:∀ (i:Int) (t:Tok) (s:Shared) (Q:Value → Shared → Prop) (E:Value → Shared → Prop),Q (.int (g i) s.toks) { s with toks:=s.toks + 1 } → wpAny (model X.prog X.w) X.A (f (.int i t)) Q E s) :
 UnR X f (rU fun i =>.int (g i)):=by
 intro pins s σ H x v Q I rx h
 obtain ⟨i,rfl,q⟩:=h
 obtain ⟨t,rfl⟩:=rx
 exact rule i t s _ _ ⟨.int (g i),H,I.tok _,⟨_,rfl⟩,q⟩
theorem un_neg:UnR X (unaryOp .USub) (rU fun i =>.int (-i)):=unI fun _ _ _ _ _ q =>neg_int q
end
noncomputable def scal:V → V → Bool
 | .non,.non =>true | .non,.int _ =>true | .int _,.non =>true | .non,.bl _ =>true | .bl _,.non =>true | .non,.str _ =>true | .str _,.non =>true
 | .int _,.int _ =>true | .bl _,.bl _ =>true | .str _,.str _ =>true | .byt _,.byt _ =>true
 | .int _,.str _ =>true | .str _,.int _ =>true | .bl _,.str _ =>true | .str _,.bl _ =>true
 | _,_ =>false
noncomputable def rEq:R2:=fun x y H Q =>scal x y = true ∧ Q (.bl (decide (x = y))) H
noncomputable def rNe:R2:=fun x y H Q =>scal x y = true ∧ Q (.bl (!decide (x = y))) H
theorem dec_int {i j:Int}:decide (V.int i = V.int j) = (i == j):=by
 rw [Bool.eq_iff_iff]
 simp
theorem dec_bl {i j:Bool}:decide (V.bl i = V.bl j) = (i == j):=by
 rw [Bool.eq_iff_iff]
 simp
theorem dec_str {i j:Str}:decide (V.str i = V.str j) = (i == j):=by
 rw [Bool.eq_iff_iff]
 simp
theorem dec_byt {i j:Array UInt8}:decide (V.byt i = V.byt j) = (i.toList == j.toList):=by
 rw [Bool.eq_iff_iff]
 cases i
 cases j
 simp
section
variable {X:Cx} {a b c:Expr} {ta tb tc:TE} {pos:Pos}
theorem fin_bl {pins:List (Addr × Obj)} {σ:St} {H:Hp} {s:Shared} {Q:VK} {k k':Bool} (I:Inv X pins σ H s) (q:Q (.bl k) H) (e:k = k'):EP X pins σ Q (.bool k') s:=by
 subst e
 exact ⟨.bl k,H,I,rfl,q⟩
theorem op_eq:OpR X (compareOp .Eq) rEq:=by
 intro pins s σ H x y v u Q I rx ry h
 obtain ⟨hs,q⟩:=h
 cases x with
 | non =>
   cases rx
   cases y with
   | non =>cases ry; exact PySem.EqNone.eq_none_none (fin_bl I q (by simp))
   | bl j =>cases ry; exact PySem.EqNone.eq_none_bool (fin_bl I q (by simp))
   | int j =>obtain ⟨t',rfl⟩:=ry; exact PySem.EqNone.eq_none_int (fin_bl I q (by simp))
   | str j =>obtain ⟨t',rfl⟩:=ry; exact PySem.EqNone.eq_none_str (fin_bl I q (by simp))
   | _ =>exact absurd (show false = true from hs) Bool.false_ne_true
 | bl i =>
   cases rx
   cases y with
   | non =>cases ry; exact PySem.EqNone.eq_bool_none (fin_bl I q (by simp))
   | bl j =>cases ry; exact eq_bool (fin_bl I q dec_bl)
   | str j =>obtain ⟨t',rfl⟩:=ry; exact PySem.EqMixed.eq_bool_str (fin_bl I q (by simp))
   | _ =>exact absurd (show false = true from hs) Bool.false_ne_true
 | int i =>
   obtain ⟨t,rfl⟩:=rx
   cases y with
   | non =>cases ry; exact PySem.EqNone.eq_int_none (fin_bl I q (by simp))
   | int j =>obtain ⟨t',rfl⟩:=ry; exact eq_int (fin_bl I q dec_int)
   | str j =>obtain ⟨t',rfl⟩:=ry; exact PySem.EqMixed.eq_int_str (fin_bl I q (by simp))
   | _ =>exact absurd (show false = true from hs) Bool.false_ne_true
 | str i =>
   obtain ⟨t,rfl⟩:=rx
   cases y with
   | non =>cases ry; exact PySem.EqNone.eq_str_none (fin_bl I q (by simp))
   | bl j =>cases ry; exact PySem.EqMixed.eq_str_bool (fin_bl I q (by simp))
   | int j =>obtain ⟨t',rfl⟩:=ry; exact PySem.EqMixed.eq_str_int (fin_bl I q (by simp))
   | str j =>obtain ⟨t',rfl⟩:=ry; exact eq_str (fin_bl I q dec_str)
   | _ =>exact absurd (show false = true from hs) Bool.false_ne_true
 | byt i =>
   obtain ⟨t,rfl⟩:=rx
   cases y with
   | byt j =>obtain ⟨t',rfl⟩:=ry; exact PySem.W.eq_bytes (fin_bl I q dec_byt)
   | _ =>exact absurd (show false = true from hs) Bool.false_ne_true
 | _ =>cases y <;> exact absurd (show false = true from hs) Bool.false_ne_true
theorem op_ne:OpR X (compareOp .NotEq) rNe:=by
 intro pins s σ H x y v u Q I rx ry h
 obtain ⟨hs,q⟩:=h
 cases x with
 | non =>
   cases rx
   cases y with
   | non =>cases ry; exact PySem.EqNone.ne_none_none (fin_bl I q (by simp))
   | bl j =>cases ry; exact PySem.EqNone.ne_none_bool (fin_bl I q (by simp))
   | int j =>obtain ⟨t',rfl⟩:=ry; exact PySem.EqNone.ne_none_int (fin_bl I q (by simp))
   | str j =>obtain ⟨t',rfl⟩:=ry; exact PySem.EqNone.ne_none_str (fin_bl I q (by simp))
   | _ =>exact absurd (show false = true from hs) Bool.false_ne_true
 | bl i =>
   cases rx
   cases y with
   | non =>cases ry; exact PySem.EqNone.ne_bool_none (fin_bl I q (by simp))
   | bl j =>cases ry; exact ne_bool (fin_bl I q (congrArg not dec_bl))
   | str j =>obtain ⟨t',rfl⟩:=ry; exact PySem.EqMixed.ne_bool_str (fin_bl I q (by simp))
   | _ =>exact absurd (show false = true from hs) Bool.false_ne_true
 | int i =>
   obtain ⟨t,rfl⟩:=rx
   cases y with
   | non =>cases ry; exact PySem.EqNone.ne_int_none (fin_bl I q (by simp))
   | int j =>obtain ⟨t',rfl⟩:=ry; exact ne_int (fin_bl I q (congrArg not dec_int))
   | str j =>obtain ⟨t',rfl⟩:=ry; exact PySem.EqMixed.ne_int_str (fin_bl I q (by simp))
   | _ =>exact absurd (show false = true from hs) Bool.false_ne_true
 | str i =>
   obtain ⟨t,rfl⟩:=rx
   cases y with
   | non =>cases ry; exact PySem.EqNone.ne_str_none (fin_bl I q (by simp))
   | bl j =>cases ry; exact PySem.EqMixed.ne_str_bool (fin_bl I q (by simp))
   | int j =>obtain ⟨t',rfl⟩:=ry; exact PySem.EqMixed.ne_str_int (fin_bl I q (by simp))
   | str j =>obtain ⟨t',rfl⟩:=ry; exact ne_str (fin_bl I q (congrArg not dec_str))
   | _ =>exact absurd (show false = true from hs) Bool.false_ne_true
 | byt i =>
   obtain ⟨t,rfl⟩:=rx
   cases y with
   | byt j =>obtain ⟨t',rfl⟩:=ry; exact PySem.W.ne_bytes (fin_bl I q (congrArg not dec_byt))
   | _ =>exact absurd (show false = true from hs) Bool.false_ne_true
 | _ =>cases y <;> exact absurd (show false = true from hs) Bool.false_ne_true
theorem op_lt:OpR X (compareOp .Lt) (rI0 fun i j =>.bl (decide (i < j))):=opB0 fun _ _ _ _ _ _ _ q =>lt_int q
theorem op_le:OpR X (compareOp .LtE) (rI0 fun i j =>.bl (decide (i ≤ j))):=opB0 fun _ _ _ _ _ _ _ q =>le_int q
theorem op_gt:OpR X (compareOp .Gt) (rI0 fun i j =>.bl (decide (j < i))):=opB0 fun _ _ _ _ _ _ _ q =>gt_int q
theorem op_ge:OpR X (compareOp .GtE) (rI0 fun i j =>.bl (decide (j ≤ i))):=opB0 fun _ _ _ _ _ _ _ q =>ge_int q
theorem op_lt_str:OpR X (compareOp .Lt) (fun x y H Q =>∃ i j,x = .str i ∧ y = .str j ∧ Q (.bl (decide (i.cps.toList < j.cps.toList))) H):=by
 intro pins s σ H x y v u Q I rx ry h
 obtain ⟨i,j,rfl,rfl,q⟩:=h
 obtain ⟨t,rfl⟩:=rx
 obtain ⟨t',rfl⟩:=ry
 exact lt_str (fin_bl I q rfl)
theorem op_isN:OpR X (compareOp .Is) (fun x y H Q =>y = .non ∧ Q (.bl (decide (x = .non))) H):=by
 intro pins s σ H x y v u Q I rx ry h
 obtain ⟨rfl,q⟩:=h
 cases ry
 refine is_none_gen (fin_bl I q ?_)
 cases x <;> first
  | (cases rx; rfl)
  | (obtain ⟨t,rfl⟩:=rx; rfl)
theorem op_notN:OpR X (compareOp .IsNot) (fun x y H Q =>y = .non ∧ Q (.bl (!decide (x = .non))) H):=by
 intro pins s σ H x y v u Q I rx ry h
 obtain ⟨rfl,q⟩:=h
 cases ry
 refine isnot_none_gen (fin_bl I q ?_)
 cases x <;> first
  | (cases rx; rfl)
  | (obtain ⟨t,rfl⟩:=rx; rfl)
theorem OpR.or {f:Value → Value → Sem Value} {r r':R2} (h:OpR X f r) (h':OpR X f r'):OpR X f (fun x y H Q =>r x y H Q ∨ r' x y H Q):=by
 intro pins s σ H x y v u Q I rx ry q
 rcases q with q | q
 ·exact h pins s σ H x y v u Q I rx ry q
 ·exact h' pins s σ H x y v u Q I rx ry q
theorem pe_cmpR {op:CmpOp} {r:R2} (ho:OpR X (compareOp op) r) (ha:PE X a ta) (hb:PE X b tb) (hm:behindInMarks op b = false):PE X (.Compare a [op] [b] pos) (tOp r ta tb):=by
 intro pins s σ H Q I h
 exact wpAny_Compare1 (binT ha hb I h fun v u s2 x y H2 I2 rx ry q =>ho pins s2 σ H2 x y v u Q I2 rx ry q) hm
noncomputable def tTest (t:TE):TT:=fun σ H Q =>t σ H fun x H' =>∃ k,x = .bl k ∧ Q k H'
theorem pt_cmpR {op:CmpOp} {r:R2} (ho:OpR X (compareOp op) r) (ha:PE X a ta) (hb:PE X b tb) (hm:behindInMarks op b = false):PT X (.Compare a [op] [b] pos) (tTest (tOp r ta tb)):=by
 intro pins s σ H Q I h
 refine wpAny_isTrue_Compare1 (thn (ha pins s σ H _ I h) fun v s1 ⟨x,H1,I1,r1,q1⟩ =>thn (hb pins s1 σ H1 _ I1 q1) fun u s2 ⟨y,H2,I2,r2,q2⟩ =>
  thn (ho pins s2 σ H2 x y v u _ I2 r1 r2 q2) fun c s3 ⟨z,H3,I3,r3,k,e,q3⟩ =>?_) hm
 subst e
 cases r3
 exact wpAny_truthy_bool ⟨H3,I3,q3⟩
noncomputable def TruV (K:PySem.W.Frag) (x:V) (H:Hp) (k:Bool):Prop :=
 match x with
 | .non =>k = false
 | .bl b =>k = b
 | .int i =>k = (i != 0)
 | .str y =>y.length ≤ sizeLine ∧ k = ((y.length:Int) != 0)
 | .byt y =>y.size ≤ sizeLine ∧ k = ((y.size:Int) != 0)
 | .ref p =>(∃ xs,SqL K H p xs ∧ k = !xs.isEmpty) ∨ (∃ xs,SqT K H p xs ∧ k = !xs.isEmpty) ∨ ∃ kvs ep,H p = some (.dK kvs ep) ∧ k = !kvs.isEmpty
 | _ =>False
theorem isEmpty_kv {κ:Type} {kvs:List (κ × V)} {vs:List (κ × Value)} (r:KV kvs vs):(!vs.isEmpty) = !kvs.isEmpty:=by
 cases r <;> rfl
theorem isEmpty_of {xs:List V} {its:List Value} (r:Vals xs its):(!its.toArray.isEmpty) = !xs.isEmpty:=by
 cases r <;> simp
theorem line63:(sizeLine:Nat) < 2 ^ 63:=by rw [sizeLine_eq]; decide
theorem tru_ok:TruR X (fun x H Q =>∃ k,TruV X.K x H k ∧ Q k H):=by
 intro pins s σ H x v Q I rx h
 obtain ⟨k,e,q⟩:=h
 have hl:=line63
 have hs:sizeLine = 16777216:=sizeLine_eq
 cases x with
 | non =>
   cases rx
   have e':k = false:=e
   subst e'
   exact truthy_none ⟨H,I,q⟩
 | bl b =>
   cases rx
   have e':k = b:=e
   subst e'
   exact wpAny_truthy_bool ⟨H,I,q⟩
 | int i =>
   obtain ⟨t,rfl⟩:=rx
   have e':k = (i != 0):=e
   subst e'
   exact PySem.P.truthy_int ⟨H,I,q⟩
 | str y =>
   obtain ⟨t,rfl⟩:=rx
   obtain ⟨hy,e'⟩:y.length ≤ sizeLine ∧ k = ((y.length:Int) != 0):=e
   subst e'
   exact PySem.P.truthy_str (by omega) ⟨H,I.tok _,q⟩
 | byt y =>
   obtain ⟨t,rfl⟩:=rx
   obtain ⟨hy,e'⟩:y.size ≤ sizeLine ∧ k = ((y.size:Int) != 0):=e
   subst e'
   exact PySem.W.truthy_bytes (by omega) ⟨H,I.tok _,q⟩
 | ref p =>
   cases rx
   have e':(∃ xs,SqL X.K H p xs ∧ k = !xs.isEmpty) ∨ (∃ xs,SqT X.K H p xs ∧ k = !xs.isEmpty) ∨ ∃ kvs ep,H p = some (.dK kvs ep) ∧ k = !kvs.isEmpty:=e
   rcases e' with ⟨xs,hx,e'⟩ | ⟨xs,hx,e'⟩ | ⟨kvs,ep,hx,e'⟩
   ·subst e'
    obtain ⟨its,r,pl,hz⟩:=I.list hx
    have hlen:=r.length
    exact wpAny_truthy_list pl.isList (by simp only [List.size_toArray]; omega) ⟨H,I.tok _,by rw [isEmpty_of r]; exact q⟩
   ·subst e'
    obtain ⟨its,r,pl,hz⟩:=I.tuple hx
    have hlen:=r.length
    exact truthy_tuple pl (by simp only [List.size_toArray]; omega) ⟨H,I.tok _,by rw [isEmpty_of r]; exact q⟩
   ·subst e'
    obtain ⟨hz,hS,vs,r,m⟩:kvs.length ≤ sizeLine ∧ (p == sysModules) = false ∧ ∃ vs,KV kvs vs ∧ s.heap.DictAt (mixKind X.prog X.w) p vs ep:=I.hok p _ hx
    have m:=m.dictOf
    have hlen:kvs.length = vs.length:=Paired.length r
    exact wpAny_truthy_dict hS m (by omega) ⟨H,I.tok _,by rw [isEmpty_kv r]; exact q⟩
 | _ =>exact (show False from e).elim
theorem pt_truth (ha:PE X a ta) (he:∀ whole,isTrue a X.env whole = (do let v ← whole; standAt a.pos; holding [v] (truthy v))) :
 PT X a (fun σ H Q =>ta σ H fun x H' =>∃ k,TruV X.K x H' k ∧ Q k H'):=by
 intro pins s σ H Q I h
 exact isTrue_plain (thn (ha pins s σ H _ I h) fun v s1 ⟨x,H1,I1,r1,q1⟩ =>tru_ok pins s1 σ H1 x v Q I1 r1 q1) (he _)
theorem op_add_str:OpR X (binaryOp .Add) (fun x y H Q =>∃ i j,x = .str i ∧ y = .str j ∧ i.length + j.length ≤ sizeLine ∧ Q (.str (i ++ j)) H):=by
 intro pins s σ H x y v u Q I rx ry h
 obtain ⟨i,j,rfl,rfl,hz,q⟩:=h
 obtain ⟨t,rfl⟩:=rx
 obtain ⟨t',rfl⟩:=ry
 exact add_str (fun t' tk =>⟨.str (i ++ j),H,I.tok _,⟨_,rfl⟩,q⟩) hz
theorem vals1 {x:V} {us:List Value} (r:Vals [x] us):∃ u,us = [u] ∧ RelV x u:=by
 cases r with
 | cons r1 r2 =>cases r2; exact ⟨_,rfl,r1⟩
theorem vals2 {x y:V} {us:List Value} (r:Vals [x,y] us):∃ u w',us = [u,w'] ∧ RelV x u ∧ RelV y w':=by
 cases r with
 | cons r1 r2 =>
   cases r2 with
   | cons r3 r4 =>cases r4; exact ⟨_,_,rfl,r1,r3⟩
theorem call_abs:CallR X (.builtin "abs") (fun xs H Q =>∃ i,xs = [.int i] ∧ Q (.int (if i < 0 then -i else i)) H):=by
 intro pins s σ H xs us Q I r h
 obtain ⟨i,rfl,q⟩:=h
 obtain ⟨u,rfl,t,rfl⟩:=vals1 r
 exact call_abs_int fun u tk =>⟨.int (if i < 0 then -i else i),H,I.tok _,⟨_,rfl⟩,q⟩
theorem call_max2 (hc:X.calm = true):CallR X (.builtin "max") (fun xs H Q =>∃ i j,xs = [.int i,.int j] ∧ Q (.int (if j > i then j else i)) H):=by
 intro pins s σ H xs us Q I r h
 obtain ⟨i,j,rfl,q⟩:=h
 obtain ⟨u,w',rfl,⟨t,rfl⟩,⟨t',rfl⟩⟩:=vals2 r
 refine max_two_ints (I.ok.hd hc) fun h' tk k =>⟨_,H,I.kept k,?_,q⟩
 by_cases hj:j > i
 ·rw [if_pos hj,if_pos hj]; exact ⟨_,rfl⟩
 ·rw [if_neg hj,if_neg hj]; exact ⟨_,rfl⟩
end
end L2
namespace L2
open PySem PySem.Spec PyProof.Rows
structure ObjM (h:Heap) (x dx C:Addr) (mA:Str → Option Value):Prop where
 obj:h.get? x = some (PySem.W.instObj C dx)
 ns:h.Ns1 dx mA
 ne:dx ≠ x
section
variable {prog:Program} {w:World} {A:Around} {E:Value → Shared → Prop} {s:Shared} {K:PySem.W.Frag} {x dx C f:Addr} {mA:Str → Option Value} {name:Str} {v:Value}
end
theorem RelO.some_of {v:V} {o:Option Value} (r:RelO (some v) o):∃ u,o = some u ∧ RelV v u:=by
 cases o with
 | none =>exact (show False from r).elim
 | some u =>exact ⟨u,rfl,r⟩
section
variable {P:Program} {w:World} {H H':Hp} {h h':Heap} {a C dx:Addr} {fs fs':List (Str × V)}
end
structure Cls (K:PySem.W.Frag) (C:Addr):Prop where
 pg:PySem.W.plainGet K C Str.empty = true
 hd:PySem.W.hasDictIn K C = true
 po:PySem.W.plainOver K C = true
 sa:PySem.W.findIn K (.ref C) "__setattr__" = some (some (.builtin "object.__setattr__"))
structure Con (K:PySem.W.Frag) (C:Addr) (f:Str) (v:V) (u:Value):Prop where
 at_:PySem.W.findIn K (.ref C) f = some (some u)
 rel:RelV v u
 get:PySem.W.specialIn K u "__get__" = some none
 cp:PySem.W.copiedNames.contains f = false
structure Meth (K:PySem.W.Frag) (C:Addr) (m:Str) (f:Addr):Prop where
 at_:PySem.W.findIn K (.ref C) m = some (some (.ref f))
 fn:PySem.W.isFn K (.ref f) = true
 kp:PySem.W.keepIn K (.ref f) = true
section
variable {X:Cx} {pins:List (Addr × Obj)} {σ:St} {H:Hp} {s:Shared} {a C dx:Addr} {fs:List (Str × V)} {f:Str} {v:V} {A:Around} {E:Value → Shared → Prop}
end
section
variable {X:Cx} {o e value:Expr} {f:Str} {pos pos' tpos:Pos} {ta tv:TE}
end
section
variable {X:Cx} {pins:List (Addr × Obj)} {σ:St} {H:Hp} {s:Shared} {A:Around} {E:Value → Shared → Prop} {Q:Value → Shared → Prop} {c:Value} {b:Bool}
inductive TyOf (K:PySem.W.Frag) (H:Hp):V → Value → Prop where
 | non:TyOf K H .non (.type "NoneType")
 | bl (x:Bool):TyOf K H (.bl x) (.type "bool")
 | int (i:Int):TyOf K H (.int i) (.type "int")
 | str (x:Str):TyOf K H (.str x) (.type "str")
 | flt (x:UInt64):TyOf K H (.flt x) (.type "float")
 | lst {a:Addr} {xs:List V} (e:H a = some (.lst xs)):TyOf K H (.ref a) (.type "list")
 | frz {a:Addr} {o:Obj} {xs:List V} (e:H a = some (.frz o (.lst xs))):TyOf K H (.ref a) (.type "list")
 | tup {a:Addr} {xs:List V} (e:H a = some (.tup xs)):TyOf K H (.ref a) (.type "tuple")
 | dK {a:Addr} {kvs:List (Key × V)} {ep:Nat} (e:H a = some (.dK kvs ep)):TyOf K H (.ref a) (.type "dict")
 | dT {a:Addr} {kvs:List (List Key × V)} (e:H a = some (.dT kvs)):TyOf K H (.ref a) (.type "dict")
 | ins {a C dx:Addr} {fs:List (Str × V)} (e:H a = some (.ins C dx fs)) (cl:Cls K C) (ha:PySem.W.findIn K (.ref C) "__class__" = some (some (.builtin "object.__class__")))
  (hn:PySem.W.specialIn K (.builtin "object.__class__") "__get__" = some (some (.builtin "getset_descriptor.__get__"))) (htk:PySem.W.takesIn K (.builtin "object.__class__") = some true)
  (hm:PySem.W.mroIn K C (.type "object") = some true):TyOf K H (.ref a) (.ref C)
end
end L2
namespace L2
open PySem PySem.Spec PyProof.Rows
structure Room (k:Nat) (A:Around):Prop where
 hd:A.handled = none
 dp:A.depth + 3 * k + 5 < recursionLimit
 un:A.units + 16 * k + 200 < cLine
theorem Room.deeper {k:Nat} {A:Around} (r:Room (k + 1) A) (env:Env):Room k (A.deeper env) :=
 ⟨r.hd,by have:=r.dp; show A.depth + 1 + 3 * k + 5 < _; omega,by have:=r.un; show A.units + 3 + 16 * k + 200 < _; omega⟩
theorem Room.depth {k:Nat} {A:Around} (r:Room k A):A.depth < recursionLimit:=by have:=r.dp; omega
theorem Room.units {k:Nat} {A:Around} (r:Room k A):A.units + 64 < cLine:=by have:=r.un; omega
noncomputable def tNil:TA:=fun _ H Q =>Q [] H
noncomputable def tCons (ta:TE) (tr:TA):TA:=fun σ H Q =>ta σ H fun x H1 =>tr σ H1 fun xs H2 =>Q (x :: xs) H2
section
variable {X:Cx} {e:Expr} {es:List Expr} {te:TE} {t:TA} {pos:Pos}
theorem pa_nil:PA X [] tNil:=fun _ _ _ _ H Q I h =>Calls.spliced_nil ⟨[],H,I,.nil,h⟩
theorem pa_cons (ha:PE X e te) (hr:PA X es t) (hs:starEach (e :: es) X.env = (false,eval e X.env) :: starEach es X.env:=by rfl):PA X (e :: es) (tCons te t):=by
 intro pos pins s σ H Q I h
 rw [hs]
 show wpAny _ _ (spliced ((false,eval e X.env) :: backTo pos (starEach es X.env))) _ _ s
 refine Calls.spliced_cons (thn (ha pins s σ H _ I h) fun u s1 ⟨x,H1,I1,r1,q1⟩ =>?_)
 exact thn (hr pos pins s1 σ H1 _ I1 q1) fun us s2 ⟨xs,H2,I2,r2,q2⟩ =>⟨x :: xs,H2,I2,.cons r1 r2,q2⟩
noncomputable def tTup (t:TA):TE:=fun σ H Q =>t σ H fun xs H1 =>xs.length ≤ sizeLine ∧ ∀ p,H1 p = none → Q (.ref p) (upd H1 p (.tup xs))
noncomputable def tLst (t:TA):TE:=fun σ H Q =>t σ H fun xs H1 =>xs.length ≤ sizeLine ∧ ∀ p,H1 p = none → Q (.ref p) (upd H1 p (.lst xs))
theorem pe_tup {x1} (h:PA X es t):PE X (.Tuple es x1 pos) (tTup t):=by
 intro pins s σ H Q I hq
 refine wpAny_Tuple_spliced (thn (h pos pins s σ H _ I hq) fun us s1 ⟨xs,H1,I1,r,z,q⟩ =>⟨by rw [← r.length]; exact z,?_⟩)
 have hf:H1 s1.heap.objs.size = none:=I1.hok.fresh (Nat.le_refl _)
 refine ⟨.ref s1.heap.objs.size,upd H1 s1.heap.objs.size (.tup xs),I1.laid (t':=s1.toks) (fun b u e =>Heap.get?_push_of_some _ e) (Nat.le_refl _) ?_,rfl,q _ hf⟩
 exact ⟨z,us,r,⟨_,Heap.get?_push_size _ rfl,rfl,_,rfl⟩⟩
theorem pe_lst (h:PA X es t):PE X (.List es pos) (tLst t):=by
 intro pins s σ H Q I hq
 refine wpAny_List_spliced (thn (h pos pins s σ H _ I hq) fun us s1 ⟨xs,H1,I1,r,z,q⟩ =>⟨by rw [← r.length]; exact z,?_⟩)
 have hf:H1 s1.heap.objs.size = none:=I1.hok.fresh (Nat.le_refl _)
 refine ⟨.ref s1.heap.objs.size,upd H1 s1.heap.objs.size (.lst xs),I1.laid (t':=s1.toks) (fun b u e =>Heap.get?_push_of_some _ e) (Nat.le_refl _) ?_,rfl,q _ hf⟩
 exact ⟨z,us,0,r,Heap.get?_push_size _ rfl⟩
end
noncomputable abbrev Sp:=List V → Hp → VK → XK → Prop
noncomputable abbrev CXT:=List Env → Hp → Shared → XK → Value → Shared → Prop
structure Env0 (P:Program) (w:World) (K:PySem.W.Frag) (mg:Str → Option Value) (base:Heap) (A:Around) (outer:List Env) (s:Shared) (H:Hp):Prop where
 frames:A.frames = some outer
 mod:Mod K mg base
 bs:∀ b o,base.get? b = some o → s.heap.get? b = some o ∧ H b = none
 bsz:base.objs.size ≤ s.heap.objs.size
 funs:s.heap.FunFrames base outer
 frf:∀ b ∈ frs outer,H b = none
 hok:HOk P w H s.heap
 bare:AllBare s.gens
noncomputable def CE (outer:List Env) (P:Program) (w:World) (H:Hp) (s:Shared) (Q:VK) (u:Value) (s':Shared):Prop :=
 ∃ v H',s'.os = s.os ∧ AllBare s'.gens ∧ Un (frs outer) [] H H' s.heap s'.heap ∧ HOk P w H' s'.heap ∧ RelV v u ∧ Q v H'
noncomputable def CR (CX:CXT) (outer:List Env) (P:Program) (w:World) (H:Hp) (s:Shared) (Q:VK) (E:XK) (r:Result) (s':Shared):Prop :=
 match r with
 | .ok (.ret u) =>CE outer P w H s Q u s'
 | .ok _ =>False
 | .error e =>CX outer H s E e s'
structure FnOk (P:Program) (w:World) (K:PySem.W.Frag) (mg:Str → Option Value) (base:Heap) (CX:CXT) (k:Nat) (f:Addr) (fd:FuncData) (ps:List Str) (sp:Sp):Prop where
 len:∀ vs H Q E,sp vs H Q E → vs.length = ps.length
 run:∀ (A:Around) (outer:List Env) (s:Shared) (H:Hp) (args:Args) (us:List Value) (vs:List V) (Q:VK) (E:XK),Room k A → Env0 P w K mg base A outer s H → BindsTo s fd args (ps.zip us) → Vals vs us → sp vs H Q E →
  codeAny (model P w) A (.call (.ref f) args) (CR CX outer P w H s Q E) s
section
variable {X:Cx} {pins:List (Addr × Obj)} {σ:St} {H:Hp} {s s':Shared}
theorem Inv.env0 (I:Inv X pins σ H s):Env0 X.prog X.w X.K X.mg X.base X.A X.stack s H :=
 ⟨I.ok.frames,I.ok.mod,I.bs,Nat.le_trans I.ok.bsz I.sz,I.stack,I.stkFree,I.hok,I.bare⟩
theorem Inv.after {Q:VK} {u:Value} (I:Inv X pins σ H s) (h:CE X.stack X.prog X.w H s Q u s'):EP X pins σ Q u s':=by
 obtain ⟨v,H',os,bare,un,hok,r,q⟩:=h
 obtain ⟨hh,g,d,t,os'⟩:=s'
 obtain rfl:os' = s.os:=os
 exact ⟨v,H',I.call (h':=hh) (g':=g) (d':=d) (t':=t) (ch:=[]) un hok bare (fun b z =>absurd z (by simp)),r,q⟩
end
noncomputable def tCall (sp:Sp) (dvs:List V) (E:XK) (t:TA):TE:=fun σ H Q =>t σ H fun vs H1 =>sp (vs ++ dvs) H1 Q E
noncomputable def Binds (K:PySem.W.Frag) (fd:FuncData) (ps:List Str) (ds:List Value):Prop :=
 ∀ (s:Shared) (us:List Value),K.In s.heap → (us ++ ds).length = ps.length → BindsTo s fd ⟨us,[]⟩ (ps.zip (us ++ ds))
theorem Binds.all {K:PySem.W.Frag} {fd:FuncData} {ps:List Str} (h:∀ us:List Value,us.length = ps.length → bindArgs fd ⟨us,[]⟩ = pure (ps.zip us)):Binds K fd ps []:=fun s us _ hl =>by
 rw [List.append_nil] at hl ⊢
 exact .of_eq (h us hl)
noncomputable def Passes (CX:CXT) (X:Cx) (E:XK):Prop:=∀ (pins:List (Addr × Obj)) (σ:St) (H:Hp) (s:Shared) (e:Value) (s':Shared),Inv X pins σ H s → CX X.stack H s E e s' → X.xe e s'
section
variable {X:Cx} {CX:CXT} {k:Nat} {f C:Addr} {fd:FuncData} {ps:List Str} {sp:Sp} {dvs:List V} {ds:List Value} {E:XK} {x m:Str} {p pos apos:Pos} {e o:Expr} {es:List Expr} {ta:TE} {t:TA}
theorem run_fn {pins:List (Addr × Obj)} {σ:St} {H:Hp} {s:Shared} {Q:VK} {us:List Value} {vs:List V} (F:FnOk X.prog X.w X.K X.mg X.base CX k f fd ps sp) (hr:Room k X.A) (hb:Binds X.K fd ps ds) (hd:Vals dvs ds) (hx:Passes CX X E)
 (I:Inv X pins σ H s) (r:Vals vs us) (h:sp (vs ++ dvs) H Q E):wpAny (model X.prog X.w) X.A (call (.ref f) us) (EP X pins σ Q) X.xe s:=by
 have r2:Vals (vs ++ dvs) (us ++ ds):=r.append hd
 have hl:(us ++ ds).length = ps.length:=by rw [← r2.length]; exact F.len _ _ _ _ h
 refine wpAny_call (codeAny_mono (F.run X.A X.stack s H ⟨us,[]⟩ (us ++ ds) (vs ++ dvs) Q E hr I.env0 (hb s us I.kIn hl) r2 h) fun r s' hq =>?_)
 cases r with
 | error e =>exact hx pins σ H s e s' I hq
 | ok fl =>
   cases fl with
   | ret u =>exact I.after hq
   | next =>exact False.elim hq
   | brk =>exact False.elim hq
   | cont =>exact False.elim hq
theorem pe_call (F:FnOk X.prog X.w X.K X.mg X.base CX k f fd ps sp) (hr:Room k X.A) (hg:Gl X x) (hm:X.mg x = some (.ref f)) (hk:PySem.W.keepIn X.K (.ref f) = true) (hb:Binds X.K fd ps ds) (hd:Vals dvs ds) (hx:Passes CX X E)
 (ha:PA X (e :: es) t) (hdb:(x == ("__debug__":Str)) = false:=by decide) (he:starEach (e :: es) X.env = (false,eval e X.env) :: starEach es X.env:=by rfl) (hpl:(backTo pos (starEach es X.env)).any (·.1) = false:=by rfl) :
 PE X (.Call (.Name x p) (e :: es) [] pos) (tCall sp dvs E t):=by
 intro pins s σ H Q I h
 refine wpAny_Call_Name_kw (ld_glob I hg hm ?_ hdb)
 refine PySem.W.callWith_K (h₀:=X.base) I.ok.mod.kin hk (thn (ha pos pins s σ H _ I h) fun us s1 ⟨vs,H1,I1,r,q⟩ =>⟨I1.kIn,?_⟩) he hpl
 exact run_fn F hr hb hd hx I1 r q
structure Mk (K:PySem.W.Frag) (C f:Addr):Prop where
 makes:PySem.W.makesIn K C = true
 init:PySem.W.findIn K (.ref C) "__init__" = some (some (.ref f))
 fn:PySem.W.isFn K (.ref f) = true
 kp:PySem.W.keepIn K (.ref C) = true
end
section
variable {X:Cx} {CX:CXT} {k:Nat} {f C:Addr} {fd:FuncData} {ps ks:List Str} {sp:Sp} {E:XK} {x m:Str} {p pos apos kpos:Pos} {e o:Expr} {es:List Expr} {kws:List Keyword} {te ta:TE} {t tk:TA} {nm:Option Str}
structure KBinds (K:PySem.W.Frag) (fd:FuncData) (ps ks:List Str) (g:List Value → List Value → List Value) (gV:List V → List V → List V):Prop where
 to:∀ (s:Shared) (us ws:List Value),K.In s.heap → (g us ws).length = ps.length → BindsTo s fd ⟨us,ks.zip ws⟩ (ps.zip (g us ws))
 rel:∀ {vs:List V} {us:List Value} {zs:List V} {ws:List Value},Vals vs us → Vals zs ws → Vals (gV vs zs) (g us ws)
variable {g:List Value → List Value → List Value} {gV:List V → List V → List V}
end
structure FnScope (N P:List Str) (sc:Scope):Prop where
 kind:sc.kind = .function
 co:sc.isCoroutine = false
 gen:sc.isGenerator = false
 nd:N.Nodup
 pre:N.take P.length = P
 par:∀ x ∈ P,sc.names.lookup x = some .local ∨ sc.names.lookup x = some .cell
 nofree:∀ y ∈ sc.names,y.2 ≠ .free
theorem bindL_out {kindOf:Str → Option NameKind} {x:Str}:∀ {binds:List (Str × Value)} {m:Str → Option Value},(∀ v,(x,v) ∉ binds) → bindL kindOf binds m x = m x
 | [],_,_ =>rfl
 | (n,v) :: r,m,h =>by
   unfold bindL
   rw [bindL_out fun w hw =>h w (List.mem_cons_of_mem _ hw)]
   split
   ·have:x ≠ n:=by rintro rfl; exact h v List.mem_cons_self
    simp [this]
   ·rfl
theorem bindC_out {kindOf:Str → Option NameKind} {x:Str}:∀ {binds:List (Str × Value)} {m:Str → Option Value},(∀ v,(x,v) ∉ binds) → bindC kindOf binds m x = m x
 | [],_,_ =>rfl
 | (n,v) :: r,m,h =>by
   unfold bindC
   rw [bindC_out fun w hw =>h w (List.mem_cons_of_mem _ hw)]
   split
   ·rfl
   ·have:x ≠ n:=by rintro rfl; exact h v List.mem_cons_self
    simp [this]
theorem bindL_get {kindOf:Str → Option NameKind} {x:Str} {v:Value}:∀ {P:List Str} {vs:List Value} {i:Nat} {m:Str → Option Value},P.Nodup → P[i]? = some x → vs[i]? = some v → kindOf x = some .local →
 bindL kindOf (P.zip vs) m x = some v
 | [],_,_,_,_,h,_,_ =>by simp at h
 | _ :: _,[],_,_,_,_,h,_ =>by simp at h
 | p :: P,w :: vs,0,m,nd,h1,h2,hk =>by
   simp at h1 h2; subst h1; subst h2
   show bindL kindOf ((p,w) :: P.zip vs) m p = _
   unfold bindL
   rw [bindL_out fun v hv =>(List.nodup_cons.mp nd).1 (List.of_mem_zip hv).1,if_pos hk]
   simp
 | p :: P,w :: vs,i + 1,m,nd,h1,h2,hk =>by
   show bindL kindOf ((p,w) :: P.zip vs) m x = _
   unfold bindL
   exact bindL_get (i:=i) (List.nodup_cons.mp nd).2 (by simpa using h1) (by simpa using h2) hk
theorem bindC_get {kindOf:Str → Option NameKind} {x:Str} {v:Value}:∀ {P:List Str} {vs:List Value} {i:Nat} {m:Str → Option Value},P.Nodup → P[i]? = some x → vs[i]? = some v → kindOf x ≠ some .local →
 bindC kindOf (P.zip vs) m x = some v
 | [],_,_,_,_,h,_,_ =>by simp at h
 | _ :: _,[],_,_,_,_,h,_ =>by simp at h
 | p :: P,w :: vs,0,m,nd,h1,h2,hk =>by
   simp at h1 h2; subst h1; subst h2
   show bindC kindOf ((p,w) :: P.zip vs) m p = _
   unfold bindC
   rw [bindC_out fun v hv =>(List.nodup_cons.mp nd).1 (List.of_mem_zip hv).1,if_neg hk]
   simp
 | p :: P,w :: vs,i + 1,m,nd,h1,h2,hk =>by
   show bindC kindOf ((p,w) :: P.zip vs) m x = _
   unfold bindC
   exact bindC_get (i:=i) (List.nodup_cons.mp nd).2 (by simpa using h1) (by simpa using h2) hk
noncomputable def start (N:List Str) (vs:List V):St:=vs.map some ++ List.replicate (N.length - vs.length) none
noncomputable def cxOf (CX:CXT) (P:Program) (w:World) (K:PySem.W.Frag) (mg:Str → Option Value) (base:Heap) (N:List Str) (qual:Str) (scope:Scope) (f:Addr) (cd:Value) (A:Around) (outer:List Env) (s:Shared) (H:Hp) (E:XK):Cx where
 prog:=P
 w:=w
 K:=K
 mg:=mg
 base:=base
 A:=A.deeper (envOfC qual scope s.heap.objs.size f cd)
 N:=N
 s₀:=s
 H₀:=H
 env:=envOfC qual scope s.heap.objs.size f cd
 outer:=outer
 stack:=envOfC qual scope s.heap.objs.size f cd :: outer
 ex:=[]
 calm:=true
 fn:=fun _ =>true
 pn:=[]
 xe:=fun e s' =>wpAny (model P w) (A.deeper (envOfC qual scope s.heap.objs.size f cd)) (leaving (envOfC qual scope s.heap.objs.size f cd) e) (fun _ s'' =>CX outer H s E e s'') (fun e' s'' =>CX outer H s E e' s'') s'
theorem cell_has {sc:Scope} {n:Nat} {x:Str} (h:sc.names.lookup x = some .cell):∃ c,(cellsFrom n sc.names []).lookup x = some c:=by
 have q:=PySem.W.cellsFrom_some sc.names n [] (.inl h)
 exact Option.isSome_iff_exists.mp q
theorem inv_start {CX:CXT} {P:Program} {w:World} {K:PySem.W.Frag} {mg:Str → Option Value} {base:Heap} {N ps:List Str} {qual:Str} {scope:Scope} {f:Addr} {cd:Value} {A:Around} {outer:List Env} {s s1:Shared} {H:Hp} {E:XK} {us:List Value} {vs:List V}
 (S:FnScope N ps scope) (hd:A.handled = none) (e0:Env0 P w K mg base A outer s H) (hl:vs.length = ps.length) (r:Vals vs us)
 (x:InCallC s s.heap.objs.size (bindL (envOfC qual scope s.heap.objs.size f cd).kindOf (ps.zip us) fun _ =>none) (cellsFrom (s.heap.objs.size + 1) scope.names []) (bindC (envOfC qual scope s.heap.objs.size f cd).kindOf (ps.zip us) fun _ =>none) s1) :
 Inv (cxOf CX P w K mg base N qual scope f cd A outer s H E) [] (start N vs) H s1:=by
 have hpl:ps.length ≤ N.length:=by have:=congrArg List.length S.pre; rw [List.length_take] at this; omega
 obtain ⟨h1,tk,rfl,hk⟩:=x.done
 have noA:∀ b:Addr,b ∉ (cxOf CX P w K mg base N qual scope f cd A outer s H E).ex:=fun b z =>absurd (show b ∈ ([]:List Addr) from z) (by simp)
 refine ⟨⟨e0.mod,S.kind,rfl,rfl,Nat.le_refl _,fun y z c h1 h2 =>?_,fun y hy =>?_,fun y c _ h =>?_,fun _ =>hd,Around.frames_deeper e0.frames,.inr ⟨rfl,rfl⟩,fun b z =>absurd z (noA b),e0.bs,e0.bsz,fun b _ _ =>noA b,fun b z =>absurd z (noA b),e0.funs,e0.frf⟩,
  rfl,e0.bare,Un.kept hk,⟨_,x.toInCall.ns,fun i y v h1 h2 h3 =>?_⟩,fun y c h =>⟨_,x.cell y c h⟩,e0.hok.fresh (Nat.le_refl _),fun y c h =>?_,fun p hp =>absurd (show p ∈ ([]:List (Addr × Obj)) from hp) (by simp),e0.hok.kept hk,?_⟩
 ·exact name_of_addr x.apart (PySem.mem_of_lookup h1) (PySem.mem_of_lookup h2)
 ·have hy:scope.names.lookup y = some .cell ∨ scope.names.lookup y = some .free:=hy
  rcases hy with hy | hy
  ·exact cell_has hy
  ·exact absurd rfl (S.nofree _ (PySem.mem_of_lookup hy))
 ·exact Nat.le_of_lt (x.above y c (PySem.mem_of_lookup h))
 ·have hi:i < vs.length:=by
   unfold start at h2
   by_cases hi:i < vs.length
   ·exact hi
   ·rw [List.getElem?_append_right (by simpa using hi)] at h2
    rw [List.getElem?_replicate] at h2
    split at h2 <;> cases h2
  have ha:vs[i]? = some v:=by
   unfold start at h2
   rw [List.getElem?_append_left (by simpa using hi),List.getElem?_map] at h2
   cases e:vs[i]? with
   | none =>rw [e] at h2; cases h2
   | some a =>rw [e] at h2; cases h2; rfl
  obtain ⟨u,hu,rv⟩:=r.get ha
  have hp:ps[i]? = some y:=by
   rw [← S.pre,List.getElem?_take_of_lt (by omega)]; exact h1
  have ndP:ps.Nodup:=by rw [← S.pre]; exact S.nd.sublist (List.take_sublist _ _)
  refine ⟨u,rv,?_⟩
  rcases S.par y (List.mem_of_getElem? hp) with k | k
  ·exact .inl ⟨k,bindL_get ndP hp hu k⟩
  ·obtain ⟨c,e⟩:=cell_has (n:=s.heap.objs.size + 1) k
   refine .inr ⟨.inl k,c,e,?_⟩
   have q:=x.cell y c e
   rw [bindC_get ndP hp hu (by show scope.names.lookup y ≠ _; rw [k]; decide)] at q
   exact q
 ·exact e0.hok.fresh (Nat.le_of_lt (x.above y c (PySem.mem_of_lookup h)))
 ·unfold start
  show _ = N.length
  rw [List.length_append,List.length_map,List.length_replicate]
  omega
theorem fn_of {CX:CXT} {P:Program} {w:World} {K:PySem.W.Frag} {mg:Str → Option Value} {base:Heap} {k:Nat} {f:Addr} {name qual:Str} {params:Arguments} {body:List Stmt} {scope:Scope} {dV kV doc pm cdv ct oc:Value} {an od:Option Addr}
 {osl:Array (Option Value)} {N ps:List Str} {sp:Sp} (lk:K.lookup f = some ⟨oc,od,.func (PySem.W.fnOf name qual params body scope dV kV doc pm an cdv ct),osl⟩) (hcd:PySem.W.codeIn K cdv qual = true) (S:FnScope N ps scope)
 (len:∀ vs H Q E,sp vs H Q E → vs.length = ps.length)
 (hbody:∀ (A:Around) (outer:List Env) (s:Shared) (H:Hp) (vs:List V) (Q:VK) (E:XK),Room k (A.deeper (envOfC qual scope s.heap.objs.size f cdv)) → sp vs H Q E →
  ∃ t,PSs (cxOf CX P w K mg base N qual scope f cdv A outer s H E) body t ∧ t { nx:=fun _ H' =>Q .non H',rt:=Q } (start N vs) H) :
 FnOk P w K mg base CX (k + 1) f (PySem.W.fnOf name qual params body scope dV kV doc pm an cdv ct) ps sp:=by
 refine ⟨len,fun A outer s H args us vs Q E hr e0 hb r hsp =>?_⟩
 have hl:=len _ _ _ _ hsp
 have KX:K.In s.heap:=e0.mod.kin.keeps fun b o e =>(e0.bs b o e).1
 have lim:s.heap.NoLimit:=e0.mod.nolimit.keeps fun b o e =>(e0.bs b o e).1
 have hkind:∀ y ∈ ps.zip us,scope.names.lookup y.1 = some .local ∨ (scope.names.lookup y.1 = some .cell ∧ ((cellsFrom (s.heap.objs.size + 1) scope.names []).lookup y.1).isSome = true):=fun ⟨n,v⟩ hy =>by
  rcases S.par n (List.of_mem_zip hy).1 with q | q
  ·exact .inl q
  ·exact .inr ⟨q,PySem.W.cellsFrom_some _ _ _ (.inl q)⟩
 refine codeAny_call_function hr.depth (KX _ _ lk) rfl S.co S.gen rfl (PySem.W.codeRec_of KX hcd) (hb _ _ _ _ ?_)
 refine wpAny_newFunctionEnv_cells S.kind hkind fun env he s1 x =>?_
 subst he
 refine ⟨lim.keeps x.toInCall.keep,codeAny_func ?_⟩
 obtain ⟨t,ht,hq⟩:=hbody A outer s H vs Q E (hr.deeper _) hsp
 have I:Inv (cxOf CX P w K mg base N qual scope f cdv A outer s H E) [] (start N vs) H s1:=inv_start S hr.hd e0 hl r x
 refine wpAny_mono (ht [] s1 (start N vs) H _ I hq) (fun fl s' hs =>?_) fun e s' hs =>hs
 have fin:∀ {σ':St} {H':Hp} {v:V} {u:Value},Inv (cxOf CX P w K mg base N qual scope f cdv A outer s H E) [] σ' H' s' → RelV v u → Q v H' → CE outer P w H s Q u s' :=
  fun {σ' H' v u} J rv q =>⟨v,H',J.os,J.bare,J.base,J.hok,rv,q⟩
 cases fl with
 | ret u =>
   obtain ⟨v,σ',H',J,rv,q⟩:=hs
   exact fin J rv q
 | next =>
   obtain ⟨σ',H',J,q⟩:=hs
   exact fin (v:=V.non) (u:=Value.none) J rfl q
 | brk =>
   obtain ⟨_,_,_,q⟩:=hs
   exact False.elim q
 | cont =>
   obtain ⟨_,_,_,q⟩:=hs
   exact False.elim q
end L2
namespace L2
open PySem PySem.Spec PyProof.Rows
section
variable {X:Cx} {x:Str} {p pos:Pos} {e:Expr} {es:List Expr} {t:TA} {id T:String} {r:List V → Hp → VK → Prop}
noncomputable def tCB (r:List V → Hp → VK → Prop) (t:TA):TE:=fun σ H Q =>t σ H fun vs H1 =>r vs H1 Q
theorem pe_callB (hc:CallR X (.builtin id) r) (hg:Gl X x) (hm:X.mg x = none) (hv:bootBuiltins x = some (.builtin id)) (ha:PA X (e :: es) t) (hn:x ≠ "__name__":=by decide) (hdb:(x == ("__debug__":Str)) = false:=by decide)
 (he:starEach (e :: es) X.env = (false,eval e X.env) :: starEach es X.env:=by rfl) (hpl:(backTo pos (starEach es X.env)).any (·.1) = false:=by rfl):PE X (.Call (.Name x p) (e :: es) [] pos) (tCB r t):=by
 intro pins s σ H Q I h
 refine wpAny_Call_Name_kw (ld_blt I hg hm hv ?_ hn hdb)
 exact PyProof.Rows.callWith_builtin1 (thn (ha pos pins s σ H _ I h) fun us s1 ⟨vs,H1,I1,r1,q1⟩ =>hc pins s1 σ H1 vs us Q I1 r1 q1) he hpl
theorem pe_callTy (hc:CallR X (.type T) r) (hg:Gl X x) (hm:X.mg x = none) (hv:bootBuiltins x = some (.type T)) (ha:PA X (e :: es) t) (hn:x ≠ "__name__":=by decide) (hdb:(x == ("__debug__":Str)) = false:=by decide)
 (he:starEach (e :: es) X.env = (false,eval e X.env) :: starEach es X.env:=by rfl) (hpl:(backTo pos (starEach es X.env)).any (·.1) = false:=by rfl):PE X (.Call (.Name x p) (e :: es) [] pos) (tCB r t):=by
 intro pins s σ H Q I h
 refine wpAny_Call_Name_kw (ld_blt I hg hm hv ?_ hn hdb)
 exact PyProof.Rows.callWith_type1 (thn (ha pos pins s σ H _ I h) fun us s1 ⟨vs,H1,I1,r1,q1⟩ =>hc pins s1 σ H1 vs us Q I1 r1 q1) he hpl
end
end L2
namespace L2
open PySem PySem.Spec PyProof.Rows
section
variable {κ:Type} [DecidableEq κ]
noncomputable def valV (kvs:List (κ × V)) (k:κ):Option V:=(kvs.find? fun kv =>decide (kv.1 = k)).map (·.2)
noncomputable def putK (kvs:List (κ × V)) (k:κ) (v:V):List (κ × V) :=
 if (kvs.any fun kv =>decide (kv.1 = k)) = true then kvs.map (fun kv =>if kv.1 = k then (kv.1,v) else kv) else kvs ++ [(k,v)]
theorem valV_pos {p:κ × V} {r:List (κ × V)} {k:κ} (e:p.1 = k):valV (p :: r) k = some p.2:=by simp [valV,List.find?_cons,e]
theorem valV_neg {p:κ × V} {r:List (κ × V)} {k:κ} (e:¬ p.1 = k):valV (p :: r) k = valV r k:=by simp [valV,List.find?_cons,e]
theorem valV_any (k:κ):∀ kvs:List (κ × V),(kvs.any fun kv =>decide (kv.1 = k)) = (valV kvs k).isSome
 | [] =>rfl
 | p :: r =>by
   rw [List.any_cons]
   by_cases e:p.1 = k
   ·simp only [valV_pos e,decide_eq_true e,Bool.true_or,Option.isSome_some]
   ·rw [valV_neg e,decide_eq_false e,Bool.false_or]; exact valV_any k r
theorem length_putK (kvs:List (κ × V)) (k:κ) (v:V):(putK kvs k v).length ≤ kvs.length + 1:=by
 unfold putK
 split
 ·rw [List.length_map]; omega
 ·rw [List.length_append,List.length_cons,List.length_nil]; omega
theorem RelO.isSome_eq {o:Option V} {u:Option Value} (r:RelO o u):o.isSome = u.isSome:=by
 cases o with
 | none =>cases u with
   | none =>rfl
   | some _ =>exact (show False from r).elim
 | some _ =>cases u with
   | none =>exact (show False from r).elim
   | some _ =>rfl
theorem RelO.getD {o:Option V} {u:Option Value} {d:V} {d':Value} (r:RelO o u) (rd:RelV d d'):RelV (o.getD d) (u.getD d'):=by
 cases o with
 | none =>cases u with
   | none =>exact rd
   | some _ =>exact (show False from r).elim
 | some _ =>cases u with
   | none =>exact (show False from r).elim
   | some _ =>exact r
theorem KV.val {kvs:List (κ × V)} {vs:List (κ × Value)} (r:KV kvs vs) (k:κ):RelO (valV kvs k) (valueAt vs k):=by
 unfold KV at r
 induction r with
 | nil =>exact True.intro
 | @cons p q ps qs h t ih =>
   obtain ⟨h1,h2⟩:=h
   by_cases e:p.1 = k
   ·have e':q.1 = k:=h1.symm.trans e
    have b:valueAt (q :: qs) k = some q.2:=by simp [valueAt,List.find?_cons,e']
    rw [valV_pos e,b]; exact h2
   ·have e':¬ q.1 = k:=fun z =>e (h1.trans z)
    have b:valueAt (q :: qs) k = valueAt qs k:=by simp [valueAt,List.find?_cons,e']
    rw [valV_neg e,b]; exact ih
theorem KV.any {kvs:List (κ × V)} {vs:List (κ × Value)} (r:KV kvs vs) (k:κ):(kvs.any fun kv =>decide (kv.1 = k)) = vs.any fun kv =>decide (kv.1 = k):=by
 unfold KV at r
 induction r with
 | nil =>rfl
 | cons h t ih =>rw [List.any_cons,List.any_cons,ih,h.1]
theorem KV.repl {kvs:List (κ × V)} {vs:List (κ × Value)} (r:KV kvs vs) (k:κ) {y:V} {u:Value} (ry:RelV y u) :
 KV (kvs.map fun kv =>if kv.1 = k then (kv.1,y) else kv) (vs.map fun kv =>if kv.1 = k then (kv.1,u) else kv):=by
 unfold KV at r ⊢
 induction r with
 | nil =>exact .nil
 | @cons p q ps qs h t ih =>
   rw [List.map_cons,List.map_cons]
   refine .cons ?_ ih
   obtain ⟨h1,h2⟩:=h
   by_cases e:p.1 = k
   ·rw [if_pos e,if_pos (h1.symm.trans e)]; exact ⟨h1,ry⟩
   ·rw [if_neg e,if_neg (fun z =>e (h1.trans z))]; exact ⟨h1,h2⟩
theorem KV.put {kvs:List (κ × V)} {vs:List (κ × Value)} (r:KV kvs vs) (k:κ) {y:V} {u:Value} (ry:RelV y u):KV (putK kvs k y) (stored vs k u):=by
 unfold putK stored
 rw [r.any k]
 by_cases e:(vs.any fun kv =>decide (kv.1 = k)) = true
 ·rw [if_pos e,if_pos e]; exact r.repl k ry
 ·rw [if_neg e,if_neg e]; exact Paired.snoc r ⟨rfl,ry⟩
theorem KV.keys {kvs:List (κ × V)} {vs:List (κ × Value)} (r:KV kvs vs):kvs.map (·.1) = vs.map (·.1):=by
 unfold KV at r
 induction r with
 | nil =>rfl
 | cons h t ih =>rw [List.map_cons,List.map_cons,ih,h.1]
theorem KV.length {kvs:List (κ × V)} {vs:List (κ × Value)} (r:KV kvs vs):kvs.length = vs.length:=Paired.length r
end
theorem kV_is {P:Program} {w:World} {k:Key} {u:Value} (r:RelV (kV k) u):(mixKind P w).is k u = true:=by
 cases k with
 | inl i =>obtain ⟨t,e⟩:=(show ∃ t,u = Value.int i t from r); subst e; exact mixKind_int P w i t
 | inr x =>obtain ⟨t,e⟩:=(show ∃ t,u = Value.str x t from r); subst e; exact mixKind_str P w x t
theorem items_are {P:Program} {w:World}:∀ {ks:List Key} {us:List Value},Vals (ks.map kV) us → ItemsAre (mixKind P w) ks us
 | [],_,r =>by rw [List.map_nil] at r; cases r; exact .nil
 | k :: ks,_,r =>by
   rw [List.map_cons] at r
   cases r with
   | cons h t =>exact .cons (kV_is h) (items_are t)
noncomputable abbrev KT (H:Hp):List (List Key × V) → List (List Key × Addr × Value) → Prop:=Paired fun p q =>p.1 = q.1 ∧ H q.2.1 = some (.tup (p.1.map kV)) ∧ RelV p.2 q.2.2
theorem KT.val {H:Hp} {kvs:List (List Key × V)} {xs:List (List Key × Addr × Value)} (r:KT H kvs xs) (k:List Key):RelO (valV kvs k) ((atKey xs k).map (·.2)):=by
 induction r with
 | nil =>exact True.intro
 | @cons p q ps qs h t ih =>
   obtain ⟨h1,_,h2⟩:=h
   by_cases e:p.1 = k
   ·have e':q.1 = k:=h1.symm.trans e
    have b:atKey (q :: qs) k = some q.2:=by simp [atKey,List.find?_cons,e']
    rw [valV_pos e,b]; exact h2
   ·have e':¬ q.1 = k:=fun z =>e (h1.trans z)
    have b:atKey (q :: qs) k = atKey qs k:=by simp [atKey,List.find?_cons,e']
    rw [valV_neg e,b]; exact ih
theorem KT.repl {H:Hp} {kvs:List (List Key × V)} {xs:List (List Key × Addr × Value)} (r:KT H kvs xs) (k:List Key) {y:V} {u:Value} (ry:RelV y u) :
 KT H (kvs.map fun kv =>if kv.1 = k then (kv.1,y) else kv) (xs.map (putAt k u)):=by
 induction r with
 | nil =>exact .nil
 | @cons p q ps qs h t ih =>
   rw [List.map_cons,List.map_cons]
   refine .cons ?_ ih
   obtain ⟨h1,h2,h3⟩:=h
   unfold putAt
   by_cases e:p.1 = k
   ·rw [if_pos e,if_pos (h1.symm.trans e)]; exact ⟨h1,h2,ry⟩
   ·rw [if_neg e,if_neg (fun z =>e (h1.trans z))]; exact ⟨h1,h2,h3⟩
theorem KT.put {H:Hp} {kvs:List (List Key × V)} {xs:List (List Key × Addr × Value)} (r:KT H kvs xs) (k:List Key) {b:Addr} {y:V} {u:Value} (hb:H b = some (.tup (k.map kV))) (ry:RelV y u) :
 KT H (putK kvs k y) (storedH xs k b u):=by
 have e:(kvs.any fun kv =>decide (kv.1 = k)) = (atKey xs k).isSome:=by
  rw [valV_any,(r.val k).isSome_eq,Option.isSome_map]
 unfold putK storedH
 rw [e]
 by_cases q:(atKey xs k).isSome = true
 ·rw [if_pos q,if_pos q]; exact r.repl k ry
 ·rw [if_neg q,if_neg q]; exact Paired.snoc r ⟨rfl,hb,ry⟩
theorem KT.keeps {H H':Hp} {kvs:List (List Key × V)} {xs:List (List Key × Addr × Value)} (r:KT H kvs xs) (ht:∀ b ys,H b = some (.tup ys) → H' b = some (.tup ys)):KT H' kvs xs :=
 Paired.mapP r fun _ _ z =>⟨z.1,ht _ _ z.2.1,z.2.2⟩
section
variable {P:Program} {w:World} {H:Hp} {h:Heap} {a:Addr}
theorem rd_of {u:HO} (ok:HOk P w H h) (e:Rd H a u):ObjOk P w H h a u:=e.ok ok
noncomputable abbrev RdK (H:Hp) (a:Addr) (kvs:List (Key × V)):Prop:=∃ ep,Rd H a (.dK kvs ep)
theorem dk_rd {kvs:List (Key × V)} (ok:HOk P w H h) (e:RdK H a kvs):kvs.length ≤ sizeLine ∧ (a == sysModules) = false ∧ ∃ vs,KV kvs vs ∧ h.DictOf (mixKind P w) a vs:=by
 obtain ⟨ep,e⟩:=e
 obtain ⟨h1,h2,vs,h3,h4⟩:=(show ObjOk P w H h a (.dK kvs ep) from rd_of ok e)
 exact ⟨h1,h2,vs,h3,h4.dictOf⟩
theorem dk_of {kvs:List (Key × V)} {ep:Nat} (ok:HOk P w H h) (e:H a = some (.dK kvs ep)):kvs.length ≤ sizeLine ∧ (a == sysModules) = false ∧ ∃ vs,KV kvs vs ∧ h.DictOf (mixKind P w) a vs:=dk_rd ok ⟨ep,.inl e⟩
theorem key_of {ks:List Key} (ok:HOk P w H h) (e:H a = some (.tup (ks.map kV))):(tupleKind (mixKind P w)).is h ks a:=by
 obtain ⟨_,its,r,o,h1,h2,n,h3⟩:=(show ObjOk P w H h a (.tup (ks.map kV)) from ok a _ e)
 exact ⟨o,its.toArray,n,h1,h2,h3,by simpa using items_are r⟩
theorem dt_rd {kvs:List (List Key × V)} (ok:HOk P w H h) (e:Rd H a (.dT kvs)):kvs.length ≤ sizeLine ∧ (a == sysModules) = false ∧
 ∃ xs,KT H kvs xs ∧ h.DictOfH (tupleKind (mixKind P w)) a xs:=by
 obtain ⟨z,y,xs,r,o,es,ep,h1,h2,h3,h4,h5⟩:=(show ObjOk P w H h a (.dT kvs) from rd_of ok e)
 refine ⟨z,y,xs,r,o,es,ep,h1,h2,h3,h4,fun x hx =>?_,h5⟩
 have all:∀ {l:List (List Key × V)} {m:List (List Key × Addr × Value)},KT H l m → ∀ x ∈ m,(tupleKind (mixKind P w)).is h x.1 x.2.1:=by
  intro l m q
  induction q with
  | nil =>intro x hx; exact nomatch hx
  | @cons p q ps qs hq t ih =>
    intro x hx
    rcases List.mem_cons.mp hx with e | hx
    ·subst e
     exact key_of ok (by rw [← hq.1]; exact hq.2.1)
    ·exact ih x hx
 exact all r x hx
theorem dt_of {kvs:List (List Key × V)} (ok:HOk P w H h) (e:H a = some (.dT kvs)):kvs.length ≤ sizeLine ∧ (a == sysModules) = false ∧
 ∃ xs,KT H kvs xs ∧ h.DictOfH (tupleKind (mixKind P w)) a xs:=dt_rd ok (.inl e)
end
noncomputable def DGet (H:Hp) (a:Addr) (y:V) (r:Option V):Prop :=
 (∃ kvs k,RdK H a kvs ∧ y = kV k ∧ r = valV kvs k) ∨ ∃ kvs k b,Rd H a (.dT kvs) ∧ y = .ref b ∧ H b = some (.tup (k.map kV)) ∧ r = valV kvs k
noncomputable def DPut (H:Hp) (a:Addr) (y v:V) (H':Hp):Prop :=
 (∃ kvs k ep ep',H a = some (.dK kvs ep) ∧ y = kV k ∧ kvs.length < sizeLine ∧ H' = upd H a (.dK (putK kvs k v) ep')) ∨
 ∃ kvs k b,H a = some (.dT kvs) ∧ y = .ref b ∧ H b = some (.tup (k.map kV)) ∧ kvs.length < sizeLine ∧ H' = upd H a (.dT (putK kvs k v))
theorem DGet.k {H:Hp} {a:Addr} {kvs:List (Key × V)} {k:Key} {ep:Nat} (e:H a = some (.dK kvs ep)):DGet H a (kV k) (valV kvs k):=.inl ⟨kvs,k,⟨ep,.inl e⟩,rfl,rfl⟩
theorem DPut.k {H:Hp} {a:Addr} {kvs:List (Key × V)} {k:Key} {v:V} {ep ep':Nat} (e:H a = some (.dK kvs ep)) (hl:kvs.length < sizeLine):DPut H a (kV k) v (upd H a (.dK (putK kvs k v) ep')):=.inl ⟨kvs,k,ep,ep',e,rfl,hl,rfl⟩
section
variable {X:Cx} {pins:List (Addr × Obj)} {σ:St} {H:Hp} {s:Shared} {a:Addr} {y v:V} {u r:Value} {o:Option V} {A:Around} {E:Value → Shared → Prop}
theorem Inv.big (I:Inv X pins σ H s):sysModules < s.heap.objs.size:=by
 have h:mainGlobals < s.heap.objs.size:=(I.mod.glob.keeps I.bk).lt
 exact Nat.lt_trans (by decide) h
theorem d_getItem {Q:Value → Shared → Prop} (hu:A.units + 1 < cLine) (I:Inv X pins σ H s) (g:DGet H a y (some v)) (ry:RelV y u) (h:∀ w' s',Inv X pins σ H s' → RelV v w' → Q w' s') :
 wpAny (model X.prog X.w) A (getItem (.ref a) u) Q E s:=by
 rcases g with ⟨kvs,k,e,ey,l⟩ | ⟨kvs,k,b,e,ey,eb,l⟩
 ·subst ey
  obtain ⟨z,hd,vs,rel,dd⟩:=dk_rd I.hok e
  obtain ⟨w',hw,rw'⟩:=RelO.some_of (v:=v) (o:=valueAt vs k) (by rw [l]; exact rel.val k)
  exact wpAny_getItem_of (kV_is ry) dd.mapOf hw (h w' _ (I.tok _) rw')
 ·subst ey
  cases (show u = Value.ref b from ry)
  obtain ⟨z,hd,xs,rel,dd⟩:=dt_rd I.hok e
  obtain ⟨w',hw,rw'⟩:=RelO.some_of (v:=v) (o:=(atKey xs k).map (·.2)) (by rw [l]; exact rel.val k)
  obtain ⟨p,hp,hp2⟩:=Option.map_eq_some_iff.mp hw
  refine wpAny_getItem_heap (tupleKind_room_in1 hu) (key_of I.hok eb) dd hp ?_
  rw [hp2]
  exact h w' _ (I.tok _) rw'
theorem d_in {Q:Value → Shared → Prop} (hu:A.units + 1 < cLine) (I:Inv X pins σ H s) (g:DGet H a y o) (ry:RelV y u) (h:∀ s',Inv X pins σ H s' → Q (.bool o.isSome) s') :
 wpAny (model X.prog X.w) A (compareOp .In u (.ref a)) Q E s:=by
 rcases g with ⟨kvs,k,e,ey,l⟩ | ⟨kvs,k,b,e,ey,eb,l⟩
 ·subst ey
  obtain ⟨z,hd,vs,rel,dd⟩:=dk_rd I.hok e
  refine wpAny_in_of (kV_is ry) hd dd.mapOf ?_
  rw [← (rel.val k).isSome_eq,← l]
  exact h _ (I.tok _)
 ·subst ey
  cases (show u = Value.ref b from ry)
  obtain ⟨z,hd,xs,rel,dd⟩:=dt_rd I.hok e
  refine wpAny_in_heap (tupleKind_room_in1 hu) (key_of I.hok eb) hd dd ?_
  have q:=(rel.val k).isSome_eq
  rw [Option.isSome_map] at q
  rw [← q,← l]
  exact h _ (I.tok _)
theorem d_notIn {Q:Value → Shared → Prop} (hu:A.units + 1 < cLine) (I:Inv X pins σ H s) (g:DGet H a y o) (ry:RelV y u) (h:∀ s',Inv X pins σ H s' → Q (.bool (!o.isSome)) s') :
 wpAny (model X.prog X.w) A (compareOp .NotIn u (.ref a)) Q E s:=by
 rcases g with ⟨kvs,k,e,ey,l⟩ | ⟨kvs,k,b,e,ey,eb,l⟩
 ·subst ey
  obtain ⟨z,hd,vs,rel,dd⟩:=dk_rd I.hok e
  refine wpAny_notIn_of (kV_is ry) hd dd.mapOf ?_
  rw [← (rel.val k).isSome_eq,← l]
  exact h _ (I.tok _)
 ·subst ey
  cases (show u = Value.ref b from ry)
  obtain ⟨z,hd,xs,rel,dd⟩:=dt_rd I.hok e
  refine wpAny_notIn_heap (tupleKind_room_in1 hu) (key_of I.hok eb) hd dd ?_
  have q:=(rel.val k).isSome_eq
  rw [Option.isSome_map] at q
  rw [← q,← l]
  exact h _ (I.tok _)
theorem d_write {h':Heap} {t':Nat} {ob:HO} (I:Inv X pins σ H s) (mu:Mut (H a)) (hs:Heap.SameBut a s.heap h') (he:∃ q,h'.get? a = some q) (new:ObjOk X.prog X.w (upd H a ob) h' a ob) :
 Inv X pins σ (upd H a ob) { s with heap:=h',toks:=t' } :=
 I.write (x:=a) (e:=a) mu (.inl rfl) (fun b q hb z =>(hs.2 b hb).trans z) he new
theorem dk_new {P:Program} {w:World} {H':Hp} {h':Heap} {kvs:List (Key × V)} {vs:List (Key × Value)} (z:kvs.length ≤ sizeLine) (hd:(a == sysModules) = false) (rel:KV kvs vs) {ep:Nat} (dd:h'.DictAt (mixKind P w) a vs ep) :
 ObjOk P w H' h' a (.dK kvs ep):=⟨z,hd,vs,rel,dd⟩
theorem d_setItem {Q:Unit → Shared → Prop} (hu:A.units + 1 < cLine) (I:Inv X pins σ H s) (g:∃ H',DPut H a y v H') (ry:RelV y u) (rv:RelV v r) (h:∀ H' s',DPut H a y v H' → Inv X pins σ H' s' → Q () s') :
 wpAny (model X.prog X.w) A (setItem (.ref a) u r) Q E s:=by
 obtain ⟨H',g⟩:=g
 have gg:=g
 rcases g with ⟨kvs,k,ep,ep',e,ey,l,eH⟩ | ⟨kvs,k,b,e,ey,eb,l,eH⟩
 ·subst ey eH
  obtain ⟨z,hd,vs,rel,dd⟩:=dk_of I.hok e
  have hz:vs.length ≤ sizeLine:=by rw [← rel.length]; exact z
  have hl:(putK kvs k v).length ≤ sizeLine:=by have:=length_putK kvs k v; omega
  refine wpAny_setItem_pairs (hsz:=hz) (kV_is ry) dd fun h' dd' hs =>?_
  have he:∃ q,h'.get? a = some q:=let ⟨q,_,_,hq,_⟩:=dd'; ⟨q,hq⟩
  obtain ⟨ep2,dd'⟩:=dd'.dictAt
  exact h _ _ (.inl ⟨kvs,k,ep,ep2,e,rfl,l,rfl⟩) (d_write I (by rw [e]; exact True.intro) hs he (dk_new hl hd (rel.put k rv) dd'))
 ·subst ey eH
  cases (show u = Value.ref b from ry)
  obtain ⟨z,hd,xs,rel,dd⟩:=dt_of I.hok e
  have hz:xs.length ≤ sizeLine:=by rw [← Paired.length rel]; exact z
  have hl:(putK kvs k v).length ≤ sizeLine:=by have:=length_putK kvs k v; omega
  refine wpAny_setItem_heap (hsz:=hz) (tupleKind_room_in1 hu) (key_of I.hok eb) dd fun h' dd' hs =>h _ _ gg ?_
  obtain ⟨q,es,ep,hq,h2,h3,h4,_,h5⟩:=dd'
  refine d_write I (by rw [e]; exact True.intro) hs ⟨q,hq⟩ ⟨hl,hd,_,(rel.put k eb rv).keeps fun c ys ec =>?_,q,es,ep,hq,h2,h3,h4,h5⟩
  rw [upd_ne (ne_of ec e (fun z =>nomatch z))]
  exact ec
end
section
variable {X:Cx} {pins:List (Addr × Obj)} {σ:St} {H:Hp} {s:Shared} {a:Addr} {kvs:List (Key × V)} {k:Key} {u:Value} {A:Around} {E:Value → Shared → Prop}
theorem d_len {Q:Value → Shared → Prop} (I:Inv X pins σ H s) (e:RdK H a kvs) (h:∀ t s',Inv X pins σ H s' → Q (.int kvs.length t) s'):wpAny (model X.prog X.w) A (call (.builtin "len") [.ref a]) Q E s:=by
 obtain ⟨z,hd,vs,rel,dd⟩:=dk_rd I.hok e
 refine call_len_dict hd dd (by rw [← rel.length]; rw [sizeLine_eq] at z; omega) ?_
 rw [← rel.length]
 exact h _ _ (I.tok _)
end
noncomputable def NoSl (i:Expr):Prop:=∀ ov iv,subscripted i false ov iv = operate [ov,iv] (getItem ov iv)
theorem subD_of {prog:Program} {w:World} {A:Around} {E:Value → Shared → Prop} {s:Shared} {env:Env} {value slice:Expr} {pos:Pos} {T id:String} {Q:Value → Shared → Prop}
 (hl:typeLookup (.type T) "__getitem__" = pure (some (.builtin id))) (hs:NoSl slice)
 (h:wpAny (model prog w) A (eval value env) (fun o s₁ =>wpAny (model prog w) A (eval slice env) (fun i s₂ =>s₂.TypeIs o T ∧ wpAny (model prog w) A (getItem o i) Q E s₂) E s₁) E s) :
 wpAny (model prog w) A (eval (.Subscript value slice pos) env) Q E s:=by
 refine Subscript_ (wpAny_mono h (fun o s₁ h₁ =>wpAny_mono h₁ (fun i s₂ h₂ =>?_) fun _ _ x =>x) fun _ _ x =>x)
 obtain ⟨hT,h₂⟩:=h₂
 unfold subscriptTail
 refine wpAny_bind ?_
 rw [getitemInPython_of_ne hT.not_modules]
 refine wpAny_bind (wpAny_specialOf hT hl ?_)
 have fin:wpAny (model prog w) A (subscripted slice false o i) (fun r s₃ =>wpAny (model prog w) A (letTemporaryGo value o r >>= fun _ =>pure r) Q E s₃) E s₂:=by
  rw [hs o i]
  exact wpAny_operating (wpAny_mono h₂ (fun r s₃ h₃ =>wpAny_bind (wpAny_letTemporaryGo (wpAny_pure h₃))) fun _ _ x =>x)
 first
  | exact wpAny_pure (wpAny_bind fin)
  | exact wpAny_bind (wpAny_pure (wpAny_bind fin))
  | exact wpAny_bind fin
theorem dict_typeIs {X:Cx} {pins:List (Addr × Obj)} {σ:St} {H:Hp} {s:Shared} {a:Addr} {y:V} {o:Option V} (I:Inv X pins σ H s) (g:DGet H a y o):s.TypeIs (.ref a) "dict":=by
 rcases g with ⟨kvs,k,e,_,_⟩ | ⟨kvs,k,b,e,_,_,_⟩
 ·obtain ⟨_,_,vs,_,dd⟩:=dk_rd I.hok e
  exact dd.typeIs
 ·obtain ⟨_,_,xs,_,dd⟩:=dt_rd I.hok e
  exact dd.typeIs
noncomputable def tDGet (td ty:TE):TE:=fun σ H Q =>td σ H fun x H1 =>ty σ H1 fun y H2 =>∃ a v,x = .ref a ∧ DGet H2 a y (some v) ∧ Q v H2
noncomputable def tDIn (ty td:TE):TE:=fun σ H Q =>ty σ H fun y H1 =>td σ H1 fun x H2 =>∃ a o,x = .ref a ∧ DGet H2 a y o ∧ Q (.bl o.isSome) H2
noncomputable def tDNotIn (ty td:TE):TE:=fun σ H Q =>ty σ H fun y H1 =>td σ H1 fun x H2 =>∃ a o,x = .ref a ∧ DGet H2 a y o ∧ Q (.bl (!o.isSome)) H2
noncomputable def sDPut (td ty tv:TE):TS:=fun D σ H =>tv σ H fun v H1 =>td σ H1 fun x H2 =>ty σ H2 fun y H3 =>∃ a,x = .ref a ∧ (∃ H4,DPut H3 a y v H4) ∧ ∀ H4,DPut H3 a y v H4 → D.nx σ H4
section
variable {X:Cx} {o i e value:Expr} {pos pos' tpos:Pos} {td ty tv:TE}
theorem pe_dget (hu:X.A.units + 1 < cLine) (ho:PE X o td) (hi:PE X i ty) (hs:NoSl i):PE X (.Subscript o i pos) (tDGet td ty):=by
 intro pins s σ H Q I h
 refine subD_of PySem.F.slot_dict_getitem.lookup hs (thn (ho pins s σ H _ I h) fun u s1 ⟨x,H1,I1,rx,q1⟩ =>thn (hi pins s1 σ H1 _ I1 q1) fun iv s2 ⟨y,H2,I2,ry,a,v,ex,g,q2⟩ =>?_)
 subst ex
 obtain rfl:u = Value.ref a:=rx
 exact ⟨dict_typeIs I2 g,d_getItem hu I2 g ry fun w' s3 I3 rw' =>⟨v,H2,I3,rw',q2⟩⟩
theorem pc_din (hu:X.A.units + 1 < cLine) (hi:PE X i ty) (ho:PE X o td):PC X .In i o (tDIn ty td):=by
 intro pins s σ H Q I h
 refine thn (hi pins s σ H _ I h) fun iv s1 ⟨y,H1,I1,ry,q1⟩ =>thn (ho pins s1 σ H1 _ I1 q1) fun u s2 ⟨x,H2,I2,rx,a,ov,ex,g,q2⟩ =>?_
 subst ex
 obtain rfl:u = Value.ref a:=rx
 exact d_in hu I2 g ry fun s3 I3 =>⟨.bl ov.isSome,H2,I3,rfl,q2⟩
theorem pc_dnotin (hu:X.A.units + 1 < cLine) (hi:PE X i ty) (ho:PE X o td):PC X .NotIn i o (tDNotIn ty td):=by
 intro pins s σ H Q I h
 refine thn (hi pins s σ H _ I h) fun iv s1 ⟨y,H1,I1,ry,q1⟩ =>thn (ho pins s1 σ H1 _ I1 q1) fun u s2 ⟨x,H2,I2,rx,a,ov,ex,g,q2⟩ =>?_
 subst ex
 obtain rfl:u = Value.ref a:=rx
 exact d_notIn hu I2 g ry fun s3 I3 =>⟨.bl (!ov.isSome),H2,I3,rfl,q2⟩
theorem ps_dput (hu:X.A.units + 1 < cLine) (ho:PE X o td) (hi:PE X i ty) (hv:PE X value tv) (hs:swapsWith value (some (.Subscript o i pos')) pos.line X.env = pure false) :
 PS X (.Assign [.Subscript o i pos'] value pos) (sDPut td ty tv):=by
 intro pins s σ H D I h
 refine wpAny_Assign_Subscript (thn (hv pins s σ H _ I h) fun r s1 ⟨v,H1,I1,rv,q1⟩ =>thn (ho pins s1 σ H1 _ I1 q1) fun u s2 ⟨x,H2,I2,rx,q2⟩ =>thn (hi pins s2 σ H2 _ I2 q2) fun iv s3 ⟨y,H3,I3,ry,a,ex,g,q3⟩ =>?_) hs
 subst ex
 obtain rfl:u = Value.ref a:=rx
 exact d_setItem hu I3 g ry rv fun H4 s4 g4 I4 =>⟨σ,H4,I4,q3 H4 g4⟩
end
theorem dk_empty {P:Program} {w:World} {H:Hp} (h:Heap) (hb:sysModules < h.objs.size):∃ ep,ObjOk P w H (h.push { cls:=.type "dict",data:=.dict #[] }) h.objs.size (.dK [] ep):=by
 obtain ⟨ep,x⟩:=(Heap.DictOf.new (knd:=mixKind P w) h).dictAt
 exact ⟨ep,Nat.zero_le _,beq_eq_false_iff_ne.mpr (Ne.symm (Nat.ne_of_lt hb)),[],.nil,x⟩
noncomputable def tDNewK:TE:=fun _ H Q =>∀ p ep,H p = none → Q (.ref p) (upd H p (.dK [] ep))
section
variable {X:Cx} {pos:Pos}
theorem pe_dnewK:PE X (.Dict [] [] pos) tDNewK:=fun pins s σ H Q I h =>by
 obtain ⟨ep,ok⟩:=dk_empty (P:=X.prog) (w:=X.w) (H:=upd H s.heap.objs.size (.dK [] 0)) s.heap I.big
 have ok:ObjOk X.prog X.w (upd H s.heap.objs.size (.dK [] ep)) (s.heap.push { cls:=.type "dict",data:=.dict #[] }) s.heap.objs.size (.dK [] ep):=ok
 exact wpAny_Dict_empty ⟨.ref s.heap.objs.size,_,I.laid (a:=s.heap.objs.size) (o:=.dK [] ep) (t':=s.toks) (fun _ _ q =>Heap.get?_push_of_some _ q) (Nat.le_refl _) ok,rfl,h _ _ (I.hok.fresh (Nat.le_refl _))⟩
end
structure M1 (X:Cx) (o:Expr) (m:Str) (apos:Pos) (e:Expr) (cpos:Pos):Prop where
 base:attributeBase o m X.env (eval o X.env) = eval o X.env
 few:((backTo cpos (starEach [e] X.env)).all (fun x =>!x.1) && (backToKw cpos (keywordEach [] X.env)).all (fun x =>x.1.isSome)
  && decide (([e]:List Expr).length + ([]:List Keyword).length + (if ([]:List Keyword).isEmpty then 0 else 1) < 30)) = true
 line:(apos.endLine == cpos.line) = true
 trees:backTo cpos (starEach [e] X.env) = [(false,eval e X.env)]
structure M2 (X:Cx) (o:Expr) (m:Str) (apos:Pos) (e f:Expr) (cpos:Pos):Prop where
 base:attributeBase o m X.env (eval o X.env) = eval o X.env
 few:((backTo cpos (starEach [e,f] X.env)).all (fun x =>!x.1) && (backToKw cpos (keywordEach [] X.env)).all (fun x =>x.1.isSome)
  && decide (([e,f]:List Expr).length + ([]:List Keyword).length + (if ([]:List Keyword).isEmpty then 0 else 1) < 30)) = true
 line:(apos.endLine == cpos.line) = true
 trees:backTo cpos (starEach [e,f] X.env) = [(false,eval e X.env),(false,eval f X.env)]
noncomputable def IsD (H:Hp) (a:Addr):Prop:=(∃ kvs,RdK H a kvs) ∨ ∃ kvs,Rd H a (.dT kvs)
theorem isD_at {X:Cx} {pins:List (Addr × Obj)} {σ:St} {H:Hp} {s:Shared} {a:Addr} (I:Inv X pins σ H s) (d:IsD H a) :
 s.TypeIs (.ref a) "dict" ∧ (∀ b,Value.ref a = .ref b → ∃ ob,s.heap.get? b = some ob ∧ ob.dict = none) ∧ (a == sysModules) = false:=by
 rcases d with ⟨kvs,e⟩ | ⟨kvs,e⟩
 ·obtain ⟨_,hd,vs,_,dd⟩:=dk_rd I.hok e
  refine ⟨dd.typeIs,fun b q =>?_,hd⟩
  cases q
  obtain ⟨ob,_,_,h1,h2,_⟩:=dd
  exact ⟨ob,h1,h2.2.1⟩
 ·obtain ⟨_,hd,xs,_,dd⟩:=dt_rd I.hok e
  refine ⟨dd.typeIs,fun b q =>?_,hd⟩
  cases q
  obtain ⟨ob,_,_,h1,h2,_⟩:=dd
  exact ⟨ob,h1,h2.2.1⟩
section
variable {X:Cx} {pins:List (Addr × Obj)} {σ:St} {H:Hp} {s:Shared} {a:Addr} {y d:V} {u r:Value} {o:Option V} {A:Around} {E:Value → Shared → Prop}
theorem d_get2 {Q:Value → Shared → Prop} (hu:A.units + 1 < cLine) (I:Inv X pins σ H s) (g:DGet H a y o) (ry:RelV y u) (rd:RelV d r) (h:∀ w' s',Inv X pins σ H s' → RelV (o.getD d) w' → Q w' s') :
 wpAny (model X.prog X.w) A (call (.builtin "dict.get") [.ref a,u,r]) Q E s:=by
 rcases g with ⟨kvs,k,e,ey,l⟩ | ⟨kvs,k,b,e,ey,eb,l⟩
 ·subst ey
  obtain ⟨z,hd,vs,rel,dd⟩:=dk_rd I.hok e
  refine call_meetsIn PySem.F.slot_dict_get dd.typeIs PySem.F.entry_dict_get (PySem.F.args_dict_get_3 _ _ _) (meets_dict_get_default (mixKind X.prog X.w) a (kV_is ry) hd r) ⟨_,dd.mapOf,h _ _ (I.tok _) ?_⟩
  rw [l]
  exact (rel.val k).getD rd
 ·subst ey
  cases (show u = Value.ref b from ry)
  obtain ⟨z,hd,xs,rel,dd⟩:=dt_rd I.hok e
  refine call_meetsIn PySem.F.slot_dict_get dd.typeIs PySem.F.entry_dict_get (PySem.F.args_dict_get_3 _ _ _) (meetsH_dict_get_default (tupleKind (mixKind X.prog X.w)) a b hd r) ⟨tupleKind_room_in1 hu,k,xs,key_of I.hok eb,dd,h _ _ (I.tok _) ?_⟩
  rw [l]
  exact (rel.val k).getD rd
end
noncomputable def tDGet2 (td ty tx:TE):TE:=fun σ H Q =>td σ H fun x H1 =>∃ a,x = .ref a ∧ IsD H1 a ∧ ty σ H1 fun y H2 =>tx σ H2 fun z H3 =>∃ o,DGet H3 a y o ∧ Q (o.getD z) H3
section
variable {X:Cx} {o e f:Expr} {apos cpos:Pos} {td ty tx:TE}
theorem pe_dget2 (hu:X.A.units + 1 < cLine) (ho:PE X o td) (he:PE X e ty) (hf:PE X f tx) (m:M2 X o "get" apos e f cpos):PE X (.Call (.Attribute o "get" apos) [e,f] [] cpos) (tDGet2 td ty tx):=by
 intro pins s σ H Q I h
 refine wpAny_Call_method m.base m.few m.line PySem.F.plainAttrs_dict PySem.F.slot_dict_get PySem.F.type_dict_get (thn (ho pins s σ H _ I h) fun u s1 ⟨x,H1,I1,rx,a,ex,d,q1⟩ =>?_)
 subst ex
 obtain rfl:u = Value.ref a:=rx
 obtain ⟨t1,t2,_⟩:=isD_at I1 d
 refine ⟨t1,t2,?_⟩
 rw [m.trees]
 refine Calls.callWith_builtin rfl (Calls.evalArgs_plain (Calls.spliced_cons (thn (he pins s1 σ H1 _ I1 q1) fun iv s2 ⟨y,H2,I2,ry,q2⟩ =>
  Calls.spliced_cons (thn (hf pins s2 σ H2 _ I2 q2) fun fv s3 ⟨z,H3,I3,rz,ov,g,q3⟩ =>Calls.spliced_nil ?_))))
 exact d_get2 hu I3 g ry rz fun w' s4 I4 rw' =>⟨_,H3,I4,rw',q3⟩
end
section
variable {X:Cx} {pins:List (Addr × Obj)} {σ:St} {H:Hp} {s:Shared} {a:Addr} {kvs:List (Key × V)} {A:Around} {E:Value → Shared → Prop}
end
section
variable {X:Cx} {pins:List (Addr × Obj)} {σ:St} {H:Hp} {s:Shared} {a:Addr} {y:V} {u:Value} {A:Around} {E:Value → Shared → Prop}
end
end L2
namespace HT
open PySem PyProof.Rows
section
open PySem.SeqAt
open PySem.AutoSeq1 (wpAny_loadPart')
open PySem.MeetsSeq PySem.MeetsSeq2 PySem.MeetsSeq3
end
section
variable {prog:Program} {w:World} {A:Around} {E:Value → Shared → Prop} {s:Shared}
theorem cat_tup {t b:Addr} {vs ws:List Value} {Q:Value → Shared → Prop} (ht:IsTup s.heap t vs.toArray) (hb:IsTup s.heap b ws.toArray) (hv:vs ≠ [])
 (h1:ws = [] → Q (.ref t) s) (h2:ws ≠ [] → Q (.ref s.heap.objs.size) { s with heap:=s.heap.push { cls:=.type "tuple",data:=.seq (vs ++ ws).toArray } })
 (hsz:vs.length + ws.length ≤ sizeLine):wpAny (model prog w) A (binaryOp .Add (.ref t) (.ref b)) Q E s:=by
 obtain ⟨⟨cls,dd,data,sl⟩,ho,hc,n,hd⟩:=id ht
 obtain ⟨⟨cls2,dd2,data2,sl2⟩,ho2,hc2,n2,hd2⟩:=id hb
 simp only at hc hd hc2 hd2
 subst hc hd hc2 hd2
 have e:vs.toArray ++ ws.toArray = (vs ++ ws).toArray:=by simp
 by_cases hw:ws = []
 ·exact concat_meets ⟨_,ho,rfl⟩ ⟨_,ho2,rfl⟩ noFill_tuple_add seq_tuple_add PySem.F.slot_tuple_add PySem.F.entry_tuple_add (PySem.F.args_tuple_add_2 _ _)
   (tuple_addW1 t b vs.toArray ws.toArray n n2 dd dd2 sl sl2 (by simpa using hv) (by simp [hw])) ⟨ho,ho2,h1 hw⟩
 ·refine concat_meets ⟨_,ho,rfl⟩ ⟨_,ho2,rfl⟩ noFill_tuple_add seq_tuple_add PySem.F.slot_tuple_add PySem.F.entry_tuple_add (PySem.F.args_tuple_add_2 _ _)
   (tuple_addW2 t b vs.toArray ws.toArray n n2 dd dd2 sl sl2 (by simpa using hv) (by simpa using hw) (by rw [List.size_toArray,List.size_toArray]; exact hsz)) ⟨ho,ho2,?_⟩
  rw [e]
  exact h2 hw
noncomputable def sIx (n d:Nat):Option Int → Nat
 | none =>d
 | some v =>if v < 0 then (v + (n:Int)).toNat else min v.toNat n
theorem sIx_le (n d:Nat) (hd:d ≤ n) (o:Option Int):sIx n d o ≤ n:=by
 cases o with
 | none =>exact hd
 | some v =>
   show (if v < 0 then (v + (n:Int)).toNat else min v.toNat n) ≤ n
   by_cases hv:v < 0
   ·rw [if_pos hv]; omega
   ·rw [if_neg hv]; exact Nat.min_le_right _ _
theorem clip_eq (v:Int) (n d:Nat):(if v < 0 then max (v + (n:Int)) 0 else min v (n:Int)) = ((sIx n d (some v):Nat):Int):=by
 show (if v < 0 then max (v + (n:Int)) 0 else min v (n:Int)) = (((if v < 0 then (v + (n:Int)).toNat else min v.toNat n):Nat):Int)
 by_cases hv:v < 0
 ·simp only [if_pos hv]; omega
 ·simp only [if_neg hv]; omega
theorem adjust_gen (lo hi:Option Int) (n:Nat):Builtin.Slice.sliceAdjust lo hi 1 (n:Int) = (((sIx n 0 lo:Nat):Int),((sIx n n hi:Nat):Int)):=by
 have h1:¬ ((1:Int) < 0):=by omega
 unfold Builtin.Slice.sliceAdjust
 simp only [h1,if_false]
 refine Prod.ext ?_ ?_
 ·cases lo with
  | none =>rfl
  | some v =>exact clip_eq v n 0
 ·cases hi with
  | none =>rfl
  | some v =>exact clip_eq v n n
theorem places_gen (i j:Nat):Builtin.Slice.slicePlaces (i:Int) (j:Int) 1 = j - i:=by
 unfold Builtin.Slice.slicePlaces
 have h1:(1:Int) > 0:=by omega
 simp only [h1,if_true,Int.ediv_one]
 split <;> omega
theorem slicePart_ {v:Value} {o:Option Int} {Q:Option Int → Shared → Prop} (p:IsPart v o) (h:Q o s):wpAny (model prog w) A (Builtin.Slice.slicePartIndex v) Q E s:=by
 cases p with
 | none =>exact slicePart_none h
 | int i t =>exact slicePart_int h
theorem sliceApplied_gen {sl:Addr} {vl vu:Value} {lo hi:Option Int} {n:Nat} {Q:Int × Int × Nat → Shared → Prop} (hs:s.heap.IsSliceOf sl vl vu .none) (pl:IsPart vl lo) (pu:IsPart vu hi)
 (h:Q (((sIx n 0 lo:Nat):Int),1,sIx n n hi - sIx n 0 lo) s):wpAny (model prog w) A (Builtin.Slice.sliceApplied (.ref sl) (pure (n:Int))) Q E s:=by
 obtain ⟨os,hos,hcs,hds⟩:=id hs
 unfold Builtin.Slice.sliceApplied Builtin.Slice.sliceFields
 refine wpAny_bind (wpAny_bind (wpAny_field hos hds (x:=vl) rfl (wpAny_bind (wpAny_field hos hds (x:=vu) rfl (wpAny_bind (wpAny_field hos hds (x:=.none) rfl (wpAny_pure ?_)))))))
 refine wpAny_bind (slicePart_none ?_)
 show wpAny _ _ (if ((1:Int) == 0) = true then _ else _) _ _ s
 rw [if_neg (by decide)]
 refine wpAny_bind (slicePart_ pl (wpAny_bind (slicePart_ pu (wpAny_bind (wpAny_pure ?_)))))
 show wpAny _ _ (match Builtin.Slice.sliceAdjust lo hi 1 (n:Int) with | (lo,hi) =>pure (lo,(1:Int),Builtin.Slice.slicePlaces lo hi 1)) _ _ s
 rw [adjust_gen lo hi n]
 show wpAny _ _ (pure (((sIx n 0 lo:Nat):Int),(1:Int),Builtin.Slice.slicePlaces ((sIx n 0 lo:Nat):Int) ((sIx n n hi:Nat):Int) 1)) _ _ s
 rw [places_gen]
 exact wpAny_pure h
theorem pick_gen (xs:Array Value) (i k:Nat):((List.range k).filterMap fun (m:Nat) =>xs[((i:Int) + (m:Int) * 1).toNat]?).toArray = ((xs.toList.drop i).take k).toArray:=by
 have e:(fun (m:Nat) =>xs[((i:Int) + (m:Int) * 1).toNat]?) = fun m =>xs[i + m]?:=by
  funext m
  have:((i:Int) + (m:Int) * 1).toNat = i + m:=by omega
  rw [this]
 rw [e]
 have:=pick_run xs i k
 rw [List.filterMap_map] at this
 have e2:((fun x =>xs[x]?) ∘ fun x =>i + x) = fun m =>xs[i + m]?:=rfl
 rw [e2] at this
 rw [this]
theorem getItem_tuple_cut {t sl:Addr} {items:Array Value} {vl vu:Value} {lo hi:Option Int} {Q:Value → Shared → Prop} (ht:IsTup s.heap t items) (hs:s.heap.IsSliceOf sl vl vu .none) (pl:IsPart vl lo) (pu:IsPart vu hi)
 (hw:¬ (sIx items.size 0 lo = 0 ∧ sIx items.size items.size hi = items.size))
 (h:Q (.ref s.heap.objs.size) { s with heap:=s.heap.push { cls:=.type "tuple",data:=.seq ((items.toList.drop (sIx items.size 0 lo)).take (sIx items.size items.size hi - sIx items.size 0 lo)).toArray } })
 (hsz:items.size ≤ sizeLine):wpAny (model prog w) A (getItem (.ref t) (.ref sl)) Q E s:=by
 have htake:sizeOk (.seq ((items.toList.drop (sIx items.size 0 lo)).take (sIx items.size items.size hi - sIx items.size 0 lo)).toArray):=by
  show ((items.toList.drop (sIx items.size 0 lo)).take (sIx items.size items.size hi - sIx items.size 0 lo)).toArray.size ≤ sizeLine
  rw [List.size_toArray,List.length_take,List.length_drop,Array.length_toList]
  omega
 have hj:sIx items.size items.size hi ≤ items.size:=sIx_le _ _ (Nat.le_refl _) hi
 obtain ⟨os,hos,hcs,hds⟩:=id hs
 have hTs:s.TypeIs (.ref sl) "slice":=⟨os,hos,hcs⟩
 unfold getItem
 try with_reducible refine wpAny_holding ?_
 first | refine wpAny_bind (wpAny_pure ?_) | skip
 refine wpAny_bind (wpAny_sequenceKey ht.typeIs (by decide) ?_)
 refine wpAny_bind (wpAny_callSpecial?_slot (name:=Str.ofString "__getitem__") ht.typeIs PyProof.Rows.slot_tuple_getitem
  (wpAny_call_entry PyProof.Rows.slot_tuple_getitem ht.typeIs entry_tuple_getitem ?_ (args_tuple_getitem _ _)))
 show wpAny _ _ (Builtin.Tuple.tupleItemsOf (.ref t) >>= _) _ _ s
 refine wpAny_bind (tupleItemsOf_ ht ?_)
 refine wpAny_bind (wpAny_typeOf hTs ?_)
 rw [if_pos (by decide)]
 refine wpAny_bind (sliceApplied_gen hs pl pu ?_)
 have hno:¬ ((((sIx items.size 0 lo:Nat):Int) == 0 && (1:Int) == 1 && (sIx items.size items.size hi - sIx items.size 0 lo) == items.size) = true):=by
  intro q
  rw [Bool.and_eq_true,Bool.and_eq_true] at q
  have q1:((sIx items.size 0 lo:Nat):Int) = 0:=eq_of_beq q.1.1
  have q2:sIx items.size items.size hi - sIx items.size 0 lo = items.size:=eq_of_beq q.2
  exact hw ⟨by omega,by omega⟩
 show wpAny _ _ (if (((sIx items.size 0 lo:Nat):Int) == 0 && (1:Int) == 1 && (sIx items.size items.size hi - sIx items.size 0 lo) == items.size) = true then _ else _) _ _ s
 rw [if_neg hno,pick_gen]
 first
  | exact wpAny_bind (m:=Builtin.Tuple.tupleExact _) (wpAny_newObj_type (wpAny_pure ⟨_,rfl,wpAny_pure h⟩) htake)
  | exact wpAny_bind (m:=Builtin.Tuple.tupleExact _) (wpAny_newObj_type (wpAny_bind (wpAny_pure (wpAny_pure ⟨_,rfl,wpAny_pure h⟩))) htake)
  | exact wpAny_bind (wpAny_bind (m:=Builtin.Tuple.tupleExact _) (wpAny_newObj_type (wpAny_pure (wpAny_pure ⟨_,rfl,wpAny_pure h⟩)) htake))
  | exact wpAny_bind (wpAny_bind (m:=Builtin.Tuple.tupleExact _) (wpAny_newObj_type (wpAny_pure ⟨_,rfl,wpAny_pure h⟩) htake))
end
end HT
namespace L2
open PySem PySem.Spec PyProof.Rows
noncomputable abbrev TO:=St → Hp → (Option Int → Hp → Prop) → Prop
noncomputable def PO (X:Cx) (e:Option Expr) (t:TO):Prop :=
 ∀ (pins:List (Addr × Obj)) (s:Shared) (σ:St) (H:Hp) (Q:Option Int → Hp → Prop),Inv X pins σ H s → t σ H Q →
  wpAny (model X.prog X.w) X.A (evalPart e X.env) (fun u s' =>∃ o H',Inv X pins σ H' s' ∧ IsPart u o ∧ Q o H') X.xe s
noncomputable def tNoPart:TO:=fun _ H Q =>Q none H
noncomputable def tPart (t:TE):TO:=fun σ H Q =>t σ H fun x H1 =>∃ i,x = .int i ∧ Q (some i) H1
theorem intsAre_of {ns:List Int}:∀ {us:List Value},Vals (ns.map V.int) us → IntsAre us ns:=by
 induction ns with
 | nil =>intro us r; rw [List.map_nil] at r; cases r; exact .nil
 | cons n ns ih =>
   intro us r
   rw [List.map_cons] at r
   cases r with
   | cons r1 r2 =>
     obtain ⟨t,e⟩:=r1
     subst e
     exact .cons n t (ih r2)
section
variable {X:Cx} {e:Expr} {te:TE} {lo hi:Option Expr} {tl th:TO} {pos p2:Pos}
theorem po_none:PO X none tNoPart:=by
 intro pins s σ H Q I h
 rw [evalPart_none]
 exact wpAny_pure ⟨none,H,I,.none,h⟩
theorem po_some (h:PE X e te):PO X (some e) (tPart te):=by
 intro pins s σ H Q I hw
 rw [evalPart_some]
 refine thn (h pins s σ H _ I hw) fun u s1 ⟨x,H1,I1,r1,q1⟩ =>?_
 obtain ⟨i,rfl,q⟩:=q1
 obtain ⟨t,rfl⟩:=r1
 exact ⟨some i,H1,I1,.int i t,q⟩
noncomputable def SlR (X:Cx) (r:V → Option Int → Option Int → Hp → VK → Prop):Prop :=
 ∀ (pins:List (Addr × Obj)) (s:Shared) (σ:St) (H:Hp) (x:V) (v vl vu:Value) (lo hi:Option Int) (sl:Addr) (Q:VK),Inv X pins σ H s → RelV x v → s.heap.IsSliceOf sl vl vu .none → IsPart vl lo → IsPart vu hi → r x lo hi H Q →
  ∃ T id,typeLookup (.type T) "__getitem__" = pure (some (.builtin id)) ∧ s.TypeIs v T ∧ wpAny (model X.prog X.w) X.A (getItem v (.ref sl)) (EP X pins σ Q) X.xe s
theorem SlR.or {r r':V → Option Int → Option Int → Hp → VK → Prop} (h:SlR X r) (h':SlR X r'):SlR X (fun x lo hi H Q =>r x lo hi H Q ∨ r' x lo hi H Q):=by
 intro pins s σ H x v vl vu lo hi sl Q I rx hs pl pu q
 rcases q with q | q
 ·exact h pins s σ H x v vl vu lo hi sl Q I rx hs pl pu q
 ·exact h' pins s σ H x v vl vu lo hi sl Q I rx hs pl pu q
noncomputable def tSl (r:V → Option Int → Option Int → Hp → VK → Prop) (te:TE) (tl th:TO):TE:=fun σ H Q =>te σ H fun x H1 =>tl σ H1 fun l H2 =>th σ H2 fun u H3 =>r x l u H3 Q
theorem pe_slice {r:V → Option Int → Option Int → Hp → VK → Prop} (hr:SlR X r) (he:PE X e te) (hl:PO X lo tl) (hu:PO X hi th):PE X (.Subscript e (.Slice lo hi none p2) pos) (tSl r te tl th):=by
 intro pins s σ H Q I h
 refine Subscript_ (thn (he pins s σ H _ I h) fun v s1 ⟨x,H1,I1,r1,q1⟩ =>?_)
 refine wpAny_Slice (thn (hl pins s1 σ H1 _ I1 q1) fun vl s2 ⟨l,H2,I2,pl,q2⟩ =>thn (hu pins s2 σ H2 _ I2 q2) fun vu s3 ⟨u,H3,I3,pu,q3⟩ =>?_)
 rw [evalPart_none]
 refine wpAny_pure ?_
 have I4:Inv X pins σ H3 { s3 with heap:=s3.heap.push { cls:=.type "slice",data:=.fields #[vl,vu,.none] } }:=I3.kept (t':=s3.toks) fun b ob q =>Heap.get?_push_of_some _ q
 obtain ⟨T,id,hT,ht,hg⟩:=hr pins { s3 with heap:=s3.heap.push { cls:=.type "slice",data:=.fields #[vl,vu,.none] } } σ H3 x v vl vu l u s3.heap.objs.size Q I4 r1 (Heap.IsSliceOf.new ..) pl pu q3
 show wpAny (model X.prog X.w) X.A (subscriptTail e (.Slice lo hi none p2) v (.ref s3.heap.objs.size)) (EP X pins σ Q) X.xe { s3 with heap:=s3.heap.push { cls:=.type "slice",data:=.fields #[vl,vu,.none] } }
 exact tail_any (ops:=[.ref s3.heap.objs.size,v]) ht hT hg (by with_unfolding_all rfl)
noncomputable def cutV (xs:List V) (lo hi:Option Int):List V:=(xs.drop (HT.sIx xs.length 0 lo)).take (HT.sIx xs.length xs.length hi - HT.sIx xs.length 0 lo)
theorem cutV_length (xs:List V) (lo hi:Option Int):(cutV xs lo hi).length ≤ xs.length:=by
 unfold cutV
 rw [List.length_take,List.length_drop]
 omega
noncomputable def rSlT (K:PySem.W.Frag):V → Option Int → Option Int → Hp → VK → Prop:=fun x lo hi H Q =>∃ a xs,x = .ref a ∧ SqT K H a xs ∧
 ¬ (HT.sIx xs.length 0 lo = 0 ∧ HT.sIx xs.length xs.length hi = xs.length) ∧ ∀ p,H p = none → Q (.ref p) (upd H p (.tup (cutV xs lo hi)))
theorem sl_tup:SlR X (rSlT X.K):=by
 intro pins s σ H x v vl vu lo hi sl Q I rx hs pl pu h
 obtain ⟨a,xs,rfl,hx,hw,q⟩:=h
 cases rx
 obtain ⟨its,r,ht,hz⟩:=I.tuple hx
 have hlen:its.toArray.size = xs.length:=by rw [List.size_toArray]; exact r.length.symm
 refine ⟨"tuple",_,PyProof.Rows.slot_tuple_getitem.lookup,ht.typeIs,?_⟩
 refine HT.getItem_tuple_cut ht hs pl pu (by rw [hlen]; exact hw) ?_ (by rw [hlen]; exact hz)
 rw [hlen]
 refine ⟨.ref s.heap.objs.size,_,I.laid (t':=s.toks) (o:=.tup (cutV xs lo hi)) (fun b ob q =>Heap.get?_push_of_some _ q) (Nat.le_refl _) ?_,rfl,q _ (I.hok.fresh (Nat.le_refl _))⟩
 exact ⟨Nat.le_trans (cutV_length xs lo hi) hz,_,(r.drop (HT.sIx xs.length 0 lo)).take (HT.sIx xs.length xs.length hi - HT.sIx xs.length 0 lo),IsTup.new _ _⟩
noncomputable def rCatT (K:PySem.W.Frag):R2:=fun x y H Q =>∃ a b xs ys,x = .ref a ∧ y = .ref b ∧ SqT K H a xs ∧ SqT K H b ys ∧ xs ≠ [] ∧ xs.length + ys.length ≤ sizeLine ∧
 (ys = [] → Q (.ref a) H) ∧ (ys ≠ [] → ∀ p,H p = none → Q (.ref p) (upd H p (.tup (xs ++ ys))))
theorem Vals.nil_iff {xs:List V} {us:List Value} (r:Vals xs us):us = [] ↔ xs = []:=by
 cases r with
 | nil =>simp
 | cons _ _ =>simp
theorem op_catT:OpR X (binaryOp .Add) (rCatT X.K):=by
 intro pins s σ H x y v u Q I rx ry h
 obtain ⟨a,b,xs,ys,rfl,rfl,ha,hb,hx,hz,q1,q2⟩:=h
 cases rx
 cases ry
 obtain ⟨its,r1,p1,_⟩:=I.tuple ha
 obtain ⟨its2,r2,p2,_⟩:=I.tuple hb
 refine HT.cat_tup p1 p2 (fun z =>hx (r1.nil_iff.mp z)) (fun z =>⟨.ref a,H,I,rfl,q1 (r2.nil_iff.mp z)⟩) (fun z =>?_) (by rw [← r1.length,← r2.length]; exact hz)
 refine ⟨.ref s.heap.objs.size,_,I.laid (t':=s.toks) (o:=.tup (xs ++ ys)) (fun b ob q =>Heap.get?_push_of_some _ q) (Nat.le_refl _) ?_,rfl,q2 (fun w =>z (r2.nil_iff.mpr w)) _ (I.hok.fresh (Nat.le_refl _))⟩
 exact ⟨by rw [List.length_append]; exact hz,_,r1.append r2,IsTup.new _ _⟩
end
end L2
namespace L2
open PySem PySem.Spec PyProof.Rows
noncomputable def ixN (n:Nat) (i:Int):Option Nat:=if 0 ≤ i then (if i < n then some i.toNat else none) else if -(n:Int) ≤ i then some (i + n).toNat else none
noncomputable def atI {α:Type} (xs:List α) (i:Int):Option α:=(ixN xs.length i).bind fun j =>xs[j]?
theorem ixN_seq {n:Nat} {i:Int} {j:Nat} (h:ixN n i = some j):seqIndex? i n = some j ∧ j < n ∧ -(n:Int) ≤ i ∧ i < n:=by
 unfold ixN at h
 by_cases h0:0 ≤ i
 ·rw [if_pos h0] at h
  by_cases h1:i < n
  ·rw [if_pos h1] at h
   have e:i.toNat = j:=Option.some.inj h
   exact ⟨by rw [seqIndex_of h0 h1,e],by omega,by omega,h1⟩
  ·rw [if_neg h1] at h; cases h
 ·rw [if_neg h0] at h
  by_cases h1:-(n:Int) ≤ i
  ·rw [if_pos h1] at h
   have e:(i + n).toNat = j:=Option.some.inj h
   exact ⟨by rw [seqIndex_neg (by omega) h1,e],by omega,h1,by omega⟩
  ·rw [if_neg h1] at h; cases h
theorem atI_get {α:Type} {xs:List α} {i:Int} {v:α} (h:atI xs i = some v):∃ j,seqIndex? i xs.length = some j ∧ xs[j]? = some v ∧ j < xs.length ∧ -(xs.length:Int) ≤ i ∧ i < xs.length:=by
 unfold atI at h
 cases e:ixN xs.length i with
 | none =>rw [e] at h; cases h
 | some j =>
   rw [e] at h
   obtain ⟨h1,h2,h3,h4⟩:=ixN_seq e
   exact ⟨j,h1,h,h2,h3,h4⟩
noncomputable def PlainIx (b:Expr):Prop:=∀ o i,subscripted b false o i = operate [o,i] (getItem o i)
noncomputable def IxR (X:Cx) (r:R2):Prop :=
 ∀ (value slice:Expr) (pins:List (Addr × Obj)) (s:Shared) (σ:St) (H:Hp) (x y:V) (v u:Value) (Q:VK),Inv X pins σ H s → RelV x v → RelV y u → r x y H Q →
  subscripted slice false v u = operate [v,u] (getItem v u) → wpAny (model X.prog X.w) X.A (subscriptTail value slice v u) (EP X pins σ Q) X.xe s
noncomputable def MtR (X:Cx) (id:String) (r:V → List V → Hp → VK → Prop):Prop :=
 ∀ (pins:List (Addr × Obj)) (s:Shared) (σ:St) (H:Hp) (x:V) (xs:List V) (v:Value) (us:List Value) (Q:VK),Inv X pins σ H s → RelV x v → Vals xs us → r x xs H Q →
  wpAny (model X.prog X.w) X.A (call (.builtin id) (v :: us)) (EP X pins σ Q) X.xe s
section
variable {X:Cx} {a b:Expr} {ta tb:TE} {pos:Pos}
theorem IxR.or {r r':R2} (h:IxR X r) (h':IxR X r'):IxR X (fun x y H Q =>r x y H Q ∨ r' x y H Q):=by
 intro value slice pins s σ H x y v u Q I rx ry q hs
 rcases q with q | q
 ·exact h value slice pins s σ H x y v u Q I rx ry q hs
 ·exact h' value slice pins s σ H x y v u Q I rx ry q hs
theorem pe_ix {r:R2} (hr:IxR X r) (ha:PE X a ta) (hb:PE X b tb) (hs:PlainIx b):PE X (.Subscript a b pos) (tOp r ta tb):=by
 intro pins s σ H Q I h
 exact Subscript_ (binT ha hb I h fun v u s2 x y H2 I2 rx ry q =>hr a b pins s2 σ H2 x y v u Q I2 rx ry q (hs _ _))
noncomputable def rIxL (K:PySem.W.Frag):R2:=fun x y H Q =>∃ p xs i v,x = .ref p ∧ y = .int i ∧ SqL K H p xs ∧ atI xs i = some v ∧ Q v H
noncomputable def rIxT (K:PySem.W.Frag):R2:=fun x y H Q =>∃ p xs i v,x = .ref p ∧ y = .int i ∧ SqT K H p xs ∧ atI xs i = some v ∧ Q v H
noncomputable def rIxS:R2:=fun x y H Q =>∃ z i c,x = .str z ∧ y = .int i ∧ z.length ≤ sizeLine ∧ atI z.cps.toList i = some c ∧ Q (.str ⟨#[c]⟩) H
theorem ix_list:IxR X (rIxL X.K):=by
 intro value slice pins s σ H x y v u Q I rx ry h hs
 obtain ⟨p,xs,i,z,rfl,rfl,hq,he,q⟩:=h
 cases rx
 obtain ⟨t,rfl⟩:=ry
 obtain ⟨its,r,pl,hz⟩:=I.list hq
 obtain ⟨j,h1,h2,h3,h4,h5⟩:=atI_get he
 obtain ⟨w,ew,rw'⟩:=r.get h2
 have hl:=r.length
 have hn:=line63
 have fin:EP X pins σ Q w s:=⟨z,H,I,rw',q⟩
 by_cases h0:0 ≤ i
 ·have hj:i.toNat = j:=by
   rw [seqIndex_of h0 h5] at h1
   exact Option.some.inj h1
  exact item_listR pl.isList h0 (by omega) (by rw [hj]; simpa using ew) fin hs
 ·have hj:(i + (its.toArray.size:Int)).toNat = j:=by
   rw [seqIndex_neg (by omega) h4] at h1
   rw [List.size_toArray,← hl]
   exact Option.some.inj h1
  exact subscriptTail_builtinR (x:=w) pl.isList.typeIs slot_list_getitem.lookup
   (wpAny_getItem_list_neg (Q:=fun r s' =>r = w ∧ EP X pins σ Q r s') pl.isList (by omega) (by rw [List.size_toArray] <;> omega) (by omega) (by rw [hj]; simpa using ew) ⟨rfl,fin⟩) hs
theorem ix_tup:IxR X (rIxT X.K):=by
 intro value slice pins s σ H x y v u Q I rx ry h hs
 obtain ⟨p,xs,i,z,rfl,rfl,hq,he,q⟩:=h
 cases rx
 obtain ⟨t,rfl⟩:=ry
 obtain ⟨its,r,pl,hz⟩:=I.tuple hq
 obtain ⟨j,h1,h2,h3,h4,h5⟩:=atI_get he
 obtain ⟨w,ew,rw'⟩:=r.get h2
 have hl:=r.length
 have hn:=line63
 have fin:EP X pins σ Q w s:=⟨z,H,I,rw',q⟩
 exact subscriptTail_builtinR (x:=w) pl.typeIs slot_tuple_getitem.lookup
  (getItem_tuple (j:=j) (Q:=fun r s' =>r = w ∧ EP X pins σ Q r s') pl (by omega) (by omega) (by rw [List.size_toArray,← hl]; exact h1) (by simpa using ew) ⟨rfl,fin⟩) hs
theorem ix_str:IxR X rIxS:=by
 intro value slice pins s σ H x y v u Q I rx ry h hs
 obtain ⟨z,i,c,rfl,rfl,hz,he,q⟩:=h
 obtain ⟨t,rfl⟩:=rx
 obtain ⟨t',rfl⟩:=ry
 obtain ⟨j,h1,h2,h3,h4,h5⟩:=atI_get he
 have hl:z.cps.toList.length = z.length:=by simp [Str.length]
 rw [hl] at h1 h4 h5
 have hn:=line63
 exact tail_any (typeIs_str s z t) slot_str_getitem.lookup (getItem_str (c:=c) (by
  have e1:decide (i < -(2 ^ 63:Int)) = false:=decide_eq_false (by omega)
  have e2:decide (i ≥ 2 ^ 63) = false:=decide_eq_false (by omega)
  rw [e1,e2,Bool.or_false]) (by rw [h1]; simpa using h2) ⟨.str ⟨#[c]⟩,H,I.tok _,⟨_,rfl⟩,q⟩) hs
theorem mapSeq_set (its:List Value) (n j:Nat) (u:Value):Obj.mapSeq (·.setIfInBounds j u) { cls:=.type "list",data:=.seq its.toArray n } = { cls:=.type "list",data:=.seq (its.set j u).toArray n }:=by
 simp [Obj.mapSeq]
theorem Inv.lst {pins:List (Addr × Obj)} {σ:St} {H:Hp} {s:Shared} {p:Addr} {xs:List V} (I:Inv X pins σ H s) (h:H p = some (.lst xs)) :
 ∃ (its:List Value) (n:Nat),Vals xs its ∧ s.heap.get? p = some { cls:=.type "list",data:=.seq its.toArray n } ∧ xs.length ≤ sizeLine:=by
 obtain ⟨z,its,n,r,e⟩:=I.hok p _ h
 exact ⟨its,n,r,e,z⟩
theorem Inv.lstUpd {pins:List (Addr × Obj)} {σ:St} {H:Hp} {s:Shared} {p:Addr} {xs ys:List V} {its its':List Value} {n n':Nat} {f:Obj → Obj} (I:Inv X pins σ H s) (h:H p = some (.lst xs))
 (ho:s.heap.get? p = some { cls:=.type "list",data:=.seq its.toArray n }) (hf:f { cls:=.type "list",data:=.seq its.toArray n } = { cls:=.type "list",data:=.seq its'.toArray n' }) (r:Vals ys its') (hz:ys.length ≤ sizeLine) (t:Nat) :
 Inv X pins σ (upd H p (.lst ys)) { s with heap:=s.heap.update p f,toks:=t }:=by
 have e:(s.heap.update p f).get? p = some { cls:=.type "list",data:=.seq its'.toArray n' }:=by
  rw [Heap.get?_update_self f ho (by rw [hf] <;> rfl),hf]
 refine I.write (x:=p) (e:=p) (by rw [h]; trivial) (.inl rfl) (fun b u hb q =>(Heap.get?_update_other _ _ (Ne.symm hb)).trans q) ⟨_,e⟩ ?_
 exact ⟨hz,its',n',r,e⟩
noncomputable def rSetL:V → V → V → Hp → (Hp → Prop) → Prop:=fun o i v H Q =>∃ p xs k j,o = .ref p ∧ i = .int k ∧ H p = some (.lst xs) ∧ ixN xs.length k = some j ∧ Q (upd H p (.lst (xs.set j v)))
theorem set_list:PSet X rSetL:=by
 intro pins s σ H o i v ov iv u Q I ro ri rv h
 obtain ⟨p,xs,k,j,rfl,rfl,hp,hj,q⟩:=h
 cases ro
 obtain ⟨t,rfl⟩:=ri
 obtain ⟨its,n,r,ho,hz⟩:=I.lst hp
 obtain ⟨h1,h2,h3,h4⟩:=ixN_seq hj
 have hl:=r.length
 have hn:=line63
 have I':Inv X pins σ (upd H p (.lst (xs.set j v))) { s with heap:=s.heap.update p (Obj.mapSeq (·.setIfInBounds j u)) } :=
  I.lstUpd hp ho (mapSeq_set its n j u) (r.set rv j) (by rw [List.length_set]; exact hz) s.toks
 by_cases h0:0 ≤ k
 ·have hk:k.toNat = j:=by
   rw [seqIndex_of h0 h4] at h1
   exact Option.some.inj h1
  exact PySem.W.ki_setAt ho h0 (by omega) (by rw [List.size_toArray,← hl]; exact h4) (by rw [hk]; exact ⟨_,I',q⟩)
 ·have hk:(k + (its.toArray.size:Int)).toNat = j:=by
   rw [seqIndex_neg (by omega) h3] at h1
   rw [List.size_toArray,← hl]
   exact Option.some.inj h1
  exact PySem.W.ki_setBack ho (by omega) (by rw [List.size_toArray,← hl]; exact h3) (by omega) (by rw [hk]; exact ⟨_,I',q⟩)
theorem slice_bounds (lo hi:Option Int) (n:Nat):(sliceBounds lo hi none n).1 = ((HT.sIx n 0 lo:Nat):Int) ∧ (sliceBounds lo hi none n).2.1 = ((HT.sIx n n hi:Nat):Int) ∧ (sliceBounds lo hi none n).2.2 = 1:=by
 refine ⟨?_,?_,rfl⟩
 ·cases lo with
  | none =>simp [sliceBounds,HT.sIx]
  | some i =>
    simp only [sliceBounds,HT.sIx,Option.getD_none,show (1:Int) > 0 by decide,if_true]
    by_cases h:i < 0
    ·simp only [h,if_true] <;> omega
    ·simp only [h,if_false] <;> omega
 ·cases hi with
  | none =>simp [sliceBounds,HT.sIx]
  | some i =>
    simp only [sliceBounds,HT.sIx,Option.getD_none,show (1:Int) > 0 by decide,if_true]
    by_cases h:i < 0
    ·simp only [h,if_true] <;> omega
    ·simp only [h,if_false] <;> omega
theorem slicePick_cut (its:List Value) (lo hi:Option Int):slicePick its.toArray lo hi none = ((its.drop (HT.sIx its.length 0 lo)).take (HT.sIx its.length its.length hi - HT.sIx its.length 0 lo)).toArray:=by
 obtain ⟨h1,h2,h3⟩:=slice_bounds lo hi its.toArray.size
 unfold slicePick
 rw [h1,h2,h3]
 simp only [sliceRange_one,pick_run,List.size_toArray] <;> rfl
noncomputable def rSlL (K:PySem.W.Frag):V → Option Int → Option Int → Hp → VK → Prop:=fun x lo hi H Q =>∃ a xs,x = .ref a ∧ SqL K H a xs ∧ ∀ p,H p = none → Q (.ref p) (upd H p (.lst (cutV xs lo hi)))
theorem sl_list:SlR X (rSlL X.K):=by
 intro pins s σ H x v vl vu lo hi sl Q I rx hs pl pu h
 obtain ⟨a,xs,rfl,hx,q⟩:=h
 cases rx
 obtain ⟨its,r,ht,hz⟩:=I.list hx
 have hlen:=r.length
 refine ⟨"list",_,slot_list_getitem.lookup,ht.isList.typeIs,?_⟩
 refine wpAny_getItem_list_slice ht.isList hs pl pu .none (by simp) ?_ (by rw [List.size_toArray] <;> omega)
 rw [slicePick_cut,← hlen]
 refine ⟨.ref s.heap.objs.size,_,I.laid (t':=s.toks) (o:=.lst (cutV xs lo hi)) (fun b ob q =>Heap.get?_push_of_some _ q) (Nat.le_refl _) ?_,rfl,q _ (I.hok.fresh (Nat.le_refl _))⟩
 exact ⟨Nat.le_trans (cutV_length xs lo hi) hz,_,0,(r.drop (HT.sIx xs.length 0 lo)).take (HT.sIx xs.length xs.length hi - HT.sIx xs.length 0 lo),Heap.get?_push_size _ rfl⟩
noncomputable def flatV:V → Bool
 | .non =>true
 | .bl _ =>true
 | .int _ =>true
 | .str _ =>true
 | _ =>false
noncomputable def eqV:V → V → Bool
 | .non,.non =>true
 | .bl a,.bl b =>a == b
 | .bl a,.int b =>(if a then 1 else 0) == b
 | .int a,.bl b =>a == (if b then 1 else 0)
 | .int a,.int b =>a == b
 | .str a,.str b =>a == b
 | _,_ =>false
theorem eqAt_V {A:Around} {s:Shared} {y x:V} {u v:Value} (ry:RelV y u) (rx:RelV x v) (fy:flatV y = true) (fx:flatV x = true):SeqAt.EqAt A s u v (eqV y x):=by
 cases y with
 | non =>
   cases ry
   cases x with
   | non =>cases rx; exact SeqAt.EqAt.same _
   | bl b =>cases rx; exact SeqAt.EqAt.none_bool b
   | int b =>obtain ⟨t,rfl⟩:=rx; exact SeqAt.EqAt.none_int b t
   | str b =>obtain ⟨t,rfl⟩:=rx; exact SeqAt.EqAt.none_str b t
   | _ =>exact absurd (show false = true from fx) Bool.false_ne_true
 | bl a =>
   cases ry
   cases x with
   | non =>cases rx; exact SeqAt.EqAt.bool_none a
   | bl b =>cases rx; exact SeqAt.EqAt.bool_bool a b
   | int b =>obtain ⟨t,rfl⟩:=rx; exact SeqAt.EqAt.bool_int a b t
   | str b =>obtain ⟨t,rfl⟩:=rx; exact SeqAt.EqAt.bool_str a b t
   | _ =>exact absurd (show false = true from fx) Bool.false_ne_true
 | int a =>
   obtain ⟨t',rfl⟩:=ry
   cases x with
   | non =>cases rx; exact SeqAt.EqAt.int_none a t'
   | bl b =>cases rx; exact SeqAt.EqAt.int_bool a t' b
   | int b =>obtain ⟨t,rfl⟩:=rx; exact SeqAt.EqAt.int_int a t' b t
   | str b =>obtain ⟨t,rfl⟩:=rx; exact SeqAt.EqAt.int_str a t' b t
   | _ =>exact absurd (show false = true from fx) Bool.false_ne_true
 | str a =>
   obtain ⟨t',rfl⟩:=ry
   cases x with
   | non =>cases rx; exact SeqAt.EqAt.str_none a t'
   | bl b =>cases rx; exact SeqAt.EqAt.str_bool a t' b
   | int b =>obtain ⟨t,rfl⟩:=rx; exact SeqAt.EqAt.str_int a t' b t
   | str b =>obtain ⟨t,rfl⟩:=rx; exact SeqAt.EqAt.str_str a t' b t
   | _ =>exact absurd (show false = true from fx) Bool.false_ne_true
 | _ =>exact absurd (show false = true from fy) Bool.false_ne_true
noncomputable def eqU (x:V) (u:Value):Bool:=match u with
 | .none =>eqV .non x
 | .bool b =>eqV (.bl b) x
 | .int i _ =>eqV (.int i) x
 | .str z _ =>eqV (.str z) x
 | _ =>false
theorem eqU_of {x y:V} {u:Value} (r:RelV y u) (f:flatV y = true):eqU x u = eqV y x:=by
 cases y with
 | non =>cases r; rfl
 | bl b =>cases r; rfl
 | int i =>obtain ⟨t,rfl⟩:=r; rfl
 | str z =>obtain ⟨t,rfl⟩:=r; rfl
 | _ =>exact absurd (show false = true from f) Bool.false_ne_true
theorem any_eqU {x:V}:∀ {xs:List V} {us:List Value},Vals xs us → xs.all flatV = true → us.any (eqU x) = xs.any fun y =>eqV y x
 | _,_,.nil,_ =>rfl
 | y :: xs,u :: us,.cons r t,f =>by
   rw [List.all_cons,Bool.and_eq_true] at f
   rw [List.any_cons,List.any_cons,eqU_of r f.1,any_eqU t f.2]
theorem mem_eqAt {A:Around} {s:Shared} {x:V} {v:Value} (rx:RelV x v) (fx:flatV x = true):∀ {xs:List V} {us:List Value},Vals xs us → xs.all flatV = true → ∀ u ∈ us,SeqAt.EqAt A s u v (eqU x u)
 | _,_,.nil,_ =>fun u hu =>by cases hu
 | y :: xs,u :: us,.cons r t,f =>fun u' hu =>by
   rw [List.all_cons,Bool.and_eq_true] at f
   rcases List.mem_cons.mp hu with rfl | hu
   ·rw [eqU_of r f.1]; exact eqAt_V r rx f.1 fx
   ·exact mem_eqAt rx fx t f.2 u' hu
noncomputable def inV (x:V) (xs:List V):Bool:=xs.any fun y =>eqV y x
noncomputable def rIn (K:PySem.W.Frag) (neg:Bool):R2:=fun x y H Q =>∃ p xs,y = .ref p ∧ (SqL K H p xs ∨ SqT K H p xs) ∧ flatV x = true ∧ xs.all flatV = true ∧ Q (.bl (if neg then !inV x xs else inV x xs)) H
theorem op_in_seq:OpR X (compareOp .In) (rIn X.K false):=by
 intro pins s σ H x y v u Q I rx ry h
 obtain ⟨p,xs,rfl,hq,fx,fs,q⟩:=h
 cases ry
 rcases hq with hq | hq
 ·obtain ⟨its,r,pl,hz⟩:=I.list hq
  refine SeqAt.in_listAt (eqU x) pl.isList (fun w hw =>mem_eqAt rx fx r fs w (by simpa using hw)) ⟨.bl _,H,I,rfl,?_⟩
  rw [show its.toArray.any (eqU x) = its.any (eqU x) by simp,any_eqU r fs]
  exact q
 ·obtain ⟨its,r,pl,hz⟩:=I.tuple hq
  refine SeqAt.in_tupleAt (eqU x) pl (fun w hw =>mem_eqAt rx fx r fs w (by simpa using hw)) ⟨.bl _,H,I,rfl,?_⟩
  rw [show its.toArray.any (eqU x) = its.any (eqU x) by simp,any_eqU r fs]
  exact q
theorem op_notIn_seq:OpR X (compareOp .NotIn) (rIn X.K true):=by
 intro pins s σ H x y v u Q I rx ry h
 obtain ⟨p,xs,rfl,hq,fx,fs,q⟩:=h
 cases ry
 rcases hq with hq | hq
 ·obtain ⟨its,r,pl,hz⟩:=I.list hq
  refine SeqAt.notIn_listAt (eqU x) pl.isList (fun w hw =>mem_eqAt rx fx r fs w (by simpa using hw)) ⟨.bl _,H,I,rfl,?_⟩
  rw [show its.toArray.any (eqU x) = its.any (eqU x) by simp,any_eqU r fs]
  exact q
 ·obtain ⟨its,r,pl,hz⟩:=I.tuple hq
  refine SeqAt.notIn_tupleAt (eqU x) pl (fun w hw =>mem_eqAt rx fx r fs w (by simpa using hw)) ⟨.bl _,H,I,rfl,?_⟩
  rw [show its.toArray.any (eqU x) = its.any (eqU x) by simp,any_eqU r fs]
  exact q
theorem call_len_seq:CallR X (.builtin "len") (fun xs H Q =>∃ p ys,xs = [.ref p] ∧ (SqL X.K H p ys ∨ SqT X.K H p ys) ∧ Q (.int ys.length) H):=by
 intro pins s σ H xs us Q I r h
 obtain ⟨p,ys,rfl,hq,q⟩:=h
 obtain ⟨u,rfl,rx⟩:=vals1 r
 cases rx
 have hn:=line63
 rcases hq with hq | hq
 ·obtain ⟨its,r',pl,hz⟩:=I.list hq
  have hlen:=r'.length
  exact Calls.call_len_list pl.isList (by simp only [List.size_toArray] <;> omega) ⟨.int ys.length,H,I.tok _,⟨s.toks + 1,by rw [List.size_toArray,hlen]⟩,q⟩
 ·obtain ⟨its,r',pl,hz⟩:=I.tuple hq
  have hlen:=r'.length
  exact len_tuple pl (by simp only [List.size_toArray] <;> omega) ⟨.int ys.length,H,I.tok _,⟨s.toks + 1,by rw [List.size_toArray,hlen]⟩,q⟩
theorem call_len_str:CallR X (.builtin "len") (fun xs H Q =>∃ z,xs = [.str z] ∧ z.length ≤ sizeLine ∧ Q (.int z.length) H):=by
 intro pins s σ H xs us Q I r h
 obtain ⟨z,rfl,hz,q⟩:=h
 obtain ⟨u,rfl,t,rfl⟩:=vals1 r
 have hn:=line63
 exact len_str (by omega) ⟨.int z.length,H,I.tok _,⟨_,rfl⟩,q⟩
theorem CallR.or {f:Value} {r r':List V → Hp → VK → Prop} (h:CallR X f r) (h':CallR X f r'):CallR X f (fun xs H Q =>r xs H Q ∨ r' xs H Q):=by
 intro pins s σ H xs us Q I rs q
 rcases q with q | q
 ·exact h pins s σ H xs us Q I rs q
 ·exact h' pins s σ H xs us Q I rs q
theorem call_tuple_of:CallR X (.type "tuple") (fun xs H Q =>∃ p ys,xs = [.ref p] ∧ ((SqL X.K H p ys ∧ ∀ l,H l = none → Q (.ref l) (upd H l (.tup ys))) ∨ (SqT X.K H p ys ∧ Q (.ref p) H))):=by
 intro pins s σ H xs us Q I r h
 obtain ⟨p,ys,rfl,h⟩:=h
 obtain ⟨u,rfl,rx⟩:=vals1 r
 cases rx
 rcases h with ⟨hq,q⟩ | ⟨hq,q⟩
 ·obtain ⟨its,r',pl,hz⟩:=I.list hq
  have hlen:=r'.length
  refine call_tuple_list pl.isList (fun h' kp =>?_) (by simp only [List.size_toArray] <;> omega)
  have I1:Inv X pins σ H { s with heap:=h' }:=I.kept (t':=s.toks) kp
  have I2:Inv X pins σ (upd H h'.objs.size (.tup ys)) { s with heap:=h'.push { cls:=.type "tuple",data:=.seq its.toArray } } :=
   I1.laid (t':=s.toks) (fun b o e =>Heap.get?_push_of_some _ e) (Nat.le_refl _) (show ObjOk X.prog X.w _ _ _ (.tup ys) from ⟨hz,its,r',IsTup.new _ _⟩)
  exact ⟨.ref h'.objs.size,_,I2,rfl,q _ (I1.hok.fresh (Nat.le_refl _))⟩
 ·obtain ⟨its,r',pl,hz⟩:=I.tuple hq
  exact call_tuple_same pl ⟨.ref p,H,I,rfl,q⟩
noncomputable def tyV (K:PySem.W.Frag) (T:String) (x:V) (H:Hp):Prop:=match x with
 | .str _ =>T = "str"
 | .int _ =>T = "int"
 | .ref p =>(T = "list" ∧ ∃ xs,SqL K H p xs) ∨ (T = "tuple" ∧ ∃ o,K.lookup p = some o ∧ o.cls = .type "tuple" ∧ o.dict = none) ∨
  (T = "dict" ∧ ((∃ kvs ep,H p = some (.dK kvs ep)) ∨ ∃ kvs,H p = some (.dT kvs))) ∨ (T = "set" ∧ ∃ S n,H p = some (.set S n))
 | _ =>False
theorem tyV_is {pins:List (Addr × Obj)} {σ:St} {H:Hp} {s:Shared} {T:String} {x:V} {v:Value} (I:Inv X pins σ H s) (r:RelV x v) (ty:tyV X.K T x H) :
 s.TypeIs v T ∧ ∀ a,v = .ref a → ∃ ob,s.heap.get? a = some ob ∧ ob.dict = none:=by
 cases x with
 | str z =>
   obtain ⟨t,rfl⟩:=r
   cases (show T = "str" from ty)
   exact ⟨typeIs_str s z t,fun _ e =>nomatch e⟩
 | int i =>
   obtain ⟨t,rfl⟩:=r
   cases (show T = "int" from ty)
   exact ⟨typeIs_int s i t,fun _ e =>nomatch e⟩
 | ref p =>
   cases r
   rcases ty with ⟨rfl,xs,hq⟩ | ⟨rfl,o,hk,hc,hd⟩ | ⟨rfl,hk⟩ | ⟨rfl,S,n,hk⟩
   ·obtain ⟨its,_,pl,_⟩:=I.list hq
    refine ⟨pl.isList.typeIs,fun a e =>?_⟩
    cases e
    obtain ⟨o,n,e,c,hd,_⟩:=pl
    exact ⟨o,e,hd⟩
   ·refine ⟨⟨o,I.kIn p o hk,hc⟩,fun a e =>?_⟩
    cases e
    exact ⟨o,I.kIn _ o hk,hd⟩
   ·have z:∃ o,s.heap.get? p = some o ∧ o.ExactDict:=by
     rcases hk with ⟨kvs,ep,hk⟩ | ⟨kvs,hk⟩
     ·obtain ⟨_,_,_,_,o,_,e,ex,_⟩:=I.hok p _ hk
      exact ⟨o,e,ex⟩
     ·obtain ⟨_,_,_,_,o,_,_,e,ex,_⟩:=I.hok p _ hk
      exact ⟨o,e,ex⟩
    obtain ⟨o,e,ex⟩:=z
    refine ⟨⟨o,e,ex.1⟩,fun a e2 =>?_⟩
    cases e2
    exact ⟨o,e,ex.2.1⟩
   ·obtain ⟨o,_,_,_,e,ex,_⟩:=I.hok p _ hk
    refine ⟨⟨o,e,ex.1⟩,fun a e2 =>?_⟩
    cases e2
    exact ⟨o,e,ex.2.1⟩
 | _ =>exact False.elim ty
noncomputable def tBM (K:PySem.W.Frag) (T:String) (r:V → List V → Hp → VK → Prop) (to:TE) (t:TA):TE:=fun σ H Q =>to σ H fun x H1 =>tyV K T x H1 ∧ t σ H1 fun xs H2 =>r x xs H2 Q
variable {o e:Expr} {es:List Expr} {to:TE} {t:TA} {name:Str} {apos cpos:Pos} {T id:String} {r:V → List V → Hp → VK → Prop}
theorem pe_bm (pa:PlainAttrs T) (slot:Slot T name id) (hty:typeOf (.builtin id) = pure (.type "method_descriptor")) (hm:MtR X id r) (ho:PE X o to) (ha:PA X (e :: es) t)
 (hbase:attributeBase o name X.env (eval o X.env) = eval o X.env:=by rfl)
 (hfew:((backTo cpos (starEach (e :: es) X.env)).all (fun x =>!x.1) && (backToKw cpos (keywordEach [] X.env)).all (fun x =>x.1.isSome)
  && decide ((e :: es).length + ([]:List Keyword).length + (if ([]:List Keyword).isEmpty then 0 else 1) < 30)) = true:=by rfl)
 (hline:(apos.endLine == cpos.line) = true:=by rfl) (hs:starEach (e :: es) X.env = (false,eval e X.env) :: starEach es X.env:=by rfl) (hplain:(backTo cpos (starEach es X.env)).any (·.1) = false:=by rfl) :
 PE X (.Call (.Attribute o name apos) (e :: es) [] cpos) (tBM X.K T r to t):=by
 intro pins s σ H Q I h
 refine wpAny_Call_method_late hbase hfew hline rfl (thn (ho pins s σ H _ I h) fun v s1 ⟨x,H1,I1,r1,ty,q1⟩ =>?_)
 obtain ⟨h1,h2⟩:=tyV_is I1 r1 ty
 refine ⟨T,id,pa,slot,hty,h1,h2,?_⟩
 have hA:=ha cpos pins s1 σ H1 _ I1 q1
 rw [hs] at hA ⊢
 refine Calls.callWith_builtin (by show (false || (backTo cpos (starEach es X.env)).any (·.1)) = false; rw [hplain] <;> rfl) (Calls.evalArgs_plain ?_)
 exact thn hA fun us s2 ⟨vs,H2,I2,r2,q2⟩ =>hm pins s2 σ H2 x vs v us Q I2 r1 r2 q2
end
end L2
namespace L2
open PySem PySem.Spec PyProof.Rows
noncomputable def MtM (X:Cx) (id:String) (r:V → List V → Hp → VK → Prop):Prop :=
 ∀ (pins:List (Addr × Obj)) (s:Shared) (σ:St) (H:Hp) (x:V) (xs:List V) (v:Value) (us:List Value) (Q:VK),Inv X pins σ H s → RelV x v → Vals xs us → r x xs H Q →
  wpAny (model X.prog X.w) X.A (call (.builtin id) (v :: us)) (EP X pins σ Q) X.xe s
theorem Vals.one:∀ {x:V} {us:List Value},Vals [x] us → ∃ u,us = [u] ∧ RelV x u
 | _,_,.cons r .nil =>⟨_,rfl,r⟩
section
variable {X:Cx} {pins:List (Addr × Obj)} {σ:St} {H:Hp} {s:Shared} {l b:Addr} {xs ys zs:List V}
theorem Inv.lset {its its':List Value} {n:Nat} {f:Array Value → Array Value} {t':Nat} (I:Inv X pins σ H s) (hH:H l = some (.lst xs))
 (e:s.heap.get? l = some { cls:=.type "list",data:=.seq its.toArray n }) (hf:f its.toArray = its'.toArray) (hv:Vals ys its') (hz:ys.length ≤ sizeLine) :
 Inv X pins σ (upd H l (.lst ys)) { s with heap:=s.heap.update l (Obj.mapSeq f),toks:=t' }:=by
 have q:=PySem.IsL.update e f
 rw [hf] at q
 refine I.write (x:=l) (e:=l) (by rw [hH]; exact trivial) (.inl rfl) (fun b' u hb hu =>(Heap.get?_update_other s.heap (Obj.mapSeq f) (Ne.symm hb)).trans hu) ⟨_,q⟩ ?_
 exact ⟨hz,its',_,hv,q⟩
theorem Inv.lnew {its:List Value} {t':Nat} (I:Inv X pins σ H s) (hv:Vals ys its) (hz:ys.length ≤ sizeLine) :
 Inv X pins σ (upd H s.heap.objs.size (.lst ys)) { s with heap:=s.heap.push { cls:=.type "list",data:=.seq its.toArray },toks:=t' } :=
 I.laid (fun _ _ q =>Heap.get?_push_of_some _ q) (Nat.le_refl _) ⟨hz,its,0,hv,Heap.get?_push_size _ rfl⟩
theorem Inv.fresh (I:Inv X pins σ H s):H s.heap.objs.size = none:=I.hok.fresh (Nat.le_refl _)
theorem Inv.lstM (I:Inv X pins σ H s) (hH:H l = some (.lst xs)):xs.length ≤ sizeLine ∧ ∃ (its:List Value) (n:Nat),Vals xs its ∧ xs.length = its.length ∧ s.heap.get? l = some { cls:=.type "list",data:=.seq its.toArray n }:=by
 obtain ⟨z,its,n,r,e⟩:=I.hok l _ hH
 exact ⟨z,its,n,r,r.length,e⟩
end
section
variable {X:Cx}
noncomputable def rAppend:V → List V → Hp → VK → Prop:=fun x vs H Q =>∃ l xs y,x = .ref l ∧ vs = [y] ∧ H l = some (.lst xs) ∧ xs.length < sizeLine ∧ Q .non (upd H l (.lst (xs ++ [y])))
theorem mt_append:MtM X "list.append" rAppend:=by
 intro pins s σ H x vs v us Q I rx rv h
 obtain ⟨l,xs,y,rfl,rfl,hH,hz,q⟩:=h
 cases rx
 obtain ⟨u,rfl,ru⟩:=rv.one
 obtain ⟨z,its,n,r,hl,e⟩:=I.lstM hH
 refine call_meets F.slot_list_append ⟨_,e,rfl⟩ F.entry_list_append (F.args_list_append_2 _ _) (PySem.list_append l its.toArray n u (by rw [List.size_toArray]; omega)) ⟨e,?_⟩
 refine ⟨.non,_,I.lset (its':=its ++ [u]) hH e (by simp) (r.append (.cons ru .nil)) ?_,rfl,q⟩
 rw [List.length_append,List.length_singleton]
 omega
end
section
variable {prog:Program} {w:World} {A:Around} {E:Value → Shared → Prop} {s:Shared}
set_option maxRecDepth 100000 in
end
section
variable {X:Cx}
end
end L2
namespace Att
open PySem PySem.W PySem.Calls PyProof.Rows
theorem ints_of_wellAll {P:Params} {h:Heap}:∀ (ns:List Int) (vs:List Value),WellAll P h vs (ns.map WData.int) → IntsAre vs ns:=by
 intro ns
 induction ns with
 | nil =>
   intro vs w
   rw [List.map_nil] at w
   cases w
   exact .nil
 | cons n ns ih =>
   intro vs w
   rw [List.map_cons] at w
   cases w with
   | cons a b =>
     cases a
     exact .cons _ _ (ih _ b)
theorem script_of {l:OpenLaw} {n:Nat} (hn:l.most = some n) {P:Params} {h:Heap} {args:List WData} {vals:List Value}
 (hpre:l.row.toRowW.claim.pre args = true) (hwl:WellAll P h vals args) :
 ∃ a vs ns,vals = [Value.ref a] ∧ args = [WData.list (ns.map WData.int)] ∧ h.get? a = some { cls:=.type "list",data:=.seq vs.toArray } ∧ IntsAre vs ns ∧ ns.length ≤ n:=by
 have hsh:WShape.hasAll [] args [.list .int] = true:=(pre_splitW hpre).1
 have hc:l.pre.holds [] { args:=args } = true:=(pre_splitW hpre).2
 obtain ⟨d,r,rfl,h1,h2⟩:=hasAllW_cons hsh
 obtain rfl:=hasAllW_nil h2
 obtain ⟨xs,rfl,h3⟩:=hasW_list h1
 obtain ⟨ns,rfl⟩:=items_int h3
 have hlen:ns.length ≤ n:=by
  unfold OpenLaw.pre at hc
  have h4:(WTm.not (.lt (.lit (.int (n:Int))) (.len (.arg 0)))).holds [] { args:=[.list (ns.map .int)] } = true:=by
   have h4:=(holds_andW hc).1
   rw [hn] at h4
   exact h4
  have h5:=condW_of h4 (w_not (w_lt w_lit (w_len_list (w_arg rfl))))
  rw [List.length_map] at h5
  refine Nat.le_of_not_lt fun q =>?_
  have q':(n:Int) < ((ns.length:Nat):Int):=by omega
  first
   | (rw [decide_eq_true q'] at h5; exact absurd h5 (by decide))
   | (simp at h5; omega)
 cases hwl with
 | cons w1 w2 =>
   cases w2
   cases w1 with
   | list ho hall =>exact ⟨_,_,ns,rfl,rfl,ho,ints_of_wellAll ns _ hall,hlen⟩
theorem post_true (l:OpenLaw) (args:List WData):l.row.toRowW.claim.post args (.bool true) args = true :=
 postW_of (r:=l.row.toRowW) (X:=(true == true))
  (show WShape.has [] (.bool true) .bool = true by first | rfl | decide | simp [WShape.has,WShape.arms,WShape.armsAll])
  (show (WTm.eq .res (.lit (.bool true))).value [] { args:=args,res:=some (.bool true),after:=args } = some (.bool (true == true)) from w_eq_bool (w_res rfl) w_lit) rfl
theorem attach_call {l:OpenLaw} {n:Nat} {q:Program} {loose:List Str} {XP:(Str → Option Value) → Heap → Prop} {YP:World → Heap → Prop} {d:DefRec}
 (hn:l.most = some n) (hdf:d.params.defaults = [])
 (call:∀ (w:World) (s₀ s₁:Shared) (mg mb:Str → Option Value) (fa:Addr) (o:Obj) (pm cd doc:Value) (a:Addr) (vs:List Value) (ns:List Int),
  Ground q loose [] XP w s₀ mg mb s₁.heap → YP w s₁.heap →
  s₁.heap.get? fa = some o → o.data = .func (docDef d.name d.params d.body d.scope pm cd doc) → s₁.heap.CodeRec cd d.name → mg d.name = some (.ref fa) →
  s₁.heap.get? a = some { cls:=.type "list",data:=.seq vs.toArray } → IntsAre vs ns → ns.length ≤ n → s₁.gens = #[] →
  codeAny (model l.prog w) callerA (.call (.ref fa) ⟨[.ref a],[]⟩) (fun r s' =>r = .ok (.ret (.bool true)) ∧ OldK s₁.heap s'.heap ∧ s'.os = s₁.os ∧ AllBare s'.gens) s₁) :
 WalkO q loose XP YP l.row.toRowW d [] (fun f vs =>PySem.call f vs):=by
 intro w s₀ s₁ mg mb G Y fa o pm cd doc dV kV ho hd hcd hD hmg hg args vals as hpre hlay hrd hwl hlo
 obtain rfl:dV = .none:=Dflts.none hD hdf
 obtain rfl:kV = .none:=Dflts.noKw hD
 obtain ⟨a,vs,ns,rfl,rfl,hobj,hints,hlen⟩:=script_of hn hpre hwl
 refine enter_call (codeAny_mono (call w s₀ s₁ mg mb fa o pm cd doc a vs ns G Y ho (fd_plain hd) hcd hmg hobj hints hlen hg) fun r s' hq =>?_)
 obtain ⟨rfl,h2,h3,h4⟩:=hq
 exact ⟨.inl ⟨.bool true,.bool true,[],rfl,fun _ =>rfl,.bool true,post_true l _,fun _ =>⟨List.Pairwise.nil,fun _ hm =>(nomatch hm)⟩⟩,h2,h3,h4⟩
section
variable {prog:Program} {w:World} {A:Around} {E:Value → Shared → Prop} {s:Shared} {K:Frag}
end
end Att
namespace L2
open PySem PySem.Spec PyProof.Rows
theorem vals_ints:∀ {vs:List Value} {ns:List Int},IntsAre vs ns → Vals (ns.map V.int) vs
 | _,_,.nil =>.nil
 | _,_,.cons n t h =>.cons ⟨t,rfl⟩ (vals_ints h)
noncomputable def Only (H:Hp):Prop:=∀ b,H b = none ∨ ∃ o xs,H b = some (.frz o (.lst xs))
theorem law_call {P:Program} {w:World} {K:PySem.W.Frag} {mg mb:Str → Option Value} {CX:CXT} {k:Nat} {fa a:Addr} {fd:FuncData} {x:Str} {sp:Sp} {s₁:Shared} {vs:List Value} {ns:List Int}
 (KX:K.In s₁.heap) (hns:s₁.heap.Ns mainGlobals mg) (hb:s₁.heap.Ns builtinsNs mb) (hbb:∀ x:Str,x ≠ "__name__" → mb x = bootBuiltins x) (hlim:s₁.heap.NoLimit) (hg:s₁.gens = #[])
 (ha:s₁.heap.get? a = some { cls:=.type "list",data:=.seq vs.toArray }) (hi:IntsAre vs ns) (hl:ns.length ≤ sizeLine) (hr:Room k callerA)
 (F:∀ base:Heap,K.In base → base.Ns mainGlobals mg → FnOk P w K mg base CX k fa fd [x] sp) (hbind:∀ (s:Shared) (u:Value),BindsTo s fd ⟨[u],[]⟩ [(x,u)])
 (hsp:∀ H:Hp,Only H → SqL K H a (ns.map V.int) → sp [.ref a] H (fun v _ =>v = .bl true) fun _ _ _ =>False)
 (hCX:∀ H e s',CX [] H s₁ (fun _ _ _ =>False) e s' → False) :
 codeAny (model P w) callerA (.call (.ref fa) ⟨[.ref a],[]⟩) (fun r s' =>r = .ok (.ret (.bool true)) ∧ OldK s₁.heap s'.heap ∧ s'.os = s₁.os ∧ AllBare s'.gens) s₁:=by
 have rv:=vals_ints hi
 have lenV:=hi.length
 have core:∀ H:Hp,Only H → SqL K H a (ns.map V.int) → HOk P w H s₁.heap → (∀ b,H b ≠ none → b = a) → (H a ≠ none → K.lookup a = none) →
  codeAny (model P w) callerA (.call (.ref fa) ⟨[.ref a],[]⟩) (fun r s' =>r = .ok (.ret (.bool true)) ∧ OldK s₁.heap s'.heap ∧ s'.os = s₁.os ∧ AllBare s'.gens) s₁:=by
  intro H hO hS hok hA hK
  have base_of:∀ {b:Addr} {o:Obj},s₁.heap.get? b = some o → H b = none → (hidT s₁.heap H).get? b = some o:=fun e n =>hidT_get e n
  have noA:∀ {b:Addr} {o:Obj} {es:Array DictEntry} {ep:Nat},s₁.heap.get? b = some o → o.data = .dict es ep → H b = none:=fun {b o es ep} e d =>by
   cases q:H b with
   | none =>rfl
   | some u =>
     have e':b = a:=hA b (by rw [q]; simp)
     subst e'
     rw [ha] at e; cases e
     have d':Data.seq vs.toArray _ = Data.dict es ep:=d
     cases d'
  have nsK:∀ {b:Addr} {m:Str → Option Value},s₁.heap.Ns b m → (hidT s₁.heap H).Ns b m:=fun {b m} ⟨o,es,ep,e,d,r⟩ =>⟨o,es,ep,base_of e (noA e d),d,r⟩
  have hKb:K.In (hidT s₁.heap H):=fun b o e =>base_of (KX b o e) (by
   cases q:H b with
   | none =>rfl
   | some u =>
     have e':b = a:=hA b (by rw [q]; simp)
     subst e'
     rw [hK (by rw [q]; simp)] at e; cases e)
  have hM:Mod K mg (hidT s₁.heap H):=⟨hKb,nsK hns,⟨mb,nsK hb,hbb⟩,let ⟨mc,h1,h2⟩:=hlim; ⟨mc,nsK h1,h2⟩⟩
  have e0:Env0 P w K mg (hidT s₁.heap H) callerA [] s₁ H:=⟨rfl,hM,fun b o e =>of_hidT e,Nat.le_of_eq (hidT_size _ _),trivial,fun b hb =>absurd (show b ∈ ([]:List Addr) from hb) (by simp),hok,.of_eq hg⟩
  refine codeAny_mono ((F _ hKb (nsK hns)).run callerA [] s₁ H ⟨[.ref a],[]⟩ [.ref a] [.ref a] _ _ hr e0 (hbind s₁ (.ref a)) (.cons rfl .nil) (hsp H hO hS)) fun r s' h =>?_
  cases r with
  | error e =>exact (hCX H e s' h).elim
  | ok fl =>
    cases fl with
    | next =>exact False.elim h
    | brk =>exact False.elim h
    | cont =>exact False.elim h
    | ret u =>
      obtain ⟨v,H',os,bare,un,hok',r',q⟩:=h
      have q':v = .bl true:=q
      subst q'
      obtain rfl:u = Value.bool true:=r'
      refine ⟨rfl,OldK.of_keep fun b o e =>?_,os,bare⟩
      cases q:H b with
      | none =>exact un.keep b o e q (by intro z; exact absurd (show b ∈ ([]:List Addr) from z) (by simp)) (by simp)
      | some u =>
        rcases hO b with z | ⟨ob,xs,z⟩
        ·rw [q] at z; cases z
        ·have z2:=un.frzs b ob _ z
         obtain ⟨e1,_⟩:=hok b _ z
         obtain ⟨e2,_⟩:=hok' b _ z2
         rw [e] at e1; cases e1
         exact e2
 cases hk:K.lookup a with
 | some o =>
   have e:=KX a o hk
   rw [ha] at e
   cases e
   refine core (fun _ =>none) (fun _ =>.inl rfl) (.inr ⟨_,vs.toArray,_,hk,rfl,rfl,rfl,by rw [List.size_toArray,lenV]; exact hl,by simpa using rv⟩) (fun b u z =>by have z':(none:Option HO) = some u:=z; cases z') (fun b z =>absurd rfl z) fun z =>absurd rfl z
 | none =>
   refine core (fun b =>if b = a then some (.frz { cls:=.type "list",data:=.seq vs.toArray } (.lst (ns.map V.int))) else none) (fun b =>?_) (.inl (.inr ⟨{ cls:=.type "list",data:=.seq vs.toArray },if_pos rfl⟩)) (fun b u z =>?_) (fun b z =>?_) fun _ =>hk
   ·by_cases hb:b = a
    ·exact .inr ⟨_,_,if_pos hb⟩
    ·exact .inl (if_neg hb)
   ·by_cases hb:b = a
    ·have z':=(if_pos hb).symm.trans z
     cases z'
     subst hb
     exact ⟨ha,by rw [List.length_map]; exact hl,vs,_,rv,ha⟩
    ·have z':=(if_neg hb).symm.trans z
     cases z'
   ·by_cases hb:b = a
    ·exact hb
    ·exact absurd (if_neg hb) z
end L2
namespace L2
open PySem PySem.Spec PyProof.Rows
theorem walk_of {l:PySem.W.OpenLaw} {n k:Nat} {q:Program} {loose:List Str} {XP:(Str → Option Value) → Heap → Prop} {YP:World → Heap → Prop} {d:DefRec} {K:Params → PySem.W.Frag} {CX:World → CXT} {sp:World → Sp} {x:Str}
 (hn:l.most = some n) (hn2:n ≤ sizeLine) (hdf:d.params.defaults = []) (hr:Room k callerA)
 (hY:∀ (w:World) (h:Heap),YP w h → (K w.params).In h)
 (F:∀ (w:World) (mg:Str → Option Value) (fa:Addr) (h:Heap),(K w.params).In h → h.Ns mainGlobals mg → mg d.name = some (.ref fa) →
  ∃ fd:FuncData,(∀ (s:Shared) (u:Value),BindsTo s fd ⟨[u],[]⟩ [(x,u)]) ∧
   ∀ base:Heap,(K w.params).In base → base.Ns mainGlobals mg → FnOk l.prog w (K w.params) mg base (CX w) k fa fd [x] (sp w))
 (hsp:∀ (w:World) (H:Hp) (a:Addr) (ns:List Int),ns.length ≤ n → Only H → SqL (K w.params) H a (ns.map V.int) → sp w [.ref a] H (fun v _ =>v = .bl true) fun _ _ _ =>False)
 (hCX:∀ (w:World) (H:Hp) (s:Shared) (e:Value) (s':Shared),CX w [] H s (fun _ _ _ =>False) e s' → False) :
 PySem.W.WalkO q loose XP YP l.row.toRowW d [] (fun f vs =>PySem.call f vs):=by
 refine Att.attach_call hn hdf fun w s₀ s₁ mg mb fa o pm cd doc a vs ns G Y ho hd hcd hmg hobj hints hlen hg =>?_
 have KX:=hY w _ Y
 obtain ⟨fd,hb,hF⟩:=F w mg fa _ KX G.T.g hmg
 exact law_call KX G.T.g G.T.b G.T.builtins G.T.nolimit hg hobj hints (Nat.le_trans hlen hn2) hr hF hb (fun H hO hS =>hsp w H a ns hlen hO hS) fun H e s' =>hCX w H s₁ e s'
end L2
namespace L2
open PySem PySem.Spec PyProof.Rows
noncomputable def defArgs (s:Stmt):Arguments:=match s with
 | .FunctionDef _ a _ _ _ _ _ _ _ _ =>a
 | _ =>{ posonlyargs:=[],args:=[],vararg:=none,kwonlyargs:=[],kw_defaults:=[],kwarg:=none,defaults:=[] }
noncomputable def defBody (s:Stmt):List Stmt:=match s with
 | .FunctionDef _ _ b _ _ _ _ _ _ _ =>b
 | _ =>[]
noncomputable def defScope (s:Stmt):Scope:=match s with
 | .FunctionDef _ _ _ _ _ _ sc _ _ _ =>sc
 | _ =>{ kind:=.function,names:=[],isGenerator:=false,isCoroutine:=false }
noncomputable abbrev CX0:CXT:=fun _ _ _ _ _ _ =>False
noncomputable abbrev E0:XK:=fun _ _ _ =>False
theorem pass0 {X:Cx}:Passes CX0 X E0:=fun _ _ _ _ _ _ _ h =>h.elim
structure Fun (K:PySem.W.Frag) (x qual:Str) (st:Stmt) (f:Addr) (fd:FuncData):Prop where
 ex:∃ (oc:Value) (od:Option Addr) (kV doc pm:Value) (an:Option Addr) (cdv ct:Value) (osl:Array (Option Value)),
  fd = PySem.W.fnOf x qual (defArgs st) (defBody st) (defScope st) .none kV doc pm an cdv ct ∧ K.lookup f = some ⟨oc,od,.func fd,osl⟩ ∧ PySem.W.codeIn K cdv qual = true
 kp:PySem.W.keepIn K (.ref f) = true
section
variable {P:Program} {w:World} {K:PySem.W.Frag} {mg:Str → Option Value} {base:Heap}
theorem Fun.ok {x qual:Str} {st:Stmt} {f:Addr} {fd:FuncData} {N ps:List Str} {k:Nat} {sp:Sp} (F:Fun K x qual st f fd) (S:FnScope N ps (defScope st)) (len:∀ vs H Q E,sp vs H Q E → vs.length = ps.length)
 (hbody:∀ (cdv:Value) (A:Around) (outer:List Env) (s:Shared) (H:Hp) (vs:List V) (Q:VK) (E:XK),Room k (A.deeper (envOfC qual (defScope st) s.heap.objs.size f cdv)) → sp vs H Q E →
  ∃ t,PSs (cxOf CX0 P w K mg base N qual (defScope st) f cdv A outer s H E).nox (defBody st) t ∧ t { nx:=fun _ H' =>Q .non H',rt:=Q } (start N vs) H):FnOk P w K mg base CX0 (k + 1) f fd ps sp:=by
 obtain ⟨oc,od,kV,doc,pm,an,cdv,ct,osl,rfl,lk,hcd⟩:=F.ex
 refine fn_of lk hcd S len fun A outer s H vs Q E hr hsp =>?_
 obtain ⟨t,h,q⟩:=hbody cdv A outer s H vs Q E hr hsp
 exact ⟨t,h.nox,q⟩
theorem Fun.binds {x qual:Str} {st:Stmt} {f:Addr} {fd:FuncData} {ps:List Str} (F:Fun K x qual st f fd)
 (h:∀ (kV doc pm:Value) (an:Option Addr) (cdv ct:Value) (us:List Value),us.length = ps.length → bindArgs (PySem.W.fnOf x qual (defArgs st) (defBody st) (defScope st) .none kV doc pm an cdv ct) ⟨us,[]⟩ = pure (ps.zip us)):Binds K fd ps []:=by
 obtain ⟨oc,od,kV,doc,pm,an,cdv,ct,osl,rfl,lk,hcd⟩:=F.ex
 exact .all (h kV doc pm an cdv ct)
theorem fun_mk {x qual:Str} {st:Stmt} {f:Addr} {oc:Value} {od an:Option Addr} {osl:Array (Option Value)} {kV doc pm cdv ct:Value} (l:K.lookup f = some ⟨oc,od,.func (PySem.W.fnOf x qual (defArgs st) (defBody st) (defScope st) .none kV doc pm an cdv ct),osl⟩)
 (c:PySem.W.codeIn K cdv qual = true) (k:PySem.W.keepIn K (.ref f) = true):Fun K x qual st f (PySem.W.fnOf x qual (defArgs st) (defBody st) (defScope st) .none kV doc pm an cdv ct):=⟨⟨oc,od,kV,doc,pm,an,cdv,ct,osl,rfl,l,c⟩,k⟩
end
theorem hu_of {A:Around} {k:Nat} (hr:Room k A):A.units + 1 < cLine:=Nat.lt_of_le_of_lt (Nat.add_le_add_left (by decide:1 ≤ 64) _) hr.units
section
variable {X:Cx}
theorem call_lenD:CallR X (.builtin "len") (fun xs H Q =>∃ a kvs ep,xs = [V.ref a] ∧ H a = some (.dK kvs ep) ∧ Q (.int kvs.length) H):=by
 intro pins s σ H xs us Q I r h
 obtain ⟨a,kvs,ep,rfl,ha,q⟩:=h
 obtain ⟨u,rfl,ru⟩:=vals1 r
 cases ru
 exact d_len I ⟨ep,.inl ha⟩ fun t s' I' =>⟨.int kvs.length,H,I',⟨t,rfl⟩,q⟩
end
noncomputable def Same (H H':Hp):Prop:=∀ b o,H b = some o → H' b = some o
theorem Same.refl (H:Hp):Same H H:=fun _ _ h =>h
theorem Same.trans {H H1 H2:Hp} (a:Same H H1) (b:Same H1 H2):Same H H2:=fun c o h =>b c o (a c o h)
theorem Same.free {H H':Hp} (e:Same H H') {l:Addr} (h:H' l = Option.none):H l = Option.none:=by
 cases q:H l with
 | none =>rfl
 | some o =>
   rw [e l o q] at h
   cases h
theorem Same.seq {K:PySem.W.Frag} {H H':Hp} {a:Addr} {xs:List V} (e:Same H H') (h:SqL K H a xs):SqL K H' a xs:=by
 rcases h with (h | ⟨o,h⟩) | h
 ·exact .inl (.inl (e _ _ h))
 ·exact .inl (.inr ⟨o,e _ _ h⟩)
 ·exact .inr h
section
variable {κ:Type} [DecidableEq κ]
end
end L2

set_option genSizeOfSpec false
namespace Z
inductive DK where
 | i (n:Int)
 | s (x:List Nat)
 deriving DecidableEq
inductive D where
 | non | bl (b:Bool) | int (i:Int) | str (s:List Nat)
 | tup (l:List D) | lst (l:List D) | dct (ks:List DK) (vs:List D)
inductive R (α:Type) where
 | ok (a:α)
 | exc (c:Nat)
 | stuck
theorem nope {α:Type} {t:α} {p:Prop} (h:(none:Option α) = some t):p:=nomatch h
theorem nopeR {α:Type} {t:α} {p:Prop} (h:(.stuck:R α) = .ok t):p:=nomatch h
namespace R
noncomputable def bind {α β:Type} (x:R α) (f:α → R β):R β:=match x with
 | .ok a =>f a
 | .exc c =>.exc c
 | .stuck =>.stuck
noncomputable instance:Monad R where
 pure:=.ok
 bind:=R.bind
@[simp] theorem bind_ok {α β:Type} (a:α) (f:α → R β):(R.ok a >>= f) = f a:=rfl
@[simp] theorem bind_exc {α β:Type} (c:Nat) (f:α → R β):((R.exc c:R α) >>= f) = .exc c:=rfl
@[simp] theorem bind_stuck {α β:Type} (f:α → R β):((R.stuck:R α) >>= f) = .stuck:=rfl
@[simp] theorem pure_ok {α:Type} (a:α):(pure a:R α) = .ok a:=rfl
noncomputable def of {α:Type}:Option α → R α
 | some a =>.ok a
 | none =>.stuck
noncomputable def chk (b:Bool) {α:Type} (x:R α):R α:=if b then x else .stuck
end R
inductive Own where
 | sh | ow | me
 deriving DecidableEq
noncomputable abbrev Slot:=Own × D
noncomputable abbrev Dst:=List (Option Slot)
inductive O2 where
 | add | sub | mul | fdiv | mod | pow | eq | ne | lt | le | gt | ge | is | isnot | «in» | notin
 deriving DecidableEq
inductive Ty where
 | int | bool | str | tup | lst | dct
 deriving DecidableEq
inductive B1 where
 | len | abs | tuple | list | dict | sorted | all | any | sum
inductive B2 where
 | max | maxd
inductive M1 where
 | join
mutual
inductive T where
 | var (i:Nat)
 | cst (d:D)
 | op2 (p:O2) (a b:T)
 | neg (a:T)
 | not (a:T)
 | and (a b:T)
 | or (a b:T)
 | ite (c a b:T)
 | tup (l:TL)
 | lst (l:TL)
 | dnew (ks:List DK) (vs:TL)
 | idx (a i:T)
 | kidx (ks:List DK) (vs:List D) (i:T)
 | slc (a:T) (lo hi:T)
 | call (f:Nat) (l:TL)
 | b1 (b:B1) (a:T)
 | b2 (b:B2) (a c:T)
 | m1 (m:M1) (o a:T)
 | get2 (o a c:T)
 | isin (a:T) (ty:Ty)
 | comp (caps:List Nat) (m:Nat) (tg:Bool) (it:TI) (cond:T) (elt:T)
inductive TL where
 | nil
 | cons (t:T) (l:TL)
inductive TI where
 | val (t:T)
 | rng1 (t:T)
 | rng2 (a b:T)
 | rng3 (a b c:T)
 | zip (a b:T)
 | enum (a:T)
end
mutual
inductive S where
 | set (i:Nat) (e:T)
 | seti (i:Nat) (k e:T)
 | append (i:Nat) (e:T)
 | ifs (c:T) (a b:SL)
 | ifq (c:T) (a b:SL)
 | for_ (tg:List Nat) (tup:Bool) (it:TI) (b:SL)
 | while_ (c:T) (b:SL)
 | ret (e:T)
 | retn
 | expr (e:T)
 | brk | cont | pass
inductive SL where
 | nil
 | cons (s:S) (l:SL)
end
mutual
noncomputable def D.imm:D → Bool
 | .non =>true
 | .bl _ =>true
 | .int _ =>true
 | .str _ =>true
 | .tup l =>immL l
 | .lst _ =>false
 | .dct _ _ =>false
noncomputable def immL:List D → Bool
 | [] =>true
 | d :: l =>d.imm && immL l
end
noncomputable def look:List DK → List D → DK → Option D
 | k :: ks,v :: vs,x =>if k = x then some v else look ks vs x
 | _,_,_ =>none
noncomputable def eqS:D → D → Option Bool
 | .non,.non =>some true
 | .non,.int _ =>some false
 | .non,.bl _ =>some false
 | .non,.str _ =>some false
 | .int _,.non =>some false
 | .bl _,.non =>some false
 | .str _,.non =>some false
 | .int i,.int j =>some (decide (i = j))
 | .bl i,.bl j =>some (decide (i = j))
 | .str i,.str j =>some (decide (i = j))
 | .int _,.str _ =>some false
 | .str _,.int _ =>some false
 | .bl _,.str _ =>some false
 | .str _,.bl _ =>some false
 | _,_ =>none
noncomputable def size (n:Nat):Bool:=decide (n ≤ 16777216)
noncomputable def place (n:Nat) (i:Int):Option Nat:=if 0 ≤ i then (if i < n then some i.toNat else none) else (if 0 ≤ i + n then some (i + n).toNat else none)
noncomputable def clip (n:Nat) (i:Int):Nat:=if 0 ≤ i then min i.toNat n else (i + n).toNat
noncomputable def lowOf (n:Nat):Option Int → Nat
 | none =>0
 | some i =>clip n i
noncomputable def highOf (n:Nat):Option Int → Nat
 | none =>n
 | some i =>clip n i
noncomputable def cut {α:Type} (l:List α) (lo hi:Nat):List α:=(l.take hi).drop lo
noncomputable def keyOf:D → Option DK
 | .int i =>some (.i i)
 | .str x =>some (.s x)
 | _ =>none
noncomputable def keyD:DK → D
 | .i n =>.int n
 | .s x =>.str x
noncomputable def putV:List DK → List D → DK → D → List D
 | k :: ks,v :: vs,x,y =>if k = x then y :: vs else v :: putV ks vs x y
 | _,_,_,y =>[y]
noncomputable def putKs:List DK → DK → List DK
 | k :: ks,x =>if k = x then k :: ks else k :: putKs ks x
 | [],x =>[x]
noncomputable def ltS:List Nat → List Nat → Bool
 | [],[] =>false
 | [],_ :: _ =>true
 | _ :: _,[] =>false
 | a :: x,b :: y =>if a < b then true else if b < a then false else ltS x y
noncomputable def insS (x:List Nat):List (List Nat) → List (List Nat)
 | [] =>[x]
 | y :: l =>if ltS x y then x :: y :: l else y :: insS x l
noncomputable def sortS:List (List Nat) → List (List Nat)
 | [] =>[]
 | x :: l =>insS x (sortS l)
noncomputable def strsOf:List D → Option (List (List Nat))
 | [] =>some []
 | .str x :: l =>(strsOf l).map (x :: ·)
 | _ :: _ =>none
noncomputable def intsOf:List D → Option (List Int)
 | [] =>some []
 | .int x :: l =>(intsOf l).map (x :: ·)
 | _ :: _ =>none
noncomputable def truth:D → Option Bool
 | .non =>some false
 | .bl b =>some b
 | .int i =>some (decide (i ≠ 0))
 | .str x =>some (!x.isEmpty)
 | .tup l =>some (!l.isEmpty)
 | .lst l =>some (!l.isEmpty)
 | .dct ks _ =>some (!ks.isEmpty)
noncomputable def bits (i:Int):Nat:=if i = 0 then 0 else i.natAbs.log2 + 1
noncomputable def mulOk (a b:Int):Bool:=decide (bits a ≤ 64) || decide (bits b ≤ 64) || decide (bits a + bits b ≤ 134217728)
noncomputable def arith (p:O2) (a b:Int):R (Bool × D):=match p with
 | .add =>.ok (false,.int (a + b))
 | .sub =>.ok (false,.int (a - b))
 | .mul =>.chk (mulOk a b) (.ok (false,.int (a * b)))
 | .fdiv =>.chk (decide (b ≠ 0) && decide (b.natAbs.log2 < 9000)) (.ok (false,.int (a.fdiv b)))
 | .mod =>.chk (decide (b ≠ 0)) (.ok (false,.int (a.fmod b)))
 | .pow =>.chk (decide (0 ≤ b) && decide (b ≤ 64) && decide (a.natAbs < 18446744073709551616)) (.ok (false,.int (a ^ b.toNat)))
 | .lt =>.ok (false,.bl (decide (a < b)))
 | .le =>.ok (false,.bl (decide (a ≤ b)))
 | .gt =>.ok (false,.bl (decide (b < a)))
 | .ge =>.ok (false,.bl (decide (b ≤ a)))
 | _ =>.stuck
noncomputable def flatD:D → Bool
 | .non =>true
 | .bl _ =>true
 | .int _ =>true
 | .str _ =>true
 | _ =>false
noncomputable def inS (x:D):List D → Option Bool
 | [] =>some false
 | y :: l =>match eqS y x,inS x l with
   | some s,some t =>some (s || t)
   | _,_ =>none
noncomputable def isIn (a b:D):Option Bool:=match b with
 | .lst l =>if flatD a then inS a l else none
 | .tup l =>if flatD a then inS a l else none
 | .dct ks _ =>(keyOf a).map fun k =>decide (k ∈ ks)
 | _ =>none
noncomputable def okD:Nat → D → Bool
 | _,.non =>true
 | _,.bl _ =>true
 | _,.int _ =>true
 | _,.str x =>x.all fun c =>decide (c < 1114112)
 | 0,_ =>false
 | n + 1,.tup l =>l.all (okD n)
 | n + 1,.lst l =>l.all (okD n)
 | _,_ =>false
mutual
noncomputable def eqB:D → D → Bool
 | .non,.non =>true
 | .bl a,.bl b =>a == b
 | .bl a,.int j =>(if a then 1 else 0) == j
 | .int i,.bl b =>i == (if b then 1 else 0)
 | .int i,.int j =>i == j
 | .str x,.str y =>x == y
 | .lst x,.lst y =>eqBs x y
 | .tup x,.tup y =>eqBs x y
 | _,_ =>false
noncomputable def eqBs:List D → List D → Bool
 | [],[] =>true
 | x :: a,y :: b =>eqB x y && eqBs a b
 | _,_ =>false
end
noncomputable def eqA (a b:D):Option Bool:=match eqS a b with
 | some t =>some t
 | none =>match a,b with
   | .lst _,.lst _ =>if okD 60 a && okD 60 b then some (eqB a b) else none
   | .tup _,.tup _ =>if okD 60 a && okD 60 b then some (eqB a b) else none
   | _,_ =>none
noncomputable def o2 (p:O2) (a b:D):R (Bool × D):=match p with
 | .eq =>.of ((eqA a b).map fun t =>(false,.bl t))
 | .ne =>.of ((eqA a b).map fun t =>(false,.bl !t))
 | .is =>match b with
   | .non =>match a with
     | .non =>.ok (false,.bl true)
     | _ =>.ok (false,.bl false)
   | _ =>.stuck
 | .isnot =>match b with
   | .non =>match a with
     | .non =>.ok (false,.bl false)
     | _ =>.ok (false,.bl true)
   | _ =>.stuck
 | .in =>.of ((isIn a b).map fun t =>(false,.bl t))
 | .notin =>.of ((isIn a b).map fun t =>(false,.bl !t))
 | p =>match a,b with
   | .int i,.int j =>arith p i j
   | .str x,.str y =>match p with
     | .add =>.chk (size (x.length + y.length)) (.ok (false,.str (x ++ y)))
     | .lt =>.ok (false,.bl (ltS x y))
     | .le =>.ok (false,.bl (!ltS y x))
     | _ =>.stuck
   | .lst x,.lst y =>match p with
     | .add =>.chk (size (x.length + y.length)) (.ok (true,.lst (x ++ y)))
     | _ =>.stuck
   | .tup x,.tup y =>match p with
     | .add =>.chk (size (x.length + y.length)) (.ok (false,.tup (x ++ y)))
     | _ =>.stuck
   | _,_ =>.stuck
noncomputable def idxD (a i:D):R (Bool × D):=match a,i with
 | .lst l,.int j =>.of ((place l.length j).bind fun n =>l[n]?.map fun d =>(false,d))
 | .tup l,.int j =>.of ((place l.length j).bind fun n =>l[n]?.map fun d =>(false,d))
 | .str x,.int j =>.of ((place x.length j).bind fun n =>x[n]?.map fun c =>(false,.str [c]))
 | .dct ks vs,k =>.of ((keyOf k).bind fun x =>(look ks vs x).map fun d =>(false,d))
 | _,_ =>.stuck
noncomputable def slcD (a:D) (lo hi:Option Int):Option (Bool × D):=match a with
 | .lst l =>some (true,.lst (cut l (lowOf l.length lo) (highOf l.length hi)))
 | .str x =>some (false,.str (cut x (lowOf x.length lo) (highOf x.length hi)))
 | .tup l =>if lowOf l.length lo = 0 ∧ highOf l.length hi = l.length then none else some (false,.tup (cut l (lowOf l.length lo) (highOf l.length hi)))
 | _ =>none
noncomputable def bnd (t:T) (d:D):Option (Option Int):=match t with
 | .cst .non =>some none
 | _ =>match d with
   | .int i =>some (some i)
   | _ =>none
noncomputable def itemsK:D → Option (List D)
 | .lst l =>some l
 | .tup l =>some l
 | .dct ks _ =>some (ks.map keyD)
 | _ =>none
noncomputable def itemsS:D → Option (List D)
 | .lst l =>some l
 | .dct ks _ =>some (ks.map keyD)
 | _ =>none
noncomputable def boolsOf:List D → Option (List Bool)
 | [] =>some []
 | .bl b :: l =>(boolsOf l).map (b :: ·)
 | _ :: _ =>none
noncomputable def b1D (b:B1) (a:D):R (Bool × D):=match b with
 | .len =>match a with
   | .lst l =>.ok (false,.int l.length)
   | .tup l =>.ok (false,.int l.length)
   | .dct ks _ =>.ok (false,.int ks.length)
   | .str x =>.ok (false,.int x.length)
   | _ =>.stuck
 | .abs =>match a with
   | .int i =>.ok (false,.int (if i < 0 then -i else i))
   | _ =>.stuck
 | .tuple =>match a with
   | .lst l =>.ok (false,.tup l)
   | .tup l =>.ok (false,.tup l)
   | _ =>.stuck
 | .list =>match a with
   | .lst l =>.ok (true,.lst l)
   | .tup l =>.ok (true,.lst l)
   | _ =>.stuck
 | .dict =>match a with
   | .dct ks vs =>.ok (true,.dct ks vs)
   | _ =>.stuck
 | .sorted =>.of ((itemsS a).bind fun l =>(strsOf l).bind fun x =>if x.length < 64 then some (true,.lst ((sortS x).map .str)) else none)
 | .all =>match a with
   | .lst l =>.of ((boolsOf l).map fun t =>(false,.bl (t.all id)))
   | _ =>.stuck
 | .any =>match a with
   | .lst l =>.of ((boolsOf l).map fun t =>(false,.bl (t.any id)))
   | _ =>.stuck
 | .sum =>match a with
   | .lst l =>.of ((intsOf l).map fun x =>(false,.int x.sum))
   | _ =>.stuck
noncomputable def b2D (b:B2) (x y:D):R (Bool × D):=match x,y with
 | .int i,.int j =>match b with
   | .max =>.ok (false,.int (if j > i then j else i))
   | .maxd =>.stuck
 | .lst l,.int j =>match b with
   | .maxd =>.of ((intsOf l).map fun r =>(false,.int (match r with
     | [] =>j
     | y :: r =>r.foldl (fun m z =>if z > m then z else m) y)))
   | _ =>.stuck
 | _,_ =>.stuck
noncomputable def joinS (sep:List Nat):List (List Nat) → List Nat
 | [] =>[]
 | [x] =>x
 | x :: y :: l =>x ++ sep ++ joinS sep (y :: l)
noncomputable def m1D (m:M1) (o a:D):R (Bool × D):=match m with
 | .join =>match o,a with
   | .str sep,.lst l =>.of ((strsOf l).bind fun x =>if size ((x.map List.length).sum + x.length * sep.length) then some (false,.str (joinS sep x)) else none)
   | _,_ =>.stuck
noncomputable def get2D (o a c:D):R (Bool × D):=match o with
 | .dct ks vs =>.of ((keyOf a).map fun k =>(false,(look ks vs k).getD c))
 | _ =>.stuck
structure Orc where
 fn:Nat → List D → R (Bool × D)
 ini:Nat → D → List D → R D
 meth:Nat → List Nat → Option Nat
 init:Nat → Option Nat
 sub:Nat → Nat → Bool
 w:Nat
noncomputable def isD (o:Orc) (ty:Ty):D → Option Bool
 | .non =>some false
 | .bl _ =>some (match ty with | .bool =>true | .int =>true | _ =>false)
 | .int _ =>some (match ty with | .int =>true | _ =>false)
 | .str _ =>some (match ty with | .str =>true | _ =>false)
 | .tup _ =>some (match ty with | .tup =>true | _ =>false)
 | .lst _ =>some (match ty with | .lst =>true | _ =>false)
 | .dct _ _ =>some (match ty with | .dct =>true | _ =>false)
noncomputable def slotD (δ:Dst) (i:Nat):Option D:=match δ[i]? with
 | some (some (_,d)) =>some d
 | _ =>none
noncomputable def slotsD (δ:Dst):List Nat → Option (List D)
 | [] =>some []
 | i :: l =>(slotD δ i).bind fun d =>(slotsD δ l).map (d :: ·)
noncomputable def isOwn (δ:Dst) (i:Nat):Bool:=match δ[i]? with
 | some (some (.ow,_)) =>true
 | some (some (.me,_)) =>true
 | _ =>false
noncomputable def lent (br:Bool) (r:Bool × D):R (Bool × D):=if br then (if r.2.imm then .ok r else .stuck) else .ok r
noncomputable def rngD (a b:Int):List D:=(List.range (b - a).toNat).map fun (k:Nat) =>D.int (a + (k:Int))
noncomputable def rng3D (a b c:Int):List D:=(List.range (if a < b then (b - a - 1) / c + 1 else 0).toNat).map fun (k:Nat) =>D.int (a + (k:Int) * c)
noncomputable def zipD:List D → List D → List D
 | x :: l,y :: r =>.tup [x,y] :: zipD l r
 | _,_ =>[]
noncomputable def enumD (i:Nat):List D → List D
 | [] =>[]
 | x :: l =>.tup [.int (i:Int),x] :: enumD (i + 1) l
noncomputable def inR (i:Int):Bool:=decide (-1000000 ≤ i) && decide (i ≤ 1000000)
noncomputable def rng3R:D → D → D → R (List D)
 | .int i,.int j,.int k =>.chk (inR i && inR j && inR k && decide (0 < k)) (.ok (rng3D i j k))
 | _,_,_ =>.stuck
noncomputable def zipR:D → D → R (List D)
 | .tup l,.tup r =>.ok (zipD l r)
 | _,_ =>.stuck
theorem rng3R_ok {x y z:D} {l:List D} (h:rng3R x y z = .ok l):∃ i j k,x = .int i ∧ y = .int j ∧ z = .int k ∧ R.chk (inR i && inR j && inR k && decide (0 < k)) (.ok (rng3D i j k)) = .ok l:=by
 cases x <;> first | exact nopeR h | skip
 cases y <;> first | exact nopeR h | skip
 cases z <;> first | exact nopeR h | exact ⟨_,_,_,rfl,rfl,rfl,h⟩
theorem zipR_ok {x y:D} {l:List D} (h:zipR x y = .ok l):∃ a b,x = .tup a ∧ y = .tup b ∧ l = zipD a b:=by
 cases x <;> first | exact nopeR h | skip
 cases y <;> first | exact nopeR h | (cases h; exact ⟨_,_,rfl,rfl,rfl⟩)
noncomputable def takes (m:Nat) (tg:Bool) (d:D):Option (List D):=if tg then (match d with
 | .tup l =>if l.length = m then some l else none
 | _ =>none) else some [d]
noncomputable def compGo (f:List D → R (Bool × D)) (c:List D → R (Bool × D)) (m:Nat) (tg:Bool):List D → R (List D)
 | [] =>.ok []
 | d :: l =>(R.of (takes m tg d)).bind fun x =>(c x).bind fun t =>(R.of (truth t.2)).bind fun b =>
   if b then (f x).bind fun y =>(compGo f c m tg l).bind fun r =>.ok (y.2 :: r) else compGo f c m tg l
noncomputable def boolD:D → R (Bool × D)
 | .bl b =>.ok (false,.bl b)
 | _ =>.stuck
noncomputable def lkOwn (δ:Dst):T → Bool
 | .var i =>isOwn δ i
 | _ =>false
mutual
noncomputable def ev (o:Orc) (δ:Dst) (lk:Bool):T → R (Bool × D)
 | .var i =>match δ[i]? with
   | some (some (.sh,d)) =>.ok (false,d)
   | some (some (_,d)) =>if lk then .ok (false,d) else .stuck
   | _ =>.stuck
 | .cst d =>.ok (false,d)
 | .op2 p a b =>(ev o δ true a).bind fun x =>(ev o δ true b).bind fun y =>o2 p x.2 y.2
 | .neg a =>(ev o δ true a).bind fun x =>match x.2 with
   | .int i =>.ok (false,.int (-i))
   | _ =>.stuck
 | .not a =>(ev o δ true a).bind fun x =>(R.of (truth x.2)).bind fun b =>.ok (false,.bl !b)
 | .and a b =>(ev o δ true a).bind fun x =>match x.2 with
   | .bl true =>(ev o δ true b).bind fun y =>boolD y.2
   | .bl false =>.ok (false,.bl false)
   | _ =>.stuck
 | .or a b =>(ev o δ true a).bind fun x =>match x.2 with
   | .bl true =>.ok (false,.bl true)
   | .bl false =>(ev o δ true b).bind fun y =>boolD y.2
   | _ =>.stuck
 | .ite c a b =>(ev o δ true c).bind fun x =>(R.of (truth x.2)).bind fun t =>if t then ev o δ lk a else ev o δ lk b
 | .tup l =>(evL o δ l).bind fun x =>.chk (!x.1 && size x.2.length) (.ok (false,.tup x.2))
 | .lst l =>(evL o δ l).bind fun x =>.chk (!x.1 && size x.2.length) (.ok (true,.lst x.2))
 | .dnew ks l =>(evL o δ l).bind fun x =>.chk (!x.1 && decide (ks.length = x.2.length) && decide (ks.length ≤ 1000) && decide ks.Nodup) (.ok (true,.dct ks x.2))
 | .idx a i =>(ev o δ true a).bind fun x =>(ev o δ true i).bind fun y =>idxD x.2 y.2
 | .kidx ks vs i =>(ev o δ true i).bind fun y =>.of ((keyOf y.2).bind fun x =>(look ks vs x).map fun d =>(false,d))
 | .slc a lo hi =>(ev o δ true a).bind fun x =>(ev o δ true lo).bind fun y =>(ev o δ true hi).bind fun z =>.of ((bnd lo y.2).bind fun l =>(bnd hi z.2).bind fun h =>slcD x.2 l h)
 | .call f l =>(evL o δ l).bind fun x =>(o.fn f x.2).bind (lent x.1)
 | .b1 b a =>(ev o δ true a).bind fun x =>b1D b x.2
 | .b2 b a c =>(ev o δ true a).bind fun x =>(ev o δ true c).bind fun y =>b2D b x.2 y.2
 | .m1 m a b =>(ev o δ true a).bind fun x =>(ev o δ true b).bind fun y =>m1D m x.2 y.2
 | .get2 a b c =>(ev o δ true a).bind fun x =>(ev o δ true b).bind fun y =>(ev o δ false c).bind fun z =>get2D x.2 y.2 z.2
 | .isin a ty =>(ev o δ true a).bind fun x =>.of ((isD o ty x.2).map fun t =>(false,.bl t))
 | .comp caps m tg it c e =>(evI o δ true it).bind fun l =>(R.of (slotsD δ caps)).bind fun cs =>
   (compGo (fun x =>ev o ((x ++ cs).map fun d =>some (.sh,d)) false e) (fun x =>ev o ((x ++ cs).map fun d =>some (.sh,d)) true c) m tg l).bind fun r =>
    R.chk (size r.length && (immL r || caps.all fun i =>!isOwn δ i)) (.ok (true,.lst r))
noncomputable def evL (o:Orc) (δ:Dst):TL → R (Bool × List D)
 | .nil =>.ok (false,[])
 | .cons t l =>(ev o δ (lkOwn δ t) t).bind fun x =>(evL o δ l).bind fun y =>.ok (lkOwn δ t || y.1,x.2 :: y.2)
noncomputable def evI (o:Orc) (δ:Dst) (lk:Bool):TI → R (List D)
 | .val t =>(ev o δ lk t).bind fun x =>.of (itemsK x.2)
 | .rng1 t =>(ev o δ true t).bind fun x =>match x.2 with
   | .int n =>.chk (inR n) (.ok (rngD 0 n))
   | _ =>.stuck
 | .rng2 a b =>(ev o δ true a).bind fun x =>(ev o δ true b).bind fun y =>match x.2,y.2 with
   | .int i,.int j =>.chk (inR i && inR j) (.ok (rngD i j))
   | _,_ =>.stuck
 | .rng3 a b c =>(ev o δ true a).bind fun x =>(ev o δ true b).bind fun y =>(ev o δ true c).bind fun z =>rng3R x.2 y.2 z.2
 | .zip a b =>(ev o δ true a).bind fun x =>(ev o δ true b).bind fun y =>zipR x.2 y.2
 | .enum a =>(ev o δ lk a).bind fun x =>match x.2 with
   | .lst l =>.ok (enumD 0 l)
   | .dct ks _ =>.ok (enumD 0 (ks.map keyD))
   | _ =>.stuck
end
mutual
noncomputable def tvars:T → List Nat
 | .var i =>[i]
 | .cst _ =>[]
 | .op2 _ a b =>tvars a ++ tvars b
 | .neg a =>tvars a
 | .not a =>tvars a
 | .and a b =>tvars a ++ tvars b
 | .or a b =>tvars a ++ tvars b
 | .ite c a b =>tvars c ++ (tvars a ++ tvars b)
 | .tup l =>tvarsL l
 | .lst l =>tvarsL l
 | .dnew _ l =>tvarsL l
 | .idx a i =>tvars a ++ tvars i
 | .kidx _ _ i =>tvars i
 | .slc a lo hi =>tvars a ++ (tvars lo ++ tvars hi)
 | .call _ l =>tvarsL l
 | .b1 _ a =>tvars a
 | .b2 _ a b =>tvars a ++ tvars b
 | .m1 _ a b =>tvars a ++ tvars b
 | .get2 a b c =>tvars a ++ (tvars b ++ tvars c)
 | .isin a _ =>tvars a
 | .comp caps _ _ it _ _ =>caps ++ tvarsI it
noncomputable def tvarsL:TL → List Nat
 | .nil =>[]
 | .cons t l =>tvars t ++ tvarsL l
noncomputable def tvarsI:TI → List Nat
 | .val t =>tvars t
 | .rng1 t =>tvars t
 | .rng2 a b =>tvars a ++ tvars b
 | .rng3 a b c =>tvars a ++ (tvars b ++ tvars c)
 | .zip a b =>tvars a ++ tvars b
 | .enum a =>tvars a
end
noncomputable def share1 (δ:Dst) (i:Nat):Dst:=match δ[i]? with
 | some (some (.ow,d)) =>δ.set i (some (.sh,d))
 | _ =>δ
noncomputable def shareIt (δ:Dst):TI → Dst
 | .val (.var i) =>share1 δ i
 | .enum (.var i) =>share1 δ i
 | _ =>δ
noncomputable def share (δ:Dst) (is:List Nat):Dst:=is.foldl share1 δ
noncomputable def evF (o:Orc) (δ:Dst) (e:T):Dst × R (Bool × D):=match ev o δ false e with
 | .stuck =>(share δ (tvars e),ev o (share δ (tvars e)) false e)
 | r =>(δ,r)
inductive SO where
 | nx (δ:Dst)
 | rt (w:Bool) (d:D) (δ:Dst)
 | bk (δ:Dst)
 | ct (δ:Dst)
 | ex (c:Nat) (δ:Dst)
 | stuck
noncomputable def SO.of (δ:Dst) {α:Type} (r:R α) (k:α → SO):SO:=match r with
 | .ok a =>k a
 | .exc c =>.ex c δ
 | .stuck =>.stuck
noncomputable def setSlot (δ:Dst) (i:Nat) (w:Bool) (d:D):Option Dst:=if i < δ.length then some (δ.set i (some (if w then .ow else .sh,d))) else none
noncomputable def setSlots (δ:Dst):List Nat → List D → Option Dst
 | [],[] =>some δ
 | i :: is,d :: ds =>(setSlot δ i false d).bind fun δ' =>setSlots δ' is ds
 | _,_ =>none
noncomputable def ownD (δ:Dst) (i:Nat):Option (Own × D):=match δ[i]? with
 | some (some (.ow,d)) =>some (.ow,d)
 | some (some (.me,d)) =>some (.me,d)
 | _ =>none
noncomputable def orStuck (x:Option SO):SO:=match x with
 | some r =>r
 | none =>.stuck
noncomputable def putItem (c k v:D):Option D:=match c,k with
 | .lst l,.int j =>(place l.length j).map fun n =>.lst (l.set n v)
 | .dct ks vs,k =>(keyOf k).bind fun x =>if ks.length ≤ 100000 then some (.dct (putKs ks x) (putV ks vs x v)) else none
 | _,_ =>none
noncomputable def forGo (body:Dst → SO) (tg:List Nat) (tup:Bool):List D → Dst → SO
 | [],δ =>.nx δ
 | d :: l,δ =>match takes tg.length tup d with
   | none =>.stuck
   | some ds =>match setSlots δ tg ds with
     | none =>.stuck
     | some δ1 =>match body δ1 with
       | .nx δ2 =>forGo body tg tup l δ2
       | .ct δ2 =>forGo body tg tup l δ2
       | .bk δ2 =>.nx δ2
       | r =>r
noncomputable def whileGo (c:Dst → R (Bool × D)) (body:Dst → SO):Nat → Dst → SO
 | 0,_ =>.stuck
 | n + 1,δ =>SO.of δ ((c δ).bind fun x =>R.of (truth x.2)) fun b =>if b then (match body δ with
  | .nx δ2 =>whileGo c body n δ2
  | .ct δ2 =>whileGo c body n δ2
  | .bk δ2 =>.nx δ2
  | r =>r) else .nx δ
mutual
noncomputable def evS (o:Orc):S → Dst → SO
 | .set i e,δ =>SO.of (evF o δ e).1 (evF o δ e).2 fun r =>orStuck ((setSlot (evF o δ e).1 i r.1 r.2).map .nx)
 | .seti i k e,δ =>SO.of (evF o δ e).1 (evF o δ e).2 fun r =>SO.of (evF o δ e).1 (ev o (evF o δ e).1 true k) fun y =>
  orStuck ((ownD (evF o δ e).1 i).bind fun c =>(putItem c.2 y.2 r.2).map fun c' =>.nx ((evF o δ e).1.set i (some (c.1,c'))))
 | .append i e,δ =>SO.of (evF o δ e).1 (evF o δ e).2 fun r =>orStuck ((ownD (evF o δ e).1 i).bind fun c =>match c.2 with
  | .lst l =>if size (l.length + 1) then some (.nx ((evF o δ e).1.set i (some (c.1,.lst (l ++ [r.2]))))) else none
  | _ =>none)
 | .ifs c a b,δ =>SO.of δ ((ev o δ true c).bind fun x =>R.of (truth x.2)) fun t =>if t then evSs o a δ else evSs o b δ
 | .ifq c a b,δ =>(fun δ1 =>SO.of δ1 ((ev o δ1 true c).bind fun x =>R.of (truth x.2)) fun t =>if t then evSs o a δ1 else evSs o b δ1) (share δ (tvars c))
 | .for_ tg tup it b,δ =>(fun δ1 =>SO.of δ1 (evI o δ1 false it) fun l =>forGo (evSs o b) tg tup l δ1) (shareIt δ it)
 | .while_ c b,δ =>whileGo (fun δ =>ev o δ true c) (evSs o b) o.w δ
 | .ret e,δ =>match e with
   | .var i =>match δ[i]? with
     | some (some (.ow,d)) =>.rt true d δ
     | some (some (.sh,d)) =>.rt false d δ
     | _ =>.stuck
   | e =>SO.of (evF o δ e).1 (evF o δ e).2 fun r =>.rt r.1 r.2 (evF o δ e).1
 | .retn,δ =>.rt false .non δ
 | .expr e,δ =>SO.of δ (ev o δ true e) fun _ =>.nx δ
 | .brk,δ =>.bk δ
 | .cont,δ =>.ct δ
 | .pass,δ =>.nx δ
noncomputable def evSs (o:Orc):SL → Dst → SO
 | .nil,δ =>.nx δ
 | .cons s l,δ =>match evS o s δ with
   | .nx δ1 =>evSs o l δ1
   | r =>r
end
structure Fd where
 np:Nat
 ns:Nat
 body:SL
noncomputable def runFn (o:Orc) (f:Fd) (args:List D):R (Bool × D):=if args.length = f.np then (match evSs o f.body (args.map (fun d =>some (Own.sh,d)) ++ List.replicate (f.ns - f.np) none) with
 | .rt w d _ =>.ok (w,d)
 | .nx _ =>.ok (false,.non)
 | .ex c _ =>.exc c
 | _ =>.stuck) else .stuck
noncomputable def selfOf (δ:Dst):R D:=match (δ[0]?:Option (Option Slot)) with
 | some (some (.me,d)) =>.ok d
 | _ =>.stuck
noncomputable def runIni (o:Orc) (f:Fd) (self:D) (args:List D):R D:=if args.length + 1 = f.np then (match evSs o f.body (some (Own.me,self) :: (args.map (fun d =>some (Own.sh,d)) ++ List.replicate (f.ns - f.np) none)) with
 | .rt _ .non δ =>selfOf δ
 | .nx δ =>selfOf δ
 | .ex c _ =>.exc c
 | _ =>.stuck) else .stuck
structure Prg where
 fns:List Fd
 meth:Nat → List Nat → Option Nat
 init:Nat → Option Nat
 sub:Nat → Nat → Bool
noncomputable def orc (P:Prg) (w:Nat):Nat → Orc
 | 0 =>⟨fun _ _ =>.stuck,fun _ _ _ =>.stuck,P.meth,P.init,P.sub,w⟩
 | n + 1 =>⟨fun f a =>match P.fns[f]? with | some d =>runFn (orc P w n) d a | none =>.stuck,fun f s a =>match P.fns[f]? with | some d =>runIni (orc P w n) d s a | none =>.stuck,P.meth,P.init,P.sub,w⟩
end Z

set_option autoImplicit false
namespace Z
open PySem PySem.Spec PyProof.Rows L2
noncomputable def strV (x:List Nat):Str:=⟨x.toArray⟩
noncomputable def keyV:DK → Key
 | .i n =>.inl n
 | .s x =>.inr (strV x)
theorem strV_inj {x y:List Nat} (h:strV x = strV y):x = y:=by
 have:=congrArg (fun s:Str =>s.cps.toList) h
 simpa [strV] using this
theorem keyV_inj {x y:DK} (h:keyV x = keyV y):x = y:=by
 cases x <;> cases y <;> simp [keyV] at h
 ·rw [h]
 ·rw [strV_inj h]
noncomputable abbrev IsK (H:Hp) (a:Addr) (kvs:List (Key × V)):Prop:=∃ ep,H a = some (.dK kvs ep)
noncomputable def KsOk (ks:List DK):Prop:=ks.Nodup ∧ ∀ x,DK.s x ∈ ks → x.length ≤ 16777216
structure Wd where
 K:PySem.W.Frag
 CT:Nat → Addr
mutual
noncomputable def Rep (W:Wd) (G:Hp):D → V → Prop
 | .non,v =>v = .non
 | .bl b,v =>v = .bl b
 | .int i,v =>v = .int i
 | .str x,v =>v = .str (strV x) ∧ x.length ≤ 16777216
 | .tup l,v =>∃ a xs,v = .ref a ∧ SqT W.K G a xs ∧ Reps W G l xs
 | .lst l,v =>∃ a xs,v = .ref a ∧ SqL W.K G a xs ∧ Reps W G l xs
 | .dct ks vs,v =>∃ a kvs,v = .ref a ∧ IsK G a kvs ∧ kvs.map (·.1) = ks.map keyV ∧ KsOk ks ∧ Reps W G vs (kvs.map (·.2))
noncomputable def Reps (W:Wd) (G:Hp):List D → List V → Prop
 | [],[] =>True
 | d :: l,v :: vs =>Rep W G d v ∧ Reps W G l vs
 | _,_ =>False
end
theorem same_tup {K:PySem.W.Frag} {H H':Hp} {a:Addr} {xs:List V} (e:Same H H') (h:SqT K H a xs):SqT K H' a xs:=by
 rcases h with (h | ⟨o,h⟩) | h
 ·exact .inl (.inl (e _ _ h))
 ·exact .inl (.inr ⟨o,e _ _ h⟩)
 ·exact .inr h
mutual
theorem Rep.mono {W:Wd} {G G':Hp} (e:Same G G'):∀ {d:D} {v:V},Rep W G d v → Rep W G' d v
 | .non,v,h =>by simpa only [Rep] using h
 | .bl b,v,h =>by simpa only [Rep] using h
 | .int i,v,h =>by simpa only [Rep] using h
 | .str x,v,h =>by simpa only [Rep] using h
 | .tup l,v,h =>by
   simp only [Rep] at h ⊢
   obtain ⟨a,xs,rfl,h1,h2⟩:=h
   exact ⟨a,xs,rfl,same_tup e h1,Reps.mono e h2⟩
 | .lst l,v,h =>by
   simp only [Rep] at h ⊢
   obtain ⟨a,xs,rfl,h1,h2⟩:=h
   exact ⟨a,xs,rfl,e.seq h1,Reps.mono e h2⟩
 | .dct ks vs,v,h =>by
   simp only [Rep] at h ⊢
   obtain ⟨a,kvs,rfl,h1,h2,h3,h4⟩:=h
   exact ⟨a,kvs,rfl,h1.imp fun _ z =>e _ _ z,h2,h3,Reps.mono e h4⟩
theorem Reps.mono {W:Wd} {G G':Hp} (e:Same G G'):∀ {l:List D} {vs:List V},Reps W G l vs → Reps W G' l vs
 | [],[],_ =>by simp only [Reps]
 | [],_ :: _,h =>by simp only [Reps] at h
 | _ :: _,[],h =>by simp only [Reps] at h
 | d :: l,v :: vs,h =>by
   simp only [Reps] at h ⊢
   exact ⟨Rep.mono e h.1,Reps.mono e h.2⟩
end
theorem Reps.length {W:Wd} {G:Hp}:∀ {l:List D} {vs:List V},Reps W G l vs → l.length = vs.length
 | [],[],_ =>rfl
 | [],_ :: _,h =>by simp only [Reps] at h
 | _ :: _,[],h =>by simp only [Reps] at h
 | d :: l,v :: vs,h =>by
   simp only [Reps] at h
   simp [Reps.length h.2]
theorem Reps.get {W:Wd} {G:Hp}:∀ {l:List D} {vs:List V} {i:Nat} {d:D},Reps W G l vs → l[i]? = some d → ∃ v,vs[i]? = some v ∧ Rep W G d v
 | [],_,_,_,_,e =>by simp at e
 | _ :: _,[],_,_,h,_ =>by simp only [Reps] at h
 | d :: l,v :: vs,0,_,h,e =>by
   simp only [Reps] at h
   simp at e; subst e
   exact ⟨v,rfl,h.1⟩
 | d :: l,v :: vs,i + 1,x,h,e =>by
   simp only [Reps] at h
   obtain ⟨u,h1,h2⟩:=Reps.get (i:=i) (d:=x) h.2 (by simpa using e)
   exact ⟨u,by simpa using h1,h2⟩
theorem Reps.append {W:Wd} {G:Hp}:∀ {l l':List D} {vs vs':List V},Reps W G l vs → Reps W G l' vs' → Reps W G (l ++ l') (vs ++ vs')
 | [],_,[],_,_,h =>h
 | [],_,_ :: _,_,h,_ =>by simp only [Reps] at h
 | _ :: _,_,[],_,h,_ =>by simp only [Reps] at h
 | d :: l,l',v :: vs,vs',h,h' =>by
   simp only [Reps] at h
   simp only [List.cons_append,Reps]
   exact ⟨h.1,Reps.append h.2 h'⟩
theorem Reps.set {W:Wd} {G:Hp} {d:D} {v:V} (r:Rep W G d v):∀ {l:List D} {vs:List V} (i:Nat),Reps W G l vs → Reps W G (l.set i d) (vs.set i v)
 | [],[],_,h =>h
 | [],_ :: _,_,h =>by simp only [Reps] at h
 | _ :: _,[],_,h =>by simp only [Reps] at h
 | _ :: l,_ :: vs,0,h =>by
   simp only [Reps] at h
   simp only [List.set_cons_zero,Reps]
   exact ⟨r,h.2⟩
 | x :: l,y :: vs,i + 1,h =>by
   simp only [Reps] at h
   simp only [List.set_cons_succ,Reps]
   exact ⟨h.1,Reps.set r i h.2⟩
theorem Reps.take {W:Wd} {G:Hp}:∀ {l:List D} {vs:List V} (n:Nat),Reps W G l vs → Reps W G (l.take n) (vs.take n)
 | _,_,0,_ =>by simp [Reps]
 | [],[],_ + 1,h =>h
 | [],_ :: _,_ + 1,h =>by simp only [Reps] at h
 | _ :: _,[],_ + 1,h =>by simp only [Reps] at h
 | d :: l,v :: vs,n + 1,h =>by
   simp only [Reps] at h
   simp only [List.take_succ_cons,Reps]
   exact ⟨h.1,Reps.take n h.2⟩
theorem Reps.drop {W:Wd} {G:Hp}:∀ {l:List D} {vs:List V} (n:Nat),Reps W G l vs → Reps W G (l.drop n) (vs.drop n)
 | _,_,0,h =>by simpa using h
 | [],[],_ + 1,h =>h
 | [],_ :: _,_ + 1,h =>by simp only [Reps] at h
 | _ :: _,[],_ + 1,h =>by simp only [Reps] at h
 | d :: l,v :: vs,n + 1,h =>by
   simp only [Reps] at h
   simp only [List.drop_succ_cons]
   exact Reps.drop n h.2
noncomputable def vis (H:Hp) (P:Addr → Prop):Hp:=fun b =>open Classical in if P b then none else H b
theorem vis_some {H:Hp} {P:Addr → Prop} {b:Addr} {o:HO} (h:vis H P b = some o):H b = some o ∧ ¬ P b:=by
 unfold vis at h
 split at h
 ·cases h
 ·exact ⟨h,by assumption⟩
theorem vis_of {H:Hp} {P:Addr → Prop} {b:Addr} {o:HO} (h:H b = some o) (n:¬ P b):vis H P b = some o:=by
 unfold vis
 rw [if_neg n]; exact h
theorem vis_mono {H H':Hp} {P:Addr → Prop} (e:Same H H'):Same (vis H P) (vis H' P):=fun b o h =>
 let ⟨h1,h2⟩:=vis_some h
 vis_of (e b o h1) h2
theorem vis_sub {H:Hp} {P P':Addr → Prop} (e:∀ b,P' b → P b):Same (vis H P) (vis H P'):=fun b o h =>
 let ⟨h1,h2⟩:=vis_some h
 vis_of h1 fun z =>h2 (e b z)
theorem vis_le {H:Hp} {P:Addr → Prop}:Same (vis H P) H:=fun b o h =>(vis_some h).1
noncomputable def RepT (W:Wd) (H G:Hp):D → V → Prop
 | .lst l,v =>∃ a xs,v = .ref a ∧ SqL W.K H a xs ∧ Reps W G l xs
 | .dct ks vs,v =>∃ a kvs,v = .ref a ∧ IsK H a kvs ∧ kvs.map (·.1) = ks.map keyV ∧ KsOk ks ∧ Reps W G vs (kvs.map (·.2))
 | d,v =>Rep W G d v
noncomputable def OwnAt (W:Wd) (H G:Hp) (a:Addr):D → Prop
 | .lst l =>∃ xs,H a = some (.lst xs) ∧ Reps W G l xs
 | .dct ks vs =>∃ kvs,IsK H a kvs ∧ kvs.map (·.1) = ks.map keyV ∧ KsOk ks ∧ Reps W G vs (kvs.map (·.2))
 | _ =>False
theorem RepT.mono {W:Wd} {H G H' G':Hp} {d:D} {v:V} (h:RepT W H G d v) (e:Same H H') (g:Same G G'):RepT W H' G' d v:=by
 cases d with
 | lst l =>
   obtain ⟨a,xs,rfl,h1,h2⟩:=h
   exact ⟨a,xs,rfl,e.seq h1,h2.mono g⟩
 | dct ks vs =>
   obtain ⟨a,kvs,rfl,h1,h2,h3,h4⟩:=h
   exact ⟨a,kvs,rfl,h1.imp fun _ z =>e _ _ z,h2,h3,h4.mono g⟩
 | non =>exact Rep.mono g h
 | bl b =>exact Rep.mono g h
 | int i =>exact Rep.mono g h
 | str x =>exact Rep.mono g h
 | tup l =>exact Rep.mono g h
theorem Rep.top {W:Wd} {H G:Hp} {d:D} {v:V} (h:Rep W G d v) (e:Same G H):RepT W H G d v:=by
 cases d with
 | lst l =>
   simp only [Rep] at h
   obtain ⟨a,xs,rfl,h1,h2⟩:=h
   exact ⟨a,xs,rfl,e.seq h1,h2⟩
 | dct ks vs =>
   simp only [Rep] at h
   obtain ⟨a,kvs,rfl,h1,h2⟩:=h
   exact ⟨a,kvs,rfl,h1.imp fun _ z =>e _ _ z,h2⟩
 | non =>exact h
 | bl b =>exact h
 | int i =>exact h
 | str x =>exact h
 | tup l =>exact h
theorem OwnAt.mono {W:Wd} {H G H' G':Hp} {a:Addr} {d:D} (h:OwnAt W H G a d) (e:∀ o,H a = some o → H' a = some o) (g:Same G G'):OwnAt W H' G' a d:=by
 cases d with
 | lst l =>
   obtain ⟨xs,h1,h2⟩:=h
   exact ⟨xs,e _ h1,h2.mono g⟩
 | dct ks vs =>
   obtain ⟨kvs,h1,h2,h3,h4⟩:=h
   exact ⟨kvs,h1.imp fun _ z =>e _ z,h2,h3,h4.mono g⟩
 | non =>exact h
 | bl b =>exact h
 | int i =>exact h
 | str x =>exact h
 | tup l =>exact h
theorem OwnAt.top {W:Wd} {H G:Hp} {a:Addr} {d:D} (h:OwnAt W H G a d):RepT W H G d (.ref a):=by
 cases d with
 | lst l =>
   obtain ⟨xs,h1,h2⟩:=h
   exact ⟨a,xs,rfl,.inl (.inl h1),h2⟩
 | dct ks vs =>
   obtain ⟨kvs,h1,h2⟩:=h
   exact ⟨a,kvs,rfl,h1,h2⟩
 | non =>exact False.elim h
 | bl b =>exact False.elim h
 | int i =>exact False.elim h
 | str x =>exact False.elim h
 | tup l =>exact False.elim h
theorem OwnAt.rep {W:Wd} {H G:Hp} {a:Addr} {d:D} (h:OwnAt W H G a d) (e:∀ o,H a = some o → G a = some o):Rep W G d (.ref a):=by
 cases d with
 | lst l =>
   obtain ⟨xs,h1,h2⟩:=h
   simp only [Rep]
   exact ⟨a,xs,rfl,.inl (.inl (e _ h1)),h2⟩
 | dct ks vs =>
   obtain ⟨kvs,h1,h2⟩:=h
   simp only [Rep]
   exact ⟨a,kvs,rfl,h1.imp fun _ z =>e _ z,h2⟩
 | non =>exact False.elim h
 | bl b =>exact False.elim h
 | int i =>exact False.elim h
 | str x =>exact False.elim h
 | tup l =>exact False.elim h
theorem OwnAt.some {W:Wd} {H G:Hp} {a:Addr} {d:D} (h:OwnAt W H G a d):∃ o,H a = some o ∧ (∀ xs,o ≠ .tup xs) ∧ ∀ ob u,o ≠ .frz ob u:=by
 cases d with
 | lst l =>obtain ⟨xs,h1,h2⟩:=h; exact ⟨_,h1,(by intro _ z; cases z),(by intro _ _ z; cases z)⟩
 | dct ks vs =>obtain ⟨kvs,⟨ep,h1⟩,h2⟩:=h; exact ⟨_,h1,(by intro _ z; cases z),(by intro _ _ z; cases z)⟩
 | non =>exact False.elim h
 | bl b =>exact False.elim h
 | int i =>exact False.elim h
 | str x =>exact False.elim h
 | tup l =>exact False.elim h
noncomputable def Holds1 (σ:L2.St) (δ:Dst) (i:Nat) (a:Addr):Prop:=(∃ w d,δ[i]? = some (some (w,d)) ∧ w ≠ Own.sh) ∧ σ[i]? = some (some (.ref a))
noncomputable def Hid (B:Addr → Prop) (σ:L2.St) (δ:Dst) (a:Addr):Prop:=B a ∨ ∃ i,Holds1 σ δ i a
noncomputable def Soft (H:Hp) (P:Addr → Prop):Prop:=∀ a,P a → ∀ o,H a = some o → (∀ xs,o ≠ .tup xs) ∧ ∀ ob u,o ≠ .frz ob u
structure SR (X:Cx) (W:Wd) (me:Option Addr) (B:Addr → Prop) (H:Hp) (σ:L2.St) (δ:Dst):Prop where
 kf:W.K = X.K
 len:σ.length = δ.length
 sh:∀ (i:Nat) (d:D),δ[i]? = some (some (Own.sh,d)) → ∃ v,σ[i]? = some (some v) ∧ Rep W (vis H (Hid B σ δ)) d v
 ow:∀ (i:Nat) (d:D),δ[i]? = some (some (Own.ow,d)) → ∃ a,σ[i]? = some (some (V.ref a)) ∧ OwnAt W H (vis H (Hid B σ δ)) a d ∧ X.H₀ a = none ∧ ¬ B a ∧ some a ≠ me
 mi:∀ (i:Nat) (d:D),δ[i]? = some (some (Own.me,d)) → i = 0 ∧ ∃ a,me = some a ∧ σ[i]? = some (some (V.ref a)) ∧ OwnAt W H (vis H (Hid B σ δ)) a d ∧ ¬ B a
 apart:∀ (i j:Nat) (a:Addr),Holds1 σ δ i a → Holds1 σ δ j a → i = j
 same:∀ b o,X.H₀ b = some o → some b ≠ me → H b = some o
 soft:Soft H B
 gone:∀ b,B b → ∃ o,H b = some o
 live:∀ x,me = some x → ∃ o,H x = some o
theorem SR.mono {X:Cx} {W:Wd} {me:Option Addr} {B:Addr → Prop} {H H':Hp} {σ:L2.St} {δ:Dst} (S:SR X W me B H σ δ) (e:Same H H'):SR X W me B H' σ δ where
 kf:=S.kf
 len:=S.len
 sh:=fun i d h =>let ⟨v,h1,h2⟩:=S.sh i d h; ⟨v,h1,h2.mono (vis_mono e)⟩
 ow:=fun i d h =>let ⟨a,h1,h2,h3⟩:=S.ow i d h; ⟨a,h1,h2.mono (fun o q =>e a o q) (vis_mono e),h3⟩
 mi:=fun i d h =>let ⟨h0,a,h1,h2,h3,h4⟩:=S.mi i d h; ⟨h0,a,h1,h2,h3.mono (fun o q =>e a o q) (vis_mono e),h4⟩
 apart:=S.apart
 same:=fun b o h h' =>e b o (S.same b o h h')
 soft:=fun a ha o ho =>by
  obtain ⟨o',ho'⟩:=S.gone a ha
  have:=e a o' ho'
  rw [ho] at this; cases this
  exact S.soft a ha _ ho'
 gone:=fun b hb =>let ⟨o,h⟩:=S.gone b hb; ⟨o,e b o h⟩
 live:=fun x hx =>let ⟨o,h⟩:=S.live x hx; ⟨o,e x o h⟩
theorem SR.softH {X:Cx} {W:Wd} {me:Option Addr} {B:Addr → Prop} {H:Hp} {σ:L2.St} {δ:Dst} (S:SR X W me B H σ δ):Soft H (Hid B σ δ):=fun a ha o ho =>by
 rcases ha with ha | ⟨i,⟨w,d,h1,h2⟩,h3⟩
 ·exact S.soft a ha o ho
 ·cases w with
  | sh =>exact absurd rfl h2
  | ow =>
    obtain ⟨b,q1,q2,_⟩:=S.ow i d h1
    rw [h3] at q1; cases q1
    obtain ⟨o',q3,q4⟩:=q2.some
    rw [ho] at q3; cases q3
    exact q4
  | me =>
    obtain ⟨_,b,_,q1,q2,_⟩:=S.mi i d h1
    rw [h3] at q1; cases q1
    obtain ⟨o',q3,q4⟩:=q2.some
    rw [ho] at q3; cases q3
    exact q4
theorem SR.hidH {X:Cx} {W:Wd} {me:Option Addr} {B:Addr → Prop} {H:Hp} {σ:L2.St} {δ:Dst} (S:SR X W me B H σ δ) {a:Addr} (ha:Hid B σ δ a):∃ o,H a = some o:=by
 rcases ha with ha | ⟨i,⟨w,d,h1,h2⟩,h3⟩
 ·exact S.gone a ha
 ·cases w with
  | sh =>exact absurd rfl h2
  | ow =>
    obtain ⟨b,q1,q2,_⟩:=S.ow i d h1
    rw [h3] at q1; cases q1
    obtain ⟨o',q3,q4⟩:=q2.some
    exact ⟨_,q3⟩
  | me =>
    obtain ⟨_,b,_,q1,q2,_⟩:=S.mi i d h1
    rw [h3] at q1; cases q1
    obtain ⟨o',q3,q4⟩:=q2.some
    exact ⟨_,q3⟩
mutual
theorem Rep.imm {W:Wd} {H:Hp} {P:Addr → Prop} (S:Soft H P):∀ {d:D} {v:V},d.imm = true → Rep W H d v → Rep W (vis H P) d v
 | .non,v,_,h =>by simpa only [Rep] using h
 | .bl b,v,_,h =>by simpa only [Rep] using h
 | .int i,v,_,h =>by simpa only [Rep] using h
 | .str x,v,_,h =>by simpa only [Rep] using h
 | .tup l,v,q,h =>by
   simp only [D.imm] at q
   simp only [Rep] at h ⊢
   obtain ⟨a,xs,rfl,h1,h2⟩:=h
   refine ⟨a,xs,rfl,?_,Reps.imm S q h2⟩
   rcases h1 with (h1 | ⟨o,h1⟩) | h1
   ·exact .inl (.inl (vis_of h1 fun z =>(S a z _ h1).1 _ rfl))
   ·exact .inl (.inr ⟨o,vis_of h1 fun z =>(S a z _ h1).2 _ _ rfl⟩)
   ·exact .inr h1
 | .lst l,v,q,h =>by simp [D.imm] at q
 | .dct ks vs,v,q,h =>by simp [D.imm] at q
theorem Reps.imm {W:Wd} {H:Hp} {P:Addr → Prop} (S:Soft H P):∀ {l:List D} {vs:List V},immL l = true → Reps W H l vs → Reps W (vis H P) l vs
 | [],[],_,_ =>by simp only [Reps]
 | [],_ :: _,_,h =>by simp only [Reps] at h
 | _ :: _,[],_,h =>by simp only [Reps] at h
 | d :: l,v :: vs,q,h =>by
   simp only [immL,Bool.and_eq_true] at q
   simp only [Reps] at h ⊢
   exact ⟨Rep.imm S q.1 h.1,Reps.imm S q.2 h.2⟩
end
noncomputable def Res (W:Wd) (P:Addr → Prop) (lk:Bool) (H H':Hp) (w:Bool) (d:D) (v:V):Prop :=
 if w = true then ∃ a,v = .ref a ∧ H a = none ∧ OwnAt W H' (vis H' fun b =>P b ∨ b = a) a d
 else if lk = true then RepT W H' (vis H' P) d v else Rep W (vis H' P) d v
noncomputable def EW (X:Cx) (W:Wd) (σ:L2.St) (H:Hp) (c:Nat):Prop:=False
noncomputable def tD (X:Cx) (W:Wd) (lk:Bool) (f:Dst → R (Bool × D)):TE:=fun σ H Q =>∃ me B δ,SR X W me B H σ δ ∧ match f δ with
 | .ok r =>∀ v H',Same H H' → Res W (Hid B σ δ) lk H H' r.1 r.2 v → Q v H'
 | .exc c =>EW X W σ H c
 | .stuck =>False
theorem PE.imp {X:Cx} {e:Expr} {t t':TE} (h:PE X e t) (i:∀ σ H Q,t' σ H Q → t σ H Q):PE X e t':=fun pins s σ H Q I hw =>h pins s σ H Q I (i σ H Q hw)
theorem PT.imp {X:Cx} {e:Expr} {t t':TT} (h:PT X e t) (i:∀ σ H Q,t' σ H Q → t σ H Q):PT X e t':=fun pins s σ H Q I hw =>h pins s σ H Q I (i σ H Q hw)
theorem PA.imp {X:Cx} {es:List Expr} {t t':TA} (h:PA X es t) (i:∀ σ H Q,t' σ H Q → t σ H Q):PA X es t':=fun pos pins s σ H Q I hw =>h pos pins s σ H Q I (i σ H Q hw)
theorem PS.imp {X:Cx} {e:Stmt} {t t':TS} (h:PS X e t) (i:∀ D σ H,t' D σ H → t D σ H):PS X e t':=fun pins s σ H D I hw =>h pins s σ H D I (i D σ H hw)
theorem EW.mono {X:Cx} {W:Wd} {σ:L2.St} {H H':Hp} {c:Nat} (h:EW X W σ H c) (e:Same H H'):EW X W σ H' c:=h.elim
theorem Same.upd {H:Hp} {p:Addr} {o:HO} (h:H p = none):Same H (upd H p o):=fun b u e =>by rw [upd_ne (ne_of_none e h)]; exact e
theorem Res.look {W:Wd} {P:Addr → Prop} {lk:Bool} {H H':Hp} {w:Bool} {d:D} {v:V} (h:Res W P lk H H' w d v):RepT W H' (vis H' P) d v:=by
 unfold Res at h
 split at h
 ·obtain ⟨a,rfl,_,h⟩:=h
  exact (h.mono (fun _ q =>q) (vis_sub fun b z =>.inl z)).top
 ·split at h
  ·exact h
  ·exact h.top vis_le
theorem Res.keep {W:Wd} {P:Addr → Prop} {H H':Hp} {w:Bool} {d:D} {v:V} (h:Res W P false H H' w d v) (hp:∀ a,P a → ∃ o,H a = some o):Rep W (vis H' P) d v:=by
 unfold Res at h
 split at h
 ·obtain ⟨a,rfl,h0,h⟩:=h
  have na:¬ P a:=fun z =>by
   obtain ⟨o,q⟩:=hp a z
   rw [h0] at q; cases q
  exact (h.mono (fun _ q =>q) (vis_sub fun b z =>.inl z)).rep fun o q =>vis_of q na
 ·exact h
theorem Res.shared {W:Wd} {P:Addr → Prop} {lk:Bool} {H H':Hp} {d:D} {v:V} (h:Rep W (vis H' P) d v):Res W P lk H H' false d v:=by
 unfold Res
 rw [if_neg (by simp)]
 split
 ·exact h.top vis_le
 ·exact h
end Z

namespace Z
open PySem PySem.Spec PyProof.Rows L2
section
variable {X:Cx} {W:Wd} {lk lk':Bool} {σ:L2.St} {H H1 H':Hp} {me:Option Addr} {B:Addr → Prop} {δ:Dst} {Q Q':VK}
noncomputable def After (X:Cx) (W:Wd) (lk:Bool) (σ:L2.St) (H:Hp) (P:Addr → Prop) (r:R (Bool × D)) (Q:VK):Prop:=match r with
 | .ok r =>∀ v H',Same H H' → Res W P lk H H' r.1 r.2 v → Q v H'
 | .exc c =>EW X W σ H c
 | .stuck =>False
theorem tD_iff {f:Dst → R (Bool × D)}:tD X W lk f σ H Q ↔ ∃ me B δ,SR X W me B H σ δ ∧ After X W lk σ H (Hid B σ δ) (f δ) Q:=by
 unfold tD After
 exact Iff.rfl
theorem Res.from {P:Addr → Prop} {w:Bool} {d:D} {v:V} (h:Res W P lk H1 H' w d v) (e:Same H H1):Res W P lk H H' w d v:=by
 unfold Res at h ⊢
 split at h
 ·rename_i hw
  rw [if_pos hw]
  obtain ⟨a,h1,h2,h3⟩:=h
  exact ⟨a,h1,e.free h2,h3⟩
 ·rename_i hw
  rw [if_neg hw]
  exact h
theorem After.mono {P:Addr → Prop} {r:R (Bool × D)} (h:After X W lk σ H P r Q) (e:Same H H1):After X W lk σ H1 P r Q:=by
 unfold After at h ⊢
 cases r with
 | ok r =>exact fun v H' s q =>h v H' (e.trans s) (q.from e)
 | exc c =>exact h.mono e
 | stuck =>exact h
theorem tD.mono {f:Dst → R (Bool × D)} (h:tD X W lk f σ H Q) (k:∀ v H',Q v H' → Q' v H'):tD X W lk f σ H Q':=by
 obtain ⟨me,B,δ,S,h⟩:=tD_iff.mp h
 refine tD_iff.mpr ⟨me,B,δ,S,?_⟩
 unfold After at h ⊢
 cases e:f δ with
 | ok r =>rw [e] at h; exact fun v H' s q =>k _ _ (h v H' s q)
 | exc c =>rw [e] at h; exact h
 | stuck =>rw [e] at h; exact h
theorem part {fa:Dst → R (Bool × D)} {g:Bool × D → R (Bool × D)} (S:SR X W me B H σ δ) (h:After X W lk σ H (Hid B σ δ) ((fa δ).bind g) Q) :
 tD X W lk' fa σ H fun v H1 =>∃ r,fa δ = .ok r ∧ SR X W me B H1 σ δ ∧ Same H H1 ∧ RepT W H1 (vis H1 (Hid B σ δ)) r.2 v ∧ Res W (Hid B σ δ) lk' H H1 r.1 r.2 v ∧ After X W lk σ H1 (Hid B σ δ) (g r) Q:=by
 refine tD_iff.mpr ⟨me,B,δ,S,?_⟩
 cases e:fa δ with
 | ok r =>
   rw [e] at h
   intro v H1 s q
   exact ⟨r,rfl,S.mono s,s,q.look,q,After.mono h s⟩
 | exc c =>rw [e] at h; exact h
 | stuck =>rw [e] at h; exact h
theorem Soft.mono {P:Addr → Prop} (s:Soft H P) (g:∀ a,P a → ∃ o,H a = some o) (e:Same H H1):Soft H1 P:=fun a ha o ho =>by
 obtain ⟨o',h'⟩:=g a ha
 have:=e a o' h'
 rw [ho] at this; cases this
 exact s a ha _ h'
theorem SR.know (S:SR X W me B H σ δ):∀ a,Hid B σ δ a → ∃ o,H a = some o:=fun _ h =>S.hidH h
noncomputable def Sem2 (W:Wd) (r:R2) (g:D → D → R (Bool × D)):Prop :=
 ∀ (lk:Bool) (P:Addr → Prop) (H:Hp) (x y:V) (dx dy:D) (Q:VK) (w:Bool) (d:D),Soft H P → (∀ a,P a → ∃ o,H a = some o) → RepT W H (vis H P) dx x → RepT W H (vis H P) dy y → g dx dy = .ok (w,d) →
  (∀ v H',Same H H' → Res W P lk H H' w d v → Q v H') → r x y H Q
noncomputable def NoExc2 (g:D → D → R (Bool × D)):Prop:=∀ x y c,g x y ≠ .exc c
theorem tOp_of {r:R2} {g:D → D → R (Bool × D)} {fa fb:Dst → R (Bool × D)} (hs:Sem2 W r g) (hn:NoExc2 g) {σ:L2.St} {H:Hp} {Q:VK}
 (h:tD X W lk (fun δ =>(fa δ).bind fun x =>(fb δ).bind fun y =>g x.2 y.2) σ H Q):tOp r (tD X W true fa) (tD X W true fb) σ H Q:=by
 obtain ⟨me,B,δ,S,h⟩:=tD_iff.mp h
 refine tD.mono (part S h) fun v H1 ⟨r1,e1,S1,s1,t1,_,h1⟩ =>?_
 refine tD.mono (part (g:=fun y =>g r1.2 y.2) S1 h1) fun u H2 ⟨r2,e2,S2,s2,t2,_,h2⟩ =>?_
 cases e:g r1.2 r2.2 with
 | ok r =>
   rw [e] at h2
   exact hs lk (Hid B σ δ) H2 v u r1.2 r2.2 Q r.1 r.2 S2.softH S2.know (t1.mono s2 (vis_mono s2)) t2 e h2
 | exc c =>exact absurd e (hn _ _ _)
 | stuck =>rw [e] at h2; exact h2.elim
variable {a b:Expr} {pos:Pos} {fa fb:Dst → R (Bool × D)}
theorem d_op2 {op:Operator} {r:R2} {g:D → D → R (Bool × D)} (ho:OpR X (binaryOp op) r) (hs:Sem2 W r g) (hn:NoExc2 g) (ha:PE X a (tD X W true fa)) (hb:PE X b (tD X W true fb)) :
 PE X (.BinOp a op b pos) (tD X W lk fun δ =>(fa δ).bind fun x =>(fb δ).bind fun y =>g x.2 y.2) :=
 PE.imp (pe_op ho ha hb) fun _ _ _ h =>tOp_of hs hn h
theorem d_cmp {op:CmpOp} {r:R2} {g:D → D → R (Bool × D)} (ho:OpR X (compareOp op) r) (hs:Sem2 W r g) (hn:NoExc2 g) (ha:PE X a (tD X W true fa)) (hb:PE X b (tD X W true fb)) (hm:behindInMarks op b = false) :
 PE X (.Compare a [op] [b] pos) (tD X W lk fun δ =>(fa δ).bind fun x =>(fb δ).bind fun y =>g x.2 y.2) :=
 PE.imp (pe_cmpR ho ha hb hm) fun _ _ _ h =>tOp_of hs hn h
theorem d_var {i:Nat} {x:Str} (hN:X.N[i]? = some x) (hv:Vis X.env.scope x) (hd:(x == ("__debug__":Str)) = false) (hcd:(x == ("__classdict__":Str)) = false) (o:Orc):PE X (.Name x pos) (tD X W lk fun δ =>ev o δ lk (.var i)):=by
 refine PE.imp (pe_var hN hv hd hcd) fun σ H Q h =>?_
 obtain ⟨me,B,δ,S,h⟩:=tD_iff.mp h
 unfold After at h
 simp only [ev] at h
 cases e:δ[i]? with
 | none =>simp only [e] at h
 | some q =>
   cases q with
   | none =>simp only [e] at h
   | some q =>
     obtain ⟨w,d⟩:=q
     cases w with
     | sh =>
       simp only [e] at h
       obtain ⟨v,h1,h2⟩:=S.sh i d e
       exact ⟨v,h1,h v H (Same.refl H) (.shared h2)⟩
     | ow =>
       simp only [e] at h
       obtain ⟨a,h1,h2,_⟩:=S.ow i d e
       refine ⟨_,h1,?_⟩
       cases lk with
       | false =>exact h.elim
       | true =>exact h _ H (Same.refl H) h2.top
     | me =>
       simp only [e] at h
       obtain ⟨_,a,_,h1,h2,_⟩:=S.mi i d e
       refine ⟨_,h1,?_⟩
       cases lk with
       | false =>exact h.elim
       | true =>exact h _ H (Same.refl H) h2.top
theorem d_cst {e:Expr} {v:V} {d:D} (he:PE X e (tC v)) (hr:∀ G,Rep W G d v) (o:Orc):PE X e (tD X W lk fun δ =>ev o δ lk (.cst d)):=by
 refine PE.imp he fun σ H Q h =>?_
 obtain ⟨me,B,δ,S,h⟩:=tD_iff.mp h
 unfold After at h
 simp only [ev] at h
 exact h v H (Same.refl H) (.shared (hr _))
theorem repT_int {P G:Hp} {i:Int} {x:V} (h:RepT W P G (.int i) x):x = .int i:=by simpa only [RepT,Rep] using h
theorem res_int {P:Addr → Prop} {i:Int}:Res W P lk H H' false (.int i) (.int i):=.shared (by simp only [Rep])
theorem res_bl {P:Addr → Prop} {i:Bool}:Res W P lk H H' false (.bl i) (.bl i):=.shared (by simp only [Rep])
theorem res_str {P:Addr → Prop} {i:List Nat} (h:i.length ≤ 16777216):Res W P lk H H' false (.str i) (.str (strV i)):=.shared (by simp only [Rep]; exact ⟨trivial,h⟩)
theorem repT_str {P G:Hp} {i:List Nat} {x:V} (h:RepT W P G (.str i) x):x = .str (strV i) ∧ i.length ≤ 16777216:=by simpa only [RepT,Rep] using h
theorem bits_eq (i:Int):bits i = Builtin.Int.intBits i:=by
 unfold bits Builtin.Int.intBits
 by_cases h:i = 0
 ·simp [h]
 ·simp [h]
theorem mulOk_ok {a b:Int} (h:mulOk a b = true):IntMulOk a b:=by
 unfold mulOk at h
 simp only [Bool.or_eq_true,decide_eq_true_eq,bits_eq] at h
 rcases h with (h | h) | h
 ·exact .of_left h
 ·exact .of_right h
 ·unfold IntMulOk Builtin.Int.intTooBig
  intro z
  simp only [Bool.and_eq_true,decide_eq_true_eq] at z
  have:bitsLine = 134217728:=rfl
  omega
theorem chk_ok {α:Type} {b:Bool} {x:R α} {y:α} (h:R.chk b x = .ok y):b = true ∧ x = .ok y:=by
 unfold R.chk at h
 cases b with
 | true =>exact ⟨rfl,by simpa using h⟩
 | false =>simp at h
theorem of_ok {α:Type} {x:Option α} {y:α} (h:R.of x = .ok y):x = some y:=by
 cases x with
 | none =>simp [R.of] at h
 | some z =>simp [R.of] at h; rw [h]
theorem of_noexc {α:Type} {x:Option α} {c:Nat}:R.of x ≠ .exc c:=by cases x <;> simp [R.of]
theorem chk_noexc {α:Type} {b:Bool} {x:R α} {c:Nat} (h:x ≠ .exc c):R.chk b x ≠ .exc c:=by unfold R.chk; cases b <;> simp [h]
theorem arith_noexc (p:O2) (a b:Int) (c:Nat):arith p a b ≠ .exc c:=by
 cases p <;> simp [arith,R.chk] <;> split <;> simp
theorem o2_noexc (p:O2):NoExc2 (o2 p):=by
 intro x y c
 cases p <;> simp only [o2] <;> first
  | exact of_noexc
  | (split
     ·exact arith_noexc _ _ _ _
     ·first | exact chk_noexc (by simp) | simp
     ·first | exact chk_noexc (by simp) | simp
     ·first | exact chk_noexc (by simp) | simp
     ·simp)
  | (split
     ·split <;> simp
     ·simp)
theorem sem_int {p:O2} {C:Int → Int → Prop} {g:Int → Int → V} (h1:∀ x y r,o2 p x y = .ok r → ∃ i j,x = .int i ∧ y = .int j ∧ arith p i j = .ok r)
 (h2:∀ i j r,arith p i j = .ok r → C i j ∧ r.1 = false ∧ ∀ G,Rep W G r.2 (g i j)):Sem2 W (rI C g) (o2 p):=by
 intro lk P H x y dx dy Q w d hS hK hx hy e k
 obtain ⟨i,j,rfl,rfl,e'⟩:=h1 _ _ _ e
 obtain ⟨hc,hw,hr⟩:=h2 _ _ _ e'
 have hw:w = false:=hw
 subst hw
 exact ⟨i,j,repT_int hx,repT_int hy,hc,k _ H (Same.refl H) (.shared (hr _))⟩
theorem sem_int0 {p:O2} {g:Int → Int → V} (h1:∀ x y r,o2 p x y = .ok r → ∃ i j,x = .int i ∧ y = .int j ∧ arith p i j = .ok r)
 (h2:∀ i j r,arith p i j = .ok r → r.1 = false ∧ ∀ G,Rep W G r.2 (g i j)):Sem2 W (rI0 g) (o2 p):=by
 intro lk P H x y dx dy Q w d hS hK hx hy e k
 obtain ⟨i,j,rfl,rfl,e'⟩:=h1 _ _ _ e
 obtain ⟨hw,hr⟩:=h2 _ _ _ e'
 have hw:w = false:=hw
 subst hw
 exact ⟨i,j,repT_int hx,repT_int hy,k _ H (Same.refl H) (.shared (hr _))⟩
theorem int_only {p:O2} (hp:p = .sub ∨ p = .mul ∨ p = .fdiv ∨ p = .mod ∨ p = .pow ∨ p = .gt ∨ p = .ge):∀ x y r,o2 p x y = .ok r → ∃ i j,x = .int i ∧ y = .int j ∧ arith p i j = .ok r:=by
 intro x y r h
 rcases hp with rfl | rfl | rfl | rfl | rfl | rfl | rfl <;> simp only [o2] at h <;>
  (split at h <;> first
   | exact ⟨_,_,rfl,rfl,h⟩
   | cases h)
theorem sem_sub:Sem2 W (rI0 fun i j =>.int (i - j)) (o2 .sub):=sem_int0 (int_only (by simp)) fun i j r h =>by
 simp only [arith] at h; cases h
 exact ⟨rfl,fun G =>by simp only [Rep]⟩
theorem sem_mul:Sem2 W (rI IntMulOk fun i j =>.int (i * j)) (o2 .mul):=sem_int (int_only (by simp)) fun i j r h =>by
 simp only [arith] at h
 obtain ⟨h1,h⟩:=chk_ok h; cases h
 exact ⟨mulOk_ok h1,rfl,fun G =>by simp only [Rep]⟩
theorem op_mulZ:OpR X (binaryOp .Mult) (rI IntMulOk fun i j =>.int (i * j)):=opI fun _ _ _ _ _ _ _ hc q =>PyProof.Rows.mul_int q hc
noncomputable def CDivZ (_ j:Int):Prop:=j ≠ 0 ∧ j.natAbs.log2 < 9000
theorem sem_fdiv:Sem2 W (rI CDivZ fun i j =>.int (i.fdiv j)) (o2 .fdiv):=sem_int (int_only (by simp)) fun i j r h =>by
 simp only [arith] at h
 obtain ⟨h1,h⟩:=chk_ok h; cases h
 simp only [Bool.and_eq_true,decide_eq_true_eq] at h1
 exact ⟨h1,rfl,fun G =>by simp only [Rep]⟩
theorem op_fdivZ:OpR X (binaryOp .FloorDiv) (rI CDivZ fun i j =>.int (i.fdiv j)):=opI fun _ _ _ _ _ _ _ hc q =>floordiv_int hc.1 q (.inl (PyProof.noPylong_of_log2 hc.2))
theorem sem_mod:Sem2 W (rI (fun _ j =>j ≠ 0) fun i j =>.int (i.fmod j)) (o2 .mod):=sem_int (int_only (by simp)) fun i j r h =>by
 simp only [arith] at h
 obtain ⟨h1,h⟩:=chk_ok h; cases h
 simp only [decide_eq_true_eq] at h1
 exact ⟨h1,rfl,fun G =>by simp only [Rep]⟩
theorem sem_pow:Sem2 W (rI CPow fun i j =>.int (i ^ j.toNat)) (o2 .pow):=sem_int (int_only (by simp)) fun i j r h =>by
 simp only [arith] at h
 obtain ⟨h1,h⟩:=chk_ok h; cases h
 simp only [Bool.and_eq_true,decide_eq_true_eq] at h1
 refine ⟨⟨h1.1.1,by omega,by have:=h1.2; omega⟩,rfl,fun G =>by simp only [Rep]⟩
theorem sem_gt:Sem2 W (rI0 fun i j =>.bl (decide (j < i))) (o2 .gt):=sem_int0 (int_only (by simp)) fun i j r h =>by
 simp only [arith] at h; cases h
 exact ⟨rfl,fun G =>by simp only [Rep]⟩
theorem sem_ge:Sem2 W (rI0 fun i j =>.bl (decide (j ≤ i))) (o2 .ge):=sem_int0 (int_only (by simp)) fun i j r h =>by
 simp only [arith] at h; cases h
 exact ⟨rfl,fun G =>by simp only [Rep]⟩
theorem truth_bl (b:Bool):truth (.bl b) = some b:=rfl
noncomputable def tT (X:Cx) (W:Wd) (f:Dst → R (Bool × D)):TT:=fun σ H Q =>∃ me B δ,SR X W me B H σ δ ∧ match (f δ).bind (fun x =>R.of (truth x.2)) with
 | .ok b =>∀ H',Same H H' → Q b H'
 | .exc c =>EW X W σ H c
 | .stuck =>False
theorem truV {H G:Hp} {d:D} {v:V} {b:Bool} (g:Same G H) (e:truth d = some b) (h:RepT W H G d v):TruV W.K v H b:=by
 cases d with
 | non =>simp only [RepT,Rep] at h; subst h; simp only [truth,Option.some.injEq] at e; exact e.symm
 | bl x =>simp only [RepT,Rep] at h; subst h; simp only [truth,Option.some.injEq] at e; exact e.symm
 | int i =>
   simp only [RepT,Rep] at h; subst h
   simp only [truth,Option.some.injEq] at e
   show b = (i != 0)
   rw [← e]; by_cases hi:i = 0 <;> simp [hi]
 | str x =>
   obtain ⟨rfl,hl⟩:=repT_str h
   simp only [truth,Option.some.injEq] at e
   refine ⟨by simpa [strV,Str.length,sizeLine_eq] using hl,?_⟩
   rw [← e]; cases x <;> simp [strV,Str.length] <;> omega
 | tup l =>
   simp only [RepT,Rep] at h
   obtain ⟨a,xs,rfl,h1,h2⟩:=h
   simp only [truth,Option.some.injEq] at e
   refine .inr (.inl ⟨xs,same_tup g h1,?_⟩)
   have:=h2.length
   rw [← e]; cases l <;> cases xs <;> simp at this ⊢
 | lst l =>
   obtain ⟨a,xs,rfl,h1,h2⟩:=h
   simp only [truth,Option.some.injEq] at e
   refine .inl ⟨xs,h1,?_⟩
   have:=h2.length
   rw [← e]; cases l <;> cases xs <;> simp at this ⊢
 | dct ks vs =>
   obtain ⟨a,kvs,rfl,⟨ep,h1⟩,h2,h3,h4⟩:=h
   simp only [truth,Option.some.injEq] at e
   refine .inr (.inr ⟨kvs,ep,h1,?_⟩)
   have:=congrArg List.length h2
   rw [← e]; cases ks <;> cases kvs <;> simp at this ⊢
theorem dt_val {e:Expr} {f:Dst → R (Bool × D)} (h:PE X e (tD X W true f)) (he:∀ whole,isTrue e X.env whole = (do let v ← whole; standAt e.pos; holding [v] (truthy v))):PT X e (tT X W f):=by
 refine PT.imp (pt_truth h he) fun σ H Q h =>?_
 obtain ⟨me,B,δ,S,h⟩:=h
 refine tD_iff.mpr ⟨me,B,δ,S,?_⟩
 unfold After
 cases e:f δ with
 | ok r =>
   simp only [e,R.bind] at h
   cases e2:truth r.2 with
   | none =>simp only [e2,R.of] at h
   | some b =>
     simp only [e2,R.of] at h
     intro v H' s q
     exact ⟨b,S.kf ▸ truV vis_le e2 q.look,h H' s⟩
 | exc c =>simp only [e,R.bind] at h; exact h
 | stuck =>simp only [e,R.bind] at h
theorem tT_tD {f:Dst → R (Bool × D)} {σ:L2.St} {H:Hp} {Q:Bool → Hp → Prop} (hb:∀ δ r,f δ = .ok r → ∃ b,r = (false,.bl b)) (h:tT X W f σ H Q):tD X W true f σ H fun x H' =>∃ k,x = .bl k ∧ Q k H':=by
 obtain ⟨me,B,δ,S,h⟩:=h
 refine tD_iff.mpr ⟨me,B,δ,S,?_⟩
 unfold After
 cases e:f δ with
 | ok r =>
   obtain ⟨b,rfl⟩:=hb δ r e
   simp only [e,R.bind,truth,R.of] at h
   intro v H' s q
   have:=q.look
   simp only [RepT,Rep] at this
   exact ⟨b,this,h H' s⟩
 | exc c =>simp only [e,R.bind] at h; exact h
 | stuck =>simp only [e,R.bind] at h
theorem bind_bl {x:R (Bool × D)} {g:Bool × D → R (Bool × D)} {r:Bool × D} (h:x.bind g = .ok r):∃ y,x = .ok y ∧ g y = .ok r:=by
 cases x with
 | ok y =>exact ⟨y,rfl,h⟩
 | exc c =>cases h
 | stuck =>cases h
theorem dt_cmp {op:CmpOp} {r:R2} {g:D → D → R (Bool × D)} (ho:OpR X (compareOp op) r) (hs:Sem2 W r g) (hn:NoExc2 g) (hbl:∀ x y r,g x y = .ok r → ∃ b,r = (false,.bl b)) (ha:PE X a (tD X W true fa)) (hb:PE X b (tD X W true fb)) (hm:behindInMarks op b = false) :
 PT X (.Compare a [op] [b] pos) (tT X W fun δ =>(fa δ).bind fun x =>(fb δ).bind fun y =>g x.2 y.2):=by
 refine PT.imp (pt_cmpR ho ha hb hm) fun σ H Q h =>?_
 refine tOp_of (lk:=true) hs hn (tT_tD (fun δ r e =>?_) h)
 obtain ⟨y,_,e⟩:=bind_bl e
 obtain ⟨z,_,e⟩:=bind_bl e
 exact hbl _ _ _ e
theorem tT.mono {f:Dst → R (Bool × D)} {σ:L2.St} {H:Hp} {Q Q':Bool → Hp → Prop} (h:tT X W f σ H Q) (k:∀ b H',Q b H' → Q' b H'):tT X W f σ H Q':=by
 obtain ⟨me,B,δ,S,h⟩:=h
 refine ⟨me,B,δ,S,?_⟩
 cases e:(f δ).bind (fun x =>R.of (truth x.2)) with
 | ok b =>rw [e] at h; exact fun H' s =>k _ _ (h H' s)
 | exc c =>rw [e] at h; exact h
 | stuck =>rw [e] at h; exact h
theorem dt_not (ha:PT X a (tT X W fa)):PT X (.UnaryOp .Not a pos) (tT X W fun δ =>(fa δ).bind fun x =>(R.of (truth x.2)).bind fun b =>.ok (false,.bl !b)):=by
 refine PT.imp (pt_not ha) fun σ H Q h =>?_
 obtain ⟨me,B,δ,S,h⟩:=h
 refine ⟨me,B,δ,S,?_⟩
 cases e:fa δ with
 | ok r =>
   simp only [e,R.bind] at h ⊢
   cases e2:truth r.2 with
   | none =>simp only [e2,R.of] at h
   | some b =>
     simp only [e2,R.of,truth_bl] at h ⊢
     exact h
 | exc c =>simp only [e,R.bind] at h ⊢; exact h
 | stuck =>simp only [e,R.bind] at h
theorem d_not {f:Dst → R (Bool × D)} (ha:PE X a (tD X W true f)):PE X (.UnaryOp .Not a pos) (tD X W lk fun δ =>(f δ).bind fun x =>(R.of (truth x.2)).bind fun b =>.ok (false,.bl !b)):=by
 intro pins s σ H Q I h
 obtain ⟨me,B,δ,S,h⟩:=tD_iff.mp h
 refine UnaryOp_ (thn (ha pins s σ H _ I (part S h)) fun v s1 ⟨x,H1,I1,r1,r,e,S1,s1',t1,_,h1⟩ =>?_)
 cases e2:truth r.2 with
 | none =>simp only [e2,R.of,R.bind,After] at h1
 | some b =>
   simp only [e2,R.of,R.bind,After] at h1
   refine not_of (thn (tru_ok pins s1 σ H1 x v (fun k H' =>k = b ∧ H' = H1) I1 r1 ⟨b,S.kf ▸ truV vis_le e2 t1,rfl,rfl⟩) fun k s2 ⟨H2,I2,hk,hH⟩ =>?_)
   subst hk hH
   exact ⟨.bl (!k),H2,I2,rfl,h1 _ H2 (Same.refl _) res_bl⟩
end
end Z

namespace Z
open PySem PySem.Spec PyProof.Rows L2
section
variable {X:Cx} {W:Wd} {σ:L2.St} {H H1:Hp} {me:Option Addr} {B:Addr → Prop} {δ:Dst}
theorem SR.weaken {δ':Dst} {σ':L2.St} (hs:∀ b,Hid B σ' δ' b → Hid B σ δ b) {d:D} {v:V} (h:Rep W (vis H (Hid B σ δ)) d v):Rep W (vis H (Hid B σ' δ')) d v:=h.mono (vis_sub hs)
theorem share1_get {i j:Nat}:(share1 δ i)[j]? = if j = i then (match δ[i]? with | some (some (.ow,d)) =>some (some (.sh,d)) | x =>x) else δ[j]?:=by
 unfold share1
 cases e:δ[i]? with
 | none =>
   by_cases hj:j = i
   ·subst hj; simp [e]
   ·simp [hj]
 | some q =>
   have hi:i < δ.length:=(List.getElem?_eq_some_iff.mp e).1
   cases q with
   | none =>
     by_cases hj:j = i
     ·subst hj; simp [e]
     ·simp [hj]
   | some q =>
     obtain ⟨w,d⟩:=q
     cases w with
     | ow =>
       by_cases hj:j = i
       ·subst hj; simp [hi]
       ·simp only [if_neg hj]; rw [List.getElem?_set_ne (Ne.symm hj)]
     | sh =>
       by_cases hj:j = i
       ·subst hj; simp [e]
       ·simp [hj]
     | me =>
       by_cases hj:j = i
       ·subst hj; simp [e]
       ·simp [hj]
theorem holds_share {i j:Nat} {a:Addr} (h:Holds1 σ (share1 δ i) j a):Holds1 σ δ j a ∧ (j = i → ∀ d,δ[i]? ≠ some (some (.ow,d))):=by
 obtain ⟨⟨w,d,h1,h2⟩,h3⟩:=h
 rw [share1_get] at h1
 by_cases hj:j = i
 ·subst hj
  rw [if_pos rfl] at h1
  split at h1
  ·cases h1; exact absurd rfl h2
  ·rename_i hne
   exact ⟨⟨⟨w,d,h1,h2⟩,h3⟩,fun _ d' e =>hne d' e⟩
 ·rw [if_neg hj] at h1
  exact ⟨⟨⟨w,d,h1,h2⟩,h3⟩,fun e =>absurd e hj⟩
theorem SR.share1 (S:SR X W me B H σ δ) (i:Nat):SR X W me B H σ (share1 δ i):=by
 have sub:∀ b,Hid B σ (Z.share1 δ i) b → Hid B σ δ b:=fun b hb =>by
  rcases hb with hb | ⟨j,hb⟩
  ·exact .inl hb
  ·exact .inr ⟨j,(holds_share hb).1⟩
 refine ⟨S.kf,?_,fun j d h =>?_,fun j d h =>?_,fun j d h =>?_,fun j k a h1 h2 =>S.apart j k a (holds_share h1).1 (holds_share h2).1,S.same,S.soft,S.gone,S.live⟩
 ·rw [S.len]
  unfold Z.share1
  split <;> simp
 ·rw [share1_get] at h
  by_cases hj:j = i
  ·subst hj
   rw [if_pos rfl] at h
   split at h
   ·rename_i d' e
    cases h
    obtain ⟨a,h1,h2,h3,h4,h5⟩:=S.ow j d e
    refine ⟨.ref a,h1,(h2.mono (fun _ q =>q) (vis_sub sub)).rep fun o q =>vis_of q ?_⟩
    intro z
    rcases z with z | ⟨k,z⟩
    ·exact h4 z
    ·have hk:=holds_share z
     have:=S.apart k j a hk.1 ⟨⟨.ow,d,e,by decide⟩,h1⟩
     subst this
     exact hk.2 rfl d e
   ·obtain ⟨v,h1,h2⟩:=S.sh j d h
    exact ⟨v,h1,h2.mono (vis_sub sub)⟩
  ·rw [if_neg hj] at h
   obtain ⟨v,h1,h2⟩:=S.sh j d h
   exact ⟨v,h1,h2.mono (vis_sub sub)⟩
 ·have h':δ[j]? = some (some (.ow,d)):=by
   rw [share1_get] at h
   by_cases hj:j = i
   ·subst hj
    rw [if_pos rfl] at h
    split at h
    ·cases h
    ·exact h
   ·rw [if_neg hj] at h; exact h
  obtain ⟨a,h1,h2,h3⟩:=S.ow j d h'
  exact ⟨a,h1,h2.mono (fun _ q =>q) (vis_sub sub),h3⟩
 ·have h':δ[j]? = some (some (.me,d)):=by
   rw [share1_get] at h
   by_cases hj:j = i
   ·subst hj
    rw [if_pos rfl] at h
    split at h
    ·cases h
    ·exact h
   ·rw [if_neg hj] at h; exact h
  obtain ⟨h0,a,h1,h2,h3,h4⟩:=S.mi j d h'
  exact ⟨h0,a,h1,h2,h3.mono (fun _ q =>q) (vis_sub sub),h4⟩
theorem SR.share (is:List Nat):∀ {δ:Dst},SR X W me B H σ δ → SR X W me B H σ (share δ is):=by
 induction is with
 | nil =>intro δ S; exact S
 | cons i l ih =>intro δ S; exact ih (S.share1 i)
theorem SR.evF (S:SR X W me B H σ δ) (o:Orc) (t:T):SR X W me B H σ (Z.evF o δ t).1 ∧ (Z.evF o δ t).2 = ev o (Z.evF o δ t).1 false t:=by
 unfold Z.evF
 split
 ·exact ⟨S.share _,rfl⟩
 ·exact ⟨S,rfl⟩
theorem SR.store {i:Nat} {w:Bool} {d:D} {v:V} (S:SR X W me B H σ δ) (s:Same H H1) (r:Res W (Hid B σ δ) false H H1 w d v) (hi:i < δ.length) :
 SR X W me B H1 (σ.set i (some v)) (δ.set i (some (if w then .ow else .sh,d))) ∧ Same (vis H (Hid B σ δ)) (vis H1 (Hid B (σ.set i (some v)) (δ.set i (some (if w then .ow else .sh,d))))):=by
 have hiσ:i < σ.length:=by rw [S.len]; exact hi
 have S1:=S.mono s
 have sub:∀ b,Hid B (σ.set i (some v)) (δ.set i (some (if w then .ow else .sh,d))) b → Hid B σ δ b ∨ (w = true ∧ v = .ref b):=fun b hb =>by
  rcases hb with hb | ⟨j,⟨w',d',h1,h2⟩,h3⟩
  ·exact .inl (.inl hb)
  ·by_cases hj:j = i
   ·subst hj
    rw [List.getElem?_set_self hi] at h1
    rw [List.getElem?_set_self hiσ] at h3
    cases h1; cases h3
    cases w with
    | true =>exact .inr ⟨rfl,rfl⟩
    | false =>exact absurd rfl h2
   ·rw [List.getElem?_set_ne (Ne.symm hj)] at h1 h3
    exact .inl (.inr ⟨j,⟨w',d',h1,h2⟩,h3⟩)
 have new:∀ b,w = true → v = .ref b → H b = none:=fun b hw hv =>by
  unfold Res at r
  rw [if_pos hw] at r
  obtain ⟨a,e,h0,_⟩:=r
  rw [hv] at e; cases e
  exact h0
 have up:Same (vis H (Hid B σ δ)) (vis H1 (Hid B (σ.set i (some v)) (δ.set i (some (if w then .ow else .sh,d))))):=fun b o h =>by
  obtain ⟨h1,h2⟩:=vis_some h
  refine vis_of (s b o h1) fun z =>?_
  rcases sub b z with z | ⟨z1,z2⟩
  ·exact h2 z
  ·rw [new b z1 z2] at h1; cases h1
 have old:∀ j a,j ≠ i → Holds1 (σ.set i (some v)) (δ.set i (some (if w then .ow else .sh,d))) j a → Holds1 σ δ j a:=fun j a hj ⟨⟨w',d',h1,h2⟩,h3⟩ =>by
  rw [List.getElem?_set_ne (Ne.symm hj)] at h1 h3
  exact ⟨⟨w',d',h1,h2⟩,h3⟩
 have here:∀ a,Holds1 (σ.set i (some v)) (δ.set i (some (if w then .ow else .sh,d))) i a → H a = none:=fun a ⟨⟨w',d',h1,h2⟩,h3⟩ =>by
  rw [List.getElem?_set_self hi] at h1
  rw [List.getElem?_set_self hiσ] at h3
  cases h1; cases h3
  cases w with
  | true =>exact new _ rfl rfl
  | false =>exact absurd rfl h2
 refine ⟨⟨S.kf,by simp [S.len],fun j d' h =>?_,fun j d' h =>?_,fun j d' h =>?_,fun j k a h1 h2 =>?_,S1.same,S1.soft,S1.gone,S1.live⟩,up⟩
 ·by_cases hj:j = i
  ·subst hj
   rw [List.getElem?_set_self hi] at h
   cases w with
   | true =>cases h
   | false =>
     cases h
     refine ⟨v,by rw [List.getElem?_set_self hiσ],?_⟩
     have q:Rep W (vis H1 (Hid B σ δ)) d v:=by simpa [Res] using r
     refine q.mono (vis_sub fun b hb =>?_)
     rcases sub b hb with z | ⟨z,_⟩
     ·exact z
     ·cases z
  ·rw [List.getElem?_set_ne (Ne.symm hj)] at h
   obtain ⟨u,h1,h2⟩:=S.sh j d' h
   exact ⟨u,by rw [List.getElem?_set_ne (Ne.symm hj)]; exact h1,h2.mono up⟩
 ·by_cases hj:j = i
  ·subst hj
   rw [List.getElem?_set_self hi] at h
   cases w with
   | false =>cases h
   | true =>
     cases h
     have q:=r
     unfold Res at q
     rw [if_pos rfl] at q
     obtain ⟨a,rfl,h0,h1⟩:=q
     refine ⟨a,by rw [List.getElem?_set_self hiσ],h1.mono (fun _ q =>q) (vis_sub fun b hb =>?_),?_,fun z =>?_,fun z =>?_⟩
     ·rcases sub b hb with z | ⟨_,z⟩
      ·exact .inl z
      ·cases z; exact .inr rfl
     ·cases e:X.H₀ a with
      | none =>rfl
      | some o =>
        by_cases hme:some a = me
        ·obtain ⟨o',q⟩:=S.live a hme.symm
         rw [h0] at q; cases q
        ·rw [S.same a o e hme] at h0; cases h0
     ·obtain ⟨o,q⟩:=S.gone a z
      rw [h0] at q; cases q
     ·obtain ⟨o',q⟩:=S.live a z.symm
      rw [h0] at q; cases q
  ·rw [List.getElem?_set_ne (Ne.symm hj)] at h
   obtain ⟨a,h1,h2,h3⟩:=S.ow j d' h
   exact ⟨a,by rw [List.getElem?_set_ne (Ne.symm hj)]; exact h1,h2.mono (fun o q =>s a o q) up,h3⟩
 ·by_cases hj:j = i
  ·subst hj
   rw [List.getElem?_set_self hi] at h
   cases w <;> cases h
  ·rw [List.getElem?_set_ne (Ne.symm hj)] at h
   obtain ⟨h0,a,h1,h2,h3,h4⟩:=S.mi j d' h
   exact ⟨h0,a,h1,by rw [List.getElem?_set_ne (Ne.symm hj)]; exact h2,h3.mono (fun o q =>s a o q) up,h4⟩
 ·by_cases hj:j = i
  ·by_cases hk:k = i
   ·rw [hj,hk]
   ·subst hj
    have q1:=here a h1
    obtain ⟨o,q2⟩:=S.hidH (.inr ⟨k,old k a hk h2⟩)
    rw [q1] at q2; cases q2
  ·by_cases hk:k = i
   ·subst hk
    have q1:=here a h2
    obtain ⟨o,q2⟩:=S.hidH (.inr ⟨j,old j a hj h1⟩)
    rw [q1] at q2; cases q2
   ·exact S.apart j k a (old j a hj h1) (old k a hk h2)
theorem share1_sub (i:Nat):∀ b,Hid B σ (Z.share1 δ i) b → Hid B σ δ b:=fun b hb =>by
 rcases hb with hb | ⟨j,hb⟩
 ·exact .inl hb
 ·exact .inr ⟨j,(holds_share hb).1⟩
theorem share_sub (is:List Nat):∀ {δ:Dst} (b:Addr),Hid B σ (Z.share δ is) b → Hid B σ δ b:=by
 induction is with
 | nil =>intro δ b h; exact h
 | cons i l ih =>intro δ b h; exact share1_sub i b (ih b h)
theorem evF_sub (o:Orc) (t:T):∀ b,Hid B σ (Z.evF o δ t).1 b → Hid B σ δ b:=fun b hb =>by
 unfold Z.evF at hb
 split at hb
 ·exact share_sub _ b hb
 ·exact hb
noncomputable def AfterS (X:Cx) (W:Wd) (me:Option Addr) (B:Addr → Prop) (G:Hp) (r:SO) (D:Ends):Prop:=match r with
 | .nx δ =>∀ σ H,SR X W me B H σ δ → Same G (vis H (Hid B σ δ)) → D.nx σ H
 | .bk δ =>∀ σ H,SR X W me B H σ δ → Same G (vis H (Hid B σ δ)) → D.bk σ H
 | .ct δ =>∀ σ H,SR X W me B H σ δ → Same G (vis H (Hid B σ δ)) → D.ct σ H
 | .rt w d δ =>∀ v σ H,SR X W me B H σ δ → Same G (vis H (Hid B σ δ)) → Res W B false X.H₀ H w d v → D.rt v H
 | .ex _ _ =>False
 | .stuck =>False
theorem AfterS.mono {G G':Hp} {r:SO} {D:Ends} (h:AfterS X W me B G r D) (e:Same G G'):AfterS X W me B G' r D:=by
 cases r with
 | nx δ =>exact fun σ H S s =>h σ H S (e.trans s)
 | bk δ =>exact fun σ H S s =>h σ H S (e.trans s)
 | ct δ =>exact fun σ H S s =>h σ H S (e.trans s)
 | rt w d δ =>exact fun v σ H S s =>h v σ H S (e.trans s)
 | ex c δ =>exact h
 | stuck =>exact h
noncomputable def tS (X:Cx) (W:Wd) (g:Dst → SO):TS:=fun D σ H =>∃ me B δ,SR X W me B H σ δ ∧ AfterS X W me B (vis H (Hid B σ δ)) (g δ) D
theorem PSs.imp {X:Cx} {e:List Stmt} {t t':TS} (h:PSs X e t) (i:∀ D σ H,t' D σ H → t D σ H):PSs X e t':=fun pins s σ H D I hw =>h pins s σ H D I (i D σ H hw)
theorem ds_nil (o:Orc):PSs X [] (tS X W (evSs o .nil)):=PSs.imp pss_nil fun D σ H ⟨me,B,δ,S,h⟩ =>by
 simp only [evSs,AfterS] at h
 exact h σ H S (Same.refl _)
theorem ds_cons {st:Stmt} {rest:List Stmt} {o:Orc} {s:S} {l:SL} (h1:PS X st (tS X W (evS o s))) (h2:PSs X rest (tS X W (evSs o l))):PSs X (st :: rest) (tS X W (evSs o (.cons s l))):=by
 refine PSs.imp (pss_cons h1 h2) fun D σ H ⟨me,B,δ,S,h⟩ =>⟨me,B,δ,S,?_⟩
 simp only [evSs] at h
 cases e:evS o s δ with
 | nx δ1 =>
   rw [e] at h
   exact fun σ' H' S' s' =>⟨me,B,δ1,S',AfterS.mono h s'⟩
 | rt w d δ1 =>rw [e] at h; exact h
 | bk δ1 =>rw [e] at h; exact h
 | ct δ1 =>rw [e] at h; exact h
 | ex c δ1 =>rw [e] at h; exact h
 | stuck =>rw [e] at h; exact h
theorem SO.of_ok {G:Hp} {α:Type} {δ:Dst} {r:R α} {k:α → SO} {D:Ends} (h:AfterS X W me B G (SO.of δ r k) D):∃ a,r = .ok a ∧ AfterS X W me B G (k a) D:=by
 cases r with
 | ok a =>exact ⟨a,rfl,h⟩
 | exc c =>exact h.elim
 | stuck =>exact h.elim
theorem orStuck_ok {G:Hp} {x:Option SO} {D:Ends} (h:AfterS X W me B G (orStuck x) D):∃ r,x = some r ∧ AfterS X W me B G r D:=by
 cases x with
 | some a =>exact ⟨a,rfl,h⟩
 | none =>exact h.elim
theorem setSlot_ok {δ δ':Dst} {i:Nat} {w:Bool} {d:D} (h:setSlot δ i w d = some δ'):i < δ.length ∧ δ' = δ.set i (some (if w then .ow else .sh,d)):=by
 unfold setSlot at h
 split at h
 ·exact ⟨by assumption,(Option.some.inj h).symm⟩
 ·cases h
theorem d_set {i:Nat} {x:Str} {e:Expr} {o:Orc} {t:T} {pos pos':Pos} (hN:X.N.Nodup) (hi:X.N[i]? = some x) (hx:Loc X.env.scope x) (he:PE X e (tD X W false fun δ =>ev o δ false t)) (hs:swapsWith e (some (.Name x pos')) pos.line X.env = pure false)
 (hf:X.fn x = true ∨ X.env.scope.names.lookup x = some .local):PS X (.Assign [.Name x pos'] e pos) (tS X W (evS o (.set i t))):=by
 refine PS.imp (ps_set hN hi hx he hs hf) fun D σ H ⟨me,B,δ,S,h⟩ =>?_
 simp only [evS] at h
 obtain ⟨S1,e1⟩:=S.evF o t
 obtain ⟨r,e2,h⟩:=SO.of_ok h
 obtain ⟨q,e3,h⟩:=orStuck_ok h
 cases e4:setSlot (evF o δ t).1 i r.1 r.2 with
 | none =>rw [e4] at e3; cases e3
 | some δ' =>
   rw [e4] at e3
   cases e3
   obtain ⟨h1,rfl⟩:=setSlot_ok e4
   refine tD_iff.mpr ⟨me,B,_,S1,?_⟩
   rw [← e1,e2]
   intro v H' s q
   obtain ⟨S2,s2⟩:=S1.store s q h1
   exact h _ _ S2 ((vis_sub (evF_sub o t)).trans s2)
theorem ds_if {c:Expr} {a b:List Stmt} {o:Orc} {t:T} {sa sb:SL} {pos:Pos} (hc:PT X c (tT X W fun δ =>ev o δ true t)) (ha:PSs X a (tS X W (evSs o sa))) (hb:PSs X b (tS X W (evSs o sb))) :
 PS X (.If c a b pos) (tS X W (evS o (.ifs t sa sb))):=by
 refine PS.imp (ps_if hc ha hb) fun D σ H ⟨me,B,δ,S,h⟩ =>?_
 simp only [evS] at h
 obtain ⟨k,e,h⟩:=SO.of_ok h
 refine ⟨me,B,δ,S,?_⟩
 rw [e]
 intro H' s
 cases k with
 | true =>exact ⟨me,B,δ,S.mono s,AfterS.mono h (vis_mono s)⟩
 | false =>exact ⟨me,B,δ,S.mono s,AfterS.mono h (vis_mono s)⟩
theorem ds_ifq {c:Expr} {a b:List Stmt} {o:Orc} {t:T} {sa sb:SL} {pos:Pos} (hc:PT X c (tT X W fun δ =>ev o δ true t)) (ha:PSs X a (tS X W (evSs o sa))) (hb:PSs X b (tS X W (evSs o sb))):PS X (.If c a b pos) (tS X W (evS o (.ifq t sa sb))):=by
 refine PS.imp (ps_if hc ha hb) fun D σ H ⟨me,B,δ,S,h⟩ =>?_
 simp only [evS] at h
 obtain ⟨k,e,h⟩:=SO.of_ok h
 have S1:=S.share (tvars t)
 refine ⟨me,B,_,S1,?_⟩
 rw [e]
 intro H' s
 have s1:=(vis_sub (H:=H) (share_sub (B:=B) (σ:=σ) (δ:=δ) (tvars t))).trans (vis_mono s)
 cases k with
 | true =>exact ⟨me,B,_,S1.mono s,AfterS.mono h s1⟩
 | false =>exact ⟨me,B,_,S1.mono s,AfterS.mono h s1⟩
theorem ds_ret {e:Expr} {o:Orc} {t:T} {pos:Pos} (hv:∀ i,t ≠ .var i) (he:PE X e (tD X W false fun δ =>ev o δ false t)):PS X (.Return (some e) pos) (tS X W (evS o (.ret t))):=by
 refine PS.imp (ps_ret he) fun D σ H ⟨me,B,δ,S,h⟩ =>?_
 have h':AfterS X W me B (vis H (Hid B σ δ)) (SO.of (evF o δ t).1 (evF o δ t).2 fun r =>.rt r.1 r.2 (evF o δ t).1) D:=by
  cases t <;> first | exact h | exact absurd rfl (hv _)
 obtain ⟨S1,e1⟩:=S.evF o t
 obtain ⟨r,e2,h⟩:=SO.of_ok h'
 refine tD_iff.mpr ⟨me,B,_,S1,?_⟩
 rw [← e1,e2]
 intro v H' s q
 refine h v σ H' (S1.mono s) ((vis_sub (evF_sub o t)).trans (vis_mono s)) ?_
 unfold Res at q ⊢
 by_cases hw:r.1 = true
 ·rw [if_pos hw] at q ⊢
  obtain ⟨a,rfl,h0,q⟩:=q
  refine ⟨a,rfl,?_,q.mono (fun _ z =>z) (vis_sub fun b hb =>hb.imp .inl id)⟩
  cases e:X.H₀ a with
  | none =>rfl
  | some o' =>
    by_cases hme:some a = me
    ·obtain ⟨o',q⟩:=S.live a hme.symm
     rw [h0] at q; cases q
    ·rw [S.same a o' e hme] at h0; cases h0
 ·rw [if_neg hw] at q ⊢
  simp only [Bool.false_eq_true,if_false] at q ⊢
  exact q.mono (vis_sub fun b hb =>.inl hb)
theorem ds_retv {i:Nat} {x:Str} {o:Orc} {pos pos':Pos} (hN:X.N[i]? = some x) (hv:Vis X.env.scope x) (hd:(x == ("__debug__":Str)) = false) (hcd:(x == ("__classdict__":Str)) = false):PS X (.Return (some (.Name x pos')) pos) (tS X W (evS o (.ret (.var i)))):=by
 refine PS.imp (ps_ret (pe_var hN hv hd hcd)) fun D σ H ⟨me,B,δ,S,h⟩ =>?_
 simp only [evS] at h
 cases e:δ[i]? with
 | none =>simp only [e,AfterS] at h
 | some q =>
   cases q with
   | none =>simp only [e,AfterS] at h
   | some q =>
     obtain ⟨w,d⟩:=q
     cases w with
     | sh =>
       simp only [e,AfterS] at h
       obtain ⟨v,h1,h2⟩:=S.sh i d e
       exact ⟨v,h1,h v σ H S (Same.refl _) (.shared (h2.mono (vis_sub fun b hb =>.inl hb)))⟩
     | ow =>
       simp only [e,AfterS] at h
       obtain ⟨a,h1,h2,h3,h4⟩:=S.ow i d e
       refine ⟨_,h1,h _ σ H S (Same.refl _) ?_⟩
       unfold Res
       rw [if_pos rfl]
       refine ⟨a,rfl,h3,h2.mono (fun _ z =>z) (vis_sub fun b hb =>?_)⟩
       rcases hb with hb | hb
       ·exact .inl hb
       ·rw [hb]; exact .inr ⟨i,⟨.ow,d,e,by decide⟩,h1⟩
     | me =>simp only [e,AfterS] at h
theorem ds_while {c:Expr} {body:List Stmt} {o:Orc} {t:T} {sb:SL} {pos:Pos} (hp:PassesOwn (model X.prog X.w) X.A X.env X.xe) (hc:PT X c (tT X W fun δ =>ev o δ true t)) (hb:PSs X body (tS X W (evSs o sb))) :
 PS X (.While c body [] pos) (tS X W (evS o (.while_ t sb))):=by
 refine PS.imp (ps_while hp hc hb) fun D σ H ⟨me,B,δ,S,h⟩ =>?_
 simp only [evS] at h
 refine ⟨fun m σ H =>∃ δ,SR X W me B H σ δ ∧ AfterS X W me B (vis H (Hid B σ δ)) (whileGo (fun δ =>ev o δ true t) (evSs o sb) m δ) D,⟨_,δ,S,h⟩,?_⟩
 rintro m σ H ⟨δ,S,h⟩
 cases m with
 | zero =>simp only [whileGo,AfterS] at h
 | succ m =>
   simp only [whileGo] at h
   obtain ⟨k,e,h⟩:=SO.of_ok h
   refine ⟨me,B,δ,S,?_⟩
   rw [e]
   intro H' s
   have h:=AfterS.mono h (vis_mono s)
   cases k with
   | false =>
     simp only [Bool.false_eq_true,if_false,AfterS] at h ⊢
     exact h σ H' (S.mono s) (Same.refl _)
   | true =>
     simp only [if_true] at h ⊢
     refine ⟨fun σ' H' =>∃ δ,SR X W me B H' σ' δ ∧ AfterS X W me B (vis H' (Hid B σ' δ)) (whileGo (fun δ =>ev o δ true t) (evSs o sb) m δ) D,fun σ' H' q =>⟨m,Nat.lt_succ_self m,q⟩,me,B,δ,S.mono s,?_⟩
     cases e2:evSs o sb δ with
     | nx δ1 =>rw [e2] at h; exact fun σ' H' S' s' =>⟨δ1,S',AfterS.mono h s'⟩
     | ct δ1 =>rw [e2] at h; exact fun σ' H' S' s' =>⟨δ1,S',AfterS.mono h s'⟩
     | bk δ1 =>rw [e2] at h; exact h
     | rt w d δ1 =>rw [e2] at h; exact h
     | ex c δ1 =>rw [e2] at h; exact h.elim
     | stuck =>rw [e2] at h; exact h.elim
end
end Z

namespace Z
open PySem PySem.Spec PyProof.Rows L2
section
variable {X:Cx} {W:Wd} {lk lk':Bool} {σ:L2.St} {H H1 H':Hp} {me:Option Addr} {B:Addr → Prop} {δ:Dst} {Q Q':VK}
theorem partC {α:Type} {fa:Dst → R (Bool × D)} {g:Bool × D → R α} {C:R α → Hp → Prop} (S:SR X W me B H σ δ) (h:C ((fa δ).bind g) H) (mono:∀ r H1,Same H H1 → C r H → C r H1) (hx:∀ c,C (.exc c) H → EW X W σ H c) (hs:¬ C .stuck H) :
 tD X W lk' fa σ H fun v H1 =>∃ r,fa δ = .ok r ∧ SR X W me B H1 σ δ ∧ Same H H1 ∧ RepT W H1 (vis H1 (Hid B σ δ)) r.2 v ∧ Res W (Hid B σ δ) lk' H H1 r.1 r.2 v ∧ C (g r) H1:=by
 refine tD_iff.mpr ⟨me,B,δ,S,?_⟩
 cases e:fa δ with
 | ok r =>
   rw [e] at h
   intro v H1 s q
   exact ⟨r,rfl,S.mono s,s,q.look,q,mono _ _ s h⟩
 | exc c =>rw [e] at h; exact hx c h
 | stuck =>rw [e] at h; exact hs h
theorem PE.or {e:Expr} {t t':TE} (h:PE X e t) (h':PE X e t'):PE X e (fun σ H Q =>t σ H Q ∨ t' σ H Q):=by
 intro pins s σ H Q I q
 rcases q with q | q
 ·exact h pins s σ H Q I q
 ·exact h' pins s σ H Q I q
noncomputable def RepTs (W:Wd) (H G:Hp):List D → List V → Prop
 | [],[] =>True
 | d :: l,v :: vs =>RepT W H G d v ∧ RepTs W H G l vs
 | _,_ =>False
theorem RepTs.length {H G:Hp}:∀ {l:List D} {vs:List V},RepTs W H G l vs → l.length = vs.length
 | [],[],_ =>rfl
 | [],_ :: _,h =>by simp only [RepTs] at h
 | _ :: _,[],h =>by simp only [RepTs] at h
 | d :: l,v :: vs,h =>by
   simp only [RepTs] at h
   simp [RepTs.length h.2]
noncomputable def AfterL (X:Cx) (W:Wd) (σ:L2.St) (H:Hp) (P:Addr → Prop) (r:R (Bool × List D)) (Q:List V → Hp → Prop):Prop:=match r with
 | .ok r =>∀ vs H',Same H H' → RepTs W H' (vis H' P) r.2 vs → (r.1 = false → Reps W (vis H' P) r.2 vs) → Q vs H'
 | .exc c =>EW X W σ H c
 | .stuck =>False
noncomputable def tL (X:Cx) (W:Wd) (f:Dst → R (Bool × List D)):TA:=fun σ H Q =>∃ me B δ,SR X W me B H σ δ ∧ AfterL X W σ H (Hid B σ δ) (f δ) Q
theorem AfterL.mono {P:Addr → Prop} {r:R (Bool × List D)} {Q:List V → Hp → Prop} (h:AfterL X W σ H P r Q) (e:Same H H1):AfterL X W σ H1 P r Q:=by
 unfold AfterL at h ⊢
 cases r with
 | ok r =>exact fun v H' s q =>h v H' (e.trans s) q
 | exc c =>exact h.mono e
 | stuck =>exact h
theorem tL.mono {f:Dst → R (Bool × List D)} {Q Q':List V → Hp → Prop} (h:tL X W f σ H Q) (k:∀ v H',Q v H' → Q' v H'):tL X W f σ H Q':=by
 obtain ⟨me,B,δ,S,h⟩:=h
 refine ⟨me,B,δ,S,?_⟩
 unfold AfterL at h ⊢
 cases e:f δ with
 | ok r =>rw [e] at h; exact fun v H' s q q' =>k _ _ (h v H' s q q')
 | exc c =>rw [e] at h; exact h
 | stuck =>rw [e] at h; exact h
theorem partL {α:Type} {fa:Dst → R (Bool × List D)} {g:Bool × List D → R α} {C:R α → Hp → Prop} (S:SR X W me B H σ δ) (h:C ((fa δ).bind g) H) (mono:∀ r H1,Same H H1 → C r H → C r H1) (hx:∀ c,C (.exc c) H → EW X W σ H c) (hs:¬ C .stuck H) :
 tL X W fa σ H fun vs H1 =>∃ r,fa δ = .ok r ∧ SR X W me B H1 σ δ ∧ Same H H1 ∧ RepTs W H1 (vis H1 (Hid B σ δ)) r.2 vs ∧ (r.1 = false → Reps W (vis H1 (Hid B σ δ)) r.2 vs) ∧ C (g r) H1:=by
 refine ⟨me,B,δ,S,?_⟩
 cases e:fa δ with
 | ok r =>
   rw [e] at h
   intro vs H1 s q q'
   exact ⟨r,rfl,S.mono s,s,q,q',mono _ _ s h⟩
 | exc c =>rw [e] at h; exact hx c h
 | stuck =>rw [e] at h; exact hs h
theorem da_nil (o:Orc):PA X [] (tL X W fun δ =>evL o δ .nil):=PA.imp pa_nil fun σ H Q ⟨me,B,δ,S,h⟩ =>by
 simp only [evL,AfterL] at h
 exact h [] H (Same.refl H) (by simp only [RepTs]) fun _ =>by simp only [Reps]
theorem da_cons {e:Expr} {es:List Expr} {o:Orc} {t:T} {l:TL} (ha:∀ lk,PE X e (tD X W lk fun δ =>ev o δ lk t)) (hr:PA X es (tL X W fun δ =>evL o δ l)) (hs:starEach (e :: es) X.env = (false,eval e X.env) :: starEach es X.env) :
 PA X (e :: es) (tL X W fun δ =>evL o δ (.cons t l)):=by
 refine PA.imp (pa_cons (PE.or (ha true) (ha false)) hr hs) fun σ H Q ⟨me,B,δ,S,h⟩ =>?_
 simp only [evL] at h
 have go:∀ lk,lkOwn δ t = lk → tD X W lk (fun δ =>ev o δ lk t) σ H fun x H1 =>tL X W (fun δ =>evL o δ l) σ H1 fun xs H2 =>Q (x :: xs) H2:=by
  intro lk hlk
  rw [hlk] at h
  refine tD.mono (partC (fa:=fun δ =>ev o δ lk t) (C:=fun r H =>AfterL X W σ H (Hid B σ δ) r Q) S h (fun r H1 s q =>q.mono s) (fun c q =>q) (fun q =>q)) fun v H1 ⟨r1,e1,S1,s1,t1,q1,h1⟩ =>?_
  refine tL.mono (partL (fa:=fun δ =>evL o δ l) (C:=fun r H =>AfterL X W σ H (Hid B σ δ) r Q) S1 h1 (fun r H1 s q =>q.mono s) (fun c q =>q) (fun q =>q)) fun vs H2 ⟨r2,e2,S2,s2,t2,q2,h2⟩ =>?_
  refine h2 (v :: vs) H2 (Same.refl _) ?_ fun hf =>?_
  ·simp only [RepTs]
   exact ⟨t1.mono s2 (vis_mono s2),t2⟩
  ·simp only [Bool.or_eq_false_iff] at hf
   simp only [Reps]
   refine ⟨?_,q2 hf.2⟩
   rw [hf.1] at q1
   exact (q1.keep S.know).mono (vis_mono s2)
 cases hlk:lkOwn δ t with
 | true =>exact .inl (go true hlk)
 | false =>exact .inr (go false hlk)
noncomputable def spFn (W:Wd) (g:List D → R (Bool × D)) (np:Nat):Sp:=fun vs H Q _ =>vs.length = np ∧ ∃ B ds,Soft H B ∧ (∀ b,B b → ∃ o,H b = some o) ∧ Reps W (vis H B) ds vs ∧ ∃ r,g ds = .ok r ∧ ∀ v H',Same H H' → Res W B false H H' r.1 r.2 v → Q v H'
theorem RepTs.lend {P:Addr → Prop}:∀ {l:List D} {vs:List V} (us:List V),(∀ v ∈ vs,v ∈ us) → RepTs W H (vis H P) l vs → Reps W (vis H fun b =>P b ∧ V.ref b ∉ us) l vs
 | [],[],_,_,_ =>by simp only [Reps]
 | [],_ :: _,_,_,h =>by simp only [RepTs] at h
 | _ :: _,[],_,_,h =>by simp only [RepTs] at h
 | d :: l,v :: vs,us,hu,h =>by
   simp only [RepTs] at h
   simp only [Reps]
   refine ⟨?_,RepTs.lend us (fun v hv =>hu v (List.mem_cons_of_mem _ hv)) h.2⟩
   have up:Same (vis H P) (vis H fun b =>P b ∧ V.ref b ∉ us):=vis_sub fun b hb =>hb.1
   have hv:v ∈ us:=hu v List.mem_cons_self
   have see:∀ a o,v = .ref a → H a = some o → vis H (fun b =>P b ∧ V.ref b ∉ us) a = some o:=fun a o e h =>vis_of h fun z =>z.2 (e ▸ hv)
   cases d with
   | lst l =>
     obtain ⟨a,xs,rfl,h1,h2⟩:=h.1
     simp only [Rep]
     refine ⟨a,xs,rfl,?_,h2.mono up⟩
     rcases h1 with (h1 | ⟨o,h1⟩) | h1
     ·exact .inl (.inl (see a _ rfl h1))
     ·exact .inl (.inr ⟨o,see a _ rfl h1⟩)
     ·exact .inr h1
   | dct ks vs =>
     obtain ⟨a,kvs,rfl,h1,h2,h3,h4⟩:=h.1
     simp only [Rep]
     exact ⟨a,kvs,rfl,h1.imp fun _ z =>see a _ rfl z,h2,h3,h4.mono up⟩
   | non =>exact Rep.mono up h.1
   | bl b =>exact Rep.mono up h.1
   | int i =>exact Rep.mono up h.1
   | str x =>exact Rep.mono up h.1
   | tup l =>exact Rep.mono up h.1
theorem OwnAt.notImm {H G:Hp} {a:Addr} {d:D} (h:OwnAt W H G a d):d.imm = false:=by
 cases d <;> first | rfl | exact h.elim
theorem sp_of {o:Orc} {f np:Nat} {vs:List V} {ds:List D} {br:Bool} {E:XK} (S:SR X W me B H σ δ) (hn:ds.length = np) (t:RepTs W H (vis H (Hid B σ δ)) ds vs) (q:br = false → Reps W (vis H (Hid B σ δ)) ds vs)
 (h:After X W lk σ H (Hid B σ δ) ((o.fn f ds).bind (lent br)) Q):spFn W (o.fn f) np vs H Q E:=by
 refine ⟨by rw [← t.length]; exact hn,?_⟩
 cases e:o.fn f ds with
 | stuck =>rw [e] at h; exact h.elim
 | exc c =>rw [e] at h; exact h.elim
 | ok r =>
   rw [e] at h
   cases br with
   | false =>
     refine ⟨Hid B σ δ,ds,S.softH,S.know,q rfl,r,e,fun v H' s z =>h v H' s ?_⟩
     unfold Res at z ⊢
     by_cases hw:r.1 = true
     ·rw [if_pos hw] at z ⊢; exact z
     ·rw [if_neg hw] at z ⊢
      simp only [Bool.false_eq_true,if_false] at z
      split
      ·exact z.top vis_le
      ·exact z
   | true =>
     have h':After X W lk σ H (Hid B σ δ) (if r.2.imm then .ok r else .stuck) Q:=h
     by_cases him:r.2.imm = true
     ·rw [if_pos him] at h'
      refine ⟨fun b =>Hid B σ δ b ∧ V.ref b ∉ vs,ds,fun a ha =>S.softH a ha.1,fun b hb =>S.know b hb.1,t.lend vs (fun v hv =>hv),r,e,fun v H' s z =>h' v H' s ?_⟩
      unfold Res at z ⊢
      by_cases hw:r.1 = true
      ·rw [if_pos hw] at z
       obtain ⟨a,_,_,z⟩:=z
       rw [z.notImm] at him; cases him
      ·rw [if_neg hw] at z ⊢
       simp only [Bool.false_eq_true,if_false] at z
       have z':Rep W (vis H' (Hid B σ δ)) r.2 v:=(z.mono vis_le).imm (S.softH.mono S.know s) him
       split
       ·exact z'.top vis_le
       ·exact z'
     ·rw [if_neg him] at h'; exact h'.elim
theorem d_call {o:Orc} {f np k:Nat} {x:Str} {fa:Addr} {fd:FuncData} {ps:List Str} {e:Expr} {es:List Expr} {l:TL} {p pos:Pos} (hn:∀ δ r,evL o δ l = .ok r → r.2.length = np)
 (F:FnOk X.prog X.w X.K X.mg X.base CX0 k fa fd ps (spFn W (o.fn f) np)) (hr:Room k X.A) (hg:Gl X x) (hm:X.mg x = some (.ref fa)) (hk:PySem.W.keepIn X.K (.ref fa) = true) (hb:Binds X.K fd ps [])
 (ha:PA X (e :: es) (tL X W fun δ =>evL o δ l)) (hdb:(x == ("__debug__":Str)) = false) (he:starEach (e :: es) X.env = (false,eval e X.env) :: starEach es X.env) (hpl:(backTo pos (starEach es X.env)).any (·.1) = false) :
 PE X (.Call (.Name x p) (e :: es) [] pos) (tD X W lk fun δ =>ev o δ lk (.call f l)):=by
 refine PE.imp (pe_call F hr hg hm hk hb .nil pass0 ha hdb he hpl) fun σ H Q h =>?_
 obtain ⟨me,B,δ,S,h⟩:=tD_iff.mp h
 simp only [ev] at h
 refine tL.mono (partL (fa:=fun δ =>evL o δ l) (C:=fun r H =>After X W lk σ H (Hid B σ δ) r Q) S h (fun r H1 s q =>q.mono s) (fun c q =>q) (fun q =>q)) fun vs H1 ⟨r,e1,S1,s1,t1,q1,h1⟩ =>?_
 rw [List.append_nil]
 exact sp_of S1 (hn δ r e1) t1 q1 h1
variable {a b:Expr} {rest:List Expr} {pos:Pos} {fa fb:Dst → R (Bool × D)}
noncomputable def andD (x:D) (y:R (Bool × D)):R (Bool × D):=match x with
 | .bl true =>y.bind fun y =>boolD y.2
 | .bl false =>.ok (false,.bl false)
 | _ =>.stuck
noncomputable def orD (x:D) (y:R (Bool × D)):R (Bool × D):=match x with
 | .bl true =>.ok (false,.bl true)
 | .bl false =>y.bind fun y =>boolD y.2
 | _ =>.stuck
theorem boolD_ok {d:D} {r:Bool × D} (h:boolD d = .ok r):∃ b,d = .bl b ∧ r = (false,.bl b):=by
 cases d <;> simp only [boolD] at h <;> first | (cases h; exact ⟨_,rfl,rfl⟩) | cases h
theorem repT_bl {G:Hp} {i:Bool} {x:V} (h:RepT W H G (.bl i) x):x = .bl i:=by simpa only [RepT,Rep] using h
theorem bool_last (S:SR X W me B H σ δ) (h:After X W lk σ H (Hid B σ δ) ((fb δ).bind fun y =>boolD y.2) Q):tD X W true fb σ H Q:=by
 refine tD_iff.mpr ⟨me,B,δ,S,?_⟩
 cases e:fb δ with
 | ok r =>
   rw [e] at h
   have h:After X W lk σ H (Hid B σ δ) (boolD r.2) Q:=h
   cases e2:boolD r.2 with
   | ok r' =>
     rw [e2] at h
     obtain ⟨b,e3,rfl⟩:=boolD_ok e2
     intro v H' s q
     have q':=q.look
     rw [e3] at q'
     rw [repT_bl q']
     exact h _ H' s res_bl
   | exc c =>rw [e2] at h; exact False.elim h
   | stuck =>rw [e2] at h; exact False.elim h
 | exc c =>rw [e] at h; exact h
 | stuck =>rw [e] at h; exact h
theorem d_and (ha:PE X a (tD X W true fa)) (hb:PE X (.BoolOp .And (b :: rest) pos) (tD X W true fb)):PE X (.BoolOp .And (a :: b :: rest) pos) (tD X W lk fun δ =>(fa δ).bind fun x =>andD x.2 (fb δ)):=by
 refine PE.imp (pe_and ha hb) fun σ H Q h =>?_
 obtain ⟨me,B,δ,S,h⟩:=tD_iff.mp h
 refine tD.mono (part S h) fun v H1 ⟨r,e,S1,s1,t1,_,h1⟩ =>?_
 cases e2:r.2 with
 | bl c =>
   rw [e2] at t1 h1
   refine ⟨c,repT_bl t1,?_⟩
   cases c with
   | true =>exact bool_last S1 h1
   | false =>exact h1 _ H1 (Same.refl _) res_bl
 | _ =>rw [e2] at h1; exact h1.elim
theorem d_or (ha:PE X a (tD X W true fa)) (hb:PE X (.BoolOp .Or (b :: rest) pos) (tD X W true fb)):PE X (.BoolOp .Or (a :: b :: rest) pos) (tD X W lk fun δ =>(fa δ).bind fun x =>orD x.2 (fb δ)):=by
 refine PE.imp (pe_or ha hb) fun σ H Q h =>?_
 obtain ⟨me,B,δ,S,h⟩:=tD_iff.mp h
 refine tD.mono (part S h) fun v H1 ⟨r,e,S1,s1,t1,_,h1⟩ =>?_
 cases e2:r.2 with
 | bl c =>
   rw [e2] at t1 h1
   refine ⟨c,repT_bl t1,?_⟩
   cases c with
   | false =>exact bool_last S1 h1
   | true =>exact h1 _ H1 (Same.refl _) res_bl
 | _ =>rw [e2] at h1; exact h1.elim
theorem d_one {op:BoolOp} (ha:PE X a (tD X W lk fa)):PE X (.BoolOp op [a] pos) (tD X W lk fa):=pe_one ha
theorem PW.imp {e:Expr} {t t':TT} (h:PW X e t) (i:∀ σ H Q,t' σ H Q → t σ H Q):PW X e t':=fun w pins s σ H Q I hw =>h w pins s σ H Q I (i σ H Q hw)
theorem boolD_truth {d:D} {b:Bool} (h:(boolD d).bind (fun x =>R.of (truth x.2)) = .ok b):truth d = some b:=by
 cases d <;> simp only [boolD,R.bind,truth,R.of] at h <;> first | (cases h; rfl) | cases h
theorem boolD_noexc {d:D} {c:Nat}:(boolD d).bind (fun x =>R.of (truth x.2)) ≠ .exc c:=by
 cases d <;> simp [boolD,R.bind,truth,R.of]
theorem boolT_last {Q:Bool → Hp → Prop} (S:SR X W me B H σ δ)
 (h:match ((fb δ).bind fun y =>boolD y.2).bind (fun x =>R.of (truth x.2)) with | .ok b =>∀ H',Same H H' → Q b H' | .exc c =>EW X W σ H c | .stuck =>False):tT X W fb σ H Q:=by
 refine ⟨me,B,δ,S,?_⟩
 cases e:fb δ with
 | ok r =>
   rw [e] at h
   have h:(match (boolD r.2).bind (fun x =>R.of (truth x.2)) with | .ok b =>∀ H',Same H H' → Q b H' | .exc c =>EW X W σ H c | .stuck =>False):=h
   show (match R.of (truth r.2) with | .ok b =>∀ H',Same H H' → Q b H' | .exc c =>EW X W σ H c | .stuck =>False)
   cases e2:(boolD r.2).bind (fun x =>R.of (truth x.2)) with
   | ok b =>rw [e2] at h; rw [boolD_truth e2]; exact h
   | exc c =>exact absurd e2 boolD_noexc
   | stuck =>rw [e2] at h; exact h.elim
 | exc c =>rw [e] at h; exact h
 | stuck =>rw [e] at h; exact h
theorem wt_and (ha:PT X a (tT X W fa)) (hb:PW X (.BoolOp .And (b :: rest) pos) (tT X W fb)):PW X (.BoolOp .And (a :: b :: rest) pos) (tT X W fun δ =>(fa δ).bind fun x =>andD x.2 (fb δ)):=by
 refine PW.imp (pw_and ha hb) fun σ H Q ⟨me,B,δ,S,h⟩ =>⟨me,B,δ,S,?_⟩
 dsimp only at h
 cases e:fa δ with
 | ok r =>
   rw [e] at h
   have h:(match (andD r.2 (fb δ)).bind (fun x =>R.of (truth x.2)) with | .ok b =>∀ H',Same H H' → Q b H' | .exc c =>EW X W σ H c | .stuck =>False):=h
   show (match R.of (truth r.2) with | .ok b =>∀ H',Same H H' → if b = true then tT X W fb σ H' Q else Q false H' | .exc c =>EW X W σ H c | .stuck =>False)
   cases e2:r.2 with
   | bl c =>
     rw [e2] at h
     cases c with
     | true =>
       intro H' s
       refine boolT_last (S.mono s) ?_
       have h:(match ((fb δ).bind fun y =>boolD y.2).bind (fun x =>R.of (truth x.2)) with | .ok b =>∀ H',Same H H' → Q b H' | .exc c =>EW X W σ H c | .stuck =>False):=h
       cases e3:((fb δ).bind fun y =>boolD y.2).bind (fun x =>R.of (truth x.2)) with
       | ok b =>rw [e3] at h; exact fun H2 s2 =>h H2 (s.trans s2)
       | exc c =>rw [e3] at h; exact h.elim
       | stuck =>rw [e3] at h; exact h
     | false =>exact fun H' s =>h H' s
   | _ =>rw [e2] at h; exact h.elim
 | exc c =>rw [e] at h; exact h
 | stuck =>rw [e] at h; exact h
theorem wt_or (ha:PT X a (tT X W fa)) (hb:PW X (.BoolOp .Or (b :: rest) pos) (tT X W fb)):PW X (.BoolOp .Or (a :: b :: rest) pos) (tT X W fun δ =>(fa δ).bind fun x =>orD x.2 (fb δ)):=by
 refine PW.imp (pw_or ha hb) fun σ H Q ⟨me,B,δ,S,h⟩ =>⟨me,B,δ,S,?_⟩
 dsimp only at h
 cases e:fa δ with
 | ok r =>
   rw [e] at h
   have h:(match (orD r.2 (fb δ)).bind (fun x =>R.of (truth x.2)) with | .ok b =>∀ H',Same H H' → Q b H' | .exc c =>EW X W σ H c | .stuck =>False):=h
   show (match R.of (truth r.2) with | .ok b =>∀ H',Same H H' → if b = true then Q true H' else tT X W fb σ H' Q | .exc c =>EW X W σ H c | .stuck =>False)
   cases e2:r.2 with
   | bl c =>
     rw [e2] at h
     cases c with
     | false =>
       intro H' s
       refine boolT_last (S.mono s) ?_
       have h:(match ((fb δ).bind fun y =>boolD y.2).bind (fun x =>R.of (truth x.2)) with | .ok b =>∀ H',Same H H' → Q b H' | .exc c =>EW X W σ H c | .stuck =>False):=h
       cases e3:((fb δ).bind fun y =>boolD y.2).bind (fun x =>R.of (truth x.2)) with
       | ok b =>rw [e3] at h; exact fun H2 s2 =>h H2 (s.trans s2)
       | exc c =>rw [e3] at h; exact h.elim
       | stuck =>rw [e3] at h; exact h
     | true =>exact fun H' s =>h H' s
   | _ =>rw [e2] at h; exact h.elim
 | exc c =>rw [e] at h; exact h
 | stuck =>rw [e] at h; exact h
theorem wt_one {op:BoolOp} (ha:PT X a (tT X W fa)):PW X (.BoolOp op [a] pos) (tT X W fa):=by
 cases op with
 | And =>exact pw_and1 ha
 | Or =>exact pw_or1 ha
end
end Z

namespace Z
open PySem PySem.Spec PyProof.Rows L2
section
variable {X:Cx} {W:Wd} {lk lk':Bool} {σ:L2.St} {H H1 H':Hp} {me:Option Addr} {B:Addr → Prop} {δ:Dst} {Q Q':VK} {a b:Expr} {pos p:Pos} {fa fb fc:Dst → R (Bool × D)}
noncomputable def Sem1 (W:Wd) (r:List V → Hp → VK → Prop) (g:D → R (Bool × D)):Prop :=
 ∀ (lk:Bool) (P:Addr → Prop) (H:Hp) (x:V) (dx:D) (Q:VK) (w:Bool) (d:D),Soft H P → (∀ a,P a → ∃ o,H a = some o) → RepT W H (vis H P) dx x → g dx = .ok (w,d) →
  (∀ v H',Same H H' → Res W P lk H H' w d v → Q v H') → r [x] H Q
noncomputable def NoExc1 (g:D → R (Bool × D)):Prop:=∀ x c,g x ≠ .exc c
theorem tCB_of {r:List V → Hp → VK → Prop} {g:D → R (Bool × D)} (hs:Sem1 W r g) (hn:NoExc1 g) {σ:L2.St} {H:Hp} {Q:VK} (h:tD X W lk (fun δ =>(fa δ).bind fun x =>g x.2) σ H Q) :
 tCB r (tCons (tD X W true fa) tNil) σ H Q:=by
 obtain ⟨me,B,δ,S,h⟩:=tD_iff.mp h
 refine tD.mono (part S h) fun v H1 ⟨r1,e1,S1,s1,t1,_,h1⟩ =>?_
 show r [v] H1 Q
 cases e:g r1.2 with
 | ok r' =>
   rw [e] at h1
   exact hs lk (Hid B σ δ) H1 v r1.2 Q r'.1 r'.2 S1.softH S1.know t1 e h1
 | exc c =>exact absurd e (hn _ _)
 | stuck =>rw [e] at h1; exact h1.elim
theorem d_b1 {id:String} {x:Str} {r:List V → Hp → VK → Prop} {g:D → R (Bool × D)} (hc:CallR X (.builtin id) r) (hs:Sem1 W r g) (hn:NoExc1 g) (hg:Gl X x) (hm:X.mg x = none) (hv:bootBuiltins x = some (.builtin id)) (ha:PE X a (tD X W true fa))
 (hx:x ≠ "__name__") (hdb:(x == ("__debug__":Str)) = false) (he:starEach [a] X.env = [(false,eval a X.env)]):PE X (.Call (.Name x p) [a] [] pos) (tD X W lk fun δ =>(fa δ).bind fun x =>g x.2) :=
 PE.imp (pe_callB hc hg hm hv (pa_cons ha pa_nil he) hx hdb he rfl) fun _ _ _ h =>tCB_of hs hn h
theorem d_ty1 {id:String} {x:Str} {r:List V → Hp → VK → Prop} {g:D → R (Bool × D)} (hc:CallR X (.type id) r) (hs:Sem1 W r g) (hn:NoExc1 g) (hg:Gl X x) (hm:X.mg x = none) (hv:bootBuiltins x = some (.type id)) (ha:PE X a (tD X W true fa))
 (hx:x ≠ "__name__") (hdb:(x == ("__debug__":Str)) = false) (he:starEach [a] X.env = [(false,eval a X.env)]):PE X (.Call (.Name x p) [a] [] pos) (tD X W lk fun δ =>(fa δ).bind fun x =>g x.2) :=
 PE.imp (pe_callTy hc hg hm hv (pa_cons ha pa_nil he) hx hdb he rfl) fun _ _ _ h =>tCB_of hs hn h
theorem b1_noexc (b:B1):NoExc1 (b1D b):=by
 intro x c
 cases b <;> simp only [b1D] <;> first
  | exact of_noexc
  | (cases x <;> simp [R.chk] <;> first | exact of_noexc | (split <;> simp) | skip)
theorem sem_abs:Sem1 W (fun xs H Q =>∃ i,xs = [.int i] ∧ Q (.int (if i < 0 then -i else i)) H) (b1D .abs):=by
 intro lk P H x dx Q w d hS hK hx e k
 cases dx <;> simp only [b1D] at e <;> cases e
 exact ⟨_,by rw [repT_int hx],k _ H (Same.refl H) res_int⟩
theorem sem_len (hk:W.K = X.K):Sem1 W (fun xs H Q =>((∃ p ys,xs = [.ref p] ∧ (SqL X.K H p ys ∨ SqT X.K H p ys) ∧ Q (.int ys.length) H) ∨ (∃ z,xs = [.str z] ∧ z.length ≤ sizeLine ∧ Q (.int z.length) H)) ∨ (∃ a kvs ep,xs = [V.ref a] ∧ H a = some (.dK kvs ep) ∧ Q (.int kvs.length) H)) (b1D .len):=by
 intro lk P H x dx Q w d hS hK hx e k
 cases dx <;> simp only [b1D] at e <;> cases e
 ·obtain ⟨rfl,hl⟩:=repT_str hx
  rename_i s
  refine .inl (.inr ⟨_,rfl,by simpa [strV,Str.length,sizeLine_eq] using hl,?_⟩)
  have e1:((strV s).length:Int) = (s.length:Int):=by simp [strV,Str.length]
  rw [e1]
  exact k _ H (Same.refl H) res_int
 ·simp only [RepT,Rep] at hx
  obtain ⟨a,xs,rfl,h1,h2⟩:=hx
  refine .inl (.inl ⟨a,xs,rfl,.inr (hk ▸ same_tup vis_le h1),?_⟩)
  rw [← h2.length]
  exact k _ H (Same.refl H) res_int
 ·obtain ⟨a,xs,rfl,h1,h2⟩:=hx
  refine .inl (.inl ⟨a,xs,rfl,.inl (hk ▸ h1),?_⟩)
  rw [← h2.length]
  exact k _ H (Same.refl H) res_int
 ·obtain ⟨a,kvs,rfl,⟨ep,h1⟩,h2,h3,h4⟩:=hx
  refine .inr ⟨a,kvs,ep,rfl,h1,?_⟩
  have:=congrArg List.length h2
  simp only [List.length_map] at this
  rw [this]
  exact k _ H (Same.refl H) res_int
theorem place_ix {α:Type} {n:Nat} {i:Int} {j:Nat} (h:place n i = some j):ixN n i = some j:=by
 unfold place at h; unfold ixN
 by_cases h0:0 ≤ i
 ·rw [if_pos h0] at h ⊢; exact h
 ·rw [if_neg h0] at h ⊢
  by_cases h1:0 ≤ i + n
  ·rw [if_pos h1] at h; rw [if_pos (by omega)]; exact h
  ·rw [if_neg h1] at h; cases h
theorem idxD_noexc:NoExc2 idxD:=by
 intro x y c
 cases x <;> cases y <;> simp only [idxD] <;> first | exact of_noexc | simp
theorem bind_map_some {α β:Type} {x:Option Nat} {f:Nat → Option α} {g:α → β} {y:β} (h:(x.bind fun n =>(f n).map g) = some y):∃ n z,x = some n ∧ f n = some z ∧ g z = y:=by
 cases x with
 | none =>cases h
 | some n =>
   cases e:f n with
   | none =>simp [e] at h
   | some z =>simp [e] at h; exact ⟨n,z,rfl,e,h⟩
noncomputable def rIx (K:PySem.W.Frag):R2:=fun x y H Q =>(rIxL K x y H Q ∨ rIxT K x y H Q) ∨ rIxS x y H Q
theorem ix_all:IxR X (rIx X.K):=IxR.or (IxR.or ix_list ix_tup) ix_str
noncomputable def seqIdx (a i:D):R (Bool × D):=match a with
 | .dct _ _ =>.stuck
 | _ =>idxD a i
theorem sem_idx (hk:W.K = X.K):Sem2 W (rIx X.K) seqIdx:=by
 intro lk P H x y dx dy Q w d hS hK hx hy e k
 cases dx <;> cases dy <;> first | exact nope e | exact nopeR e | simp only [seqIdx,idxD] at e
 ·obtain ⟨n,z,h1,h2,h3⟩:=bind_map_some (of_ok e)
  cases h3
  obtain ⟨rfl,hl⟩:=repT_str hx
  rename_i s j
  refine .inr ⟨strV s,j,z,rfl,repT_int hy,by simpa [strV,Str.length,sizeLine_eq] using hl,?_,?_⟩
  ·unfold atI
   rw [place_ix (α:=Nat) (n:=(strV s).cps.toList.length) (by simpa [strV] using h1)]
   simpa [strV] using h2
  ·exact k _ H (Same.refl H) (res_str (i:=[z]) (by simp))
 ·obtain ⟨n,z,h1,h2,h3⟩:=bind_map_some (of_ok e)
  cases h3
  simp only [RepT,Rep] at hx
  obtain ⟨a,xs,rfl,q1,q2⟩:=hx
  obtain ⟨v,e1,e2⟩:=q2.get h2
  refine .inl (.inr ⟨a,xs,_,v,rfl,repT_int hy,hk ▸ same_tup vis_le q1,?_,k v H (Same.refl H) (.shared e2)⟩)
  unfold atI
  rw [place_ix (α:=V) (by rw [← q2.length]; exact h1)]
  exact e1
 ·obtain ⟨n,z,h1,h2,h3⟩:=bind_map_some (of_ok e)
  cases h3
  obtain ⟨a,xs,rfl,q1,q2⟩:=hx
  obtain ⟨v,e1,e2⟩:=q2.get h2
  refine .inl (.inl ⟨a,xs,_,v,rfl,repT_int hy,hk ▸ q1,?_,k v H (Same.refl H) (.shared e2)⟩)
  unfold atI
  rw [place_ix (α:=V) (by rw [← q2.length]; exact h1)]
  exact e1
theorem clip_ix (n:Nat) (d:Nat) (i:Int):HT.sIx n d (some i) = clip n i:=by
 unfold clip
 show (if i < 0 then (i + (n:Int)).toNat else min i.toNat n) = _
 by_cases h:0 ≤ i
 ·rw [if_neg (by omega),if_pos h]
 ·rw [if_pos (by omega),if_neg h]
theorem cut_eq {α:Type} (l:List α) (p q:Nat):cut l p q = (l.drop p).take (q - p):=by
 unfold cut
 rw [List.drop_take]
noncomputable def IsO (t:T) (e:Option Expr) (X:Cx) (W:Wd) (o:Orc):Prop:=(e = none ∧ t = .cst .non) ∨ ∃ e',e = some e' ∧ t ≠ .cst .non ∧ ∀ lk,PE X e' (tD X W lk fun δ =>ev o δ lk t)
noncomputable def tO (X:Cx) (W:Wd) (o:Orc) (t:T):TO:=fun σ H C =>∃ me B δ,SR X W me B H σ δ ∧ match (ev o δ true t).bind (fun y =>R.of (bnd t y.2)) with
 | .ok oi =>∀ H',Same H H' → C oi H'
 | .exc c =>EW X W σ H c
 | .stuck =>False
theorem PO.imp {e:Option Expr} {t t':TO} (h:PO X e t) (i:∀ σ H Q,t' σ H Q → t σ H Q):PO X e t':=fun pins s σ H Q I hw =>h pins s σ H Q I (i σ H Q hw)
theorem bnd_int {t:T} {d:D} {oi:Option Int} (ht:t ≠ .cst .non) (h:bnd t d = some oi):∃ i,d = .int i ∧ oi = some i:=by
 unfold bnd at h
 split at h
 ·exact absurd rfl ht
 ·cases d <;> simp at h
  exact ⟨_,rfl,h.symm⟩
theorem d_po {t:T} {e:Option Expr} {o:Orc} (h:IsO t e X W o):PO X e (tO X W o t):=by
 rcases h with ⟨rfl,rfl⟩ | ⟨e',rfl,ht,h⟩
 ·refine PO.imp po_none fun σ H C ⟨me,B,δ,S,h⟩ =>?_
  simp only [ev,R.bind,bnd,R.of] at h
  exact h H (Same.refl H)
 ·refine PO.imp (po_some (h true)) fun σ H C ⟨me,B,δ,S,h⟩ =>?_
  refine tD_iff.mpr ⟨me,B,δ,S,?_⟩
  cases e:ev o δ true t with
  | ok r =>
    rw [e] at h
    have h:(match R.of (bnd t r.2) with | .ok oi =>∀ H',Same H H' → C oi H' | .exc c =>EW X W σ H c | .stuck =>False):=h
    cases e2:bnd t r.2 with
    | none =>rw [e2] at h; exact h.elim
    | some oi =>
      rw [e2] at h
      obtain ⟨i,h1,rfl⟩:=bnd_int ht e2
      intro v H' s q
      have q':=q.look
      rw [h1] at q'
      exact ⟨i,repT_int q',h H' s⟩
  | exc c =>rw [e] at h; exact h
  | stuck =>rw [e] at h; exact h
theorem tO.mono {o:Orc} {t:T} {C C':Option Int → Hp → Prop} (h:tO X W o t σ H C) (k:∀ oi H',C oi H' → C' oi H'):tO X W o t σ H C':=by
 obtain ⟨me,B,δ,S,h⟩:=h
 refine ⟨me,B,δ,S,?_⟩
 cases e:(ev o δ true t).bind (fun y =>R.of (bnd t y.2)) with
 | ok oi =>rw [e] at h; exact fun H' s =>k _ _ (h H' s)
 | exc c =>rw [e] at h; exact h
 | stuck =>rw [e] at h; exact h
theorem partO {o:Orc} {t:T} {g:Bool × D → R (Bool × D)} {g':Option Int → R (Bool × D)} (hg:∀ r,g r = (R.of (bnd t r.2)).bind g') (S:SR X W me B H σ δ) (h:After X W lk σ H (Hid B σ δ) ((ev o δ true t).bind g) Q) :
 tO X W o t σ H fun oi H1 =>SR X W me B H1 σ δ ∧ Same H H1 ∧ After X W lk σ H1 (Hid B σ δ) (g' oi) Q:=by
 refine ⟨me,B,δ,S,?_⟩
 cases e:ev o δ true t with
 | ok r =>
   rw [e] at h
   have h:After X W lk σ H (Hid B σ δ) (g r) Q:=h
   rw [hg] at h
   show (match R.of (bnd t r.2) with | .ok oi =>∀ H',Same H H' → SR X W me B H' σ δ ∧ Same H H' ∧ After X W lk σ H' (Hid B σ δ) (g' oi) Q | .exc c =>EW X W σ H c | .stuck =>False)
   cases e2:bnd t r.2 with
   | none =>rw [e2] at h; exact h.elim
   | some oi =>rw [e2] at h; exact fun H' s =>⟨S.mono s,s,After.mono h s⟩
 | exc c =>rw [e] at h; exact h
 | stuck =>rw [e] at h; exact h
theorem Reps.cut {G:Hp} {l:List D} {vs:List V} (h:Reps W G l vs) (p q:Nat):Reps W G (cut l p q) (cut vs p q):=(h.take q).drop p
theorem res_new {P:Addr → Prop} {q:Addr} {l:List D} {xs:List V} (hn:H q = none) (h:Reps W (vis H P) l xs) (hP:∀ a,P a → ∃ o,H a = some o):Res W P lk H (upd H q (.lst xs)) true (.lst l) (.ref q):=by
 unfold Res
 rw [if_pos rfl]
 refine ⟨q,rfl,hn,xs,upd_same,h.mono fun b o e =>?_⟩
 obtain ⟨e1,e2⟩:=vis_some e
 have hb:b ≠ q:=ne_of_none e1 hn
 refine vis_of (by rw [upd_ne hb]; exact e1) fun z =>?_
 rcases z with z | z
 ·exact e2 z
 ·exact hb z
theorem res_newT {P:Addr → Prop} {q:Addr} {l:List D} {xs:List V} (hn:H q = none) (h:Reps W (vis H P) l xs) (hP:∀ a,P a → ∃ o,H a = some o):Res W P lk H (upd H q (.tup xs)) false (.tup l) (.ref q):=by
 refine .shared ?_
 simp only [Rep]
 have nP:¬ P q:=fun z =>by obtain ⟨o,e⟩:=hP q z; rw [hn] at e; cases e
 refine ⟨q,xs,rfl,.inl (.inl (vis_of upd_same nP)),h.mono fun b o e =>?_⟩
 obtain ⟨e1,e2⟩:=vis_some e
 exact vis_of (by rw [upd_ne (ne_of_none e1 hn)]; exact e1) e2
noncomputable def SemS (W:Wd) (r:V → Option Int → Option Int → Hp → VK → Prop) (g:D → Option Int → Option Int → Option (Bool × D)):Prop :=
 ∀ (lk:Bool) (P:Addr → Prop) (H:Hp) (x:V) (dx:D) (lo hi:Option Int) (Q:VK) (w:Bool) (d:D),Soft H P → (∀ a,P a → ∃ o,H a = some o) → RepT W H (vis H P) dx x → g dx lo hi = some (w,d) →
  (∀ v H',Same H H' → Res W P lk H H' w d v → Q v H') → r x lo hi H Q
theorem bind_of {α β:Type} (x:Option α) (f:α → Option β):R.of (x.bind f) = (R.of x).bind fun a =>R.of (f a):=by cases x <;> rfl
theorem d_slc {o:Orc} {tl th:T} {lo hi:Option Expr} {p2:Pos} {r:V → Option Int → Option Int → Hp → VK → Prop} {g:D → Option Int → Option Int → Option (Bool × D)} (hr:SlR X r) (hs:SemS W r g) (ha:PE X a (tD X W true fa)) (hl:IsO tl lo X W o) (hh:IsO th hi X W o) :
 PE X (.Subscript a (.Slice lo hi none p2) pos) (tD X W lk fun δ =>(fa δ).bind fun x =>(ev o δ true tl).bind fun y =>(ev o δ true th).bind fun z =>.of ((bnd tl y.2).bind fun l =>(bnd th z.2).bind fun h =>g x.2 l h)):=by
 refine PE.imp (pe_slice hr ha (d_po hl) (d_po hh)) fun σ H Q h =>?_
 obtain ⟨me,B,δ,S,h⟩:=tD_iff.mp h
 refine tD.mono (part S h) fun v H1 ⟨r1,e1,S1,s1,t1,_,h1⟩ =>?_
 refine ⟨me,B,δ,S1,?_⟩
 cases e2:ev o δ true tl with
 | ok y =>
   rw [e2] at h1
   have h1:After X W lk σ H1 (Hid B σ δ) ((ev o δ true th).bind fun z =>.of ((bnd tl y.2).bind fun l =>(bnd th z.2).bind fun h =>g r1.2 l h)) Q:=h1
   show (match R.of (bnd tl y.2) with | .ok oi =>∀ H',Same H1 H' → tO X W o th σ H' fun u H3 =>r v oi u H3 Q | .exc c =>EW X W σ H1 c | .stuck =>False)
   cases e3:bnd tl y.2 with
   | none =>
     rw [e3] at h1
     cases e4:ev o δ true th with
     | ok z =>rw [e4] at h1; exact h1.elim
     | exc c =>rw [e4] at h1; exact h1.elim
     | stuck =>rw [e4] at h1; exact h1.elim
   | some l =>
     rw [e3] at h1
     intro H2 s2
     have h2:After X W lk σ H2 (Hid B σ δ) ((ev o δ true th).bind fun z =>.of ((bnd th z.2).bind fun h =>g r1.2 l h)) Q:=After.mono h1 s2
     refine tO.mono (partO (g':=fun h =>R.of (g r1.2 l h)) (fun r =>bind_of _ _) (S1.mono s2) h2) fun u H3 ⟨S3,s3,h3⟩ =>?_
     cases e5:g r1.2 l u with
     | none =>rw [e5] at h3; exact h3.elim
     | some q =>
       rw [e5] at h3
       exact hs lk (Hid B σ δ) H3 v r1.2 l u Q q.1 q.2 S3.softH S3.know (t1.mono (s2.trans s3) (vis_mono (s2.trans s3))) e5 h3
 | exc c =>rw [e2] at h1; exact h1.elim
 | stuck =>rw [e2] at h1; exact h1.elim
noncomputable def rSlS:V → Option Int → Option Int → Hp → VK → Prop:=fun x lo hi H Q =>∃ z:Str,x = .str z ∧ z.length ≤ sizeLine ∧ Q (.str (PySem.Txt.slice z lo hi)) H
theorem sl_str:SlR X rSlS:=by
 intro pins s σ H x v vl vu lo hi sl Q I rx hs pl pu h
 obtain ⟨z,rfl,hz,q⟩:=h
 obtain ⟨t,rfl⟩:=rx
 refine ⟨"str",_,PySem.F.slot_str_getitem.lookup,typeIs_str _ _ _,?_⟩
 cases pl with
 | none =>
   cases pu with
   | none =>exact wpAny_getItem_str_slice (l:=none) (u:=none) (st:=none) hs rfl (post_val_or_str ⟨Nat.le_trans (PySem.Txt.slice_le z none none) hz,fun t' k =>⟨.str (PySem.Txt.slice z none none),H,I.tok _,⟨t',rfl⟩,q⟩⟩)
   | int j tj =>exact wpAny_getItem_str_slice (l:=none) (u:=some (j,tj)) (st:=none) hs rfl (post_val_or_str ⟨Nat.le_trans (PySem.Txt.slice_le z none (some j)) hz,fun t' k =>⟨.str (PySem.Txt.slice z none (some j)),H,I.tok _,⟨t',rfl⟩,q⟩⟩)
 | int i ti =>
   cases pu with
   | none =>exact wpAny_getItem_str_slice (l:=some (i,ti)) (u:=none) (st:=none) hs rfl (post_val_or_str ⟨Nat.le_trans (PySem.Txt.slice_le z (some i) none) hz,fun t' k =>⟨.str (PySem.Txt.slice z (some i) none),H,I.tok _,⟨t',rfl⟩,q⟩⟩)
   | int j tj =>exact wpAny_getItem_str_slice (l:=some (i,ti)) (u:=some (j,tj)) (st:=none) hs rfl (post_val_or_str ⟨Nat.le_trans (PySem.Txt.slice_le z (some i) (some j)) hz,fun t' k =>⟨.str (PySem.Txt.slice z (some i) (some j)),H,I.tok _,⟨t',rfl⟩,q⟩⟩)
theorem ix_str (l u:Option Int) (n:Nat):Builtin.Str.strSliceIndices l u 1 n = (List.range (highOf n u - lowOf n l)).map fun k =>lowOf n l + k:=by
 have cl:∀ i:Int,max 0 (min (if i < 0 then i + (n:Int) else i) (n:Int)) = ((clip n i:Nat):Int):=fun i =>by
  unfold clip
  by_cases h:i < 0
  ·rw [if_pos h,if_neg (by omega)]; omega
  ·rw [if_neg h,if_pos (by omega)]; omega
 have e:Builtin.Str.strSliceIndices l u 1 n = sliceRange (lowOf n l:Int) (highOf n u:Int) 1:=by
  unfold Builtin.Str.strSliceIndices
  cases l <;> cases u <;> simp only [show (1:Int) > 0 by decide,if_true,cl,lowOf,highOf] <;> rfl
 rw [e]
 generalize lowOf n l = p
 generalize highOf n u = q
 unfold sliceRange
 simp only [show (1:Int) > 0 by decide,if_true]
 by_cases h:(p:Int) < q
 ·have:(((q:Int) - p + 1 - 1) / 1).toNat = q - p:=by rw [Int.ediv_one]; omega
  rw [if_pos h,this]
  exact List.map_congr_left fun k _ =>by omega
 ·rw [if_neg h,show q - p = 0 by omega]; rfl
theorem slice_str (x:List Nat) (l u:Option Int):PySem.Txt.slice (strV x) l u = strV (cut x (lowOf x.length l) (highOf x.length u)):=by
 have hn:(strV x).length = x.length:=by simp [strV,Str.length]
 have hh:highOf x.length u ≤ x.length:=by
  cases u with
  | none =>exact Nat.le_refl _
  | some i =>show clip x.length i ≤ x.length; unfold clip; split <;> omega
 unfold PySem.Txt.slice
 rw [ix_str,hn,cut_eq]
 generalize lowOf x.length l = p
 generalize highOf x.length u = q at hh
 split
 ·rename_i h
  simp only [BEq.rfl,Bool.true_and,beq_iff_eq,List.length_map,List.length_range] at h
  have hx:x.length = 0 ∨ (p = 0 ∧ q = x.length):=by omega
  rcases hx with hx | ⟨rfl,rfl⟩
  ·have:x = []:=List.length_eq_zero_iff.mp hx
   subst this
   simp
  ·simp
 ·congr 1
  by_cases hp:p ≤ q
  ·have:=PySem.StrLaws.picks x (q - p) p (by omega)
   simpa [strV] using congrArg List.toArray this
  ·rw [show q - p = 0 by omega]; simp
noncomputable def rSl (K:PySem.W.Frag):V → Option Int → Option Int → Hp → VK → Prop:=fun x lo hi H Q =>(rSlL K x lo hi H Q ∨ rSlT K x lo hi H Q) ∨ rSlS x lo hi H Q
theorem sl_all:SlR X (rSl X.K):=SlR.or (SlR.or sl_list sl_tup) sl_str
theorem low_ix (n:Nat) (o:Option Int):HT.sIx n 0 o = lowOf n o:=by cases o with | none =>rfl | some i =>exact clip_ix n 0 i
theorem high_ix (n:Nat) (o:Option Int):HT.sIx n n o = highOf n o:=by cases o with | none =>rfl | some i =>exact clip_ix n n i
theorem cutV_eq (xs:List V) (lo hi:Option Int):cutV xs lo hi = cut xs (lowOf xs.length lo) (highOf xs.length hi):=by
 unfold cutV
 rw [low_ix,high_ix,cut_eq]
theorem sem_slc (hk:W.K = X.K):SemS W (rSl X.K) slcD:=by
 intro lk P H x dx lo hi Q w d hS hK hx e k
 cases dx <;> first | exact nope e | exact nopeR e | simp only [slcD] at e
 ·cases e
  obtain ⟨rfl,hl⟩:=repT_str hx
  refine .inr ⟨strV _,rfl,by simpa [strV,Str.length,sizeLine_eq] using hl,?_⟩
  rw [slice_str]
  exact k _ _ (Same.refl _) (.shared (by simp only [Rep]; exact ⟨trivial,Nat.le_trans (by unfold cut; simp; omega) hl⟩))
 ·split at e
  ·cases e
  ·rename_i hne
   cases e
   simp only [RepT,Rep] at hx
   obtain ⟨a,xs,rfl,q1,q2⟩:=hx
   refine .inl (.inr ⟨a,xs,rfl,hk ▸ same_tup vis_le q1,?_,fun p hp =>?_⟩)
   ·rw [low_ix,high_ix,← q2.length]; exact hne
   ·rw [cutV_eq,← q2.length]
    exact k _ _ (Same.upd hp) (res_newT hp (q2.cut _ _) hK)
 ·cases e
  obtain ⟨a,xs,rfl,q1,q2⟩:=hx
  refine .inl (.inl ⟨a,xs,rfl,hk ▸ q1,fun p hp =>?_⟩)
  rw [cutV_eq,← q2.length]
  exact k _ _ (Same.upd hp) (res_new hp (q2.cut _ _) hK)
noncomputable def tyName:Ty → Option String
 | .int =>some "int"
 | .bool =>some "bool"
 | .str =>some "str"
 | .tup =>some "tuple"
 | .lst =>some "list"
 | .dct =>some "dict"
end
end Z

namespace Z
open PySem PySem.Spec PyProof.Rows L2
section
variable {X:Cx} {W:Wd} {lk lk':Bool} {σ:L2.St} {H H1 H':Hp} {me:Option Addr} {B:Addr → Prop} {δ:Dst} {Q Q':VK} {a b:Expr} {pos p:Pos} {fa fb fc:Dst → R (Bool × D)}
noncomputable def TyS (K:PySem.W.Frag) (H:Hp) (x:V) (t:String):Prop:=match x with
 | .non =>t = "NoneType"
 | .bl _ =>t = "bool"
 | .int _ =>t = "int"
 | .str _ =>t = "str"
 | .ref a =>(t = "list" ∧ ∃ xs,SqL K H a xs) ∨ (t = "tuple" ∧ ∃ xs,SqT K H a xs) ∨ (t = "dict" ∧ ∃ kvs,IsK H a kvs)
 | _ =>False
theorem call_is:CallR X (.builtin "isinstance") (fun xs H Q =>∃ x T t b,xs = [x,.ty T] ∧ TyS X.K H x t ∧ PySem.W.kitOne X.K (.type t) (.type T) = some b ∧ Q (.bl b) H):=by
 intro pins s σ H xs us Q I r h
 obtain ⟨x,T,t,b,rfl,ty,e,q⟩:=h
 cases r with
 | cons rx r2 =>
   cases r2 with
   | cons rT r3 =>
     cases r3
     cases (show _ = Value.type T from rT)
     have fin:∀ tk,EP X pins σ Q (.bool b) { s with toks:=tk }:=fun tk =>⟨.bl b,H,I.tok _,rfl,q⟩
     cases x with
     | non =>cases (show _ = Value.none from rx); cases (show t = "NoneType" from ty); exact PySem.W.kia_one PySem.W.kitx_none I.kIn True.intro e (fun z =>nomatch z) fin
     | bl y =>cases (show _ = Value.bool y from rx); cases (show t = "bool" from ty); exact PySem.W.kia_one PySem.W.kitx_bool I.kIn True.intro e (fun z =>nomatch z) fin
     | int i =>obtain ⟨tk,q⟩:=(show ∃ t,_ = Value.int i t from rx); cases q; cases (show t = "int" from ty); exact PySem.W.kia_one PySem.W.kitx_int I.kIn True.intro e (fun z =>nomatch z) fin
     | str y =>obtain ⟨tk,q⟩:=(show ∃ t,_ = Value.str y t from rx); cases q; cases (show t = "str" from ty); exact PySem.W.kia_one PySem.W.kitx_str I.kIn True.intro e (fun z =>nomatch z) fin
     | ref a =>
       cases (show _ = Value.ref a from rx)
       rcases (show (t = "list" ∧ ∃ xs,SqL X.K H a xs) ∨ (t = "tuple" ∧ ∃ xs,SqT X.K H a xs) ∨ (t = "dict" ∧ ∃ kvs,IsK H a kvs) from ty) with ⟨rfl,xs,h⟩ | ⟨rfl,xs,h⟩ | ⟨rfl,kvs,ep,h⟩
       ·obtain ⟨its,_,pl,_⟩:=I.list h
        obtain ⟨o,ho,hc,_⟩:=pl.isList
        exact PySem.W.kia_one PySem.W.kitx_list I.kIn ⟨o,ho,hc⟩ e (fun z =>nomatch z) fin
       ·obtain ⟨its,_,pl,_⟩:=I.tuple h
        obtain ⟨o,ho,hc,_⟩:=pl
        exact PySem.W.kia_one PySem.W.kitx_tuple I.kIn ⟨o,ho,hc⟩ e (fun z =>nomatch z) fin
       ·obtain ⟨_,_,vs,_,p⟩:=(show ObjOk X.prog X.w H s.heap a (.dK kvs ep) from I.hok a _ h)
        obtain ⟨o,es,h1,h2,_⟩:=p
        exact PySem.W.kia_one PySem.W.kitx_dict I.kIn ⟨o,h1,h2.1⟩ e (fun z =>nomatch z) fin
     | _ =>exact (show False from ty).elim
noncomputable def subB (t T:String):Bool:=t == T || (t == "bool" && T == "int")
theorem kit_all (K:PySem.W.Frag):∀ t ∈ ["NoneType","bool","int","str","list","tuple","dict"],∀ T ∈ ["int","bool","str","tuple","list","dict"],PySem.W.kitOne K (.type t) (.type T) = some (subB t T):=by
 intro t ht T hT
 simp only [List.mem_cons,List.not_mem_nil,or_false] at ht hT
 rcases ht with rfl | rfl | rfl | rfl | rfl | rfl | rfl <;> rcases hT with rfl | rfl | rfl | rfl | rfl | rfl <;> (with_unfolding_all rfl)
theorem ty_mem {ty:Ty} {T:String} (h:tyName ty = some T):T ∈ ["int","bool","str","tuple","list","dict"]:=by
 cases ty <;> simp [tyName] at h <;> subst h <;> simp
theorem isD_ty {o:Orc} {ty:Ty} {T:String} {d:D} {b:Bool} {v:V} (hk:W.K = X.K) (hT:tyName ty = some T) (h:RepT W H (vis H B) d v) (e:isD o ty d = some b):∃ t,TyS X.K H v t ∧ t ∈ ["NoneType","bool","int","str","list","tuple","dict"] ∧ subB t T = b:=by
 cases d with
 | non =>
   simp only [RepT,Rep] at h; subst h
   refine ⟨"NoneType",rfl,by simp,?_⟩
   cases ty <;> simp [tyName] at hT <;> subst hT <;> simp [isD] at e <;> subst e <;> rfl
 | bl x =>
   simp only [RepT,Rep] at h; subst h
   refine ⟨"bool",rfl,by simp,?_⟩
   cases ty <;> simp [tyName] at hT <;> subst hT <;> simp [isD] at e <;> subst e <;> rfl
 | int x =>
   simp only [RepT,Rep] at h; subst h
   refine ⟨"int",rfl,by simp,?_⟩
   cases ty <;> simp [tyName] at hT <;> subst hT <;> simp [isD] at e <;> subst e <;> rfl
 | str x =>
   obtain ⟨rfl,_⟩:=repT_str h
   refine ⟨"str",rfl,by simp,?_⟩
   cases ty <;> simp [tyName] at hT <;> subst hT <;> simp [isD] at e <;> subst e <;> rfl
 | tup l =>
   simp only [RepT,Rep] at h
   obtain ⟨a,xs,rfl,h1,h2⟩:=h
   refine ⟨"tuple",.inr (.inl ⟨rfl,xs,hk ▸ same_tup vis_le h1⟩),by simp,?_⟩
   cases ty <;> simp [tyName] at hT <;> subst hT <;> simp [isD] at e <;> subst e <;> rfl
 | lst l =>
   obtain ⟨a,xs,rfl,h1,h2⟩:=h
   refine ⟨"list",.inl ⟨rfl,xs,hk ▸ h1⟩,by simp,?_⟩
   cases ty <;> simp [tyName] at hT <;> subst hT <;> simp [isD] at e <;> subst e <;> rfl
 | dct ks vs =>
   obtain ⟨a,kvs,rfl,h1,h2⟩:=h
   refine ⟨"dict",.inr (.inr ⟨rfl,kvs,h1⟩),by simp,?_⟩
   cases ty <;> simp [tyName] at hT <;> subst hT <;> simp [isD] at e <;> subst e <;> rfl
theorem d_isin {o:Orc} {ty:Ty} {T:String} {tn:Str} {p2:Pos} (hk:W.K = X.K) (hT:tyName ty = some T) (hg:Gl X "isinstance") (hm:X.mg "isinstance" = none) (hg2:Gl X tn) (hm2:X.mg tn = none) (hv2:bootBuiltins tn = some (.type T)) (hx2:tn ≠ "__name__") (hd2:(tn == ("__debug__":Str)) = false)
 (ha:PE X a (tD X W true fa)) (he:starEach [a,.Name tn p2] X.env = (false,eval a X.env) :: starEach [.Name tn p2] X.env) :
 PE X (.Call (.Name "isinstance" p) [a,.Name tn p2] [] pos) (tD X W lk fun δ =>(fa δ).bind fun x =>.of ((isD o ty x.2).map fun t =>(false,.bl t))):=by
 refine PE.imp (pe_callB call_is hg hm PyProof.Rows.boot_isinstance (pa_cons ha (pa_cons (pe_bltn (v:=.ty T) hg2 hm2 hv2 rfl hx2 hd2) pa_nil) he) (by decide) (by decide) he rfl) fun σ H Q h =>?_
 obtain ⟨me,B,δ,S,h⟩:=tD_iff.mp h
 refine tD.mono (part S h) fun v H1 ⟨r1,e1,S1,s1,t1,_,h1⟩ =>?_
 cases e:isD o ty r1.2 with
 | none =>rw [e] at h1; exact h1.elim
 | some b =>
   rw [e] at h1
   obtain ⟨t,h2,h3,h4⟩:=isD_ty hk hT t1 e
   exact ⟨v,T,t,b,rfl,h2,by rw [kit_all _ t h3 T (ty_mem hT),h4],h1 _ H1 (Same.refl _) res_bl⟩
noncomputable def TgOk (X:Cx) (W:Wd) (tg:Expr) (is:List Nat) (tup:Bool) (g:TG):Prop:=PG X tg g ∧
 ∀ {me:Option Addr} {B:Addr → Prop} {σ:L2.St} {H:Hp} {δ δ1:Dst} {d:D} {ds:List D} {v:V} {C:L2.St → Hp → Prop},SR X W me B H σ δ → Rep W (vis H (Hid B σ δ)) d v → takes is.length tup d = some ds → setSlots δ is ds = some δ1 →
  (∀ σ1,SR X W me B H σ1 δ1 → Same (vis H (Hid B σ δ)) (vis H (Hid B σ1 δ1)) → C σ1 H) → g v σ H C
theorem store1 {i:Nat} {d:D} {v:V} {δ1:Dst} (S:SR X W me B H σ δ) (r:Rep W (vis H (Hid B σ δ)) d v) (e:setSlot δ i false d = some δ1):SR X W me B H (σ.set i (some v)) δ1 ∧ Same (vis H (Hid B σ δ)) (vis H (Hid B (σ.set i (some v)) δ1)):=by
 obtain ⟨h1,rfl⟩:=setSlot_ok e
 exact S.store (w:=false) (Same.refl H) (.shared r) h1
theorem tg_name {i:Nat} {x:Str} {pos:Pos} (hN:X.N.Nodup) (hi:X.N[i]? = some x) (hx:Loc X.env.scope x) (hf:X.fn x = true ∨ X.env.scope.names.lookup x = some .local):TgOk X W (.Name x pos) [i] false (gName i):=by
 refine ⟨pg_name hN hi hx hf,fun {me B σ H δ δ1 d ds v C} S r e1 e2 k =>?_⟩
 simp only [takes,Bool.false_eq_true,if_false,Option.some.injEq] at e1
 subst e1
 simp only [setSlots] at e2
 cases e3:setSlot δ i false d with
 | none =>rw [e3] at e2; cases e2
 | some δ' =>
   rw [e3] at e2
   cases e2
   obtain ⟨S1,s1⟩:=store1 S r e3
   exact k _ S1 s1
noncomputable def gNames:List Nat → TGs
 | [] =>gNil
 | i :: l =>gCons (gName i) (gNames l)
theorem names_store {C:L2.St → Hp → Prop}:∀ {is:List Nat} {ds:List D} {vs:List V} {σ:L2.St} {δ δ1:Dst},SR X W me B H σ δ → Reps W (vis H (Hid B σ δ)) ds vs → setSlots δ is ds = some δ1 →
 (∀ σ1,SR X W me B H σ1 δ1 → Same (vis H (Hid B σ δ)) (vis H (Hid B σ1 δ1)) → C σ1 H) → gNames is vs σ H C
 | [],[],[],σ,δ,δ1,S,r,e,k =>by
   simp only [setSlots,Option.some.injEq] at e
   subst e
   exact ⟨rfl,k σ S (Same.refl _)⟩
 | [],[],_ :: _,_,_,_,_,r,_,_ =>by simp only [Reps] at r
 | [],_ :: _,_,_,_,_,_,_,e,_ =>by simp [setSlots] at e
 | _ :: _,[],_,_,_,_,_,_,e,_ =>by simp [setSlots] at e
 | _ :: _,_ :: _,[],_,_,_,_,r,_,_ =>by simp only [Reps] at r
 | i :: is,d :: ds,v :: vs,σ,δ,δ1,S,r,e,k =>by
   simp only [Reps] at r
   simp only [setSlots] at e
   cases e3:setSlot δ i false d with
   | none =>rw [e3] at e; cases e
   | some δ' =>
     rw [e3] at e
     obtain ⟨S1,s1⟩:=store1 S r.1 e3
     exact ⟨v,vs,rfl,names_store S1 (r.2.mono s1) e fun σ1 S2 s2 =>k σ1 S2 (s1.trans s2)⟩
theorem tg_tup {es:List Expr} {is:List Nat} {kk:Nat} {pos:Pos} (hk:W.K = X.K) (hc:X.calm = true) (h:PGs X es (gNames is)) (hn:(assignEach es X.env).length = is.length) (hst:(assignEach es X.env).findIdx? (·.1) = none):TgOk X W (.Tuple es kk pos) is true (gTup X.K is.length (gNames is)):=by
 refine ⟨pg_tup hc h hn hst,fun {me B σ H δ δ1 d ds v C} S r e1 e2 k =>?_⟩
 simp only [takes,if_true] at e1
 cases d with
 | tup l =>
   simp only at e1
   split at e1
   ·rename_i hl
    cases e1
    simp only [Rep] at r
    obtain ⟨a,xs,rfl,r1,r2⟩:=r
    exact ⟨a,xs,rfl,hk ▸ same_tup vis_le r1,by rw [← r2.length]; exact hl,names_store S r2 e2 k⟩
   ·cases e1
 | _ =>simp at e1
theorem PI.or {tg e:Expr} {t t':L2.TI} (h:PI X tg e t) (h':PI X tg e t'):PI X tg e (fun σ H R =>t σ H R ∨ t' σ H R):=by
 intro pins s σ H R I q
 rcases q with q | q
 ·exact h pins s σ H R I q
 ·exact h' pins s σ H R I q
theorem PI.imp {tg e:Expr} {t t':L2.TI} (h:PI X tg e t) (i:∀ σ H R,t' σ H R → t σ H R):PI X tg e t':=fun pins s σ H R I hw =>h pins s σ H R I (i σ H R hw)
noncomputable def start0 (ds:List D) (n:Nat):Dst:=ds.map (fun d =>some (Own.sh,d)) ++ List.replicate n none
theorem start0_get {ds:List D} {n i:Nat} {w:Own} {d:D} (h:(start0 ds n)[i]? = some (some (w,d))):w = .sh ∧ ds[i]? = some d:=by
 unfold start0 at h
 by_cases hi:i < ds.length
 ·rw [List.getElem?_append_left (by simpa using hi),List.getElem?_map] at h
  cases e:ds[i]? with
  | none =>rw [e] at h; cases h
  | some x =>rw [e] at h; cases h; exact ⟨rfl,rfl⟩
 ·rw [List.getElem?_append_right (by simpa using hi),List.getElem?_replicate] at h
  split at h <;> cases h
theorem start_get {N:List Str} {vs:List V} {i:Nat} {v:V} (h:vs[i]? = some v):(L2.start N vs)[i]? = some (some v):=by
 unfold L2.start
 have hi:i < vs.length:=(List.getElem?_eq_some_iff.mp h).1
 rw [List.getElem?_append_left (by simpa using hi),List.getElem?_map,h]
 rfl
theorem SR.start {N:List Str} {ds:List D} {vs:List V} (hk:W.K = X.K) (h0:X.H₀ = H) (hb:Soft H B) (hg:∀ b,B b → ∃ o,H b = some o) (hr:Reps W (vis H B) ds vs) (hl:vs.length ≤ N.length) :
 SR X W none B H (L2.start N vs) (start0 ds (N.length - vs.length)):=by
 have hid:∀ b,Hid B (L2.start N vs) (start0 ds (N.length - vs.length)) b → B b:=fun b hb =>by
  rcases hb with hb | ⟨i,⟨w,d,h1,h2⟩,_⟩
  ·exact hb
  ·exact absurd (start0_get h1).1 h2
 refine ⟨hk,?_,fun i d h =>?_,fun i d h =>?_,fun i d h =>?_,fun i j a h1 _ =>?_,fun b o h _ =>by rw [← h0]; exact h,hb,hg,fun x h =>nomatch h⟩
 ·unfold L2.start start0
  simp [hr.length]
 ·obtain ⟨v,e1,e2⟩:=hr.get (start0_get h).2
  exact ⟨v,start_get e1,e2.mono (vis_sub hid)⟩
 ·exact absurd (start0_get h).1 (by decide)
 ·exact absurd (start0_get h).1 (by decide)
 ·obtain ⟨⟨w,d,h1,h2⟩,_⟩:=h1
  exact absurd (start0_get h1).1 h2
theorem fn_sound {P:Program} {w:World} {K:PySem.W.Frag} {mg:Str → Option Value} {base:Heap} {x qual:Str} {st:Stmt} {f:Addr} {fd:FuncData} {N ps:List Str} {k:Nat} {o:Orc} {W:Wd} {np ns:Nat} {body:SL}
 (F:Fun K x qual st f fd) (Sc:FnScope N ps (defScope st)) (hp:ps.length = np) (hn:N.length = ns)
 (hb:∀ (cdv:Value) (A:Around) (outer:List Env) (s:Shared) (H:Hp) (E:XK),Room k (A.deeper (envOfC qual (defScope st) s.heap.objs.size f cdv)) →
  PSs (cxOf CX0 P w K mg base N qual (defScope st) f cdv A outer s H E).nox (defBody st) (tS (cxOf CX0 P w K mg base N qual (defScope st) f cdv A outer s H E).nox W (evSs o body))) (hk:W.K = K) :
 FnOk P w K mg base CX0 (k + 1) f fd ps (spFn W (runFn o ⟨np,ns,body⟩) np):=by
 refine F.ok Sc (fun vs H Q E h =>by rw [hp]; exact h.1) (fun cdv A outer s H vs Q E hr h =>?_)
 obtain ⟨hl,B,ds,b1,b2,b3,r,e,k1⟩:=h
 refine ⟨_,hb cdv A outer s H E hr,?_⟩
 have hle:vs.length ≤ N.length:=by
  have:=congrArg List.length Sc.pre
  rw [List.length_take] at this
  omega
 refine ⟨none,B,_,SR.start (N:=N) (by exact hk) rfl b1 b2 b3 hle,?_⟩
 have hdl:=b3.length
 have e':(match evSs o body (start0 ds (N.length - vs.length)) with | .rt w d _ =>R.ok (w,d) | .nx _ =>.ok (false,.non) | .ex c _ =>.exc c | _ =>.stuck) = R.ok r:=by
  unfold runFn at e
  rw [if_pos (by rw [hdl]; exact hl)] at e
  unfold start0
  rw [hn,hl]
  exact e
 have same:∀ {σ':L2.St} {H':Hp} {δ':Dst},SR (cxOf CX0 P w K mg base N qual (defScope st) f cdv A outer s H E).nox W none B H' σ' δ' → Same H H':=fun S' b o h =>S'.same b o h (by simp)
 cases e2:evSs o body (start0 ds (N.length - vs.length)) with
 | rt w d δ' =>
   rw [e2] at e'
   cases e'
   exact fun v σ' H' S' _ q =>k1 v H' (same S') q
 | nx δ' =>
   rw [e2] at e'
   cases e'
   exact fun σ' H' S' _ =>k1 .non H' (same S') (.shared (by simp only [Rep]))
 | bk δ' =>rw [e2] at e'; cases e'
 | ct δ' =>rw [e2] at e'; cases e'
 | ex c δ' =>rw [e2] at e'; cases e'
 | stuck =>rw [e2] at e'; cases e'
end
end Z

namespace Z
open PySem PySem.Spec PyProof.Rows L2
section
variable {X:Cx} {W:Wd} {lk lk':Bool} {σ:L2.St} {H H1 H':Hp} {me:Option Addr} {B:Addr → Prop} {δ:Dst} {Q Q':VK} {a b:Expr} {pos p:Pos} {fa fb fc:Dst → R (Bool × D)}
section
open PySem.SeqAt
open PySem.AutoSeq1 (wpAny_loadPart')
open MeetsSeq
theorem list_addW (l b:Addr) (items items2:Array Value) (n n2:Nat) (dd dd2:Option Addr) (sl sl2:Array (Option Value)) (hc0:items.size + items2.size ≤ sizeLine) :
 Meets (Builtin.«list.__add__» ⟨[.ref l,.ref b],[]⟩) (fun _ R s =>s.heap.get? l = some { cls:=.type "list",dict:=dd,data:=.seq items n,slots:=sl } ∧ s.heap.get? b = some { cls:=.type "list",dict:=dd2,data:=.seq items2 n2,slots:=sl2 } ∧
  R (.ok (.ret (Value.ref s.heap.objs.size))) { s with heap:=s.heap.push { cls:=Value.type "list",data:=Data.seq (items ++ items2) } }) :=
 .of_wp fun prog w A R s h =>by
  obtain ⟨hp,g,d,tk,os⟩:=s; obtain ⟨hl,hb,h⟩:=h
  have f1:=PySem.AutoSeq1.idx_int; have f2:=PySem.AutoSeq1.sub_tuple_tuple; have f3:=PySem.AutoSeq1.sub_list_list; have f4:=PySem.AutoSeq1.sub_tuple_list; have f5:=PySem.AutoSeq1.sub_list_tuple
  wp_walk using wpAny_loadPart' hl,wpAny_loadPart' hb; exact ⟨_,rfl,h⟩
end
noncomputable def rCatR (K:PySem.W.Frag):R2:=fun x y H Q =>∃ l b xs zs,x = .ref l ∧ y = .ref b ∧ SqL K H l xs ∧ SqL K H b zs ∧ xs.length + zs.length ≤ sizeLine ∧ ∀ p,H p = none → Q (.ref p) (upd H p (.lst (xs ++ zs)))
theorem op_catR:OpR X (binaryOp .Add) (rCatR X.K):=by
 intro pins s σ H x y v u Q I rx ry h
 obtain ⟨l,b,xs,zs,rfl,rfl,hH,hB,hz,q⟩:=h
 cases rx
 cases ry
 obtain ⟨its,r,⟨⟨cls,dd,data,sl⟩,n,ho,hc,_,hd⟩,z⟩:=I.list hH
 obtain ⟨its2,r2,⟨⟨cls2,dd2,data2,sl2⟩,n2,ho2,hc2,_,hd2⟩,z2⟩:=I.list hB
 simp only at hc hd hc2 hd2
 subst hc hd hc2 hd2
 have l1:=r.length
 have l2:=r2.length
 have ea:its.toArray ++ its2.toArray = (its ++ its2).toArray:=by simp
 refine concat_meets ⟨_,ho,rfl⟩ ⟨_,ho2,rfl⟩ noFill_list_add seq_list_add PySem.F.slot_list_add PySem.F.entry_list_add (PySem.F.args_list_add_2 _ _) (list_addW l b its.toArray its2.toArray n n2 dd dd2 sl sl2 (by rw [List.size_toArray,List.size_toArray]; omega)) ⟨ho,ho2,?_⟩
 rw [ea]
 exact ⟨.ref _,_,I.lnew (t':=s.toks) (r.append r2) (by rw [List.length_append]; omega),rfl,q _ I.fresh⟩
noncomputable def rCatT0 (K:PySem.W.Frag):R2:=fun x y H Q =>∃ a b ys,x = .ref a ∧ y = .ref b ∧ SqT K H a [] ∧ SqT K H b ys ∧ Q (.ref b) H
theorem op_catT0:OpR X (binaryOp .Add) (rCatT0 X.K):=by
 intro pins s σ H x y v u Q I rx ry h
 obtain ⟨a,b,ys,rfl,rfl,ha,hb,q⟩:=h
 cases rx
 cases ry
 obtain ⟨its,r1,p1,_⟩:=I.tuple ha
 obtain ⟨its2,r2,p2,_⟩:=I.tuple hb
 cases r1
 obtain ⟨⟨cls,dd,data,sl⟩,ho,hc,n,hd⟩:=id p1
 obtain ⟨⟨cls2,dd2,data2,sl2⟩,ho2,hc2,n2,hd2⟩:=id p2
 simp only at hc hd hc2 hd2
 subst hc hd hc2 hd2
 exact concat_meets ⟨_,ho,rfl⟩ ⟨_,ho2,rfl⟩ noFill_tuple_add seq_tuple_add PySem.F.slot_tuple_add PySem.F.entry_tuple_add (PySem.F.args_tuple_add_2 _ _)
  (tuple_addW0 a b _ its2.toArray n n2 dd dd2 sl sl2 (by simp)) ⟨ho,ho2,⟨.ref b,H,I,rfl,q⟩⟩
noncomputable def rAddAll (K:PySem.W.Frag):R2:=fun x y H Q =>(((rI0 (fun i j =>.int (i + j)) x y H Q ∨ (∃ i j,x = .str i ∧ y = .str j ∧ i.length + j.length ≤ sizeLine ∧ Q (.str (i ++ j)) H)) ∨ rCatR K x y H Q) ∨ rCatT K x y H Q) ∨ rCatT0 K x y H Q
theorem op_addAll:OpR X (binaryOp .Add) (rAddAll X.K):=OpR.or (OpR.or (OpR.or (OpR.or op_add op_add_str) op_catR) op_catT) op_catT0
theorem size_le {n:Nat} (h:size n = true):n ≤ sizeLine:=by rw [sizeLine_eq]; simpa [size] using h
theorem strV_append (x y:List Nat):strV x ++ strV y = strV (x ++ y):=by
 show (⟨(strV x).cps ++ (strV y).cps⟩:Str) = _
 simp [strV]
theorem strV_len (x:List Nat):(strV x).length = x.length:=by simp [strV,Str.length]
theorem sem_add (hk:W.K = X.K):Sem2 W (rAddAll X.K) (o2 .add):=by
 intro lk P H x y dx dy Q w d hS hK hx hy e k
 cases dx <;> cases dy <;> first | exact nope e | exact nopeR e | simp only [o2] at e
 ·simp only [arith] at e
  cases e
  exact .inl (.inl (.inl (.inl ⟨_,_,repT_int hx,repT_int hy,k _ H (Same.refl H) res_int⟩)))
 ·obtain ⟨h1,e⟩:=chk_ok e
  cases e
  obtain ⟨rfl,l1⟩:=repT_str hx
  obtain ⟨rfl,l2⟩:=repT_str hy
  refine .inl (.inl (.inl (.inr ⟨_,_,rfl,rfl,by rw [strV_len,strV_len]; exact size_le h1,?_⟩)))
  rw [strV_append]
  exact k _ H (Same.refl H) (res_str (by rw [List.length_append]; simpa [size] using h1))
 ·obtain ⟨h1,e⟩:=chk_ok e
  cases e
  simp only [RepT,Rep] at hx hy
  obtain ⟨a,xs,rfl,q1,q2⟩:=hx
  obtain ⟨b,ys,rfl,p1,p2⟩:=hy
  have hz:xs.length + ys.length ≤ sizeLine:=by rw [← q2.length,← p2.length]; exact size_le h1
  by_cases hx:xs = []
  ·subst hx
   have hl:_ = []:=List.eq_nil_of_length_eq_zero q2.length
   refine .inr ⟨a,b,ys,rfl,rfl,hk ▸ same_tup vis_le q1,hk ▸ same_tup vis_le p1,k _ H (Same.refl H) (.shared ?_)⟩
   simp only [Rep]
   rw [hl]
   exact ⟨b,ys,rfl,p1,p2⟩
  ·refine .inl (.inr ⟨a,b,xs,ys,rfl,rfl,hk ▸ same_tup vis_le q1,hk ▸ same_tup vis_le p1,hx,hz,fun hy =>?_,fun _ p hp =>?_⟩)
   ·subst hy
    have hl:_ = []:=List.eq_nil_of_length_eq_zero p2.length
    refine k _ H (Same.refl H) (.shared ?_)
    simp only [Rep]
    rw [hl,List.append_nil]
    exact ⟨a,xs,rfl,q1,q2⟩
   ·exact k _ _ (Same.upd hp) (res_newT hp (q2.append p2) hK)
 ·obtain ⟨h1,e⟩:=chk_ok e
  cases e
  obtain ⟨a,xs,rfl,q1,q2⟩:=hx
  obtain ⟨b,ys,rfl,p1,p2⟩:=hy
  refine .inl (.inl (.inr ⟨a,b,xs,ys,rfl,rfl,hk ▸ q1,hk ▸ p1,by rw [← q2.length,← p2.length]; exact size_le h1,fun p hp =>?_⟩))
  exact k _ _ (Same.upd hp) (res_new hp (q2.append p2) hK)
theorem scal_of {dx dy:D} {x y:V} {G:Hp} {t:Bool} (hx:RepT W H G dx x) (hy:RepT W H G dy y) (e:eqS dx dy = some t):scal x y = true ∧ decide (x = y) = t:=by
 cases dx <;> cases dy <;> first | exact nope e | exact nopeR e | simp only [eqS] at e
 all_goals simp only [Option.some.injEq] at e
 all_goals (first | (have hx:=(repT_str hx).1) | (simp only [RepT,Rep] at hx))
 all_goals (first | (have hy:=(repT_str hy).1) | (simp only [RepT,Rep] at hy))
 all_goals subst hx
 all_goals subst hy
 all_goals (refine ⟨rfl,?_⟩; rw [← e])
 all_goals first
  | simp
  | skip
 all_goals exact ⟨fun h =>strV_inj h,fun h =>by rw [h]⟩
mutual
noncomputable def pd:D → PyData
 | .non =>.none
 | .bl b =>.bool b
 | .int i =>.int i
 | .str x =>.str (strV x)
 | .tup l =>.tuple (pdL l)
 | .lst l =>.list (pdL l)
 | .dct _ _ =>.none
noncomputable def pdL:List D → List PyData
 | [] =>[]
 | d :: l =>pd d :: pdL l
end
theorem okD_lst {n:Nat} {l:List D} (h:okD n (.lst l) = true):∃ m,n = m + 1 ∧ l.all (okD m) = true:=by
 cases n with
 | zero =>simp [okD] at h
 | succ m =>exact ⟨m,rfl,by simpa only [okD] using h⟩
theorem okD_tup {n:Nat} {l:List D} (h:okD n (.tup l) = true):∃ m,n = m + 1 ∧ l.all (okD m) = true:=by
 cases n with
 | zero =>simp [okD] at h
 | succ m =>exact ⟨m,rfl,by simpa only [okD] using h⟩
mutual
theorem pd_ok:∀ {d:D} {n:Nat},okD n d = true → (pd d).canLay0 = true ∧ (pd d).depth ≤ n
 | .non,_,_ =>⟨rfl,Nat.zero_le _⟩
 | .bl _,_,_ =>⟨rfl,Nat.zero_le _⟩
 | .int _,_,_ =>⟨rfl,Nat.zero_le _⟩
 | .str x,n,h =>by
   refine ⟨?_,Nat.zero_le _⟩
   have h:(x.all fun c =>decide (c < 1114112)) = true:=by cases n <;> simpa only [okD] using h
   simp only [pd,PyData.canLay0,PyData.strOk,strV]
   simpa using h
 | .tup l,n,h =>by
   obtain ⟨m,rfl,h⟩:=okD_tup h
   obtain ⟨h1,h2⟩:=pdL_ok h
   simp only [pd,PyData.canLay0,PyData.depth]
   exact ⟨h1,by omega⟩
 | .lst l,n,h =>by
   obtain ⟨m,rfl,h⟩:=okD_lst h
   obtain ⟨h1,h2⟩:=pdL_ok h
   simp only [pd,PyData.canLay0,PyData.depth]
   exact ⟨h1,by omega⟩
 | .dct _ _,n,h =>by cases n <;> simp [okD] at h
theorem pdL_ok:∀ {l:List D} {n:Nat},l.all (okD n) = true → PyData.canLayAll0 (pdL l) = true ∧ PyData.depthAll (pdL l) ≤ n
 | [],_,_ =>⟨rfl,Nat.zero_le _⟩
 | d :: l,n,h =>by
   rw [List.all_cons,Bool.and_eq_true] at h
   obtain ⟨h1,h2⟩:=pd_ok h.1
   obtain ⟨h3,h4⟩:=pdL_ok h.2
   simp only [pdL,PyData.canLayAll0,PyData.depthAll,h1,h3,Bool.and_self,true_and]
   omega
end
mutual
theorem pd_eq:∀ {a b:D} {n m:Nat},okD n a = true → okD m b = true → PyData.eqv (pd a) (pd b) = eqB a b
 | .non,b,_,m,_,hb =>by cases b <;> cases m <;> first | rfl | (simp [okD] at hb)
 | .bl _,b,_,m,_,hb =>by cases b <;> cases m <;> first | rfl | (simp [okD] at hb)
 | .int _,b,_,m,_,hb =>by cases b <;> cases m <;> first | rfl | (simp [okD] at hb)
 | .str x,.str y,_,_,_,_ =>by
   simp only [pd,PyData.eqv,eqB]
   rw [Bool.eq_iff_iff]
   simp only [beq_iff_eq]
   exact ⟨fun z =>strV_inj z,fun z =>by rw [z]⟩
 | .str _,.non,_,_,_,_ =>rfl
 | .str _,.bl _,_,_,_,_ =>rfl
 | .str _,.int _,_,_,_,_ =>rfl
 | .str _,.tup _,_,_,_,_ =>rfl
 | .str _,.lst _,_,_,_,_ =>rfl
 | .tup x,.tup y,n,m,ha,hb =>by
   obtain ⟨_,rfl,ha⟩:=okD_tup ha
   obtain ⟨_,rfl,hb⟩:=okD_tup hb
   simp only [pd,PyData.eqv,eqB,pdL_eq ha hb]
 | .tup _,.non,_,_,_,_ =>rfl
 | .tup _,.bl _,_,_,_,_ =>rfl
 | .tup _,.int _,_,_,_,_ =>rfl
 | .tup _,.str _,_,_,_,_ =>rfl
 | .tup _,.lst _,_,_,_,_ =>rfl
 | .lst x,.lst y,n,m,ha,hb =>by
   obtain ⟨_,rfl,ha⟩:=okD_lst ha
   obtain ⟨_,rfl,hb⟩:=okD_lst hb
   simp only [pd,PyData.eqv,eqB,pdL_eq ha hb]
 | .lst _,.non,_,_,_,_ =>rfl
 | .lst _,.bl _,_,_,_,_ =>rfl
 | .lst _,.int _,_,_,_,_ =>rfl
 | .lst _,.str _,_,_,_,_ =>rfl
 | .lst _,.tup _,_,_,_,_ =>rfl
 | .dct _ _,_,n,_,ha,_ =>by cases n <;> simp [okD] at ha
 | _,.dct _ _,_,m,_,hb =>by cases m <;> simp [okD] at hb
theorem pdL_eq:∀ {a b:List D} {n m:Nat},a.all (okD n) = true → b.all (okD m) = true → PyData.eqvAll (pdL a) (pdL b) = eqBs a b
 | [],[],_,_,_,_ =>rfl
 | [],_ :: _,_,_,_,_ =>rfl
 | _ :: _,[],_,_,_,_ =>rfl
 | x :: a,y :: b,n,m,ha,hb =>by
   rw [List.all_cons,Bool.and_eq_true] at ha hb
   simp only [pdL,PyData.eqvAll,eqBs,pd_eq ha.1 hb.1,pdL_eq ha.2 hb.2]
end
mutual
theorem reads_rep {pins:List (Addr × Obj)} {s:Shared} {G:Hp} (hk:W.K = X.K) (I:Inv X pins σ H s) (g:Same G H):∀ {d:D} {n:Nat} {v:V} {u:Value},okD n d = true → Rep W G d v → RelV v u → ∃ as,Reads s.heap u (pd d) as
 | .non,_,v,u,_,r,q =>by simp only [Rep] at r; subst r; cases q; exact ⟨_,.none⟩
 | .bl b,_,v,u,_,r,q =>by simp only [Rep] at r; subst r; cases q; exact ⟨_,.bool b⟩
 | .int i,_,v,u,_,r,q =>by simp only [Rep] at r; subst r; obtain ⟨t,rfl⟩:=q; exact ⟨_,.int i t⟩
 | .str x,_,v,u,_,r,q =>by simp only [Rep] at r; rw [r.1] at q; obtain ⟨t,rfl⟩:=q; exact ⟨_,.str _ t⟩
 | .tup l,n,v,u,h,r,q =>by
   obtain ⟨m,rfl,h⟩:=okD_tup h
   simp only [Rep] at r
   obtain ⟨c,xs,rfl,r1,r2⟩:=r
   cases q
   obtain ⟨its,rv,⟨ob,e1,e2,e3,e4⟩,_⟩:=I.tuple (hk ▸ same_tup g r1)
   obtain ⟨as,ra⟩:=reads_reps hk I g h r2 rv
   exact ⟨_,.tuple e1 e2 e4 ra⟩
 | .lst l,n,v,u,h,r,q =>by
   obtain ⟨m,rfl,h⟩:=okD_lst h
   simp only [Rep] at r
   obtain ⟨c,xs,rfl,r1,r2⟩:=r
   cases q
   obtain ⟨its,rv,⟨ob,e3,e1,e2,_,e4⟩,_⟩:=I.list (hk ▸ g.seq r1)
   obtain ⟨as,ra⟩:=reads_reps hk I g h r2 rv
   exact ⟨_,.list e1 e2 e4 ra⟩
 | .dct _ _,n,_,_,h,_,_ =>by cases n <;> simp [okD] at h
theorem reads_reps {pins:List (Addr × Obj)} {s:Shared} {G:Hp} (hk:W.K = X.K) (I:Inv X pins σ H s) (g:Same G H):∀ {l:List D} {n:Nat} {vs:List V} {us:List Value},l.all (okD n) = true → Reps W G l vs → Vals vs us → ∃ as,ReadsAll s.heap us (pdL l) as
 | [],_,[],us,_,_,q =>by cases q; exact ⟨_,.nil⟩
 | [],_,_ :: _,_,_,r,_ =>by simp only [Reps] at r
 | _ :: _,_,[],_,_,r,_ =>by simp only [Reps] at r
 | d :: l,n,v :: vs,us,h,r,q =>by
   rw [List.all_cons,Bool.and_eq_true] at h
   simp only [Reps] at r
   cases q with
   | cons q1 q2 =>
     obtain ⟨as,ra⟩:=reads_rep hk I g h.1 r.1 q1
     obtain ⟨bs,rb⟩:=reads_reps hk I g h.2 r.2 q2
     exact ⟨_,.cons ra rb⟩
end
theorem reads_top {pins:List (Addr × Obj)} {s:Shared} {P:Addr → Prop} {d:D} {v:V} {u:Value} (hk:W.K = X.K) (I:Inv X pins σ H s) (h:okD 60 d = true) (r:RepT W H (vis H P) d v) (q:RelV v u):∃ as,Reads s.heap u (pd d) as:=by
 cases d with
 | lst l =>
   obtain ⟨m,hm,h⟩:=okD_lst h
   obtain ⟨c,xs,rfl,r1,r2⟩:=r
   cases q
   obtain ⟨its,rv,⟨ob,e3,e1,e2,_,e4⟩,_⟩:=I.list (hk ▸ r1)
   obtain ⟨as,ra⟩:=reads_reps hk I vis_le h r2 rv
   exact ⟨_,.list e1 e2 e4 ra⟩
 | non =>exact reads_rep (G:=vis H P) hk I vis_le h r q
 | bl b =>exact reads_rep (G:=vis H P) hk I vis_le h r q
 | int b =>exact reads_rep (G:=vis H P) hk I vis_le h r q
 | str b =>exact reads_rep (G:=vis H P) hk I vis_le h r q
 | tup b =>exact reads_rep (G:=vis H P) hk I vis_le h r q
 | dct _ _ =>simp [okD] at h
noncomputable def rDeep (W:Wd) (neg:Bool):R2:=fun x y H Q =>∃ (P:Addr → Prop) (dx dy:D),okD 60 dx = true ∧ okD 60 dy = true ∧ RepT W H (vis H P) dx x ∧ RepT W H (vis H P) dy y ∧ Q (.bl (if neg then !eqB dx dy else eqB dx dy)) H
theorem shaped_of {d:D} (h:okD 60 d = true):PySem.SeqAt.shaped (pd d) = true:=by
 obtain ⟨h1,h2⟩:=pd_ok h
 simp only [PySem.SeqAt.shaped,h1,Bool.true_and,decide_eq_true_eq]
 omega
theorem op_deepEq (hk:W.K = X.K) (hu:X.A.units + 64 < cLine):OpR X (compareOp .Eq) (rDeep W false):=by
 intro pins s σ H x y v u Q I rx ry h
 obtain ⟨P,dx,dy,h1,h2,t1,t2,q⟩:=h
 obtain ⟨as,ra⟩:=reads_top hk I h1 t1 rx
 obtain ⟨bs,rb⟩:=reads_top hk I h2 t2 ry
 refine eq_dataH ra rb (shaped_of h1) (shaped_of h2) hu ?_
 rw [pd_eq h1 h2]
 exact ⟨.bl (eqB dx dy),H,I,rfl,q⟩
theorem op_deepNe (hk:W.K = X.K) (hu:X.A.units + 64 < cLine):OpR X (compareOp .NotEq) (rDeep W true):=by
 intro pins s σ H x y v u Q I rx ry h
 obtain ⟨P,dx,dy,h1,h2,t1,t2,q⟩:=h
 obtain ⟨as,ra⟩:=reads_top hk I h1 t1 rx
 obtain ⟨bs,rb⟩:=reads_top hk I h2 t2 ry
 refine ne_dataH ra rb (shaped_of h1) (shaped_of h2) hu ?_
 rw [pd_eq h1 h2]
 exact ⟨.bl !eqB dx dy,H,I,rfl,q⟩
theorem eqA_cases {a b:D} {t:Bool} (h:eqA a b = some t):eqS a b = some t ∨ (okD 60 a = true ∧ okD 60 b = true ∧ eqB a b = t):=by
 unfold eqA at h
 split at h
 ·rename_i e; cases h; exact .inl e
 ·split at h
  ·split at h
   ·rename_i hc
    cases h
    rw [Bool.and_eq_true] at hc
    exact .inr ⟨hc.1,hc.2,rfl⟩
   ·cases h
  ·split at h
   ·rename_i hc
    cases h
    rw [Bool.and_eq_true] at hc
    exact .inr ⟨hc.1,hc.2,rfl⟩
   ·cases h
  ·cases h
noncomputable def rEqAll (W:Wd):R2:=fun x y H Q =>rEq x y H Q ∨ rDeep W false x y H Q
noncomputable def rNeAll (W:Wd):R2:=fun x y H Q =>rNe x y H Q ∨ rDeep W true x y H Q
theorem sem_eq:Sem2 W (rEqAll W) (o2 .eq):=by
 intro lk P H x y dx dy Q w d hS hK hx hy e k
 simp only [o2] at e
 cases e1:eqA dx dy with
 | none =>rw [e1] at e; cases e
 | some t =>
   rw [e1] at e
   cases e
   rcases eqA_cases e1 with e1 | ⟨h1,h2,h3⟩
   ·obtain ⟨h1,h2⟩:=scal_of hx hy e1
    exact .inl ⟨h1,by rw [h2]; exact k _ H (Same.refl H) res_bl⟩
   ·exact .inr ⟨P,dx,dy,h1,h2,hx,hy,by rw [h3]; exact k _ H (Same.refl H) res_bl⟩
theorem sem_ne:Sem2 W (rNeAll W) (o2 .ne):=by
 intro lk P H x y dx dy Q w d hS hK hx hy e k
 simp only [o2] at e
 cases e1:eqA dx dy with
 | none =>rw [e1] at e; cases e
 | some t =>
   rw [e1] at e
   cases e
   rcases eqA_cases e1 with e1 | ⟨h1,h2,h3⟩
   ·obtain ⟨h1,h2⟩:=scal_of hx hy e1
    exact .inl ⟨h1,by rw [h2]; exact k _ H (Same.refl H) res_bl⟩
   ·exact .inr ⟨P,dx,dy,h1,h2,hx,hy,by rw [h3]; exact k _ H (Same.refl H) res_bl⟩
noncomputable def rLtAll:R2:=fun x y H Q =>rI0 (fun i j =>.bl (decide (i < j))) x y H Q ∨ (∃ i j,x = .str i ∧ y = .str j ∧ Q (.bl (decide (i.cps.toList < j.cps.toList))) H)
theorem op_ltAll:OpR X (compareOp .Lt) rLtAll:=OpR.or op_lt op_lt_str
theorem ltS_lt:∀ x y:List Nat,ltS x y = decide (x < y)
 | [],[] =>by simp [ltS]
 | [],b :: y =>by simp [ltS]
 | a :: x,[] =>by simp [ltS]
 | a :: x,b :: y =>by
   simp only [ltS,ltS_lt x y,List.cons_lt_cons_iff]
   by_cases h1:a < b
   ·simp [h1]
   ·by_cases h2:b < a
    ·have:a ≠ b:=by omega
     simp [h1,h2,this]
    ·have:a = b:=by omega
     simp [this]
theorem sem_lt:Sem2 W rLtAll (o2 .lt):=by
 intro lk P H x y dx dy Q w d hS hK hx hy e k
 cases dx <;> cases dy <;> first | exact nope e | exact nopeR e | simp only [o2] at e
 ·simp only [arith] at e
  cases e
  exact .inl ⟨_,_,repT_int hx,repT_int hy,k _ H (Same.refl H) res_bl⟩
 ·cases e
  obtain ⟨rfl,l1⟩:=repT_str hx
  obtain ⟨rfl,l2⟩:=repT_str hy
  refine .inr ⟨_,_,rfl,rfl,?_⟩
  rename_i sx sy
  have:decide ((strV sx).cps.toList < (strV sy).cps.toList) = ltS sx sy:=by rw [ltS_lt]; rfl
  rw [this]
  exact k _ H (Same.refl H) res_bl
noncomputable def rLeAll:R2:=fun x y H Q =>rI0 (fun i j =>.bl (decide (i ≤ j))) x y H Q ∨ (∃ i j,x = .str i ∧ y = .str j ∧ Q (.bl (!decide (j.cps.toList < i.cps.toList))) H)
theorem op_leAll:OpR X (compareOp .LtE) rLeAll:=OpR.or op_le (by
 intro pins s σ H x y v u Q I rx ry h
 obtain ⟨i,j,rfl,rfl,q⟩:=h
 obtain ⟨t,rfl⟩:=rx
 obtain ⟨t',rfl⟩:=ry
 exact PySem.P.le_str (fin_bl I q rfl))
theorem sem_le:Sem2 W rLeAll (o2 .le):=by
 intro lk P H x y dx dy Q w d hS hK hx hy e k
 cases dx <;> cases dy <;> first | exact nope e | exact nopeR e | simp only [o2] at e
 ·simp only [arith] at e
  cases e
  exact .inl ⟨_,_,repT_int hx,repT_int hy,k _ H (Same.refl H) res_bl⟩
 ·cases e
  obtain ⟨rfl,l1⟩:=repT_str hx
  obtain ⟨rfl,l2⟩:=repT_str hy
  refine .inr ⟨_,_,rfl,rfl,?_⟩
  rename_i sx sy
  have:decide ((strV sy).cps.toList < (strV sx).cps.toList) = ltS sy sx:=by rw [ltS_lt]; rfl
  rw [this]
  exact k _ H (Same.refl H) res_bl
theorem repT_non {G:Hp} {d:D} {x:V} (h:RepT W H G d x):x = .non ↔ d = .non:=by
 cases d with
 | non =>simpa [RepT,Rep] using h
 | str s =>have h:=(repT_str h).1; subst h; simp
 | bl b =>simp only [RepT,Rep] at h; subst h; simp
 | int i =>simp only [RepT,Rep] at h; subst h; simp
 | tup l =>simp only [RepT,Rep] at h; obtain ⟨a,xs,rfl,_⟩:=h; simp
 | lst l =>obtain ⟨a,xs,rfl,_⟩:=h; simp
 | dct ks vs =>obtain ⟨a,xs,rfl,_⟩:=h; simp
theorem sem_is:Sem2 W (fun x y H Q =>y = .non ∧ Q (.bl (decide (x = .non))) H) (o2 .is):=by
 intro lk P H x y dx dy Q w d hS hK hx hy e k
 cases dy <;> first | exact nope e | exact nopeR e | simp only [o2] at e
 refine ⟨(repT_non hy).mpr rfl,?_⟩
 by_cases h:dx = .non
 ·subst h
  cases e
  rw [decide_eq_true ((repT_non hx).mpr rfl)]
  exact k _ H (Same.refl H) res_bl
 ·have e':(false,D.bl false) = (w,d):=by cases dx <;> first | (exact absurd rfl h) | (cases e; rfl)
  cases e'
  rw [decide_eq_false (fun z =>h ((repT_non hx).mp z))]
  exact k _ H (Same.refl H) res_bl
theorem sem_isnot:Sem2 W (fun x y H Q =>y = .non ∧ Q (.bl (!decide (x = .non))) H) (o2 .isnot):=by
 intro lk P H x y dx dy Q w d hS hK hx hy e k
 cases dy <;> first | exact nope e | exact nopeR e | simp only [o2] at e
 refine ⟨(repT_non hy).mpr rfl,?_⟩
 by_cases h:dx = .non
 ·subst h
  cases e
  rw [decide_eq_true ((repT_non hx).mpr rfl)]
  exact k _ H (Same.refl H) res_bl
 ·have e':(false,D.bl true) = (w,d):=by cases dx <;> first | (exact absurd rfl h) | (cases e; rfl)
  cases e'
  rw [decide_eq_false (fun z =>h ((repT_non hx).mp z))]
  exact k _ H (Same.refl H) res_bl
end
end Z

namespace L2
open PySem PySem.Spec PyProof.Rows
theorem forIn_steps {α β:Type} {f:α → β → Sem (ForInStep β)} (step:α → β → β):∀ (l:List α) (c:β),(∀ x ∈ l,∀ c,f x c = pure (.yield (step x c))) → forIn l c f = pure (l.foldl (fun c x =>step x c) c)
 | [],c,_ =>rfl
 | x :: l,c,h =>by
   rw [List.forIn_cons,h x List.mem_cons_self,pure_bind]
   exact forIn_steps step l (step x c) fun y hy =>h y (List.mem_cons_of_mem _ hy)
noncomputable def closStep (env:Env) (x:Str × NameKind) (c:List (Str × Addr)):List (Str × Addr):=if x.2 = .free then (x.1,(env.cells.lookup x.1).getD 0) :: c else c
noncomputable def closCells (env:Env) (names:List (Str × NameKind)):List (Str × Addr):=names.foldl (fun c x =>closStep env x c) []
theorem clos_some {scope:Scope} {env:Env} (h:∀ y ∈ scope.names,y.2 = .free → ∃ c,env.cells.lookup y.1 = some c):closureFor scope env = pure (closCells env scope.names):=by
 simp only [closureFor]
 rw [forIn_steps (closStep env) scope.names [] (fun x hx c =>?_)]
 ·rfl
 ·obtain ⟨n,kind⟩:=x
  by_cases hk:kind = .free
  ·subst hk
   obtain ⟨a,e⟩:=h _ hx rfl
   simp only at e
   simp [closStep,cellOf,e]
  ·have hb:(kind == NameKind.free) = false:=by simpa using hk
   simp [closStep,hb,hk]
theorem clos_mem {env:Env} {p:Str × Addr}:∀ (names:List (Str × NameKind)) (acc:List (Str × Addr)),p ∈ names.foldl (fun c x =>closStep env x c) acc → p ∈ acc ∨ ((p.1,NameKind.free) ∈ names ∧ p.2 = (env.cells.lookup p.1).getD 0)
 | [],acc,h =>.inl h
 | (n,k) :: r,acc,h =>by
   rcases clos_mem r _ h with h | ⟨h1,h2⟩
   ·simp only [closStep] at h
    split at h
    ·rename_i hk
     rcases List.mem_cons.mp h with e | h
     ·subst e
      exact .inr ⟨by subst hk; exact List.mem_cons_self,rfl⟩
     ·exact .inl h
    ·exact .inl h
   ·exact .inr ⟨List.mem_cons_of_mem _ h1,h2⟩
theorem clos_old {env:Env} {p:Str × Addr}:∀ (names:List (Str × NameKind)) (acc:List (Str × Addr)),p ∈ acc → p ∈ names.foldl (fun c x =>closStep env x c) acc
 | [],_,h =>h
 | (n,k) :: r,acc,h =>by
   refine clos_old r _ ?_
   simp only [closStep]
   split
   ·exact List.mem_cons_of_mem _ h
   ·exact h
theorem clos_has {env:Env} {x:Str}:∀ (names:List (Str × NameKind)) (acc:List (Str × Addr)),(x,NameKind.free) ∈ names → (x,(env.cells.lookup x).getD 0) ∈ names.foldl (fun c x =>closStep env x c) acc
 | [],_,h =>by simp at h
 | (n,k) :: r,acc,h =>by
   rcases List.mem_cons.mp h with e | h
   ·cases e
    refine clos_old r _ ?_
    simp [closStep]
   ·exact clos_has r _ h
theorem lookup_key {α:Type} {x:Str} {c:α}:∀ {l:List (Str × α)},(x,c) ∈ l → ∃ c',l.lookup x = some c'
 | [],h =>by simp at h
 | (y,d) :: l,h =>by
   simp only [List.lookup_cons]
   cases e:(x == y) with
   | true =>exact ⟨d,rfl⟩
   | false =>
     rcases List.mem_cons.mp h with z | z
     ·cases z; simp at e
     ·exact lookup_key z
theorem clos_sub {env:Env} {names:List (Str × NameKind)} (h:∀ y ∈ names,y.2 = .free → ∃ c,env.cells.lookup y.1 = some c) {x:Str} {c:Addr} (e:(closCells env names).lookup x = some c):env.cells.lookup x = some c:=by
 have hm:=PySem.mem_of_lookup e
 rcases clos_mem names [] hm with z | ⟨h1,h2⟩
 ·simp at z
 ·obtain ⟨a,e'⟩:=h _ h1 rfl
  simp only at e' h2
  rw [e'] at h2 ⊢
  rw [h2]; rfl
theorem clos_get {env:Env} {names:List (Str × NameKind)} {x:Str} (h:(x,NameKind.free) ∈ names):∃ c,(closCells env names).lookup x = some c:=lookup_key (clos_has names [] h)
theorem relabel_lookup {scope:Scope} {env:Env} {x:Str}:(relabel scope env).names.lookup x = (scope.names.lookup x).map fun k =>if (k == .free && env.scope.kind == .function && env.kindOf x == some .cell) then .cell else k:=by
 show List.lookup x (scope.names.map fun (n,k) =>if (k == NameKind.free && env.scope.kind == .function && env.kindOf n == some .cell) then (n,NameKind.cell) else (n,k)) = _
 induction scope.names with
 | nil =>rfl
 | cons p r ih =>
   obtain ⟨n,k⟩:=p
   rw [List.map_cons]
   by_cases hx:x = n
   ·subst hx
    by_cases hc:(k == NameKind.free && env.scope.kind == .function && env.kindOf x == some .cell) = true
    ·simp only [hc,if_true,List.lookup_cons,beq_self_eq_true,Option.map_some]
    ·simp only [hc,if_false,List.lookup_cons,beq_self_eq_true,Option.map_some,Bool.false_eq_true]
   ·have hb:(x == n) = false:=by simpa using hx
    have e:List.lookup x ((if (k == NameKind.free && env.scope.kind == .function && env.kindOf n == some .cell) = true then (n,NameKind.cell) else (n,k)) :: (r.map fun (n,k) =>if (k == NameKind.free && env.scope.kind == .function && env.kindOf n == some .cell) then (n,NameKind.cell) else (n,k))) =
     List.lookup x (r.map fun (n,k) =>if (k == NameKind.free && env.scope.kind == .function && env.kindOf n == some .cell) then (n,NameKind.cell) else (n,k)):=by
     split <;> simp only [List.lookup_cons,hb]
    simp only [List.lookup_cons,hb]
    exact e.trans ih
noncomputable def cxC (X:Cx) (scope:Scope) (N:List Str) (fp:List Addr) (pins:List (Addr × Obj)) (s:Shared) (H:Hp):Cx :=
 { X with N:=N,s₀:=s,H₀:=H,env:=compEnvC scope (closCells X.env scope.names) s.heap.objs.size X.env,outer:=X.stack,ex:=fp,fn:=fun _ =>false,pn:=X.pn ++ pins }
structure Blk (scope:Scope):Prop where
 kind:scope.kind = .function
 nocell:∀ y ∈ scope.names,y.2 ≠ .cell
 loc:∀ y ∈ scope.names,y.2 = .local → scope.names.lookup y.1 = some .local
 fre:∀ y ∈ scope.names,y.2 = .free → scope.names.lookup y.1 = some .free
section
variable {X:Cx} {pins:List (Addr × Obj)} {σ:St} {H:Hp} {s:Shared} {scope:Scope} {N:List Str} {fp:List Addr}
theorem inv_comp {σ':St} {h₁:Heap} {tk:Nat} (I:Inv X pins σ H s) (B:Blk scope) (hfr:∀ y ∈ scope.names,y.2 = .free → ∃ c,X.env.cells.lookup y.1 = some c) (hf:∀ b ∈ fp,FpOk X pins H b) (hob:∀ b ∈ fp,∃ o,s.heap.get? b = some o)
 (hns:∃ m,h₁.Ns s.heap.objs.size m) (hkeep:∀ b o,s.heap.get? b = some o → h₁.get? b = some o) (hl:σ'.length = N.length)
 (hσ:∀ (i:Nat) (x:Str) (v:V),N[i]? = some x → σ'[i]? = some (some v) → scope.names.lookup x = some .free ∧ (X.env.scope.names.lookup x = some .cell ∨ X.env.scope.names.lookup x = some .free) ∧ ∃ j:Nat,X.N[j]? = some x ∧ σ[j]? = some (some v)) :
 Inv (cxC X scope N fp pins s H) [] σ' H { s with heap:=h₁,toks:=tk }:=by
 have lt:∀ {b:Addr} {o:Obj},s.heap.get? b = some o → b ≠ s.heap.objs.size:=fun e =>Nat.ne_of_lt (Heap.lt_size e)
 have kd:∀ x,((relabel scope X.env).names.lookup x = some .cell ∨ (relabel scope X.env).names.lookup x = some .free) → (x,NameKind.free) ∈ scope.names:=fun x hx =>by
  rw [relabel_lookup] at hx
  cases e:scope.names.lookup x with
  | none =>rw [e] at hx; simp at hx
  | some k =>
    have hm:=PySem.mem_of_lookup e
    rw [e] at hx
    simp only [Option.map_some,Option.some.injEq] at hx
    cases k with
    | free =>exact hm
    | cell =>exact absurd rfl (B.nocell _ hm)
    | _ =>simp at hx
 refine ⟨⟨I.ok.mod,?_,I.ok.glob,I.ok.blt,Nat.le_refl _,fun x y c h1 h2 =>I.ok.inj x y c (clos_sub hfr h1) (clos_sub hfr h2),fun x hx =>clos_get (kd x hx),fun x c h =>(nomatch h),I.ok.hd,I.ok.frames,.inl rfl,fun b hb =>⟨?_,fun x c e =>?_⟩,I.bs,Nat.le_trans I.ok.bsz I.sz,fun b o e hb =>?_,fun b hb z =>?_,I.stack,I.stkFree⟩,
  rfl,I.bare,Un.kept hkeep,?_,fun x c e =>?_,I.hok.fresh (Nat.le_refl _),fun x c e =>I.freeC x c (clos_sub hfr e),fun p hp =>?_,I.hok.kept hkeep,hl⟩
 ·exact B.kind
 ·obtain ⟨o,e⟩:=hob b hb
  exact lt e
 ·exact (hf b hb).2.2.2.2.1 x c (clos_sub hfr e)
 ·rcases (hf b hb).2.2.2.1 with z | z
  ·exact I.ok.noex b o e z
  ·exact absurd (Nat.lt_of_lt_of_le (Heap.lt_size (I.ok.bs b o e).1) z) (Nat.lt_irrefl _)
 ·obtain ⟨_,f1,f2,_⟩:=hf b hb
  rcases List.mem_cons.mp (I.stkSub b z) with e | e
  ·exact f1 e
  ·exact f2 e
 ·obtain ⟨m,hm⟩:=hns
  refine ⟨m,hm,fun i x v h1 h2 h3 =>?_⟩
  obtain ⟨k1,k2,j,j1,j2⟩:=hσ i x v h1 h2
  obtain ⟨m0,_,hl0⟩:=I.loc
  obtain ⟨u,r,q⟩:=hl0 j x v j1 j2 (k2.elim (fun z =>.inr (.inl z)) fun z =>.inr (.inr z))
  refine ⟨u,r,.inr ⟨?_,?_⟩⟩
  ·show (relabel scope X.env).names.lookup x = some .cell ∨ (relabel scope X.env).names.lookup x = some .free
   rw [relabel_lookup,k1]
   simp only [Option.map_some,Option.some.injEq]
   split
   ·exact .inl rfl
   ·exact .inr rfl
  ·rcases q with ⟨q,_⟩ | ⟨_,c,e,z⟩
   ·have q:X.env.scope.names.lookup x = some .local:=q
    rcases k2 with k2 | k2 <;> (rw [q] at k2; cases k2)
   ·obtain ⟨c',e'⟩:=clos_get (env:=X.env) (PySem.mem_of_lookup k1)
    have:=clos_sub hfr e'
    rw [e] at this; cases this
    obtain ⟨o,ho,hd⟩:=z
    exact ⟨c,e',o,hkeep c o ho,hd⟩
 ·obtain ⟨v,o,ho,hd⟩:=I.cell x c (clos_sub hfr e)
  exact ⟨v,o,hkeep c o ho,hd⟩
 ·have hp:p ∈ X.pn ++ pins:=by
   have hp:p ∈ (X.pn ++ pins) ++ []:=hp
   rwa [List.append_nil] at hp
  obtain ⟨e,n,ne,nf,d⟩:=I.pin p hp
  exact ⟨hkeep _ _ e,n,lt e,fun z =>(List.mem_cons.mp (I.stkSub _ z)).elim ne nf,d⟩
theorem inv_back {pins':List (Addr × Obj)} {σ':St} {H':Hp} {s':Shared} {h2:Heap} (I:Inv X pins σ H s) (hf:∀ b ∈ fp,FpOk X pins H b) (J:Inv (cxC X scope N fp pins s H) pins' σ' H' s') (sb:Heap.SameBut s.heap.objs.size s'.heap h2):Inv X pins σ H' { s' with heap:=h2 }:=by
 have lt:∀ {b:Addr} {o:Obj},s.heap.get? b = some o → b ≠ s.heap.objs.size:=fun e =>Nat.ne_of_lt (Heap.lt_size e)
 have U:Un (frs X.stack) fp H H' s.heap s'.heap:=J.base
 have U2:Un (frs X.stack) fp H H' s.heap h2:=by
  refine ⟨fun b o e n hb hx =>(sb.2 b (lt e)).trans (U.keep b o e n hb hx),fun b o e n hb hx =>?_,U.free,fun b o e hx =>?_,U.tups,U.frzs,U.tbls⟩
  ·obtain ⟨sl,q⟩:=U.slot b o e n hb hx
   exact ⟨sl,(sb.2 b (lt e)).trans q⟩
  ·obtain ⟨o',q⟩:=U.there b o e hx
   exact ⟨o',(sb.2 b (lt e)).trans q⟩
 have hC:H' s.heap.objs.size = none:=J.free
 have hok:HOk X.prog X.w H' h2:=fun b ob e =>(J.hok b ob e).stay (fun c u hc q =>(sb.2 c (fun z =>by
  subst z
  rcases hc with z | z
  ·rw [← z,hC] at e; cases e
  ·rw [hC] at z; cases z)).trans q) (fun _ q =>q) fun _ _ q =>q
 have os:s'.os = s.os:=J.os
 have e:({ s' with heap:=h2 }:Shared) = { s with heap:=h2,gens:=s'.gens,drawn:=s'.drawn,toks:=s'.toks }:=by
  cases s'
  cases s
  simp only at os
  subst os
  rfl
 rw [e]
 exact I.call U2 hok J.bare fun b hb =>⟨(hf b hb).2.2.2.1,(hf b hb).2.1,(hf b hb).2.2.2.2.1,(hf b hb).2.2.2.2.2⟩
noncomputable abbrev tests (ifs:List Expr) (env:Env):Sem Bool:=forIn ifs true fun c r =>if r = true then do let ok ← isTrue c env (eval c env); pure (ForInStep.yield ok) else pure (ForInStep.yield r)
noncomputable abbrev Never:Value → Shared → Prop:=fun _ _ =>False
theorem never {α:Type} {t:Sem α} {Q Q':α → Shared → Prop} {M:Model} {A:Around} {E:Value → Shared → Prop} {s:Shared} (h:wpAny M A t Q Never s) (hQ:∀ a s,Q a s → Q' a s):wpAny M A t Q' E s:=wpAny_mono h hQ fun _ _ z =>z.elim
theorem comp_loop {prog:Program} {w:World} {A:Around} {elt tg iter:Expr} {ifs:List Expr} {pos:Pos} {it acc:Value} {env:Env} {R:Result → Shared → Prop} (Iv:Nat → Shared → Prop)
 (turn:∀ n s,Iv n s → wpAny (model prog w) A (pyNext it) (fun r s1 =>match r with
  | none =>R (.ok .next) s1
  | some v =>wpAny (model prog w) A (letOwnedTupleGo tg it v) (fun _ s2 =>wpAny (model prog w) A (assign tg env v) (fun _ s3 =>wpAny (model prog w) A (tests ifs env) (fun ok s4 =>
   if ok = true then wpAny (model prog w) A (eval elt env) (fun x s5 =>wpAny (model prog w) A (call (.builtin "list.append") [acc,x]) (fun _ s6 =>∃ m,m < n ∧ Iv m s6) Never s5) Never s4
   else ∃ m,m < n ∧ Iv m s4) Never s3) Never s2) Never s1) Never s)
 (n:Nat) (h:Iv n s):codeAny (model prog w) A (.compLoop (.ListComp elt [⟨tg,iter,ifs,0⟩] scope pos) 0 it acc env) R s:=by
 refine codeAny_loop rfl Iv (fun n s hI =>?_) n h
 show wpAny _ A ((compTurn (.ListComp elt [⟨tg,iter,ifs,0⟩] scope pos) 0 it acc env).onRaise (fun e =>do noteFrame e env; theTreesLotGoes e)) _ _ s
 refine wpAny_noted ?_
 rw [compTurn_list]
 refine wpAny_bind (wpAny_standAt (wpAny_bind (never (turn n s hI) fun r s1 h1 =>?_)))
 cases r with
 | none =>exact wpAny_pure h1
 | some v =>
   refine wpAny_bind (never h1 fun _ s2 h2 =>wpAny_bind (never h2 fun _ s3 h3 =>wpAny_bind (never h3 fun ok s4 h4 =>?_)))
   cases ok with
   | false =>exact wpAny_pure ⟨rfl,h4⟩
   | true =>exact wpAny_bind (wpAny_bind (never h4 fun x s5 h5 =>wpAny_bind (never h5 fun _ s6 h6 =>wpAny_pure (wpAny_pure ⟨rfl,h6⟩))))
noncomputable def blkSlots (σ:St) (m:Nat) (caps:List Nat):St:=List.replicate m none ++ caps.map fun i =>(σ[i]?).join
noncomputable def tComp (wi:TI) (m:Nat) (caps:List Nat) (g:TG) (tc:Hp → TT) (te:Hp → TE):TE:=fun σ H Q =>wi σ H fun J H1 =>∀ D,H1 D = none → ∃ W:Nat → Nat → List V → St → Hp → Prop,(∃ k,W 0 k [] (blkSlots σ m caps) (upd H1 D (.lst []))) ∧
 ∀ i k ys σ' H',W i k ys σ' H' → (J.stop i H' ∧ Q (.ref D) H') ∨ (J.go i H' ∧ ∀ x H2,J.yld i H' x H2 → g x σ' H2 fun σ3 H3 =>tc (upd H1 D (.lst [])) σ3 H3 fun b H4 =>
  if b = true then te (upd H1 D (.lst [])) σ3 H4 fun y H5 =>H5 D = some (.lst ys) ∧ ys.length < sizeLine ∧ ∃ k',k' < k ∧ W (i + 1) k' (ys ++ [y]) σ3 (upd H5 D (.lst (ys ++ [y]))) else ∃ k',k' < k ∧ W (i + 1) k' ys σ3 H4)
noncomputable def PIf (X:Cx) (ifs:List Expr) (t:TT):Prop:=∀ (pins:List (Addr × Obj)) (s:Shared) (σ:St) (H:Hp) (Q:Bool → Hp → Prop),Inv X pins σ H s → t σ H Q → wpAny (model X.prog X.w) X.A (tests ifs X.env) (TP X pins σ Q) X.xe s
theorem pif_nil:PIf X [] (fun _ H Q =>Q true H):=fun pins s σ H Q I h =>wpAny_pure ⟨H,I,h⟩
theorem pif_one {c:Expr} {t:TT} (h:PT X c t):PIf X [c] t:=fun pins s σ H Q I q =>by
 unfold tests
 simp only [List.forIn_cons,List.forIn_nil,if_true]
 exact wpAny_bind (wpAny_bind (thn (h pins s σ H Q I q) fun b s' hb =>wpAny_pure (wpAny_pure hb)))
theorem join_get {σ:St} {i:Nat} {v:V} (h:(σ[i]?).join = some v):σ[i]? = some (some v):=by
 cases e:σ[i]? with
 | none =>rw [e] at h; cases h
 | some o =>rw [e] at h; simp at h; rw [h]
theorem blk_get {m:Nat} {caps:List Nat} {i:Nat} {v:V} (h:(blkSlots σ m caps)[i]? = some (some v)):∃ j k:Nat,i = m + j ∧ caps[j]? = some k ∧ σ[k]? = some (some v):=by
 unfold blkSlots at h
 by_cases hi:i < m
 ·rw [List.getElem?_append_left (by simpa using hi),List.getElem?_replicate] at h
  split at h <;> cases h
 ·rw [List.getElem?_append_right (by simpa using hi),List.length_replicate,List.getElem?_map] at h
  cases e:caps[i - m]? with
  | none =>rw [e] at h; cases h
  | some k =>
    rw [e] at h
    exact ⟨i - m,k,by omega,e,join_get (Option.some.inj h)⟩
structure Caps (X:Cx) (scope:Scope) (N:List Str) (m:Nat) (caps:List Nat):Prop where
 len:N.length = m + caps.length
 see:∀ (j k:Nat) (x:Str),caps[j]? = some k → N[m + j]? = some x → X.N[k]? = some x ∧ scope.names.lookup x = some .free ∧ (X.env.scope.names.lookup x = some .cell ∨ X.env.scope.names.lookup x = some .free)
 fre:∀ y ∈ scope.names,y.2 = .free → X.env.scope.names.lookup y.1 = some .cell ∨ X.env.scope.names.lookup y.1 = some .free
section
variable {elt tg iter:Expr} {ifs:List Expr} {pos:Pos} {wi:TI} {m:Nat} {caps:List Nat} {g:TG} {tc:Hp → TT} {te:Hp → TE}
theorem comp_core {use:Option (Value → Sem Unit)} {Q:VK} {Q':Value → Shared → Prop} (hx:X.xe = Never) (hc:X.calm = true) (B:Blk scope) (C:Caps X scope N m caps) (hi:PI X tg iter wi)
 (hg:∀ fp pins s H,PG (cxC X scope N fp pins s H) tg g) (ht:∀ fp pins s H,PIf (cxC X scope N fp pins s H) ifs (tc H)) (he:∀ fp pins s H,PE (cxC X scope N fp pins s H) elt (te H))
 (hs:∀ x,foldedSetIterable iter X.env x = pure x) (I:Inv X pins σ H s) (h:tComp wi m caps g tc te σ H Q)
 (fin:∀ (Cx':Addr) (D:Addr) (H':Hp) (s':Shared),(∃ mm,s'.heap.Ns Cx' mm) → (∀ h2,Heap.SameBut Cx' s'.heap h2 → Inv X pins σ H' { s' with heap:=h2 }) → FpOk X pins H' Cx' → Q (.ref D) H' →
  compPost (model X.prog X.w) X.A X.xe use Q' (.ref D) Cx' (.ok .next) s') :
 wpAny (model X.prog X.w) X.A (comprehension (.ListComp elt [⟨tg,iter,ifs,0⟩] scope pos) scope X.env (firstIterPos [⟨tg,iter,ifs,0⟩] pos) (newList []) false (eval iter X.env) use) Q' X.xe s:=by
 have hfr:∀ y ∈ scope.names,y.2 = .free → ∃ c,X.env.cells.lookup y.1 = some c:=fun y hy hk =>I.ok.has y.1 (C.fre y hy hk)
 refine wpAny_comprehension_free rfl hs (clos_some hfr) B.kind B.loc (thn (hi pins s σ H _ I h) fun v s1 h1 =>thn h1 fun itv s2 h2 =>?_)
 obtain ⟨it,fp,tn,J,H2,rfl,I2,T,st2,f2,R⟩:=h2
 refine wpAny_newObj_type ?_
 have hD:H2 s2.heap.objs.size = none:=I2.fresh
 have I3:=I2.lnew (its:=[]) (ys:=[]) (t':=s2.toks) .nil (Nat.zero_le _)
 have keep2:∀ b o,s2.heap.get? b = some o → (s2.heap.push { cls:=.type "list",data:=.seq ([]:List Value).toArray }).get? b = some o:=fun b o e =>Heap.get?_push_of_some _ e
 have st3:=T.keep 0 _ _ st2 fun b _ o e =>keep2 b o e
 have nD:∀ b ∈ fp,b ≠ s2.heap.objs.size:=fun b hb =>by
  obtain ⟨o,e,_⟩:=T.obj 0 _ st2 b hb
  exact Nat.ne_of_lt (Heap.lt_size e)
 have f3:∀ b ∈ fp,FpOk X pins (upd H2 s2.heap.objs.size (.lst [])) b:=fun b hb =>⟨by rw [upd_ne (nD b hb)]; exact (f2 b hb).1,(f2 b hb).2⟩
 obtain ⟨W,⟨k0,w0⟩,turn⟩:=R _ hD
 generalize hD':s2.heap.objs.size = D at *
 have e3:({ s2 with heap:=s2.heap.push { cls:=.type "list",data:=.seq ([]:List Value).toArray } }:Shared) = { s2 with heap:=s2.heap.push { cls:=.type "list",data:=.seq ([]:List Value).toArray },toks:=s2.toks }:=rfl
 generalize hs3:({ s2 with heap:=s2.heap.push { cls:=.type "list",data:=.seq ([]:List Value).toArray },toks:=s2.toks }:Shared) = s3 at *
 have st3':tn 0 s3.heap:=by rw [← hs3]; exact st3
 show wpAny _ X.A (newFunctionEnv scope X.env.globals (closCells X.env scope.names) [] X.env.qual none .none (some X.env)) _ _ _
 rw [e3]
 refine wpAny_newFunctionEnv B.nocell (by intro y hy; simp at hy) (fun h₁ hns hsb =>?_) B.kind
 have hkeep:∀ b o,s3.heap.get? b = some o → h₁.get? b = some o:=fun b o e =>hsb.extBut b o (Nat.ne_of_lt (Heap.lt_size e)) (Heap.get?_push_of_some _ e)
 have hob:∀ b ∈ fp,∃ o,s3.heap.get? b = some o:=fun b hb =>let ⟨o,e,_⟩:=T.obj 0 _ st3' b hb; ⟨o,e⟩
 have IC:Inv (cxC X scope N fp pins s3 (upd H2 D (.lst []))) [] (blkSlots σ m caps) (upd H2 D (.lst [])) { s3 with heap:=h₁,toks:=s3.toks + ([]:List (Str × Value)).length }:=by
  refine inv_comp I3 B hfr f3 hob ⟨_,hns⟩ hkeep ?_ fun i x v h1 h2 =>?_
  ·unfold blkSlots
   rw [List.length_append,List.length_replicate,List.length_map,C.len]
  ·obtain ⟨j,k,rfl,e1,e2⟩:=blk_get h2
   obtain ⟨q1,q2,q3⟩:=C.see j k x e1 h1
   exact ⟨q2,q3,k,q1,e2⟩
 have st4:tn 0 h₁:=T.keep 0 _ _ st3' fun b _ o e =>hkeep b o e
 have stat:∀ {H':Hp},(∀ b ∈ fp,H' b = none) → ∀ b ∈ fp,FpOk (cxC X scope N fp pins s3 (upd H2 D (.lst []))) [] H' b:=fun {H'} hn b hb =>by
  obtain ⟨o,e⟩:=hob b hb
  obtain ⟨_,f1,f2,_,f4,f5⟩:=f3 b hb
  refine ⟨hn b hb,Nat.ne_of_lt (Heap.lt_size e),fun z =>?_,.inl hb,fun x c q =>f4 x c (clos_sub hfr q),fun p hp =>f5 p ?_⟩
  ·exact (List.mem_cons.mp (I3.stkSub b z)).elim f1 f2
  ·have hp:p ∈ (X.pn ++ pins) ++ []:=hp
   rwa [List.append_nil] at hp
 have Dfp:∀ b ∈ fp,b ≠ D:=nD
 have loop:codeAny (model X.prog X.w) X.A (.compLoop (.ListComp elt [⟨tg,iter,ifs,0⟩] scope pos) 0 (.ref it) (.ref D) (compEnvC scope (closCells X.env scope.names) s3.heap.objs.size X.env)) (compPost (model X.prog X.w) X.A X.xe use Q' (.ref D) s3.heap.objs.size) { s3 with heap:=h₁,toks:=s3.toks + ([]:List (Str × Value)).length }:=by
  refine comp_loop (fun n s' =>∃ i ys σ' H',Inv (cxC X scope N fp pins s3 (upd H2 D (.lst []))) [] σ' H' s' ∧ tn i s'.heap ∧ (∀ b ∈ fp,H' b = none) ∧ W i n ys σ' H') ?_ k0 ⟨0,[],_,_,IC,st4,fun b hb =>(f3 b hb).1,w0⟩
  rintro n s4 ⟨i,ys,σ4,H4,I4,st4,fr4,w4⟩
  rcases turn i n ys σ4 H4 w4 with ⟨stop,qn⟩ | ⟨go,step⟩
  ·refine thn (T.done (cxC X scope N fp pins s3 (upd H2 D (.lst []))) rfl rfl rfl hc i [] s4 σ4 H4 Never I4 (stat fr4) st4 stop) fun r s5 ⟨hr,I5⟩ =>?_
   subst hr
   exact fin _ D H4 s5 (let ⟨mm,hm,_⟩:=I5.loc; ⟨mm,hm⟩) (fun h2 sb =>inv_back I3 f3 I5 sb) (I3.fpOk (Nat.le_refl _) I5.free) qn
  ·refine thn (T.item (cxC X scope N fp pins s3 (upd H2 D (.lst []))) rfl rfl rfl hc i [] s4 σ4 H4 Never I4 (stat fr4) st4 go) fun r s5 ⟨u,hr,h5⟩ =>?_
   subst hr
   refine thn h5 fun _ s6 ⟨x,H6,I6,r6,y6,st6,fr6⟩ =>?_
   have I6':=I6.pinned (stat fr6) (T.obj _ _ st6)
   have xn:∀ {α:Type} {t:Sem α} {Q1:α → Shared → Prop} {s:Shared},wpAny (model X.prog X.w) X.A t Q1 X.xe s → wpAny (model X.prog X.w) X.A t Q1 Never s:=fun h =>by rw [hx] at h; exact h
   refine thn (xn (hg fp pins s3 _ _ s6 σ4 H6 x u _ I6' r6 (step x H6 y6))) fun _ s7 ⟨σ7,H7,I7,q7⟩ =>?_
   refine thn (xn (ht fp pins s3 _ _ s7 σ7 H7 _ I7 q7)) fun ok s8 ⟨H8,I8,q8⟩ =>?_
   have again:∀ {H9:Hp} {s9:Shared} {ys':List V},Inv (cxC X scope N fp pins s3 (upd H2 D (.lst []))) ([] ++ pinsAt fp s6.heap) σ7 H9 s9 → (∃ k',k' < n ∧ W (i + 1) k' ys' σ7 H9) →
    ∃ k',k' < n ∧ ∃ i ys σ' H',Inv (cxC X scope N fp pins s3 (upd H2 D (.lst []))) [] σ' H' s9 ∧ tn i s9.heap ∧ (∀ b ∈ fp,H' b = none) ∧ W i k' ys σ' H':=fun {H9 s9 ys'} I9 w9 =>by
    obtain ⟨k',hk',w9⟩:=w9
    refine ⟨k',hk',i + 1,ys',σ7,H9,I9.unpinned,T.keep _ _ _ st6 fun b hb o e =>(I9.pin (b,o) (List.mem_append_right _ (List.mem_append_right _ (mem_pinsAt hb e)))).1,fun b hb =>?_,w9⟩
    obtain ⟨o,e,d⟩:=T.obj _ _ st6 b hb
    exact (I9.pin (b,o) (List.mem_append_right _ (List.mem_append_right _ (mem_pinsAt hb e)))).2.1
   cases ok with
   | false =>exact again I8 q8
   | true =>
     refine thn (xn (he fp pins s3 _ _ s8 σ7 H8 _ I8 q8)) fun yv s9 ⟨y,H9,I9,r9,hD9,hz9,q9⟩ =>?_
     refine thn (xn (mt_append (X:=cxC X scope N fp pins s3 (upd H2 D (.lst []))) _ s9 σ7 H9 (.ref D) [y] (.ref D) [yv] (fun _ H' =>H' = upd H9 D (.lst (ys ++ [y]))) I9 rfl (.cons r9 .nil) ⟨D,ys,y,rfl,rfl,hD9,hz9,rfl⟩)) fun _ s10 ⟨_,H10,I10,_,e10⟩ =>?_
     subst e10
     exact again I10 q9
 exact codeAny_compStart_list loop (T.self _ 0 _ _ _ st4 loop)
theorem pe_comp (hx:X.xe = Never) (hc:X.calm = true) (B:Blk scope) (C:Caps X scope N m caps) (hi:PI X tg iter wi) (hg:∀ fp pins s H,PG (cxC X scope N fp pins s H) tg g) (ht:∀ fp pins s H,PIf (cxC X scope N fp pins s H) ifs (tc H)) (he:∀ fp pins s H,PE (cxC X scope N fp pins s H) elt (te H))
 (hs:∀ x,foldedSetIterable iter X.env x = pure x):PE X (.ListComp elt [⟨tg,iter,ifs,0⟩] scope pos) (tComp wi m caps g tc te):=by
 intro pins s σ H Q I h
 rw [eval_ListComp]
 refine comp_core (use:=none) hx hc B C hi hg ht he hs I h fun C' D H' s' hn hb _ q =>?_
 obtain ⟨mm,hm⟩:=hn
 exact ⟨mm,hm,fun h2 sb =>⟨.ref D,H',hb h2 sb,rfl,q⟩⟩
theorem ps_compSet {i:Nat} {x:Str} {px spos:Pos} (hx:X.xe = Never) (hc:X.calm = true) (B:Blk scope) (C:Caps X scope N m caps) (hi:PI X tg iter wi) (hg:∀ fp pins s H,PG (cxC X scope N fp pins s H) tg g) (ht:∀ fp pins s H,PIf (cxC X scope N fp pins s H) ifs (tc H)) (he:∀ fp pins s H,PE (cxC X scope N fp pins s H) elt (te H))
 (hs:∀ x,foldedSetIterable iter X.env x = pure x) (hN:X.N.Nodup) (hix:X.N[i]? = some x) (hl:X.env.scope.names.lookup x = some .local) (hsw:swapsWith (.ListComp elt [⟨tg,iter,ifs,0⟩] scope pos) (some (.Name x px)) spos.line X.env = pure true) :
 PS X (.Assign [.Name x px] (.ListComp elt [⟨tg,iter,ifs,0⟩] scope pos) spos) (fun D σ H =>tComp wi m caps g tc te σ H fun v H' =>D.nx (σ.set i (some v)) H'):=by
 intro pins s σ H D I h
 rw [exec_Assign_Name_used _ _ _ _ hsw]
 refine wpAny_bind (wpAny_standAt (wpAny_bind ?_))
 show wpAny _ X.A (do let _ ← comprehension (.ListComp elt [⟨tg,iter,ifs,0⟩] scope pos) scope X.env (firstIterPos [⟨tg,iter,ifs,0⟩] pos) (newList []) false (eval iter X.env) (some (assign (.Name x px) X.env))) _ _ s
 refine wpAny_bind (thn (comp_core (use:=some (assign (.Name x px) X.env)) (Q:=fun v H' =>D.nx (σ.set i (some v)) H') (Q':=fun _ s' =>SP X pins D .next s') hx hc B C hi hg ht he hs I h fun C' Da H' s' hn hb hf q =>?_) fun _ s' hq =>wpAny_pure (wpAny_pure hq))
 obtain ⟨mm,hm⟩:=hn
 obtain ⟨f0,f1,f2,f3,f4,f5⟩:=hf
 have I':Inv X pins σ H' s':=hb s'.heap (Heap.SameBut.refl _ _)
 show wpAny _ X.A (assign (.Name x px) X.env (.ref Da)) _ _ s'
 refine wpAny_assign_Name (store_ok2 I' hN hix (.inl hl) (v:=.ref Da) rfl (fun s'' I'' ⟨a,sb,ha⟩ =>?_) (.inr hl))
 have hca:C' ≠ a:=by
  rcases ha with e | e
  ·rw [e]; exact f1
  ·exact fun z =>f4 x a e z.symm
 refine ⟨mm,hm.sameBut sb hca,fun h2 sb2 =>⟨_,H',?_,q⟩⟩
 have:=I''.turned (it:=C') (h':=h2) (t':=s''.toks) (fun b o hb e =>(sb2.2 b hb).trans e) f0 f1 f3 f4 f5
 exact this
end
end
end L2

namespace Z
open PySem PySem.Spec PyProof.Rows L2
section
variable {X:Cx} {W:Wd} {lk lk':Bool} {σ:L2.St} {H H1 H':Hp} {me:Option Addr} {B:Addr → Prop} {δ:Dst} {Q Q':VK} {a b:Expr} {pos p:Pos} {o:Orc}
theorem after_chk {P:Addr → Prop} {t:Bool} {x:R (Bool × D)} (h:After X W lk σ H P (R.chk t x) Q):t = true ∧ After X W lk σ H P x Q:=by
 cases t with
 | true =>exact ⟨rfl,h⟩
 | false =>exact h.elim
theorem d_tup {es:List Expr} {l:TL} {x1:Nat} (ha:PA X es (tL X W fun δ =>evL o δ l)):PE X (.Tuple es x1 pos) (tD X W lk fun δ =>ev o δ lk (.tup l)):=by
 refine PE.imp (pe_tup ha) fun σ H Q h =>?_
 obtain ⟨me,B,δ,S,h⟩:=tD_iff.mp h
 simp only [ev] at h
 refine tL.mono (partL (fa:=fun δ =>evL o δ l) (C:=fun r H =>After X W lk σ H (Hid B σ δ) r Q) S h (fun r H1 s q =>q.mono s) (fun c q =>q) (fun q =>q)) fun vs H1 ⟨r,e1,S1,s1,t1,q1,h1⟩ =>?_
 obtain ⟨hc,h1⟩:=after_chk h1
 simp only [Bool.and_eq_true,Bool.not_eq_true'] at hc
 have hr:=q1 hc.1
 exact ⟨by rw [← hr.length]; exact size_le hc.2,fun p hp =>h1 _ _ (Same.upd hp) (res_newT hp hr S1.know)⟩
theorem d_lst {es:List Expr} {l:TL} (ha:PA X es (tL X W fun δ =>evL o δ l)):PE X (.List es pos) (tD X W lk fun δ =>ev o δ lk (.lst l)):=by
 refine PE.imp (pe_lst ha) fun σ H Q h =>?_
 obtain ⟨me,B,δ,S,h⟩:=tD_iff.mp h
 simp only [ev] at h
 refine tL.mono (partL (fa:=fun δ =>evL o δ l) (C:=fun r H =>After X W lk σ H (Hid B σ δ) r Q) S h (fun r H1 s q =>q.mono s) (fun c q =>q) (fun q =>q)) fun vs H1 ⟨r,e1,S1,s1,t1,q1,h1⟩ =>?_
 obtain ⟨hc,h1⟩:=after_chk h1
 simp only [Bool.and_eq_true,Bool.not_eq_true'] at hc
 have hr:=q1 hc.1
 exact ⟨by rw [← hr.length]; exact size_le hc.2,fun p hp =>h1 _ _ (Same.upd hp) (res_new hp hr S1.know)⟩
theorem d_neg {t:T} (ha:PE X a (tD X W true fun δ =>ev o δ true t)):PE X (.UnaryOp .USub a pos) (tD X W lk fun δ =>ev o δ lk (.neg t)):=by
 refine PE.imp (pe_un un_neg ha) fun σ H Q h =>?_
 obtain ⟨me,B,δ,S,h⟩:=tD_iff.mp h
 simp only [ev] at h
 refine tD.mono (part (fa:=fun δ =>ev o δ true t) S h) fun v H1 ⟨r,e,S1,s1,t1,_,h1⟩ =>?_
 cases e2:r.2 with
 | int i =>
   rw [e2] at t1 h1
   exact ⟨i,repT_int t1,h1 _ H1 (Same.refl _) res_int⟩
 | _ =>rw [e2] at h1; exact h1.elim
theorem d_ite {c:Expr} {tc ta tb:T} (hc:PT X c (tT X W fun δ =>ev o δ true tc)) (ha:PE X a (tD X W lk fun δ =>ev o δ lk ta)) (hb:PE X b (tD X W lk fun δ =>ev o δ lk tb)) :
 PE X (.IfExp c a b pos) (tD X W lk fun δ =>ev o δ lk (.ite tc ta tb)):=by
 refine PE.imp (pe_ifExp hc ha hb) fun σ H Q h =>?_
 obtain ⟨me,B,δ,S,h⟩:=tD_iff.mp h
 simp only [ev] at h
 refine ⟨me,B,δ,S,?_⟩
 cases e:ev o δ true tc with
 | ok r =>
   rw [e] at h
   dsimp only
   rw [e]
   simp only [R.bind]
   cases e2:truth r.2 with
   | none =>simp only [R.bind,e2,R.of] at h; exact h.elim
   | some t =>
     simp only [R.bind,e2,R.of] at h ⊢
     intro H1 s
     cases t with
     | true =>exact tD_iff.mpr ⟨me,B,δ,S.mono s,After.mono h s⟩
     | false =>exact tD_iff.mpr ⟨me,B,δ,S.mono s,After.mono h s⟩
 | exc c =>rw [e] at h; exact h.elim
 | stuck =>rw [e] at h; exact h.elim
noncomputable def tIfT (t ta tb:TT):TT:=fun σ H Q =>t σ H fun c H1 =>if c = true then ta σ H1 Q else tb σ H1 Q
theorem pt_ifExp {c:Expr} {tA ta tb:TT} (hc:PT X c tA) (ha:PT X a ta) (hb:PT X b tb):PT X (.IfExp c a b pos) (tIfT tA ta tb):=by
 intro pins s σ H Q I h
 have e:∀ whole,isTrue (.IfExp c a b pos) X.env whole = (isTrue c X.env (eval c X.env) >>= fun t =>if t = true then isTrue a X.env (eval a X.env) else isTrue b X.env (eval b X.env)):=fun _ =>by simp only [PySem.isTrue]
 rw [e]
 refine wpAny_bind (thn (hc pins s σ H _ I h) fun d s1 ⟨H1,I1,q1⟩ =>?_)
 cases d with
 | true =>exact ha pins s1 σ H1 Q I1 q1
 | false =>exact hb pins s1 σ H1 Q I1 q1
theorem dt_ite {c:Expr} {tc ta tb:T} (hc:PT X c (tT X W fun δ =>ev o δ true tc)) (ha:PT X a (tT X W fun δ =>ev o δ true ta)) (hb:PT X b (tT X W fun δ =>ev o δ true tb)) :
 PT X (.IfExp c a b pos) (tT X W fun δ =>ev o δ true (.ite tc ta tb)):=by
 refine PT.imp (pt_ifExp hc ha hb) fun σ H Q h =>?_
 obtain ⟨me,B,δ,S,h⟩:=h
 simp only [ev] at h
 refine ⟨me,B,δ,S,?_⟩
 cases e:ev o δ true tc with
 | ok r =>
   rw [e] at h
   dsimp only
   rw [e]
   simp only [R.bind]
   cases e2:truth r.2 with
   | none =>simp only [R.bind,e2,R.of] at h
   | some t =>
     simp only [R.bind,e2,R.of] at h ⊢
     intro H1 s
     cases t with
     | true =>
       refine ⟨me,B,δ,S.mono s,?_⟩
       simp only [if_true] at h
       dsimp only
       cases e3:ev o δ true ta with
       | ok r2 =>
         simp only [e3,R.bind] at h ⊢
         cases e4:truth r2.2 with
         | none =>simp only [e4,R.of] at h
         | some b =>
           simp only [e4,R.of] at h ⊢
           exact fun H' s' =>h H' (s.trans s')
       | exc c =>simp only [e3,R.bind] at h; exact h.elim
       | stuck =>simp only [e3,R.bind] at h
     | false =>
       refine ⟨me,B,δ,S.mono s,?_⟩
       simp only [Bool.false_eq_true,if_false] at h
       dsimp only
       cases e3:ev o δ true tb with
       | ok r2 =>
         simp only [e3,R.bind] at h ⊢
         cases e4:truth r2.2 with
         | none =>simp only [e4,R.of] at h
         | some b =>
           simp only [e4,R.of] at h ⊢
           exact fun H' s' =>h H' (s.trans s')
       | exc c =>simp only [e3,R.bind] at h; exact h.elim
       | stuck =>simp only [e3,R.bind] at h
 | exc c =>rw [e] at h; exact h.elim
 | stuck =>rw [e] at h; exact h.elim
theorem SR.plain (hk:W.K = X.K) (hl:σ.length = δ.length) (hsh:∀ (i:Nat) (w:Own) (d:D),δ[i]? = some (some (w,d)) → w = .sh ∧ ∃ v,σ[i]? = some (some v) ∧ Rep W (vis H B) d v)
 (same:∀ b o,X.H₀ b = some o → some b ≠ me → H b = some o) (soft:Soft H B) (gone:∀ b,B b → ∃ o,H b = some o) (live:∀ x,me = some x → ∃ o,H x = some o):SR X W me B H σ δ:=by
 have hid:∀ b,Hid B σ δ b → B b:=fun b hb =>by
  rcases hb with hb | ⟨i,⟨w,d,h1,h2⟩,_⟩
  ·exact hb
  ·exact absurd (hsh i w d h1).1 h2
 refine ⟨hk,hl,fun i d h =>?_,fun i d h =>?_,fun i d h =>?_,fun i j a h1 _ =>?_,same,soft,gone,live⟩
 ·obtain ⟨_,v,e1,e2⟩:=hsh i _ d h
  exact ⟨v,e1,e2.mono (vis_sub hid)⟩
 ·exact absurd (hsh i _ d h).1 (by decide)
 ·exact absurd (hsh i _ d h).1 (by decide)
 ·obtain ⟨⟨w,d,h1,h2⟩,_⟩:=h1
  exact absurd (hsh i w d h1).1 h2
theorem hid_plain (hsh:∀ (i:Nat) (w:Own) (d:D),δ[i]? = some (some (w,d)) → w = .sh) {b:Addr}:Hid B σ δ b ↔ B b:=by
 refine ⟨fun hb =>?_,.inl⟩
 rcases hb with hb | ⟨i,⟨w,d,h1,h2⟩,_⟩
 ·exact hb
 ·exact absurd (hsh i w d h1) h2
theorem vis_plain (hsh:∀ (i:Nat) (w:Own) (d:D),δ[i]? = some (some (w,d)) → w = .sh):vis H (Hid B σ δ) = vis H B:=by
 have:Hid B σ δ = B:=funext fun b =>propext (hid_plain hsh)
 rw [this]
theorem caps_reps (S:SR X W me B H σ δ):∀ {caps:List Nat} {cs:List D},slotsD δ caps = some cs → ∃ vs:List V,caps.map (fun i =>(σ[i]?).join) = vs.map some ∧ RepTs W H (vis H (Hid B σ δ)) cs vs ∧ ((caps.all fun i =>!isOwn δ i) = true → Reps W (vis H (Hid B σ δ)) cs vs)
 | [],cs,h =>by
   simp only [slotsD,Option.some.injEq] at h
   subst h
   exact ⟨[],rfl,by simp only [RepTs],fun _ =>by simp only [Reps]⟩
 | i :: caps,cs,h =>by
   simp only [slotsD] at h
   cases e:slotD δ i with
   | none =>rw [e] at h; cases h
   | some d =>
     rw [e] at h
     cases e2:slotsD δ caps with
     | none =>rw [e2] at h; cases h
     | some cs' =>
       rw [e2] at h
       cases h
       obtain ⟨vs,h1,h2,h3⟩:=caps_reps S e2
       have key:∃ v,σ[i]? = some (some v) ∧ RepT W H (vis H (Hid B σ δ)) d v ∧ (isOwn δ i = false → Rep W (vis H (Hid B σ δ)) d v):=by
        unfold slotD at e
        split at e
        ·rename_i w d' ed
         cases e
         cases w with
         | sh =>obtain ⟨v,q1,q2⟩:=S.sh i _ ed; exact ⟨v,q1,q2.top vis_le,fun _ =>q2⟩
         | ow =>obtain ⟨a,q1,q2,_⟩:=S.ow i _ ed; exact ⟨_,q1,q2.top,fun z =>by simp [isOwn,ed] at z⟩
         | me =>obtain ⟨_,a,_,q1,q2,_⟩:=S.mi i _ ed; exact ⟨_,q1,q2.top,fun z =>by simp [isOwn,ed] at z⟩
        ·cases e
       obtain ⟨v,k1,k2,k3⟩:=key
       refine ⟨v :: vs,by simp [k1,h1],?_,fun hall =>?_⟩
       ·simp only [RepTs]; exact ⟨k2,h2⟩
       ·simp only [List.all_cons,Bool.and_eq_true,Bool.not_eq_true'] at hall
        simp only [Reps]
        exact ⟨k3 hall.1,h3 hall.2⟩
structure Yields (J:It) (H2:Hp) (xs:List V):Prop where
 go:∀ i H',Same H2 H' → i < xs.length → J.go i H'
 yld:∀ i H' x H'',Same H2 H' → i < xs.length → J.yld i H' x H'' → H'' = H' ∧ xs[i]? = some x
 stop:∀ H',Same H2 H' → J.stop xs.length H'
theorem yields_list {K:PySem.W.Frag} {H2:Hp} {c:Addr} {xs:List V} (h:SqL K H2 c xs):Yields (Itl K c) H2 xs where
 go:=fun i H' s hi =>⟨xs,xs[i],s.seq h,by simp [hi]⟩
 yld:=fun i H' x H'' s _ ⟨e,y⟩ =>⟨e,y xs (s.seq h)⟩
 stop:=fun H' s =>⟨xs,s.seq h,Nat.le_refl _⟩
theorem yields_tup {K:PySem.W.Frag} {H2:Hp} {c:Addr} {xs:List V} (h:SqT K H2 c xs):Yields (Itt K c) H2 xs where
 go:=fun i H' s hi =>⟨xs,xs[i],same_tup s h,by simp [hi]⟩
 yld:=fun i H' x H'' s _ ⟨e,y⟩ =>⟨e,y xs (same_tup s h)⟩
 stop:=fun H' s =>⟨xs,same_tup s h,Nat.le_refl _⟩
theorem yields_range {H2:Hp} (lo:Int) (n:Nat):Yields (Itr lo n) H2 ((List.range n).map fun (k:Nat) =>V.int (lo + (k:Int))) where
 go:=fun i H' s hi =>by simpa [Itr] using hi
 yld:=fun i H' x H'' s hi ⟨e,y⟩ =>by
  refine ⟨e,?_⟩
  have hi:i < n:=by simpa using hi
  rw [List.getElem?_map,List.getElem?_range hi,y]
  rfl
 stop:=fun H' s =>by simp [Itr]
noncomputable def Yl (W:Wd) (G0:Hp) (d:D) (x:V) (H' H'':Hp):Prop:=(H'' = H' ∧ Rep W G0 d x) ∨ ∃ (p:Addr) (d1 d2:D) (v1 v2:V),d = .tup [d1,d2] ∧ x = .ref p ∧ H' p = none ∧ H'' = upd H' p (.tup [v1,v2]) ∧ Rep W G0 d1 v1 ∧ Rep W G0 d2 v2
theorem Yl.rep {G0:Hp} {d:D} {x:V} {H' H'':Hp} {P:Addr → Prop} (h:Yl W G0 d x H' H'') (g:Same G0 (vis H' P)) (gone:∀ b,P b → ∃ u,H' b = some u):Same H' H'' ∧ Rep W (vis H'' P) d x:=by
 rcases h with ⟨rfl,r⟩ | ⟨p,d1,d2,v1,v2,rfl,rfl,hp,rfl,r1,r2⟩
 ·exact ⟨Same.refl _,r.mono g⟩
 ·refine ⟨Same.upd hp,?_⟩
  have up:=g.trans (vis_mono (P:=P) (Same.upd (o:=.tup [v1,v2]) hp))
  simp only [Rep]
  refine ⟨p,[v1,v2],rfl,.inl (.inl (vis_of upd_same fun z =>?_)),?_⟩
  ·obtain ⟨u,e⟩:=gone p z
   rw [hp] at e; cases e
  ·simp only [Reps]
   exact ⟨r1.mono up,r2.mono up,trivial⟩
structure Ylds (W:Wd) (J:It) (G G0:Hp) (l:List D):Prop where
 go:∀ i H',Same G H' → i < l.length → J.go i H'
 yld:∀ i H' x H'' d,Same G H' → l[i]? = some d → J.yld i H' x H'' → Yl W G0 d x H' H''
 stop:∀ H',Same G H' → J.stop l.length H'
theorem Ylds.of {J:It} {G G0:Hp} {l:List D} {xs:List V} (y:Yields J G xs) (r:Reps W G0 l xs):Ylds W J G G0 l where
 go:=fun i H' s hi =>y.go i H' s (by rw [← r.length]; exact hi)
 yld:=fun i H' x H'' d s e z =>by
  have hi:i < xs.length:=by rw [← r.length]; exact (List.getElem?_eq_some_iff.mp e).1
  obtain ⟨h1,h2⟩:=y.yld i H' x H'' s hi z
  obtain ⟨v,h3,h4⟩:=r.get e
  rw [h2] at h3; cases h3
  exact .inl ⟨h1,h4⟩
 stop:=fun H' s =>by rw [r.length]; exact y.stop H' s
theorem SR.cx {X':Cx} (S:SR X W me B H σ δ) (h1:X'.K = X.K) (h2:X'.H₀ = X.H₀):SR X' W me B H σ δ :=
 ⟨by rw [h1]; exact S.kf,S.len,S.sh,fun i d h =>let ⟨a,q1,q2,q3,q4⟩:=S.ow i d h; ⟨a,q1,q2,by rw [h2]; exact q3,q4⟩,S.mi,S.apart,fun b o h =>S.same b o (by rw [← h2]; exact h),S.soft,S.gone,S.live⟩
theorem tD.cx {X':Cx} {f:Dst → R (Bool × D)} (h1:X'.K = X.K) (h2:X'.H₀ = X.H₀) (h:tD X W lk f σ H Q):tD X' W lk f σ H Q:=by
 obtain ⟨me,B,δ,S,h⟩:=h
 exact ⟨me,B,δ,S.cx h1 h2,h⟩
theorem tT.cx {X':Cx} {f:Dst → R (Bool × D)} {C:Bool → Hp → Prop} (h1:X'.K = X.K) (h2:X'.H₀ = X.H₀) (h:tT X W f σ H C):tT X' W f σ H C:=by
 obtain ⟨me,B,δ,S,h⟩:=h
 exact ⟨me,B,δ,S.cx h1 h2,h⟩
noncomputable def TgR (X:Cx) (W:Wd) (is:List Nat) (tup:Bool) (g:TG):Prop :=
 ∀ {me:Option Addr} {B:Addr → Prop} {σ:L2.St} {H:Hp} {δ δ1:Dst} {d:D} {ds:List D} {v:V} {C:L2.St → Hp → Prop},SR X W me B H σ δ → Rep W (vis H (Hid B σ δ)) d v → takes is.length tup d = some ds → setSlots δ is ds = some δ1 →
  (∀ σ1,SR X W me B H σ1 δ1 → Same (vis H (Hid B σ δ)) (vis H (Hid B σ1 δ1)) → C σ1 H) → g v σ H C
theorem tgr_name {i:Nat}:TgR X W [i] false (gName i):=by
 intro me B σ H δ δ1 d ds v C S r e1 e2 k
 simp only [takes,Bool.false_eq_true,if_false,Option.some.injEq] at e1
 subst e1
 simp only [setSlots] at e2
 cases e3:setSlot δ i false d with
 | none =>rw [e3] at e2; cases e2
 | some δ' =>
   rw [e3] at e2
   cases e2
   obtain ⟨S1,s1⟩:=store1 S r e3
   exact k _ S1 s1
theorem tgr_tup {is:List Nat} (hk:W.K = X.K):TgR X W is true (gTup X.K is.length (gNames is)):=by
 intro me B σ H δ δ1 d ds v C S r e1 e2 k
 simp only [takes,if_true] at e1
 cases d with
 | tup l =>
   simp only at e1
   split at e1
   ·rename_i hl
    cases e1
    simp only [Rep] at r
    obtain ⟨a,xs,rfl,r1,r2⟩:=r
    exact ⟨a,xs,rfl,hk ▸ same_tup vis_le r1,by rw [← r2.length]; exact hl,names_store S r2 e2 k⟩
   ·cases e1
 | _ =>simp at e1
noncomputable def shAll (l:List D):Dst:=l.map fun d =>some (Own.sh,d)
theorem shAll_get {l:List D} {i:Nat} {w:Own} {d:D} (h:(shAll l)[i]? = some (some (w,d))):w = .sh ∧ l[i]? = some d:=by
 unfold shAll at h
 rw [List.getElem?_map] at h
 cases e:l[i]? with
 | none =>rw [e] at h; cases h
 | some x =>rw [e] at h; cases h; exact ⟨rfl,rfl⟩
theorem setSlots_go:∀ (ds:List D) (pre post:Dst) (mid:Dst),mid.length = ds.length → setSlots (pre ++ mid ++ post) (List.range' pre.length ds.length) ds = some (pre ++ shAll ds ++ post)
 | [],pre,post,mid,h =>by
   have:mid = []:=List.eq_nil_of_length_eq_zero h
   subst this
   simp [setSlots,shAll]
 | d :: ds,pre,post,[],h =>by simp at h
 | d :: ds,pre,post,x :: mid,h =>by
   simp only [List.length_cons,Nat.add_right_cancel_iff] at h
   rw [List.length_cons,List.range'_succ]
   simp only [setSlots]
   have e1:setSlot (pre ++ x :: mid ++ post) pre.length false d = some ((pre ++ [some (Own.sh,d)]) ++ mid ++ post):=by
    unfold setSlot
    rw [if_pos (by simp)]
    simp [List.set_append]
   rw [e1]
   simp only [Option.bind_some]
   have:=setSlots_go ds (pre ++ [some (Own.sh,d)]) post mid h
   rw [List.length_append,List.length_singleton] at this
   rw [this]
   simp [shAll]
theorem setSlots_all (ds:List D) (mid post:Dst) (h:mid.length = ds.length):setSlots (mid ++ post) (List.range ds.length) ds = some (shAll ds ++ post):=by
 have:=setSlots_go ds [] post mid h
 simpa [List.range_eq_range'] using this
theorem takes_len {m:Nat} {tup:Bool} {d:D} {ds:List D} (hm:tup = false → m = 1) (h:takes m tup d = some ds):ds.length = m:=by
 unfold takes at h
 split at h
 ·split at h
  ·split at h
   ·cases h; assumption
   ·cases h
  ·cases h
 ·rename_i ht
  cases h
  rw [hm (by simpa using ht)]; rfl
theorem comp_read {wi:L2.TI} {g:TG} {m:Nat} {caps:List Nat} {tup:Bool} {tc te:T} {it:TI} (hk:W.K = X.K) (hm:tup = false → m = 1)
 (hwi:∀ σ H (K:It → Hp → Prop),(∃ me B δ l,SR X W me B H σ δ ∧ evI o δ true it = .ok l ∧ ∀ J H2,Same H H2 → Ylds W J H2 (vis H2 (Hid B σ δ)) l → K J H2) → wi σ H K)
 (hg:∀ H0,TgR { X with H₀:=H0 } W (List.range m) tup g) (h:tD X W lk (fun δ =>ev o δ lk (.comp caps m tup it tc te)) σ H Q) :
 tComp wi m caps g (fun H0 =>tT { X with H₀:=H0 } W fun δ =>ev o δ true tc) (fun H0 =>tD { X with H₀:=H0 } W false fun δ =>ev o δ false te) σ H Q:=by
 obtain ⟨me,B,δ,S,h⟩:=tD_iff.mp h
 simp only [ev] at h
 cases e1:evI o δ true it with
 | exc c =>rw [e1] at h; exact h.elim
 | stuck =>rw [e1] at h; exact h.elim
 | ok l =>
 rw [e1] at h
 cases e2:slotsD δ caps with
 | none =>rw [e2] at h; exact h.elim
 | some cs =>
 rw [e2] at h
 have h:After X W lk σ H (Hid B σ δ) ((compGo (fun x =>ev o ((x ++ cs).map fun d =>some (.sh,d)) false te) (fun x =>ev o ((x ++ cs).map fun d =>some (.sh,d)) true tc) m tup l).bind fun r =>
  R.chk (size r.length && (immL r || caps.all fun i =>!isOwn δ i)) (.ok (true,.lst r))) Q:=h
 refine hwi σ H _ ⟨me,B,δ,l,S,e1,fun J H2 s yl =>?_⟩
 intro Da hD
 obtain ⟨vs,c1,c2,c3⟩:=caps_reps S e2
 generalize hown:(caps.all fun i =>!isOwn δ i) = own at h c3
 generalize hP:Hid B σ δ = P at *
 have softP:Soft H2 P:=by subst hP; exact S.softH.mono S.know s
 have goneP:∀ b,P b → ∃ u,H2 b = some u:=fun b hb =>by
  subst hP
  obtain ⟨u,e⟩:=S.know b hb
  exact ⟨u,s b u e⟩
 let Bq:Addr → Prop:=fun b =>(P b ∧ (own = true ∨ V.ref b ∉ vs)) ∨ b = Da
 have nD:∀ {b:Addr} {u:HO},H2 b = some u → b ≠ Da:=fun e z =>by rw [z,hD] at e; cases e
 have upv:∀ {H':Hp},Same H2 H' → Same (vis H2 Bq) (vis H' Bq):=fun s' =>vis_mono s'
 have inP:Same (vis H2 P) (vis H2 Bq):=fun b u e =>by
  obtain ⟨e1,e2⟩:=vis_some e
  refine vis_of e1 fun z =>?_
  rcases z with ⟨z,_⟩ | z
  ·exact e2 z
  ·exact nD e1 z
 have capR:Reps W (vis H2 Bq) cs vs:=by
  cases own with
  | true =>exact ((c3 rfl).mono (vis_mono s)).mono inP
  | false =>
    have q:=c2.lend vs (fun v hv =>hv)
    refine (q.mono (vis_mono s)).mono fun b u e =>?_
    obtain ⟨e1,e2⟩:=vis_some e
    refine vis_of e1 fun z =>?_
    rcases z with ⟨z1,z2⟩ | z
    ·rcases z2 with z2 | z2
     ·cases z2
     ·exact e2 ⟨z1,z2⟩
    ·exact nD e1 z
 let δ0:Dst:=List.replicate m none ++ shAll cs
 have δ0sh:∀ (i:Nat) (w:Own) (d:D),δ0[i]? = some (some (w,d)) → w = .sh ∧ m ≤ i ∧ cs[i - m]? = some d:=fun i w d e =>by
  by_cases hi:i < m
  ·have e:(List.replicate m none ++ shAll cs)[i]? = some (some (w,d)):=e
   rw [List.getElem?_append_left (by simpa using hi),List.getElem?_replicate] at e
   split at e <;> cases e
  ·have e:(List.replicate m none ++ shAll cs)[i]? = some (some (w,d)):=e
   rw [List.getElem?_append_right (by simpa using hi),List.length_replicate] at e
   obtain ⟨e1,e2⟩:=shAll_get e
   exact ⟨e1,by omega,e2⟩
 have softQ:∀ {H':Hp} {ys:List V},Same H2 H' → H' Da = some (.lst ys) → Soft H' Bq:=fun {H' ys} s' hd b hb u e =>by
  rcases hb with ⟨hb,_⟩ | hb
  ·obtain ⟨u',e'⟩:=goneP b hb
   have:=s' b u' e'
   rw [e] at this; cases this
   exact softP b hb u e'
  ·rw [hb,hd] at e; cases e
   exact ⟨(by intro _ z; cases z),(by intro _ _ z; cases z)⟩
 have goneQ:∀ {H':Hp} {ys:List V},Same H2 H' → H' Da = some (.lst ys) → ∀ b,Bq b → ∃ u,H' b = some u:=fun {H' ys} s' hd b hb =>by
  rcases hb with ⟨hb,_⟩ | hb
  ·obtain ⟨u',e'⟩:=goneP b hb
   exact ⟨u',s' b u' e'⟩
  ·exact ⟨_,by rw [hb]; exact hd⟩
 let X0:Cx:={ X with H₀:=upd H2 Da (.lst []) }
 have mkS:∀ {H':Hp} {σ':L2.St} {ys:List V},σ'.length = m + cs.length → (∀ (j:Nat) (d:D),cs[j]? = some d → ∃ v,σ'[m + j]? = some (some v) ∧ Rep W (vis H' Bq) d v) → Same H2 H' → H' Da = some (.lst ys) → SR X0 W (some Da) Bq H' σ' δ0:=fun {H' σ' ys} hl hc s' hd =>by
  refine SR.plain hk (by rw [hl]; simp [δ0,shAll]) (fun i w d e =>?_) (fun b u e hb =>?_) (softQ s' hd) (goneQ s' hd) (fun x hx =>by cases hx; exact ⟨_,hd⟩)
  ·obtain ⟨h1,h2,h3⟩:=δ0sh i w d e
   obtain ⟨v,q1,q2⟩:=hc _ d h3
   exact ⟨h1,v,by rw [← q1]; congr 1; omega,q2⟩
  ·have hb':b ≠ Da:=fun z =>hb (by rw [z])
   have e:upd H2 Da (.lst []) b = some u:=e
   rw [upd_ne hb'] at e
   exact s' b u e
 generalize hT:((compGo (fun x =>ev o ((x ++ cs).map fun d =>some (.sh,d)) false te) (fun x =>ev o ((x ++ cs).map fun d =>some (.sh,d)) true tc) m tup l).bind fun r =>
  R.chk (size r.length && (immL r || own)) (R.ok (true,D.lst r))) = Tt at h
 refine ⟨fun i k ys σ' H' =>∃ rs,i ≤ l.length ∧ k = l.length - i ∧ σ'.length = m + cs.length ∧ (∀ (j:Nat) (d:D),cs[j]? = some d → ∃ v,σ'[m + j]? = some (some v) ∧ Rep W (vis H' Bq) d v) ∧ Same H2 H' ∧ H' Da = some (.lst ys) ∧ Reps W (vis H' Bq) rs ys ∧
  ((compGo (fun x =>ev o ((x ++ cs).map fun d =>some (.sh,d)) false te) (fun x =>ev o ((x ++ cs).map fun d =>some (.sh,d)) true tc) m tup (l.drop i)).bind fun r =>R.chk (size (rs ++ r).length && (immL (rs ++ r) || own)) (R.ok (true,D.lst (rs ++ r)))) = Tt,⟨l.length,[],Nat.zero_le _,by simp,?_,?_,Same.upd hD,upd_same,by simp only [Reps],by simpa using hT⟩,?_⟩
 ·unfold blkSlots
  rw [c1,List.length_append,List.length_replicate,List.length_map,capR.length]
 ·intro j d e
  obtain ⟨v,q1,q2⟩:=capR.get e
  refine ⟨v,?_,q2.mono (upv (Same.upd hD))⟩
  unfold blkSlots
  rw [c1,List.getElem?_append_right (by simp),List.length_replicate,Nat.add_sub_cancel_left,List.getElem?_map,q1]
  rfl
 ·rintro i k ys σ' H' ⟨rs,hi,rfl,hl,hc,s',hd,hr,hTi⟩
  by_cases hlt:i < l.length
  ·
   refine .inr ⟨yl.go i H' s' (by omega),fun x H'' y =>?_⟩
   obtain ⟨d,ed⟩:∃ d,l[i]? = some d:=⟨_,List.getElem?_eq_getElem hlt⟩
   obtain ⟨sy,rd⟩:=(yl.yld i H' x H'' d s' ed y).rep (inP.trans (upv s')) (goneQ s' hd)
   replace hc:∀ (j:Nat) (d:D),cs[j]? = some d → ∃ v,σ'[m + j]? = some (some v) ∧ Rep W (vis H'' Bq) d v:=fun j d e =>
    let ⟨v,q1,q2⟩:=hc j d e
    ⟨v,q1,q2.mono (vis_mono sy)⟩
   replace hd:=sy Da _ hd
   replace hr:=hr.mono (vis_mono (P:=Bq) sy)
   replace s':=s'.trans sy
   have hdr:l.drop i = d :: l.drop (i + 1):=by
    obtain ⟨h1,h2⟩:=List.getElem?_eq_some_iff.mp ed
    rw [List.drop_eq_getElem_cons h1,h2]
   rw [hdr,compGo] at hTi
   cases e3:takes m tup d with
   | none =>rw [e3] at hTi; subst hTi; exact h.elim
   | some ds =>
   rw [e3] at hTi
   have lds:=takes_len hm e3
   have S0:=mkS hl hc s' hd
   have hset:setSlots δ0 (List.range m) ds = some (shAll ds ++ shAll cs):=by
    have:=setSlots_all ds (List.replicate m none) (shAll cs) (by simp [lds])
    rw [lds] at this
    exact this
   have δ1sh:∀ (i:Nat) (w:Own) (d:D),(shAll ds ++ shAll cs)[i]? = some (some (w,d)) → w = .sh:=fun i w d e =>by
    have:shAll ds ++ shAll cs = shAll (ds ++ cs):=by simp [shAll]
    rw [this] at e
    exact (shAll_get e).1
   have hap:(shAll ds ++ shAll cs) = (ds ++ cs).map fun d =>some (Own.sh,d):=by simp [shAll]
   have vp0:vis H'' (Hid Bq σ' δ0) = vis H'' Bq:=vis_plain fun i w d e =>(δ0sh i w d e).1
   refine hg (upd H2 Da (.lst [])) S0 (by rw [vp0]; exact rd) (by rw [List.length_range]; exact e3) hset fun σ1 S1 s1 =>?_
   have capS:∀ {H4:Hp},Same H'' H4 → ∀ (j:Nat) (d:D),cs[j]? = some d → ∃ v,σ1[m + j]? = some (some v) ∧ Rep W (vis H4 Bq) d v:=fun {H4} s4 j d e =>by
    obtain ⟨v,q1,q2⟩:=S1.sh (m + j) d (by
     rw [List.getElem?_append_right (by simp [shAll,lds])]
     simp [shAll,lds,e])
    rw [vis_plain δ1sh] at q2
    exact ⟨v,q1,q2.mono (vis_mono s4)⟩
   have len1:σ1.length = m + cs.length:=by rw [S1.len]; simp [shAll,lds]
   have hTi:((ev o ((ds ++ cs).map fun d =>some (.sh,d)) true tc).bind fun t =>(R.of (truth t.2)).bind fun b =>if b then (ev o ((ds ++ cs).map fun d =>some (.sh,d)) false te).bind fun y =>(compGo (fun x =>ev o ((x ++ cs).map fun d =>some (.sh,d)) false te) (fun x =>ev o ((x ++ cs).map fun d =>some (.sh,d)) true tc) m tup (l.drop (i + 1))).bind fun r =>.ok (y.2 :: r)
    else compGo (fun x =>ev o ((x ++ cs).map fun d =>some (.sh,d)) false te) (fun x =>ev o ((x ++ cs).map fun d =>some (.sh,d)) true tc) m tup (l.drop (i + 1))).bind (fun r =>R.chk (size (rs ++ r).length && (immL (rs ++ r) || own)) (R.ok (true,D.lst (rs ++ r)))) = Tt:=hTi
   refine ⟨some Da,Bq,_,S1,?_⟩
   show (match (ev o (shAll ds ++ shAll cs) true tc).bind (fun x =>R.of (truth x.2)) with | .ok b =>_ | .exc c =>_ | .stuck =>_)
   rw [hap]
   cases e4:ev o ((ds ++ cs).map fun d =>some (Own.sh,d)) true tc with
   | exc c =>rw [e4] at hTi; subst hTi; exact h.elim
   | stuck =>rw [e4] at hTi; subst hTi; exact h.elim
   | ok t =>
   rw [e4] at hTi
   show (match R.of (truth t.2) with | .ok b =>_ | .exc c =>_ | .stuck =>_)
   cases e5:truth t.2 with
   | none =>simp only [R.bind,e5,R.of] at hTi; subst hTi; exact h.elim
   | some bb =>
   simp only [R.bind,e5,R.of] at hTi
   intro H4 s4
   have hd4:H4 Da = some (.lst ys):=s4 Da _ hd
   cases bb with
   | false =>
     simp only [Bool.false_eq_true,if_false] at hTi ⊢
     exact ⟨l.length - (i + 1),by omega,rs,by omega,rfl,len1,capS s4,s'.trans s4,hd4,hr.mono (vis_mono s4),hTi⟩
   | true =>
     simp only [if_true] at hTi ⊢
     refine tD_iff.mpr ⟨some Da,Bq,_,S1.mono s4,?_⟩
     rw [hap]
     cases e6:ev o ((ds ++ cs).map fun d =>some (Own.sh,d)) false te with
     | exc c =>rw [e6] at hTi; subst hTi; exact h.elim
     | stuck =>rw [e6] at hTi; subst hTi; exact h.elim
     | ok y6 =>
     rw [e6] at hTi
     cases e7:compGo (fun x =>ev o ((x ++ cs).map fun d =>some (.sh,d)) false te) (fun x =>ev o ((x ++ cs).map fun d =>some (.sh,d)) true tc) m tup (l.drop (i + 1)) with
     | exc c =>simp only [e7] at hTi; subst hTi; exact h.elim
     | stuck =>simp only [e7] at hTi; subst hTi; exact h.elim
     | ok rr =>
     simp only [e7] at hTi
     intro v H5 s5 q
     rw [← hap] at q
     have q':=q.keep (S1.mono s4).know
     rw [vis_plain δ1sh] at q'
     have hd5:H5 Da = some (.lst ys):=s5 Da _ hd4
     have hsz:size (rs ++ y6.2 :: rr).length = true:=by
      subst hTi
      have:=(after_chk h).1
      simp only [Bool.and_eq_true] at this
      exact this.1
     have hlen:ys.length < sizeLine:=by
      have:=size_le hsz
      rw [List.length_append,List.length_cons,hr.length] at this
      omega
     have up6:Same (vis H5 Bq) (vis (upd H5 Da (.lst (ys ++ [v]))) Bq):=fun b u e =>by
      obtain ⟨z1,z2⟩:=vis_some e
      have hb:b ≠ Da:=fun z =>z2 (.inr z)
      exact vis_of (by rw [upd_ne hb]; exact z1) z2
     have s6:Same H2 (upd H5 Da (.lst (ys ++ [v]))):=fun b u e =>by
      rw [upd_ne (nD e)]
      exact s5 b u (s4 b u (s' b u e))
     refine ⟨hd5,hlen,l.length - (i + 1),by omega,rs ++ [y6.2],by omega,rfl,len1,fun j d e =>?_,s6,upd_same,?_,?_⟩
     ·obtain ⟨w,q1,q2⟩:=capS (s4.trans s5) j d e
      exact ⟨w,q1,q2.mono up6⟩
     ·refine Reps.append ((hr.mono (vis_mono (s4.trans s5))).mono up6) ?_
      simp only [Reps]
      exact ⟨q'.mono up6,trivial⟩
     ·show R.chk _ _ = _
      rw [← hTi]
      simp only [R.bind,List.append_assoc,List.singleton_append]
  ·
   have hil:i = l.length:=by omega
   subst hil
   refine .inl ⟨yl.stop H' s',?_⟩
   rw [List.drop_length,compGo] at hTi
   simp only [R.bind,List.append_nil] at hTi
   subst hTi
   obtain ⟨hc1,h⟩:=after_chk h
   simp only [Bool.and_eq_true,Bool.or_eq_true] at hc1
   refine h (.ref Da) H' (s.trans s') ?_
   unfold Res
   rw [if_pos rfl]
   refine ⟨Da,rfl,s.free hD,ys,hd,?_⟩
   rcases hc1.2 with him | ho
   ·refine (Reps.imm (H:=H') (P:=fun b =>P b ∨ b = Da) (fun b hb u e =>?_) him (hr.mono vis_le))
    rcases hb with hb | hb
    ·obtain ⟨u',e'⟩:=goneP b hb
     have:=s' b u' e'
     rw [e] at this; cases this
     exact softP b hb u e'
    ·rw [hb,hd] at e; cases e
     exact ⟨(by intro _ z; cases z),(by intro _ _ z; cases z)⟩
   ·refine hr.mono (vis_sub fun b hb =>?_)
    rcases hb with hb | hb
    ·exact .inl ⟨hb,.inl ho⟩
    ·exact .inr hb
end
end Z

namespace Z
open PySem PySem.Spec PyProof.Rows L2
theorem kV_inj {k k':Key} (h:kV k = kV k'):k = k':=by
 cases k <;> cases k' <;> simp [kV] at h <;> simp [h]
theorem dput_inv {H H':Hp} {a:Addr} {kvs:List (Key × V)} {k:Key} {v:V} {ep:Nat} (e:H a = some (.dK kvs ep)) (g:DPut H a (kV k) v H'):∃ ep',H' = upd H a (.dK (putK kvs k v) ep'):=by
 rcases g with ⟨kvs',k',e1,e2,h1,h2,_,h3⟩ | ⟨kvs',k',b,h1,h2,_⟩
 ·rw [e] at h1
  cases h1
  rw [kV_inj h2]
  exact ⟨e2,h3⟩
 ·rw [e] at h1; cases h1
section
variable {X:Cx} {W:Wd} {lk lk':Bool} {σ:L2.St} {H H1 H':Hp} {me:Option Addr} {B:Addr → Prop} {δ:Dst} {Q Q':VK} {a b:Expr} {pos p pos':Pos} {o:Orc}
theorem get_set {i j:Nat} {w w':Own} {d d' x:D} (hi:δ[i]? = some (some (w,d))) (h:(δ.set i (some (w,d')))[j]? = some (some (w',x))):(j = i ∧ w' = w ∧ x = d') ∨ (j ≠ i ∧ δ[j]? = some (some (w',x))):=by
 have hl:i < δ.length:=(List.getElem?_eq_some_iff.mp hi).1
 by_cases hj:j = i
 ·subst hj
  rw [List.getElem?_set_self hl] at h
  cases h
  exact .inl ⟨rfl,rfl,rfl⟩
 ·rw [List.getElem?_set_ne (Ne.symm hj)] at h
  exact .inr ⟨hj,h⟩
theorem holds_set {i:Nat} {w:Own} {d d':D} (hi:δ[i]? = some (some (w,d))) {j:Nat} {c:Addr}:Holds1 σ (δ.set i (some (w,d'))) j c ↔ Holds1 σ δ j c:=by
 have hl:i < δ.length:=(List.getElem?_eq_some_iff.mp hi).1
 constructor
 ·rintro ⟨⟨w',x,h1,h2⟩,h3⟩
  rcases get_set hi h1 with ⟨rfl,rfl,rfl⟩ | ⟨_,h⟩
  ·exact ⟨⟨_,_,hi,h2⟩,h3⟩
  ·exact ⟨⟨w',x,h,h2⟩,h3⟩
 ·rintro ⟨⟨w',x,h1,h2⟩,h3⟩
  by_cases hj:j = i
  ·subst hj
   rw [hi] at h1; cases h1
   exact ⟨⟨w,d',by rw [List.getElem?_set_self hl],h2⟩,h3⟩
  ·exact ⟨⟨w',x,by rw [List.getElem?_set_ne (Ne.symm hj)]; exact h1,h2⟩,h3⟩
theorem hid_set {i:Nat} {w:Own} {d d':D} (hi:δ[i]? = some (some (w,d))):Hid B σ (δ.set i (some (w,d'))) = Hid B σ δ:=by
 funext c
 apply propext
 unfold Hid
 constructor
 ·rintro (h | ⟨j,h⟩)
  ·exact .inl h
  ·exact .inr ⟨j,(holds_set hi).mp h⟩
 ·rintro (h | ⟨j,h⟩)
  ·exact .inl h
  ·exact .inr ⟨j,(holds_set hi).mpr h⟩
theorem SR.own (S:SR X W me B H σ δ) {i:Nat} {w:Own} {d:D} (hi:ownD δ i = some (w,d)):δ[i]? = some (some (w,d)) ∧ w ≠ .sh ∧ ∃ c,σ[i]? = some (some (V.ref c)) ∧ OwnAt W H (vis H (Hid B σ δ)) c d ∧ ¬ B c ∧ (∀ u,X.H₀ c = some u → some c = me):=by
 unfold ownD at hi
 split at hi
 ·rename_i d' e
  cases hi
  obtain ⟨c,h1,h2,h3,h4,h5⟩:=S.ow i _ e
  exact ⟨e,by decide,c,h1,h2,h4,fun u z =>by rw [h3] at z; cases z⟩
 ·rename_i d' e
  cases hi
  obtain ⟨_,c,h0,h1,h2,h4⟩:=S.mi i _ e
  exact ⟨e,by decide,c,h1,h2,h4,fun u _ =>h0.symm⟩
 ·cases hi
theorem SR.write (S:SR X W me B H σ δ) {i:Nat} {w:Own} {d d':D} {c:Addr} {u:HO} (hi:δ[i]? = some (some (w,d))) (hw:w ≠ .sh) (hc:σ[i]? = some (some (V.ref c))) (hB:¬ B c) (hX:∀ u,X.H₀ c = some u → some c = me)
 (new:OwnAt W (upd H c u) (vis H (Hid B σ δ)) c d'):SR X W me B (upd H c u) σ (δ.set i (some (w,d'))) ∧ Same (vis H (Hid B σ δ)) (vis (upd H c u) (Hid B σ (δ.set i (some (w,d'))))):=by
 have hid:Hid B σ δ c:=.inr ⟨i,⟨w,d,hi,hw⟩,hc⟩
 have up:Same (vis H (Hid B σ δ)) (vis (upd H c u) (Hid B σ δ)):=fun b v e =>by
  obtain ⟨e1,e2⟩:=vis_some e
  have hb:b ≠ c:=fun z =>e2 (z ▸ hid)
  exact vis_of (by rw [upd_ne hb]; exact e1) e2
 have other:∀ {j:Nat} {x:Own} {y:D},j ≠ i → δ[j]? = some (some (x,y)) → x ≠ .sh → ∀ {e:Addr},σ[j]? = some (some (V.ref e)) → e ≠ c:=fun hj h1 h2 e h3 z =>by
  subst z
  exact hj (S.apart _ _ _ ⟨⟨_,_,h1,h2⟩,h3⟩ ⟨⟨_,_,hi,hw⟩,hc⟩)
 refine ⟨?_,by rw [hid_set hi]; exact up⟩
 refine ⟨S.kf,by simp [S.len],fun j y h =>?_,fun j y h =>?_,fun j y h =>?_,fun j k e h1 h2 =>S.apart j k e ((holds_set hi).mp h1) ((holds_set hi).mp h2),fun b v e hb =>?_,fun b hb v e =>?_,fun b hb =>?_,fun x hx =>?_⟩
 ·rw [hid_set hi]
  rcases get_set hi h with ⟨_,rfl,_⟩ | ⟨_,h⟩
  ·exact absurd rfl hw
  ·obtain ⟨v,h1,h2⟩:=S.sh j y h
   exact ⟨v,h1,h2.mono up⟩
 ·rw [hid_set hi]
  rcases get_set hi h with ⟨rfl,rfl,rfl⟩ | ⟨hj,h⟩
  ·obtain ⟨e,h1,h2,h3,h4,h5⟩:=S.ow j d hi
   rw [hc] at h1; cases h1
   exact ⟨c,hc,new.mono (fun _ q =>q) up,h3,h4,h5⟩
  ·obtain ⟨e,h1,h2,h3⟩:=S.ow j y h
   exact ⟨e,h1,h2.mono (fun v q =>by rw [upd_ne (other hj h (by decide) h1)]; exact q) up,h3⟩
 ·rw [hid_set hi]
  rcases get_set hi h with ⟨rfl,rfl,rfl⟩ | ⟨hj,h⟩
  ·obtain ⟨h0,e,h1,h2,h3,h4⟩:=S.mi j d hi
   rw [hc] at h2; cases h2
   exact ⟨h0,c,h1,hc,new.mono (fun _ q =>q) up,h4⟩
  ·obtain ⟨h0,e,h1,h2,h3,h4⟩:=S.mi j y h
   exact ⟨h0,e,h1,h2,h3.mono (fun v q =>by rw [upd_ne (other hj h (by decide) h2)]; exact q) up,h4⟩
 ·have hbc:b ≠ c:=fun z =>hb (by subst z; exact hX v e)
  rw [upd_ne hbc]
  exact S.same b v e hb
 ·have hbc:b ≠ c:=fun z =>hB (z ▸ hb)
  rw [upd_ne hbc] at e
  exact S.soft b hb v e
 ·have hbc:b ≠ c:=fun z =>hB (z ▸ hb)
  rw [upd_ne hbc]
  exact S.gone b hb
 ·by_cases hxc:x = c
  ·subst hxc; exact ⟨u,upd_same⟩
  ·rw [upd_ne hxc]; exact S.live x hx
theorem PS.or {st:Stmt} {t t':TS} (h:PS X st t) (h':PS X st t'):PS X st (fun D σ H =>t D σ H ∨ t' D σ H):=by
 intro pins s σ H D I q
 rcases q with q | q
 ·exact h pins s σ H D I q
 ·exact h' pins s σ H D I q
theorem look_val {G:Hp}:∀ {ks:List DK} {vs:List D} {kvs:List (Key × V)} {x:DK} {d:D},kvs.map (·.1) = ks.map keyV → Reps W G vs (kvs.map (·.2)) → look ks vs x = some d → ∃ v,valV kvs (keyV x) = some v ∧ Rep W G d v
 | [],_,_,_,_,_,_,h =>by simp [look] at h
 | _ :: _,[],_,_,_,_,_,h =>by simp [look] at h
 | k :: ks,d' :: vs,[],_,_,e,_,_ =>by simp at e
 | k :: ks,d' :: vs,(k',v') :: kvs,x,d,e,r,h =>by
   simp only [List.map_cons,List.cons.injEq] at e
   simp only [List.map_cons,Reps] at r
   obtain ⟨e1,e2⟩:=e
   subst e1
   simp only [look] at h
   by_cases hk:k = x
   ·subst hk
    rw [if_pos rfl] at h
    cases h
    exact ⟨v',by simp [valV],r.1⟩
   ·rw [if_neg hk] at h
    obtain ⟨v,h1,h2⟩:=look_val e2 r.2 h
    refine ⟨v,?_,h2⟩
    have:¬ keyV k = keyV x:=fun z =>hk (keyV_inj z)
    simp only [valV] at h1 ⊢
    rw [List.find?_cons_of_neg (by simp [this])]
    exact h1
theorem key_rep {H G:Hp} {d:D} {x:DK} {y:V} (h:keyOf d = some x) (r:RepT W H G d y):y = kV (keyV x):=by
 cases d <;> first | exact nope h | simp only [keyOf] at h
 ·cases h; exact repT_int r
 ·cases h; exact (repT_str r).1
theorem key_len {H G:Hp} {d:D} {x:DK} {y:V} {z:List Nat} (h:keyOf d = some x) (r:RepT W H G d y) (e:DK.s z = x):z.length ≤ 16777216:=by
 subst e
 cases d <;> simp only [keyOf] at h <;> first | (cases h; done) | skip
 cases h; exact (repT_str r).2
theorem putK_ne {q:Key × V} {r:List (Key × V)} {k:Key} {v:V} (h:q.1 ≠ k):putK (q :: r) k v = q :: putK r k v:=by
 unfold putK
 rw [List.any_cons,decide_eq_false h,Bool.false_or]
 split
 ·rw [List.map_cons,if_neg h]
 ·rfl
theorem putK_eq {q:Key × V} {r:List (Key × V)} {k:Key} {v:V} (h:q.1 = k) (hn:k ∉ r.map (·.1)):putK (q :: r) k v = (q.1,v) :: r:=by
 unfold putK
 rw [List.any_cons,decide_eq_true h,Bool.true_or,if_pos rfl,List.map_cons,if_pos h]
 congr 1
 rw [List.map_congr_left (g:=id) (fun p hp =>?_),List.map_id]
 have:p.1 ≠ k:=fun z =>hn (z ▸ List.mem_map_of_mem hp)
 simp [this]
theorem keyV_mem {ks:List DK} {x:DK}:keyV x ∈ ks.map keyV ↔ x ∈ ks:=by
 constructor
 ·intro h
  obtain ⟨y,hy,e⟩:=List.mem_map.mp h
  rw [← keyV_inj e]; exact hy
 ·exact fun h =>List.mem_map_of_mem h
theorem put_both {G:Hp} {x:DK} {d:D} {v:V} (rd:Rep W G d v):∀ {ks:List DK} {vs:List D} {kvs:List (Key × V)},kvs.map (·.1) = ks.map keyV → ks.Nodup → Reps W G vs (kvs.map (·.2)) →
 (putK kvs (keyV x) v).map (·.1) = (putKs ks x).map keyV ∧ Reps W G (putV ks vs x d) ((putK kvs (keyV x) v).map (·.2))
 | [],[],[],_,_,_ =>by
   refine ⟨rfl,?_⟩
   simp only [putV,putK,List.any_nil,Bool.false_eq_true,if_false,List.nil_append,List.map_cons,List.map_nil,Reps]
   exact ⟨rd,trivial⟩
 | [],_ :: _,[],_,_,r =>by simp only [List.map_nil,Reps] at r
 | [],_,_ :: _,e,_,_ =>by simp at e
 | _ :: _,_,[],e,_,_ =>by simp at e
 | _ :: _,[],_ :: _,_,_,r =>by simp only [List.map_cons,Reps] at r
 | k0 :: ks,d0 :: vs,q :: kvs,e,nd,r =>by
   simp only [List.map_cons,List.cons.injEq] at e
   simp only [List.map_cons,Reps] at r
   obtain ⟨nd1,nd2⟩:=List.nodup_cons.mp nd
   by_cases hx:k0 = x
   ·subst hx
    rw [putK_eq e.1 (by rw [e.2,keyV_mem]; exact nd1)]
    simp only [putKs,putV,if_true,List.map_cons,e.1,e.2,Reps]
    exact ⟨trivial,rd,r.2⟩
   ·have hk:q.1 ≠ keyV x:=fun z =>hx (keyV_inj (e.1.symm.trans z))
    obtain ⟨h1,h2⟩:=put_both rd e.2 nd2 r.2
    rw [putK_ne hk]
    simp only [putKs,putV,if_neg hx,List.map_cons,e.1,Reps]
    exact ⟨by rw [h1],r.1,h2⟩
theorem putKs_mem {x y:DK}:∀ {ks:List DK},y ∈ putKs ks x ↔ y ∈ ks ∨ y = x
 | [] =>by simp [putKs]
 | k :: ks =>by
   simp only [putKs]
   split
   ·rename_i h
    subst h
    constructor
    ·exact .inl
    ·rintro (h | h)
     ·exact h
     ·rw [h]; exact List.mem_cons_self
   ·rw [List.mem_cons,putKs_mem,List.mem_cons,or_assoc]
theorem putKs_nodup {x:DK}:∀ {ks:List DK},ks.Nodup → (putKs ks x).Nodup
 | [],_ =>by simp [putKs]
 | k :: ks,h =>by
   obtain ⟨h1,h2⟩:=List.nodup_cons.mp h
   simp only [putKs]
   split
   ·exact h
   ·rename_i hk
    refine List.nodup_cons.mpr ⟨fun z =>?_,putKs_nodup h2⟩
    rcases putKs_mem.mp z with z | z
    ·exact h1 z
    ·exact hk z
theorem swapsSub {e o' i':Expr} {pp:Pos} {l:Nat} {env:Env}:swapsWith e (some (.Subscript o' i' pp)) l env = pure false:=by
 cases e <;> rfl
theorem ds_seti {i:Nat} {x:Str} {k e:Expr} {tk te:T} (hk:W.K = X.K) (hu:X.A.units + 1 < cLine) (hv:PE X (.Name x p) (tVar i)) (hK:PE X k (tD X W true fun δ =>ev o δ true tk)) (he:PE X e (tD X W false fun δ =>ev o δ false te))
 (ha:∀ v,assign (.Subscript (.Name x p) k pos') X.env v = (do
  let ov ← holding [v] (eval (.Name x p) X.env)
  let iv ← holding [v,ov] (eval k X.env)
  standAt pos'
  holding [v,ov,iv] (setItem ov iv v)
  release [v,ov,iv] []))
 (hs1:swapsWithSole [.Subscript (.Name x p) k pos'] e pos.line X.env = pure false) (hs2:swappedStores [.Subscript (.Name x p) k pos'] e X.env = pure none) (h1:(assignEach [.Subscript (.Name x p) k pos'] X.env).map (·.2) = [assign (.Subscript (.Name x p) k pos') X.env]) :
 PS X (.Assign [.Subscript (.Name x p) k pos'] e pos) (tS X W (evS o (.seti i tk te))):=by
 refine PS.imp (PS.or (ps_dput hu hv hK he swapsSub) (ps_asg he (pg_sub hv hK set_list ha) hs1 hs2 h1)) fun En σ H ⟨me,B,δ,S,h⟩ =>?_
 simp only [evS] at h
 obtain ⟨S1,e1⟩:=S.evF o te
 have sub1:=evF_sub (B:=B) (σ:=σ) (δ:=δ) o te
 generalize (evF o δ te).1 = δ1 at *
 generalize (evF o δ te).2 = r1 at *
 obtain ⟨r,e2,h⟩:=SO.of_ok h
 obtain ⟨y,e3,h⟩:=SO.of_ok h
 obtain ⟨q,e4,h⟩:=orStuck_ok h
 cases e5:ownD δ1 i with
 | none =>rw [e5] at e4; cases e4
 | some c =>
 obtain ⟨w,d⟩:=c
 rw [e5] at e4
 simp only [Option.bind_some] at e4
 cases e6:putItem d y.2 r.2 with
 | none =>rw [e6] at e4; cases e4
 | some d' =>
 rw [e6] at e4
 cases e4
 have go:∀ {K1:V → V → V → Hp → Prop},(∀ (ad:Addr) (v u:V) (H2:Hp),SR X W me B H2 σ δ1 → Same H H2 → σ[i]? = some (some (V.ref ad)) → Rep W (vis H2 (Hid B σ δ1)) r.2 v → RepT W H2 (vis H2 (Hid B σ δ1)) y.2 u → K1 (.ref ad) u v H2) →
  tD X W false (fun δ =>ev o δ false te) σ H fun v H1 =>tVar i σ H1 fun x H2 =>tD X W true (fun δ =>ev o δ true tk) σ H2 fun u H3 =>K1 x u v H3:=fun {K1} k1 =>by
  refine tD_iff.mpr ⟨me,B,δ1,S1,?_⟩
  rw [← e1,e2]
  intro v H1 s1 q1
  obtain ⟨_,_,ad,o3,_⟩:=S1.own e5
  refine ⟨_,o3,tD_iff.mpr ⟨me,B,δ1,S1.mono s1,?_⟩⟩
  rw [e3]
  intro u H2 s2 q2
  exact k1 ad v u H2 ((S1.mono s1).mono s2) (s1.trans s2) o3 ((q1.keep S1.know).mono (vis_mono s2)) q2.look
 have last:∀ {ad:Addr} {v u:V} {H2:Hp} {ob:HO},SR X W me B H2 σ δ1 → Same H H2 → σ[i]? = some (some (V.ref ad)) → OwnAt W (upd H2 ad ob) (vis H2 (Hid B σ δ1)) ad d' → En.nx σ (upd H2 ad ob):=fun {ad v u H2 ob} S2 s2 o3 new =>by
  obtain ⟨o1,o2,ad',o3',o4,o5,o6⟩:=S2.own e5
  rw [o3] at o3'; cases o3'
  obtain ⟨S3,s3⟩:=S2.write o1 o2 o3 o5 o6 new
  exact h _ _ S3 (((vis_sub sub1).trans (vis_mono s2)).trans s3)
 cases d with
 | dct ks vs =>
   simp only [putItem] at e6
   cases e7:keyOf y.2 with
   | none =>rw [e7] at e6; cases e6
   | some kx =>
   rw [e7] at e6
   simp only [Option.bind_some] at e6
   split at e6
   ·rename_i hsz
    cases e6
    refine .inl (go fun ad v u H2 S2 s2 o3 rv tu =>?_)
    obtain ⟨_,_,ad',o3',o4,_⟩:=S2.own e5
    rw [o3] at o3'; cases o3'
    obtain ⟨kvs,⟨ep,q1⟩,q2,q3,q4⟩:=o4
    have hl:kvs.length = ks.length:=by simpa using congrArg List.length q2
    refine ⟨ad,rfl,⟨upd H2 ad (.dK (putK kvs (keyV kx) v) 0),?_⟩,fun H4 g4 =>?_⟩
    ·rw [key_rep e7 tu]
     exact DPut.k q1 (by rw [hl,sizeLine_eq]; omega)
    ·rw [key_rep e7 tu] at g4
     obtain ⟨ep',rfl⟩:=dput_inv q1 g4
     refine last (v:=v) (u:=u) S2 s2 o3 ?_
     obtain ⟨p1,p2⟩:=put_both rv q2 q3.1 q4
     exact ⟨_,⟨ep',upd_same⟩,p1,⟨putKs_nodup q3.1,fun z hz =>(putKs_mem.mp hz).elim (q3.2 z) fun hz =>key_len e7 tu hz⟩,p2⟩
   ·cases e6
 | lst l =>
   cases e7:y.2 with
   | int j =>
     rw [e7] at e6
     simp only [putItem] at e6
     cases e8:place l.length j with
     | none =>rw [e8] at e6; cases e6
     | some n =>
     rw [e8] at e6
     cases e6
     refine .inr (go fun ad v u H2 S2 s2 o3 rv tu =>?_)
     rw [e7] at tu
     obtain ⟨_,_,ad',o3',o4,_⟩:=S2.own e5
     rw [o3] at o3'; cases o3'
     obtain ⟨xs,q1,q2⟩:=o4
     refine ⟨ad,xs,j,n,rfl,repT_int tu,q1,place_ix (α:=V) (by rw [← q2.length]; exact e8),last (v:=v) (u:=u) S2 s2 o3 ⟨_,upd_same,q2.set rv n⟩⟩
   | _ =>rw [e7] at e6; cases e6
 | _ =>cases e6
end
end Z

namespace Z
open PySem PySem.Spec PyProof.Rows L2
section
variable {X:Cx} {W:Wd} {lk lk':Bool} {σ:L2.St} {H H1 H':Hp} {me:Option Addr} {B:Addr → Prop} {δ:Dst} {Q Q':VK} {a b:Expr} {pos p pos' apos cpos:Pos} {o:Orc}
noncomputable def isStar1:Expr → Bool
 | .Starred _ _ =>true
 | _ =>false
theorem star1 {e:Expr} {es:List Expr} {env:Env} (h:isStar1 e = false):starEach (e :: es) env = (false,eval e env) :: starEach es env:=by
 cases e <;> first | rfl | (simp [isStar1] at h)
theorem few1 {e:Expr} {env:Env} (h:isStar1 e = false):((backTo cpos (starEach [e] env)).all (fun x =>!x.1) && (backToKw cpos (keywordEach [] env)).all (fun x =>x.1.isSome)
 && decide (([e]:List Expr).length + ([]:List Keyword).length + (if ([]:List Keyword).isEmpty then 0 else 1) < 30)) = true:=by
 rw [star1 h]; rfl
noncomputable def plainBase:Expr → Bool
 | .Call (.Name _ _) [] [] _ =>false
 | _ =>true
theorem base_of {e:Expr} {m:Str} {env:Env} {w:Sem Value} (h:plainBase e = true):attributeBase e m env w = w:=by
 unfold attributeBase
 split
 ·simp [plainBase] at h
 ·rfl
theorem swapsNone {f:Expr} {args:List Expr} {kws:List Keyword} {pp:Pos} {l:Nat} {env:Env}:swapsWith (.Call f args kws pp) none l env = pure false:=rfl
theorem ds_append {i:Nat} {x:Str} {e:Expr} {te:T} (hv:PE X (.Name x p) (tVar i)) (he:PE X e (tD X W false fun δ =>ev o δ false te)) (hst:isStar1 e = false) (hline:(apos.endLine == cpos.line) = true) :
 PS X (.Expr (.Call (.Attribute (.Name x p) "append" apos) [e] [] cpos) pos) (tS X W (evS o (.append i te))):=by
 refine PS.imp (ps_expr (pe_bm PySem.F.plainAttrs_list PySem.F.slot_list_append PySem.F.type_list_append mt_append hv (pa_cons he pa_nil (star1 hst)) (base_of rfl) (few1 hst) hline (star1 hst) rfl) swapsNone) fun En σ H ⟨me,B,δ,S,h⟩ =>?_
 simp only [evS] at h
 obtain ⟨S1,e1⟩:=S.evF o te
 have sub1:=evF_sub (B:=B) (σ:=σ) (δ:=δ) o te
 generalize (evF o δ te).1 = δ1 at *
 generalize (evF o δ te).2 = r1 at *
 obtain ⟨r,e2,h⟩:=SO.of_ok h
 obtain ⟨q,e4,h⟩:=orStuck_ok h
 cases e5:ownD δ1 i with
 | none =>rw [e5] at e4; cases e4
 | some c =>
 obtain ⟨w,d⟩:=c
 rw [e5] at e4
 simp only [Option.bind_some] at e4
 cases d with
 | lst l =>
   simp only at e4
   split at e4
   ·rename_i hsz
    cases e4
    obtain ⟨_,_,ad,o3,⟨xs0,q0,_⟩,_⟩:=S1.own e5
    refine ⟨_,o3,.inl ⟨rfl,xs0,SqL.of q0⟩,tD_iff.mpr ⟨me,B,δ1,S1,?_⟩⟩
    rw [← e1,e2]
    intro v H1 s1 q1
    obtain ⟨o1,o2,ad',o3',⟨xs,q2,q3⟩,o5,o6⟩:=(S1.mono s1).own e5
    rw [o3] at o3'; cases o3'
    have hz:=size_le hsz
    have hl:=q3.length
    refine ⟨ad,xs,v,rfl,rfl,q2,by omega,?_⟩
    have rv:=q1.keep S1.know
    obtain ⟨S3,s3⟩:=(S1.mono s1).write (u:=.lst (xs ++ [v])) (d':=.lst (l ++ [r.2])) o1 o2 o3 o5 o6 ⟨_,upd_same,q3.append (by simp only [Reps]; exact ⟨rv,trivial⟩)⟩
    exact h _ _ S3 (((vis_sub sub1).trans (vis_mono s1)).trans s3)
   ·cases e4
 | _ =>cases e4
theorem ds_expr {f:Expr} {args:List Expr} {kws:List Keyword} {te:T} (he:PE X (.Call f args kws cpos) (tD X W true fun δ =>ev o δ true te)):PS X (.Expr (.Call f args kws cpos) pos) (tS X W (evS o (.expr te))):=by
 refine PS.imp (ps_expr he swapsNone) fun En σ H ⟨me,B,δ,S,h⟩ =>?_
 simp only [evS] at h
 obtain ⟨r,e2,h⟩:=SO.of_ok h
 refine tD_iff.mpr ⟨me,B,δ,S,?_⟩
 rw [e2]
 intro v H1 s1 _
 exact h _ _ (S.mono s1) (vis_mono s1)
theorem ds_pass:PS X (.Pass pos) (tS X W (evS o .pass)):=by
 refine PS.imp ps_pass fun En σ H ⟨me,B,δ,S,h⟩ =>?_
 simp only [evS] at h
 exact h _ _ S (Same.refl _)
theorem ds_brk:PS X (.Break pos) (tS X W (evS o .brk)):=by
 refine PS.imp ps_break fun En σ H ⟨me,B,δ,S,h⟩ =>?_
 simp only [evS] at h
 exact h _ _ S (Same.refl _)
theorem ds_cont:PS X (.Continue pos) (tS X W (evS o .cont)):=by
 refine PS.imp ps_continue fun En σ H ⟨me,B,δ,S,h⟩ =>?_
 simp only [evS] at h
 exact h _ _ S (Same.refl _)
theorem ds_retn:PS X (.Return none pos) (tS X W (evS o .retn)):=by
 refine PS.imp ps_retN fun En σ H ⟨me,B,δ,S,h⟩ =>?_
 simp only [evS] at h
 refine h _ _ _ S (Same.refl _) ?_
 exact .shared (by simp only [Rep])
theorem rng_reps {G:Hp} (lo:Int) (n:Nat):Reps W G ((List.range n).map fun (k:Nat) =>D.int (lo + (k:Int))) ((List.range n).map fun (k:Nat) =>V.int (lo + (k:Int))):=by
 induction List.range n with
 | nil =>simp only [List.map_nil,Reps]
 | cons k l ih =>simp only [List.map_cons,Reps,Rep]; exact ⟨trivial,ih⟩
theorem inR_ok {i:Int} (h:inR i = true):-1000000 ≤ i ∧ i ≤ 1000000:=by
 unfold inR at h
 simpa using h
end
end Z

namespace L2
open PySem PySem.Spec PyProof.Rows
section
variable {X:Cx}
theorem vals_bools {ys:List Bool}:∀ {us:List Value},Vals (ys.map V.bl) us → us = ys.map Value.bool:=by
 induction ys with
 | nil =>intro us h; cases h; rfl
 | cons y ys ih =>
   intro us h
   rw [List.map_cons] at h
   cases h with
   | cons r t =>cases r; rw [ih t]; rfl
theorem old_kept {s:Shared} {h':Heap} {ob:Obj} (hk:∀ b x,b ∉ [s.heap.objs.size] → (s.heap.push ob).get? b = some x → h'.get? b = some x):∀ b x,s.heap.get? b = some x → h'.get? b = some x :=
 fun b x e =>hk b x (fun z =>absurd (Heap.lt_size e) (by rw [List.mem_singleton.mp z]; exact Nat.lt_irrefl _)) (Heap.get?_push_of_some _ e)
theorem call_allB (hc:X.calm = true):CallR X (.builtin "all") (fun xs H Q =>∃ (c:Addr) (bs:List Bool),xs = [.ref c] ∧ SqL X.K H c (bs.map V.bl) ∧ Q (.bl (bs.all id)) H):=by
 intro pins s σ H xs us Q I r h
 obtain ⟨c,bs,rfl,hq,q⟩:=h
 obtain ⟨u,rfl,rx⟩:=vals1 r
 cases rx
 obtain ⟨its,rv,pl,hz⟩:=I.list hq
 have eits:=vals_bools rv
 subst eits
 have hl:s.heap.IsList c (bs.map Value.bool).toArray:=pl.isList
 have hlt:c < s.heap.objs.size:=by obtain ⟨_,e,_⟩:=hl; exact Heap.lt_size e
 refine call_all_walk (wpAny_pyIter_list hl ?_)
 refine ⟨s.heap.objs.size,[s.heap.objs.size,c],[s.heap.objs.size],(bs.map Value.bool).toArray.size,_,_,fun i =>(bs[i]?).getD true,rfl,Walks.list (A:=X.A.in1) (I.ok.hd hc) _ c (Nat.ne_of_lt hlt) _,
  ⟨⟨_,Heap.get?_push_size _ rfl,rfl,rfl⟩,hl.push _⟩,fun i v s' Q' E' hP hQ =>?_,fun h' tk hk =>?_⟩
 ·have hP:(bs.map Value.bool)[i]? = some v:=by simpa using hP
  rw [List.getElem?_map] at hP
  cases e:bs[i]? with
  | none =>rw [e] at hP; cases hP
  | some b =>
    rw [e] at hP
    cases hP
    simp only [e,Option.getD_some] at hQ
    exact wpAny_truthy_bool hQ
 ·have e:((List.range (bs.map Value.bool).toArray.size).all fun i =>(bs[i]?).getD true) = bs.all id:=by
   rw [List.size_toArray,List.length_map,Bool.eq_iff_iff,List.all_eq_true,List.all_eq_true]
   constructor
   ·intro h b hb
    obtain ⟨i,hi,rfl⟩:=List.getElem_of_mem hb
    have:=h i (List.mem_range.mpr hi)
    simpa [List.getElem?_eq_getElem hi] using this
   ·intro h i hi
    have hi:=List.mem_range.mp hi
    simpa [List.getElem?_eq_getElem hi] using h _ (List.getElem_mem hi)
  rw [e]
  exact ⟨.bl (bs.all id),H,I.kept (old_kept hk),rfl,q⟩
theorem call_anyB (hc:X.calm = true):CallR X (.builtin "any") (fun xs H Q =>∃ (c:Addr) (bs:List Bool),xs = [.ref c] ∧ SqL X.K H c (bs.map V.bl) ∧ Q (.bl (bs.any id)) H):=by
 intro pins s σ H xs us Q I r h
 obtain ⟨c,bs,rfl,hq,q⟩:=h
 obtain ⟨u,rfl,rx⟩:=vals1 r
 cases rx
 obtain ⟨its,rv,pl,hz⟩:=I.list hq
 have eits:=vals_bools rv
 subst eits
 have hl:s.heap.IsList c (bs.map Value.bool).toArray:=pl.isList
 have hlt:c < s.heap.objs.size:=by obtain ⟨_,e,_⟩:=hl; exact Heap.lt_size e
 refine call_any_walk (wpAny_pyIter_list hl ?_)
 refine ⟨s.heap.objs.size,[s.heap.objs.size,c],[s.heap.objs.size],(bs.map Value.bool).toArray.size,_,_,fun i =>(bs[i]?).getD false,rfl,Walks.list (A:=X.A.in1) (I.ok.hd hc) _ c (Nat.ne_of_lt hlt) _,
  ⟨⟨_,Heap.get?_push_size _ rfl,rfl,rfl⟩,hl.push _⟩,fun i v s' Q' E' hP hQ =>?_,fun h' tk hk =>?_⟩
 ·have hP:(bs.map Value.bool)[i]? = some v:=by simpa using hP
  rw [List.getElem?_map] at hP
  cases e:bs[i]? with
  | none =>rw [e] at hP; cases hP
  | some b =>
    rw [e] at hP
    cases hP
    simp only [e,Option.getD_some] at hQ
    exact wpAny_truthy_bool hQ
 ·have e:((List.range (bs.map Value.bool).toArray.size).any fun i =>(bs[i]?).getD false) = bs.any id:=by
   rw [List.size_toArray,List.length_map,Bool.eq_iff_iff,List.any_eq_true,List.any_eq_true]
   constructor
   ·rintro ⟨i,hi,h⟩
    have hi:=List.mem_range.mp hi
    exact ⟨bs[i],List.getElem_mem hi,by simpa [List.getElem?_eq_getElem hi] using h⟩
   ·rintro ⟨b,hb,h⟩
    obtain ⟨i,hi,rfl⟩:=List.getElem_of_mem hb
    exact ⟨i,List.mem_range.mpr hi,by simpa [List.getElem?_eq_getElem hi] using h⟩
  rw [e]
  exact ⟨.bl (bs.any id),H,I.kept (old_kept hk),rfl,q⟩
section
variable {prog:Program} {w:World} {A:Around} {E:Value → Shared → Prop} {s:Shared}
theorem collect_src {T:String} {r d:Addr} {n:Nat} {P:Nat → Value → Prop} {OK:Heap → Prop} {Q:List Value → Shared → Prop} (K:PySem.W.KdlSrc prog w T r d n P OK) (hh:A.handled = none) (hok:OK s.heap) (hn:n ≤ sizeLine)
 (h:∀ h' tk acc,(∀ b o,s.heap.get? b = some o → h'.get? b = some o) → ItemsOf P acc n → Q acc.toList { s with heap:=h',toks:=tk }):wpAny (model prog w) A (collect (.ref r)) Q E s:=by
 have hlt:=K.there _ hok
 unfold collect
 refine wpAny_bind (wpAny_runValue (codeAny_builtin PySem.F.entry_proto_collect ?_))
 rw [Around.under_plainId PySem.F.plain_proto_collect _]
 show wpAny _ A.in1 (newList [] >>= fun acc =>again (.builtin "list.__iadd__" ⟨[acc,.ref r],[]⟩)) _ _ s
 refine wpAny_bind (wpAny_newObj_type ?_)
 refine wpAny_pure ⟨plainId_quiet PySem.F.plain_list_iadd _,codeAny_builtin PySem.F.entry_list_iadd ?_⟩
 rw [Around.under_plainId PySem.F.plain_list_iadd _]
 show wpAny _ A.in1 (Builtin.List.listExtendWith (.ref s.heap.objs.size) (.ref r) (.ref s.heap.objs.size)) _ _ _
 have hS0:(s.heap.push { cls:=.type "list",data:=.seq ([]:List Value).toArray }).get? s.heap.objs.size = some { cls:=.type "list",data:=.seq #[] 0 }:=Heap.get?_push_size _ rfl
 have hok0:OK (s.heap.push { cls:=.type "list",data:=.seq ([]:List Value).toArray }):=K.keep _ _ hok fun b _ o e =>Heap.get?_push_of_some _ e
 have fin:∀ r' s',(∃ h' tk acc c',r' = Except.ok (Flow.ret (.ref s.heap.objs.size)) ∧ s' = ({ s with heap:=h',toks:=tk }:Shared) ∧ (∀ b o,s.heap.get? b = some o → h'.get? b = some o) ∧ h'.get? s.heap.objs.size = some { cls:=.type "list",dict:=none,data:=.seq acc c',slots:=#[] } ∧ ItemsOf P acc n) →
  (match r' with
   | Except.ok (Flow.ret v) =>wpAny (model prog w) A (match v with
     | Value.ref a =>(do
       let ob ← load a
       match ob.data with
       | Data.seq xs _ =>pure xs.toList
       | _ =>unsupported "internal:collect")
     | _ =>unsupported "internal:collect") Q E s'
   | Except.ok _ =>False
   | Except.error e =>E e s'):=by
  rintro r' s' ⟨h',tk,acc,c',rfl,rfl,hk,hS,hacc⟩
  show wpAny _ A (load s.heap.objs.size >>= _) _ _ _
  refine wpAny_bind (wpAny_load hS ?_)
  exact wpAny_pure (h h' tk acc hk hacc)
 refine wpAny_mono (PySem.W.kdl_extend (A:=A) (s:={ s with heap:=s.heap.push { cls:=.type "list",data:=.seq ([]:List Value).toArray } }) (R:=fun r' s' =>∃ h' tk acc c',r' = Except.ok (Flow.ret (.ref s.heap.objs.size)) ∧ s' = ({ s with heap:=h',toks:=tk }:Shared) ∧ (∀ b o,s.heap.get? b = some o → h'.get? b = some o) ∧ h'.get? s.heap.objs.size = some { cls:=.type "list",dict:=none,data:=.seq acc c',slots:=#[] } ∧ ItemsOf P acc n)
  K hh hok0 s.heap.objs.size (Nat.ne_of_gt hlt.1) (Nat.ne_of_gt hlt.2) (.ref s.heap.objs.size) 0 hS0 (fun h' tk acc c' hk hS hacc =>⟨h',tk,acc,c',rfl,rfl,fun b o e =>hk b o (Nat.ne_of_lt (Heap.lt_size e)) (Heap.get?_push_of_some _ e),hS,hacc⟩) hn) (fun f s' hf =>?_) fun e s' he =>?_
 ·cases f with
  | done f =>exact fin _ _ hf
  | again c' =>exact ⟨hf.1,codeAny_mono hf.2 fun r' s' q =>fin r' s' q⟩
 ·obtain ⟨_,_,_,_,z,_⟩:=he
  cases z
theorem sorted_by {κ:PyProof.Rows.KeyKind} (hO:κ.OneLt) {x:Value} {Q:Value → Shared → Prop}
 (hc:∀ E',wpAny (model prog w) A.in1 (collect x) (fun vs s1 =>KeysOf κ (pairsOf vs) ∧ (∀ v₁ v₂ rest,vs = v₁ :: v₂ :: rest → keyKind' (v₁ :: v₂ :: rest).toArray = pure oneType') ∧ vs.length < 64 ∧
  ∀ (h':Heap) (st:SortSt),(∀ b o,s1.heap.get? b = some o → h'.get? b = some o) → (arrOf st).Perm (pairsOf vs) → SortedToK κ (arrOf st) (pairsOf vs).size → (∃ e,h'.get? s1.heap.objs.size = some (seqObj "list" ((arrOf st).map (·.2)) e)) →
   Q (.ref s1.heap.objs.size) { s1 with heap:=h' }) E' s):wpAny (model prog w) A (call (.builtin "sorted") [x]) Q E s:=by
 refine Calls.call_function_entry kind_sorted plain_sorted entry_sorted (args_sorted1 _) ?_
 unfold Builtin.«sorted»
 refine wpAny_bind (m:=checkCount "sorted" 1 1 _) (wpAny_pure ?_)
 refine wpAny_bind (wpAny_mono (hc _) (fun vs s1 h1 =>?_) fun _ _ e =>e)
 obtain ⟨h0,hkk,h64,hQ⟩:=h1
 refine wpAny_bind (wpAny_newList ?_)
 have hoL:(s1.heap.push (seqObj "list" vs.toArray 0)).get? s1.heap.objs.size = some (seqObj "list" vs.toArray 0):=Heap.get?_push_size _ rfl
 refine wpAny_bind (wpAny_holding (wpAny_call_entry slot_list_sort ⟨_,hoL,rfl⟩ entry_list_sort (list_sort_treeK hO hoL h0 hkk h64 fun st' a1 a2 =>⟨_,rfl,?_⟩) (args_list_sort _)))
 refine wpAny_pure ⟨_,rfl,hQ _ st' (fun b o e =>?_) a1 a2 (sortedHeap_at hoL)⟩
 have hlt:=Heap.lt_size e
 rw [sortedHeap_old (Nat.ne_of_lt hlt) (by rw [size_push']; exact Nat.lt_succ_of_lt hlt)]
 exact Heap.get?_push_of_some _ e
end
theorem strs_vals:∀ {ss:List Str} {its:List Value},Vals (ss.map V.str) its → StrsAre its ss
 | [],its,h =>by cases h; exact .nil
 | x :: ss,its,h =>by
   rw [List.map_cons] at h
   cases h with
   | cons r t =>
     obtain ⟨tk,rfl⟩:=r
     exact .cons x tk (strs_vals t)
theorem vals_strs:∀ {ss:List Str} {its:List Value},StrsAre its ss → Vals (ss.map V.str) its
 | _,_,.nil =>.nil
 | _,_,.cons x tk t =>by rw [List.map_cons]; exact .cons ⟨tk,rfl⟩ (vals_strs t)
theorem strs_keys {vs:List (Key × Value)}:∀ {ss:List Str} {its:List Value},vs.map (·.1) = ss.map Sum.inr → its.length = vs.length → (∀ (i:Nat) v,its[i]? = some v → ∃ k x,vs[i]? = some (k,x) ∧ keyIs k v = true) → StrsAre its ss:=by
 induction vs with
 | nil =>
   intro ss its e hl h
   cases ss with
   | nil =>
     have:its = []:=List.eq_nil_of_length_eq_zero hl
     subst this; exact .nil
   | cons _ _ =>simp at e
 | cons q vs ih =>
   intro ss its e hl h
   cases ss with
   | nil =>simp at e
   | cons x ss =>
     cases its with
     | nil =>simp at hl
     | cons v its =>
       simp only [List.map_cons,List.cons.injEq] at e
       obtain ⟨k,y,e1,e2⟩:=h 0 v rfl
       simp at e1
       have e3:k = Sum.inr x:=by rw [← e.1,e1]
       rw [e3] at e2
       rcases keyIs_shape e2 with ⟨i,t,z,_⟩ | ⟨x',t,z,rfl⟩
       ·cases z
       ·cases z
        exact .cons x t (ih e.2 (by simpa using hl) fun i u hu =>by simpa using h (i + 1) u (by simpa using hu))
theorem call_sortedS (hc:X.calm = true):CallR X (.builtin "sorted") (fun xs H Q =>∃ (c:Addr) (ss:List Str),xs = [.ref c] ∧ (SqL X.K H c (ss.map V.str) ∨ ∃ kvs:List (Key × V),(∃ ep,H c = some (.dK kvs ep)) ∧ kvs.map (·.1) = ss.map Sum.inr) ∧ ss.length < 64 ∧
 ∀ (l:Addr) (ss':List Str),ss'.Perm ss → PyProof.Rows.sortedS ss' = true → H l = none → Q (.ref l) (upd H l (.lst (ss'.map V.str)))):=by
 intro pins s σ H xs us Q I r h
 obtain ⟨c,ss,rfl,hq,h64,q⟩:=h
 obtain ⟨u,rfl,rx⟩:=vals1 r
 cases rx
 have key:∀ (vs:List Value) (s1:Shared),Inv X pins σ H s1 → StrsAre vs ss → vs.length = ss.length → KeysOf PyProof.Rows.strKind (pairsOf vs) ∧ (∀ v₁ v₂ rest,vs = v₁ :: v₂ :: rest → keyKind' (v₁ :: v₂ :: rest).toArray = pure oneType') ∧ vs.length < 64 ∧
  ∀ (h':Heap) (st:SortSt),(∀ b o,s1.heap.get? b = some o → h'.get? b = some o) → (arrOf st).Perm (pairsOf vs) → SortedToK PyProof.Rows.strKind (arrOf st) (pairsOf vs).size → (∃ e,h'.get? s1.heap.objs.size = some (seqObj "list" ((arrOf st).map (·.2)) e)) →
   EP X pins σ Q (.ref s1.heap.objs.size) { s1 with heap:=h' }:=fun vs s1 I1 hS hlen =>by
  refine ⟨hS.keysOf,fun v₁ v₂ rest e =>keyKind_strs (by rw [← e]; exact hS),by omega,fun h' st hk hp hs ho =>?_⟩
  obtain ⟨ss',a1,a2,a3⟩:=sorted_out_str hS hp hs
  obtain ⟨e,ho⟩:=ho
  have hl:=a2.length_eq
  refine ⟨.ref s1.heap.objs.size,_,I1.laid (a:=s1.heap.objs.size) (o:=.lst (ss'.map V.str)) (t':=s1.toks) hk (Nat.le_refl _) ?_,rfl,q _ ss' a2 a3 I1.fresh⟩
  refine ⟨by rw [List.length_map,sizeLine_eq]; omega,((arrOf st).map (·.2)).toList,e,vals_strs a1,?_⟩
  rw [ho]
 refine sorted_by PyProof.Rows.strKind_oneLt fun E' =>?_
 rcases hq with hq | ⟨kvs,hd,hks⟩
 ·obtain ⟨its,rv,pl,hz⟩:=I.list hq
  have hS:=strs_vals rv
  have hlen:its.length = ss.length:=by have:=rv.length; rw [List.length_map] at this; omega
  refine collect_list (vs:=its) pl.isList ?_ (by rw [hlen,sizeLine_eq]; omega)
  refine key its _ (I.kept (t':=s.toks) fun b o e =>?_) hS hlen
  rw [Heap.get?_update_ne _ _ _ _ (Nat.ne_of_lt (Heap.lt_size e))]
  exact Heap.get?_push_of_some _ e
 ·obtain ⟨z,lo,vs,rel,dd⟩:=dk_rd I.hok (hd.imp fun _ z =>.inl z)
  have hkeys:vs.map (·.1) = ss.map Sum.inr:=by rw [← hks]; exact rel.keys.symm
  have hlen:vs.length = ss.length:=by simpa using congrArg List.length hkeys
  obtain ⟨ep,dd⟩:=dd.dictAt
  refine collect_src (A:=X.A.in1) (PySem.W.kdl_dict (knd:=mixKind X.prog X.w) (kvs:=vs) (ep:=ep) lo) (I.ok.hd hc) dd (by rw [hlen,sizeLine_eq]; omega) fun h' tk acc hk hacc =>?_
  have hal:acc.toList.length = vs.length:=by rw [Array.length_toList]; exact hacc.1
  exact key acc.toList _ (I.kept hk) (strs_keys hkeys hal fun i v e =>hacc.2 i v (by rw [← Array.getElem?_toList]; exact e)) (by omega)
end
end L2

namespace Z
open PySem PySem.Spec PyProof.Rows L2
section
variable {X:Cx} {W:Wd} {lk lk':Bool} {σ:L2.St} {H H1 H':Hp} {me:Option Addr} {B:Addr → Prop} {δ:Dst} {Q Q':VK} {a b c:Expr} {pos p pos' apos cpos:Pos} {o:Orc} {fa fb fc:Dst → R (Bool × D)}
theorem strs_reps {G:Hp}:∀ {l:List D} {x:List (List Nat)} {vs:List V},strsOf l = some x → Reps W G l vs → vs = x.map fun y =>V.str (strV y)
 | [],x,vs,h,r =>by
   simp only [strsOf,Option.some.injEq] at h
   subst h
   cases vs with
   | nil =>rfl
   | cons _ _ =>simp only [Reps] at r
 | d :: l,x,[],h,r =>by simp only [Reps] at r
 | d :: l,x,v :: vs,h,r =>by
   cases d with
   | str y =>
     simp only [strsOf] at h
     cases e:strsOf l with
     | none =>rw [e] at h; cases h
     | some x' =>
       rw [e] at h
       cases h
       simp only [Reps,Rep] at r
       rw [r.1.1,strs_reps e r.2]
       rfl
   | _ =>simp [strsOf] at h
theorem m2_of {e f ob:Expr} {m:Str} (hb:plainBase ob = true) (h1:isStar1 e = false) (h2:isStar1 f = false) (hl:(apos.endLine == cpos.line) = true):M2 X ob m apos e f cpos:=by
 have e2:starEach [f] X.env = [(false,eval f X.env)]:=star1 h2
 have e1:starEach [e,f] X.env = [(false,eval e X.env),(false,eval f X.env)]:=by rw [star1 h1,e2]
 refine ⟨base_of hb,?_,hl,?_⟩
 ·rw [e1]; rfl
 ·rw [e1]; rfl
theorem look_none {G:Hp}:∀ {ks:List DK} {vs:List D} {kvs:List (Key × V)} {x:DK},kvs.map (·.1) = ks.map keyV → Reps W G vs (kvs.map (·.2)) → look ks vs x = none → valV kvs (keyV x) = none
 | [],_,[],_,_,_,_ =>rfl
 | [],_,_ :: _,_,e,_,_ =>by simp at e
 | _ :: _,_,[],_,e,_,_ =>by simp at e
 | _ :: _,[],_ :: _,_,_,r,_ =>by simp only [List.map_cons,Reps] at r
 | k :: ks,d' :: vs,(k',v') :: kvs,x,e,r,h =>by
   simp only [List.map_cons,List.cons.injEq] at e
   simp only [List.map_cons,Reps] at r
   obtain ⟨e1,e2⟩:=e
   subst e1
   simp only [look] at h
   by_cases hk:k = x
   ·subst hk; rw [if_pos rfl] at h; cases h
   ·rw [if_neg hk] at h
    have:=look_none e2 r.2 h
    have hne:¬ keyV k = keyV x:=fun z =>hk (keyV_inj z)
    simp only [valV] at this ⊢
    rw [List.find?_cons_of_neg (by simp [hne])]
    exact this
theorem d_get2 {ta tb tc:T} (hu:X.A.units + 1 < cLine) (ha:PE X a (tD X W true fun δ =>ev o δ true ta)) (hb:PE X b (tD X W true fun δ =>ev o δ true tb)) (hc:PE X c (tD X W false fun δ =>ev o δ false tc)) (m:M2 X a "get" apos b c cpos) :
 PE X (.Call (.Attribute a "get" apos) [b,c] [] cpos) (tD X W lk fun δ =>ev o δ lk (.get2 ta tb tc)):=by
 refine PE.imp (pe_dget2 hu ha hb hc m) fun σ H Q h =>?_
 obtain ⟨me,B,δ,S,h⟩:=tD_iff.mp h
 simp only [ev] at h
 refine tD.mono (part (fa:=fun δ =>ev o δ true ta) S h) fun v H1 ⟨r1,e1,S1,s1,t1,_,h1⟩ =>?_
 cases e2:r1.2 with
 | dct ks vs =>
   rw [e2] at t1
   obtain ⟨ad,kvs,rfl,q1,q2,q3,q4⟩:=t1
   refine ⟨ad,rfl,.inl ⟨kvs,q1.imp fun _ z =>.inl z⟩,?_⟩
   refine tD.mono (part (fa:=fun δ =>ev o δ true tb) (g:=fun y =>(ev o δ false tc).bind fun z =>get2D r1.2 y.2 z.2) S1 h1) fun u H2 ⟨r2,e3,S2,s2,t2,_,h2⟩ =>?_
   refine tD.mono (part (fa:=fun δ =>ev o δ false tc) (g:=fun z =>get2D r1.2 r2.2 z.2) S2 h2) fun z H3 ⟨r3,e4,S3,s3,t3,k3,h3⟩ =>?_
   rw [e2] at h3
   simp only [get2D] at h3
   cases e5:keyOf r2.2 with
   | none =>rw [e5] at h3; exact h3.elim
   | some x =>
     rw [e5] at h3
     simp only [Option.map_some,R.of] at h3
     refine ⟨valV kvs (keyV x),?_,?_⟩
     ·rw [key_rep e5 t2]
      obtain ⟨ep,q1⟩:=q1
      exact DGet.k ((s2.trans s3) _ _ q1)
     ·cases e6:look ks vs x with
      | some d =>
        obtain ⟨v,p1,p2⟩:=look_val q2 (q4.mono (vis_mono (s2.trans s3))) e6
        rw [p1]
        rw [e6] at h3
        exact h3 v H3 (Same.refl _) (.shared p2)
      | none =>
        rw [look_none q2 q4 e6]
        rw [e6] at h3
        exact h3 z H3 (Same.refl _) (.shared (k3.keep S2.know))
 | _ =>
   refine absurd h1 fun h1 =>?_
   rw [e2] at h1
   cases e3:ev o δ true tb with
   | ok r2 =>
     rw [e3] at h1
     cases e4:ev o δ false tc with
     | ok r3 =>simp only [R.bind,e4,get2D] at h1; exact h1.elim
     | exc c =>simp only [R.bind,e4] at h1; exact h1.elim
     | stuck =>simp only [R.bind,e4] at h1; exact h1.elim
   | exc c =>rw [e3] at h1; exact h1.elim
   | stuck =>rw [e3] at h1; exact h1.elim
theorem flat_rep {G:Hp} {d:D} {x:V} (h:flatD d = true) (r:RepT W H G d x):flatV x = true:=by
 cases d with
 | str s =>rw [(repT_str r).1]; rfl
 | non =>simp only [RepT,Rep] at r; subst r; rfl
 | bl b =>simp only [RepT,Rep] at r; subst r; rfl
 | int i =>simp only [RepT,Rep] at r; subst r; rfl
 | _ =>simp [flatD] at h
theorem eqS_flat {y x:D} {t:Bool} (h:eqS y x = some t):flatD y = true ∧ flatD x = true:=by
 cases y <;> cases x <;> simp [eqS] at h <;> exact ⟨rfl,rfl⟩
theorem eqS_eqV {G G':Hp} {dy dx:D} {y x:V} {t:Bool} (h:eqS dy dx = some t) (ry:RepT W H G dy y) (rx:RepT W H G' dx x):eqV y x = t:=by
 cases dy <;> cases dx <;> first | exact nope h | exact nopeR h | simp only [eqS] at h
 all_goals simp only [Option.some.injEq] at h
 all_goals (first | (have ry:=(repT_str ry).1) | (simp only [RepT,Rep] at ry))
 all_goals (first | (have rx:=(repT_str rx).1) | (simp only [RepT,Rep] at rx))
 all_goals subst ry
 all_goals subst rx
 all_goals (rw [← h])
 all_goals first
  | rfl
  | simp [eqV]
 all_goals (rw [Bool.eq_iff_iff]; simp only [beq_iff_eq,decide_eq_true_eq]; exact ⟨fun z =>strV_inj z,fun z =>by rw [z]⟩)
theorem inS_ok {G G':Hp} {dx:D} {x:V} (rx:RepT W G G' dx x):∀ {l:List D} {vs:List V} {t:Bool},inS dx l = some t → Reps W G l vs → vs.all flatV = true ∧ inV x vs = t
 | [],[],t,h,_ =>by
   simp only [inS,Option.some.injEq] at h
   subst h
   exact ⟨rfl,rfl⟩
 | [],_ :: _,_,_,r =>by simp only [Reps] at r
 | _ :: _,[],_,_,r =>by simp only [Reps] at r
 | d :: l,v :: vs,t,h,r =>by
   simp only [Reps] at r
   simp only [inS] at h
   cases e1:eqS d dx with
   | none =>rw [e1] at h; cases h
   | some s1 =>
     cases e2:inS dx l with
     | none =>rw [e1,e2] at h; cases h
     | some s2 =>
       rw [e1,e2] at h
       cases h
       obtain ⟨k1,k2⟩:=inS_ok rx e2 r.2
       have rt:RepT W G G d v:=r.1.top (Same.refl _)
       refine ⟨?_,?_⟩
       ·rw [List.all_cons,k1,Bool.and_true]
        exact flat_rep (eqS_flat e1).1 rt
       ·show (eqV v x || inV x vs) = _
        rw [k2,eqS_eqV e1 rt rx]
theorem flat_any {G G' H':Hp} {d:D} {x:V} (h:flatD d = true) (r:RepT W H G d x):RepT W H' G' d x:=by
 cases d with
 | str s =>simpa only [RepT,Rep] using r
 | non =>simpa only [RepT,Rep] using r
 | bl b =>simpa only [RepT,Rep] using r
 | int i =>simpa only [RepT,Rep] using r
 | _ =>simp [flatD] at h
noncomputable def seqIn (neg:Bool) (x y:D):R (Bool × D):=match y with
 | .lst l =>.of ((if flatD x then inS x l else none).map fun t =>(false,.bl (if neg then !t else t)))
 | .tup l =>.of ((if flatD x then inS x l else none).map fun t =>(false,.bl (if neg then !t else t)))
 | _ =>.stuck
theorem sem_inseq (neg:Bool) (hk:W.K = X.K):Sem2 W (rIn X.K neg) (seqIn neg):=by
 intro lk P H x y dx dy Q w d hS hK hx hy e k
 cases dy <;> first | exact nope e | exact nopeR e | simp only [seqIn] at e
 ·rename_i l
  by_cases hf:flatD dx = true
  ·rw [if_pos hf] at e
   cases e1:inS dx l with
   | none =>rw [e1] at e; cases e
   | some t =>
     rw [e1] at e
     cases e
     simp only [RepT,Rep] at hy
     obtain ⟨c,vs,rfl,q1,q2⟩:=hy
     obtain ⟨k1,k2⟩:=inS_ok (flat_any (G':=H) hf hx) e1 q2
     refine ⟨c,vs,rfl,.inr (hk ▸ same_tup vis_le q1),flat_rep hf hx,k1,?_⟩
     rw [k2]
     exact k _ H (Same.refl H) res_bl
  ·rw [if_neg hf] at e; cases e
 ·rename_i l
  by_cases hf:flatD dx = true
  ·rw [if_pos hf] at e
   cases e1:inS dx l with
   | none =>rw [e1] at e; cases e
   | some t =>
     rw [e1] at e
     cases e
     obtain ⟨c,vs,rfl,q1,q2⟩:=hy
     obtain ⟨k1,k2⟩:=inS_ok (flat_any (G':=H) hf hx) e1 q2
     refine ⟨c,vs,rfl,.inl (hk ▸ q1),flat_rep hf hx,k1,?_⟩
     rw [k2]
     exact k _ H (Same.refl H) res_bl
  ·rw [if_neg hf] at e; cases e
theorem look_mem:∀ {ks:List DK} {vs:List D} {x:DK},ks.length = vs.length → ((look ks vs x).isSome = decide (x ∈ ks))
 | [],[],_,_ =>by simp [look]
 | [],_ :: _,_,h =>by simp at h
 | _ :: _,[],_,h =>by simp at h
 | k :: ks,v :: vs,x,h =>by
   simp only [look]
   by_cases hk:k = x
   ·subst hk; simp
   ·rw [if_neg hk,look_mem (by simpa using h)]
    simp [Ne.symm hk]
theorem seqIn_noexc (neg:Bool):NoExc2 (seqIn neg):=by
 intro x y c
 cases y <;> simp only [seqIn] <;> first | exact of_noexc | (intro z; cases z)
noncomputable def opIn (neg:Bool):O2:=if neg then .notin else .in
theorem opIn_seq (neg:Bool) (x y:D) (h:∀ ks vs,y ≠ .dct ks vs):o2 (opIn neg) x y = seqIn neg x y:=by
 cases neg <;> cases y <;> simp only [opIn,if_true,Bool.false_eq_true,if_false,o2,isIn,seqIn] <;> first | rfl | (exact absurd rfl (h _ _)) | skip
theorem in_read (neg:Bool) (hk:W.K = X.K) (h:tD X W lk (fun δ =>(fa δ).bind fun x =>(fb δ).bind fun y =>o2 (opIn neg) x.2 y.2) σ H Q) :
 tOp (rIn X.K neg) (tD X W true fa) (tD X W true fb) σ H Q ∨ (fun σ H Q =>tD X W true fa σ H fun y H1 =>tD X W true fb σ H1 fun x H2 =>∃ a o,x = .ref a ∧ DGet H2 a y o ∧ Q (.bl (if neg then !o.isSome else o.isSome)) H2) σ H Q:=by
 obtain ⟨me,B,δ,S,h⟩:=tD_iff.mp h
 by_cases hd:∃ r ks vs,fb δ = .ok r ∧ r.2 = .dct ks vs
 ·obtain ⟨r,ks,vs,e,e2⟩:=hd
  refine .inr ?_
  refine tD.mono (part S h) fun v H1 ⟨r1,e1,S1,s1,t1,_,h1⟩ =>?_
  refine tD.mono (part (g:=fun y =>o2 (opIn neg) r1.2 y.2) S1 h1) fun u H2 ⟨r2,e3,S2,s2,t2,_,h2⟩ =>?_
  have:r2 = r:=by rw [e] at e3; cases e3; rfl
  subst this
  rw [e2] at t2 h2
  obtain ⟨ad,kvs,rfl,q1,q2,q3,q4⟩:=t2
  cases e4:keyOf r1.2 with
  | none =>
    refine absurd h2 fun h2 =>?_
    cases neg <;> simp only [opIn,if_true,Bool.false_eq_true,if_false,o2,isIn,e4] at h2 <;> exact h2.elim
  | some kx =>
    have h2:After X W lk σ H2 (Hid B σ δ) (.ok (false,.bl (if neg then !decide (kx ∈ ks) else decide (kx ∈ ks)))) Q:=by
     cases neg <;> simpa only [opIn,if_true,Bool.false_eq_true,if_false,o2,isIn,e4,Option.map_some,R.of] using h2
    have hl:ks.length = vs.length:=by
     have h1:=congrArg List.length q2
     simp only [List.length_map] at h1
     have h3:=q4.length
     simp only [List.length_map] at h3
     omega
    have hv:(valV kvs (keyV kx)).isSome = decide (kx ∈ ks):=by
     rw [← look_mem (x:=kx) hl]
     cases e5:look ks vs kx with
     | some d =>obtain ⟨w,p1,_⟩:=look_val q2 q4 e5; rw [p1]; rfl
     | none =>rw [look_none q2 q4 e5]; rfl
    refine ⟨ad,valV kvs (keyV kx),rfl,?_,?_⟩
    ·rw [key_rep e4 (t1.mono s2 (vis_mono s2))]
     obtain ⟨ep,q1⟩:=q1; exact DGet.k q1
    ·rw [hv]
     exact h2 _ H2 (Same.refl _) res_bl
 ·refine .inl (tOp_of (lk:=lk) (sem_inseq neg hk) (seqIn_noexc neg) ?_)
  refine tD_iff.mpr ⟨me,B,δ,S,?_⟩
  have e:((fa δ).bind fun x =>(fb δ).bind fun y =>seqIn neg x.2 y.2) = ((fa δ).bind fun x =>(fb δ).bind fun y =>o2 (opIn neg) x.2 y.2):=by
   congr 1
   funext x
   cases e3:fb δ with
   | ok r =>
     show seqIn neg x.2 r.2 = o2 (opIn neg) x.2 r.2
     rw [opIn_seq neg x.2 r.2 fun ks vs z =>hd ⟨r,ks,vs,e3,z⟩]
   | exc c =>rfl
   | stuck =>rfl
  show After X W lk σ H (Hid B σ δ) ((fa δ).bind fun x =>(fb δ).bind fun y =>seqIn neg x.2 y.2) Q
  rw [e]
  exact h
theorem PT.or {e:Expr} {t t':TT} (h:PT X e t) (h':PT X e t'):PT X e (fun σ H Q =>t σ H Q ∨ t' σ H Q):=by
 intro pins s σ H Q I q
 rcases q with q | q
 ·exact h pins s σ H Q I q
 ·exact h' pins s σ H Q I q
theorem in_bl (neg:Bool):∀ x y r,o2 (opIn neg) x y = .ok r → ∃ b,r = (false,.bl b):=by
 intro x y r h
 cases neg with
 | false =>
   simp only [opIn,Bool.false_eq_true,if_false,o2] at h
   cases e:isIn x y with
   | none =>rw [e] at h; cases h
   | some b =>rw [e] at h; cases h; exact ⟨_,rfl⟩
 | true =>
   simp only [opIn,if_true,o2] at h
   cases e:isIn x y with
   | none =>rw [e] at h; cases h
   | some b =>rw [e] at h; cases h; exact ⟨_,rfl⟩
theorem d_in (hk:W.K = X.K) (hu:X.A.units + 1 < cLine) (ha:PE X a (tD X W true fa)) (hb:PE X b (tD X W true fb)) (hm:behindInMarks .In b = false) :
 (∀ lk,PE X (.Compare a [.In] [b] pos) (tD X W lk fun δ =>(fa δ).bind fun x =>(fb δ).bind fun y =>o2 .in x.2 y.2)) ∧ PT X (.Compare a [.In] [b] pos) (tT X W fun δ =>(fa δ).bind fun x =>(fb δ).bind fun y =>o2 .in x.2 y.2):=by
 refine ⟨fun lk =>PE.imp (PE.or (pe_cmpR op_in_seq ha hb hm) (pe_cmp (pc_din hu ha hb) hm)) fun σ H Q h =>in_read false hk h,PT.imp (PT.or (pt_cmpR op_in_seq ha hb hm) (pt_cmp (pc_din hu ha hb) hm)) fun σ H Q h =>?_⟩
 exact in_read (lk:=true) false hk (tT_tD (fun δ r e =>by
  obtain ⟨y,_,e⟩:=bind_bl e
  obtain ⟨z,_,e⟩:=bind_bl e
  exact in_bl false _ _ _ e) h)
theorem d_notin (hk:W.K = X.K) (hu:X.A.units + 1 < cLine) (ha:PE X a (tD X W true fa)) (hb:PE X b (tD X W true fb)) (hm:behindInMarks .NotIn b = false) :
 (∀ lk,PE X (.Compare a [.NotIn] [b] pos) (tD X W lk fun δ =>(fa δ).bind fun x =>(fb δ).bind fun y =>o2 .notin x.2 y.2)) ∧ PT X (.Compare a [.NotIn] [b] pos) (tT X W fun δ =>(fa δ).bind fun x =>(fb δ).bind fun y =>o2 .notin x.2 y.2):=by
 refine ⟨fun lk =>PE.imp (PE.or (pe_cmpR op_notIn_seq ha hb hm) (pe_cmp (pc_dnotin hu ha hb) hm)) fun σ H Q h =>in_read true hk h,PT.imp (PT.or (pt_cmpR op_notIn_seq ha hb hm) (pt_cmp (pc_dnotin hu ha hb) hm)) fun σ H Q h =>?_⟩
 exact in_read (lk:=true) true hk (tT_tD (fun δ r e =>by
  obtain ⟨y,_,e⟩:=bind_bl e
  obtain ⟨z,_,e⟩:=bind_bl e
  exact in_bl true _ _ _ e) h)
end
end Z

namespace Z
open PySem PySem.Spec PyProof.Rows L2
theorem insS_perm (x:List Nat):∀ l,(insS x l).Perm (x :: l)
 | [] =>.refl _
 | y :: l =>by
   simp only [insS]
   split
   ·exact .refl _
   ·exact ((insS_perm x l).cons y).trans (.swap x y l)
theorem sortS_perm:∀ l,(sortS l).Perm l
 | [] =>.refl _
 | x :: l =>(insS_perm x (sortS l)).trans ((sortS_perm l).cons x)
theorem insS_sorted (x:List Nat):∀ {l:List (List Nat)},l.Pairwise (· ≤ ·) → (insS x l).Pairwise (· ≤ ·)
 | [],_ =>by simp [insS]
 | y :: l,h =>by
   obtain ⟨h1,h2⟩:=List.pairwise_cons.mp h
   simp only [insS,ltS_lt]
   split
   ·rename_i hx
    have hx:x < y:=of_decide_eq_true hx
    refine List.pairwise_cons.mpr ⟨fun z hz =>?_,h⟩
    rcases List.mem_cons.mp hz with e | hz
    ·subst e; exact List.le_of_lt hx
    ·exact List.le_trans (List.le_of_lt hx) (h1 z hz)
   ·rename_i hx
    have hx:¬ x < y:=fun z =>hx (decide_eq_true z)
    refine List.pairwise_cons.mpr ⟨fun z hz =>?_,insS_sorted x h2⟩
    rcases List.mem_cons.mp ((insS_perm x l).mem_iff.mp hz) with e | hz
    ·subst e; exact List.not_lt.mp hx
    ·exact h1 z hz
theorem sortS_sorted:∀ l,(sortS l).Pairwise (· ≤ ·)
 | [] =>.nil
 | x :: l =>insS_sorted x (sortS_sorted l)
theorem rising_pairwise:∀ (p:Str) (l:List Str),PyProof.Rows.risingS p l = true → (p :: l).Pairwise (fun a b =>a.cps.toList ≤ b.cps.toList)
 | p,[],_ =>by simp
 | p,x :: r,h =>by
   simp only [PyProof.Rows.risingS,Bool.and_eq_true,Bool.not_eq_true',ltCps_eq,decide_eq_false_iff_not] at h
   have ih:=rising_pairwise x r h.2
   have hp:p.cps.toList ≤ x.cps.toList:=List.not_lt.mp h.1
   refine List.pairwise_cons.mpr ⟨fun z hz =>?_,ih⟩
   rcases List.mem_cons.mp hz with e | hz
   ·subst e; exact hp
   ·exact List.le_trans hp ((List.pairwise_cons.mp ih).1 z hz)
theorem strV_codes (s:Str):strV s.cps.toList = s:=by
 cases s; simp [strV]
theorem sorted_unique {x:List (List Nat)} {ss:List Str} (hp:ss.Perm (x.map strV)) (hs:PyProof.Rows.sortedS ss = true):ss = (sortS x).map strV:=by
 have hpw:ss.Pairwise (fun a b =>a.cps.toList ≤ b.cps.toList):=by
  cases ss with
  | nil =>exact .nil
  | cons p l =>exact rising_pairwise p l hs
 have hpw2:((sortS x).map strV).Pairwise (fun a b:Str =>a.cps.toList ≤ b.cps.toList):=by
  rw [List.pairwise_map]
  refine (sortS_sorted x).imp fun {a b} h =>?_
  simpa [strV] using h
 refine List.Perm.eq_of_pairwise (le:=fun a b:Str =>a.cps.toList ≤ b.cps.toList) (fun a b _ _ h1 h2 =>?_) hpw hpw2 (hp.trans ((sortS_perm x).map strV).symm)
 have:=List.le_antisymm h1 h2
 rw [← strV_codes a,← strV_codes b,this]
section
variable {X:Cx} {W:Wd} {lk lk':Bool} {σ:L2.St} {H H1 H':Hp} {me:Option Addr} {B:Addr → Prop} {δ:Dst} {Q Q':VK} {a b c:Expr} {pos p pos' apos cpos:Pos} {o:Orc} {fa fb fc:Dst → R (Bool × D)}
theorem bools_reps {G:Hp}:∀ {l:List D} {x:List Bool} {vs:List V},boolsOf l = some x → Reps W G l vs → vs = x.map V.bl
 | [],x,vs,h,r =>by
   simp only [boolsOf,Option.some.injEq] at h
   subst h
   cases vs with
   | nil =>rfl
   | cons _ _ =>simp only [Reps] at r
 | d :: l,x,[],h,r =>by simp only [Reps] at r
 | d :: l,x,v :: vs,h,r =>by
   cases d with
   | bl y =>
     simp only [boolsOf] at h
     cases e:boolsOf l with
     | none =>rw [e] at h; cases h
     | some x' =>
       rw [e] at h
       cases h
       simp only [Reps,Rep] at r
       rw [r.1,bools_reps e r.2]
       rfl
   | _ =>simp [boolsOf] at h
theorem sem_all (hk:W.K = X.K):Sem1 W (fun xs H Q =>∃ (c:Addr) (bs:List Bool),xs = [.ref c] ∧ SqL X.K H c (bs.map V.bl) ∧ Q (.bl (bs.all id)) H) (b1D .all):=by
 intro lk P H x dx Q w d hS hK hx e k
 cases dx <;> first | exact nope e | exact nopeR e | simp only [b1D] at e
 rename_i l
 cases e1:boolsOf l with
 | none =>rw [e1] at e; cases e
 | some bs =>
   rw [e1] at e
   cases e
   obtain ⟨c,vs,rfl,q1,q2⟩:=hx
   have:=bools_reps e1 q2
   subst this
   exact ⟨c,bs,rfl,hk ▸ q1,k _ H (Same.refl H) res_bl⟩
theorem sem_any (hk:W.K = X.K):Sem1 W (fun xs H Q =>∃ (c:Addr) (bs:List Bool),xs = [.ref c] ∧ SqL X.K H c (bs.map V.bl) ∧ Q (.bl (bs.any id)) H) (b1D .any):=by
 intro lk P H x dx Q w d hS hK hx e k
 cases dx <;> first | exact nope e | exact nopeR e | simp only [b1D] at e
 rename_i l
 cases e1:boolsOf l with
 | none =>rw [e1] at e; cases e
 | some bs =>
   rw [e1] at e
   cases e
   obtain ⟨c,vs,rfl,q1,q2⟩:=hx
   have:=bools_reps e1 q2
   subst this
   exact ⟨c,bs,rfl,hk ▸ q1,k _ H (Same.refl H) res_bl⟩
theorem sem_tuple (hk:W.K = X.K):Sem1 W (fun xs H Q =>∃ p ys,xs = [.ref p] ∧ ((SqL X.K H p ys ∧ ∀ l,H l = none → Q (.ref l) (upd H l (.tup ys))) ∨ (SqT X.K H p ys ∧ Q (.ref p) H))) (b1D .tuple):=by
 intro lk P H x dx Q w d hS hK hx e k
 cases dx <;> first | exact nope e | exact nopeR e | simp only [b1D] at e
 ·cases e
  have hx':=hx
  simp only [RepT,Rep] at hx
  obtain ⟨c,vs,rfl,q1,q2⟩:=hx
  exact ⟨c,vs,rfl,.inr ⟨hk ▸ same_tup vis_le q1,k _ H (Same.refl H) (.shared hx')⟩⟩
 ·cases e
  obtain ⟨c,vs,rfl,q1,q2⟩:=hx
  exact ⟨c,vs,rfl,.inl ⟨hk ▸ q1,fun l hl =>k _ _ (Same.upd hl) (res_newT hl q2 hK)⟩⟩
theorem res_newD {P:Addr → Prop} {q:Addr} {ks:List DK} {vs:List D} {kvs:List (Key × V)} {ep:Nat} (hn:H q = none) (h1:kvs.map (·.1) = ks.map keyV) (h2:KsOk ks) (h:Reps W (vis H P) vs (kvs.map (·.2))):Res W P lk H (upd H q (.dK kvs ep)) true (.dct ks vs) (.ref q):=by
 unfold Res
 rw [if_pos rfl]
 refine ⟨q,rfl,hn,kvs,⟨ep,upd_same⟩,h1,h2,h.mono fun b o e =>?_⟩
 obtain ⟨e1,e2⟩:=vis_some e
 have hb:b ≠ q:=ne_of_none e1 hn
 refine vis_of (by rw [upd_ne hb]; exact e1) fun z =>?_
 rcases z with z | z
 ·exact e2 z
 ·exact hb z
theorem strs_keysD:∀ {ks:List DK} {x:List (List Nat)},strsOf (ks.map keyD) = some x → ks = x.map DK.s
 | [],x,h =>by simp only [List.map_nil,strsOf,Option.some.injEq] at h; subst h; rfl
 | k :: ks,x,h =>by
   cases k with
   | i n =>simp [keyD,strsOf] at h
   | s y =>
     simp only [List.map_cons,keyD,strsOf] at h
     cases e:strsOf (ks.map keyD) with
     | none =>rw [e] at h; cases h
     | some x' =>rw [e] at h; cases h; rw [strs_keysD e]; rfl
theorem strs_all:∀ {l:List D} {x:List (List Nat)} {vs:List V} {G:Hp},strsOf l = some x → Reps W G l vs → ∀ y ∈ x,y.length ≤ 16777216
 | [],x,vs,G,h,_,y,hy =>by simp only [strsOf,Option.some.injEq] at h; subst h; simp at hy
 | d :: l,x,[],G,h,r,y,hy =>by simp only [Reps] at r
 | d :: l,x,v :: vs,G,h,r,y,hy =>by
   cases d with
   | str z =>
     simp only [strsOf] at h
     cases e:strsOf l with
     | none =>rw [e] at h; cases h
     | some x' =>
       rw [e] at h
       cases h
       simp only [Reps,Rep] at r
       rcases List.mem_cons.mp hy with q | q
       ·subst q; exact r.1.2
       ·exact strs_all e r.2 y q
   | _ =>simp [strsOf] at h
theorem reps_strs {G:Hp}:∀ {x:List (List Nat)},(∀ y ∈ x,y.length ≤ 16777216) → Reps W G (x.map D.str) ((x.map strV).map V.str)
 | [],_ =>by simp only [List.map_nil,Reps]
 | y :: x,h =>by
   simp only [List.map_cons,Reps,Rep]
   exact ⟨⟨trivial,h y List.mem_cons_self⟩,reps_strs fun z hz =>h z (List.mem_cons_of_mem _ hz)⟩
theorem sem_sorted (hk:W.K = X.K):Sem1 W (fun xs H Q =>∃ (c:Addr) (ss:List Str),xs = [.ref c] ∧ (SqL X.K H c (ss.map V.str) ∨ ∃ kvs:List (Key × V),IsK H c kvs ∧ kvs.map (·.1) = ss.map Sum.inr) ∧ ss.length < 64 ∧
 ∀ (l:Addr) (ss':List Str),ss'.Perm ss → PyProof.Rows.sortedS ss' = true → H l = none → Q (.ref l) (upd H l (.lst (ss'.map V.str)))) (b1D .sorted):=by
 intro lk P H x dx Q w d hS hK hx e k
 simp only [b1D] at e
 cases e0:itemsS dx with
 | none =>rw [e0] at e; cases e
 | some l =>
 rw [e0] at e
 simp only [Option.bind_some] at e
 cases e1:strsOf l with
 | none =>rw [e1] at e; cases e
 | some xs =>
 rw [e1] at e
 simp only [Option.bind_some] at e
 split at e
 ·rename_i h64
  cases e
  have fin:(∀ y ∈ xs,y.length ≤ 16777216) → ∀ (l':Addr) (ss':List Str),ss'.Perm (xs.map strV) → PyProof.Rows.sortedS ss' = true → H l' = none → Q (.ref l') (upd H l' (.lst (ss'.map V.str))):=fun hall l' ss' hp hs hl =>by
   rw [sorted_unique hp hs]
   refine k _ _ (Same.upd hl) (res_new hl (reps_strs fun y hy =>hall y ((sortS_perm xs).mem_iff.mp hy)) hK)
  cases dx <;> first | exact nope e0 | exact nopeR e0 | simp only [itemsS] at e0
  ·cases e0
   obtain ⟨c,vs,rfl,q1,q2⟩:=hx
   have hall:=strs_all e1 q2
   have ev:=strs_reps e1 q2
   subst ev
   refine ⟨c,xs.map strV,rfl,.inl ?_,by simpa using h64,fin hall⟩
   rw [List.map_map]; exact hk ▸ q1
  ·cases e0
   obtain ⟨c,kvs,rfl,q1,q2,q3,q4⟩:=hx
   have hks:=strs_keysD e1
   subst hks
   refine ⟨c,xs.map strV,rfl,.inr ⟨kvs,q1,?_⟩,by simpa using h64,fin fun y hy =>q3.2 y (List.mem_map_of_mem hy)⟩
   rw [q2,List.map_map,List.map_map]
   rfl
 ·cases e
end
end Z

namespace Z
open PySem PySem.Spec PyProof.Rows L2
section
variable {X:Cx} {W:Wd} {lk lk':Bool} {σ:L2.St} {H H1 H':Hp} {me:Option Addr} {B:Addr → Prop} {δ:Dst} {Q Q':VK} {a b c:Expr} {pos p pos' apos cpos px spos:Pos} {o:Orc}
theorem d_dnew0:PE X (.Dict [] [] pos) (tD X W lk fun δ =>ev o δ lk (.dnew [] .nil)):=by
 refine PE.imp pe_dnewK fun σ H Q h =>?_
 obtain ⟨me,B,δ,S,h⟩:=tD_iff.mp h
 simp only [ev,evL,R.bind] at h
 obtain ⟨_,h⟩:=after_chk h
 intro q ep hq
 exact h _ _ (Same.upd hq) (res_newD hq rfl ⟨List.nodup_nil,fun x hx =>by simp at hx⟩ (by simp only [List.map_nil,Reps]))
noncomputable def Itd (a:Addr) (kvs:List (Key × V)) (ep:Nat):It:=⟨fun i H =>H a = some (.dK kvs ep) ∧ i < kvs.length,fun i H x H' =>H' = H ∧ ∃ p,kvs[i]? = some p ∧ x = kV p.1,fun i H =>H a = some (.dK kvs ep) ∧ kvs.length ≤ i⟩
theorem is_kV {P:Program} {w:World} {k:Key} {u:Value} (h:(mixKind P w).is k u = true):RelV (kV k) u:=by
 rcases keyIs_shape (show keyIs k u = true from h) with ⟨i,t,rfl,rfl⟩ | ⟨x,t,rfl,rfl⟩
 ·exact ⟨t,rfl⟩
 ·exact ⟨t,rfl⟩
theorem turn_dict {P:Program} {w:World} {K:PySem.W.Frag} {tg:Expr} (a it:Addr) (kvs:List (Key × V)) (ep:Nat):Turn P w K tg (Itd a kvs ep) [it] it (fun i h =>h.IsKeyIter it a i kvs.length ep) where
 mem:=by simp
 obj:=fun i h st b hb =>by
  have e:b = it:=by simpa using hb
  subst e
  obtain ⟨o,e,c,d⟩:=st
  exact ⟨o,e,fun v z =>by rw [d] at z; cases z⟩
 keep:=fun i h h' st k =>st.at fun o e =>k it (by simp) o e
 item:=by
  intro X hP hw hK hc i pins s σ H E I hf st hg
  subst hP hw hK
  obtain ⟨hq,hi⟩:=hg
  obtain ⟨_,lo,vs,rel,dd⟩:=(show ObjOk X.prog X.w H s.heap a (.dK kvs ep) from I.hok a _ hq)
  obtain ⟨f0,f1,f2,f3,f4,f5⟩:=hf it (by simp)
  have hl:kvs.length = vs.length:=rel.length
  have hx:vs[i]? = some (vs[i]'(by omega)):=by simp
  have hkeys:=rel.keys
  rw [hl] at st ⊢
  refine wpAny_pyNext_dict_item st dd (k:=(vs[i]'(by omega)).1) (v:=(vs[i]'(by omega)).2) hx fun key h' hkey st' sb =>?_
  have I1:Inv X pins σ H { s with heap:=h' }:=I.turned (t':=s.toks) (fun b o hb e =>(sb.2 b hb).trans e) f0 f1 f3 f4 f5
  obtain ⟨o,e,c,d⟩:=id st'
  have ek:(kvs[i]).1 = (vs[i]'(by omega)).1:=by
   have:=congrArg (fun l =>l[i]?) hkeys
   simpa [hi,show i < vs.length by omega] using this
  exact ⟨key,rfl,go_of (s:={ s with heap:=h' }) e c d (by decide) ⟨kV (kvs[i]).1,H,I1,by rw [ek]; exact is_kV hkey,⟨rfl,kvs[i],by simp,rfl⟩,st',fun b hb =>(hf b hb).1⟩⟩
 done:=by
  intro X hP hw hK hc i pins s σ H E I hf st hg
  subst hP hw hK
  obtain ⟨hq,hi⟩:=hg
  obtain ⟨_,lo,vs,rel,dd⟩:=(show ObjOk X.prog X.w H s.heap a (.dK kvs ep) from I.hok a _ hq)
  obtain ⟨f0,f1,f2,f3,f4,f5⟩:=hf it (by simp)
  have hl:kvs.length = vs.length:=rel.length
  rw [hl] at st
  exact wpAny_pyNext_dict_end (I.ok.hd hc) st dd (by simp; omega) fun h' eb =>⟨rfl,I.turned (t':=s.toks) (fun b o hb e =>eb b o hb e) f0 f1 f3 f4 f5⟩
 self:=fun _ _ _ _ _ st h =>wpAny_pyIter_keyiter st h
noncomputable def iDct (tl:TE):L2.TI:=fun σ H R =>tl σ H fun x H1 =>∃ a kvs ep,x = .ref a ∧ H1 a = some (.dK kvs ep) ∧ R (Itd a kvs ep) H1
theorem pi_dict {tg l:Expr} {tl:TE} (hl:PE X l tl):PI X tg l (iDct tl):=by
 intro pins s σ H R I h
 refine thn (hl pins s σ H _ I h) fun v s1 ⟨x,H1,I1,r1,q1⟩ =>?_
 obtain ⟨a,kvs,ep,e,hq,q⟩:=q1
 subst e
 cases r1
 obtain ⟨_,lo,vs,rel,dd⟩:=(show ObjOk X.prog X.w H1 s1.heap a (.dK kvs ep) from I1.hok a _ hq)
 have hlen:kvs.length = vs.length:=rel.length
 refine wpAny_pyIter_dict lo dd ?_
 refine ⟨s1.heap.objs.size,[s1.heap.objs.size],_,_,H1,rfl,I1.kept (t':=s1.toks) fun b o e =>Heap.get?_push_of_some _ e,turn_dict a _ kvs ep,⟨_,Heap.get?_push_size _ rfl,rfl,by rw [hlen]; rfl⟩,fun b hb =>?_,q⟩
 have e:b = s1.heap.objs.size:=by simpa using hb
 subst e
 exact I1.fpOk (Nat.le_refl _) (I1.hok.fresh (Nat.le_refl _))
theorem yields_dict {H2:Hp} {a:Addr} {kvs:List (Key × V)} {ep:Nat} (h:H2 a = some (.dK kvs ep)):Yields (Itd a kvs ep) H2 (kvs.map fun p =>kV p.1) where
 go:=fun i H' s hi =>⟨s _ _ h,by simpa using hi⟩
 yld:=fun i H' x H'' s _ ⟨e,p,e1,e2⟩ =>⟨e,by rw [List.getElem?_map,e1,e2]; rfl⟩
 stop:=fun H' s =>⟨s _ _ h,by simp⟩
theorem reps_keys {G:Hp}:∀ {ks:List DK} {kvs:List (Key × V)},kvs.map (·.1) = ks.map keyV → (∀ x,DK.s x ∈ ks → x.length ≤ 16777216) → Reps W G (ks.map keyD) (kvs.map fun p =>kV p.1)
 | [],[],_,_ =>by simp only [List.map_nil,Reps]
 | [],_ :: _,e,_ =>by simp at e
 | _ :: _,[],e,_ =>by simp at e
 | k :: ks,p :: kvs,e,h =>by
   simp only [List.map_cons,List.cons.injEq] at e
   simp only [List.map_cons,Reps]
   refine ⟨?_,reps_keys e.2 fun x hx =>h x (List.mem_cons_of_mem _ hx)⟩
   rw [e.1]
   cases k with
   | i n =>simp only [keyD,keyV,kV,Rep]
   | s x =>simp only [keyD,keyV,kV,Rep]; exact ⟨trivial,h x List.mem_cons_self⟩
noncomputable def WalkR (X:Cx) (W:Wd) (o:Orc) (it:TI) (wi:L2.TI):Prop:=∀ σ H (K:It → Hp → Prop),(∃ me B δ l,SR X W me B H σ δ ∧ evI o δ true it = .ok l ∧ ∀ J H2,Same H H2 → Ylds W J H2 (vis H2 (Hid B σ δ)) l → K J H2) → wi σ H K
section
variable {scope:Scope} {N:List Str} {elt tg iter:Expr} {ifs:List Expr} {m:Nat} {caps:List Nat} {tup:Bool} {g:TG} {it:TI} {tc te:T}
structure CompIn (X:Cx) (W:Wd) (o:Orc) (scope:Scope) (N:List Str) (elt tg iter:Expr) (ifs:List Expr) (m:Nat) (caps:List Nat) (tup:Bool) (g:TG) (it:TI) (tc te:T):Prop where
 hk:W.K = X.K
 hx:X.xe = Never
 hc:X.calm = true
 B:Blk scope
 C:Caps X scope N m caps
 hm:tup = false → m = 1
 hi:∃ wi,PI X tg iter wi ∧ WalkR X W o it wi
 hg:∀ fp pins s H,PG (cxC X scope N fp pins s H) tg g
 hr:∀ H0,TgR { X with H₀:=H0 } W (List.range m) tup g
 ht:∀ fp pins s H,PIf (cxC X scope N fp pins s H) ifs (tT (cxC X scope N fp pins s H) W fun δ =>ev o δ true tc)
 he:∀ fp pins s H,PE (cxC X scope N fp pins s H) elt (tD (cxC X scope N fp pins s H) W false fun δ =>ev o δ false te)
 hs:∀ x,foldedSetIterable iter X.env x = pure x
theorem PIf.imp {t t':TT} {ifs:List Expr} (h:PIf X ifs t) (i:∀ σ H Q,t' σ H Q → t σ H Q):PIf X ifs t':=fun pins s σ H Q I hw =>h pins s σ H Q I (i σ H Q hw)
theorem d_comp (A:CompIn X W o scope N elt tg iter ifs m caps tup g it tc te):PE X (.ListComp elt [⟨tg,iter,ifs,0⟩] scope pos) (tD X W lk fun δ =>ev o δ lk (.comp caps m tup it tc te)):=by
 obtain ⟨wi,h1,h2⟩:=A.hi
 refine PE.imp (pe_comp (tc:=fun H0 =>tT { X with H₀:=H0 } W fun δ =>ev o δ true tc) (te:=fun H0 =>tD { X with H₀:=H0 } W false fun δ =>ev o δ false te) A.hx A.hc A.B A.C h1 A.hg (fun fp pins s H =>PIf.imp (A.ht fp pins s H) fun σ H' Q h =>tT.cx (X:={ X with H₀:=H }) rfl rfl h) (fun fp pins s H =>PE.imp (A.he fp pins s H) fun σ H' Q h =>tD.cx (X:={ X with H₀:=H }) rfl rfl h) A.hs) fun σ H Q h =>?_
 exact comp_read A.hk A.hm h2 A.hr h
theorem d_setC {i:Nat} {x:Str} {bsw:Bool} (A:CompIn X W o scope N elt tg iter ifs m caps tup g it tc te) (hN:X.N.Nodup) (hi:X.N[i]? = some x) (hx:Loc X.env.scope x) (hf:X.fn x = true ∨ X.env.scope.names.lookup x = some .local)
 (hb:bsw = true → X.env.scope.names.lookup x = some .local) (hsw:swapsWith (.ListComp elt [⟨tg,iter,ifs,0⟩] scope pos) (some (.Name x px)) spos.line X.env = pure bsw) :
 PS X (.Assign [.Name x px] (.ListComp elt [⟨tg,iter,ifs,0⟩] scope pos) spos) (tS X W (evS o (.set i (.comp caps m tup it tc te)))):=by
 cases bsw with
 | false =>exact d_set hN hi hx (d_comp A) hsw hf
 | true =>
   obtain ⟨wi,h1,h2⟩:=A.hi
   refine PS.imp (ps_compSet (tc:=fun H0 =>tT { X with H₀:=H0 } W fun δ =>ev o δ true tc) (te:=fun H0 =>tD { X with H₀:=H0 } W false fun δ =>ev o δ false te) A.hx A.hc A.B A.C h1 A.hg (fun fp pins s H =>PIf.imp (A.ht fp pins s H) fun σ H' Q h =>tT.cx (X:={ X with H₀:=H }) rfl rfl h) (fun fp pins s H =>PE.imp (A.he fp pins s H) fun σ H' Q h =>tD.cx (X:={ X with H₀:=H }) rfl rfl h) A.hs hN hi (hb rfl) hsw) fun D σ H ⟨me,B,δ,S,h⟩ =>?_
   refine comp_read (lk:=false) A.hk A.hm h2 A.hr ?_
   simp only [evS] at h
   obtain ⟨S1,e1⟩:=S.evF o (.comp caps m tup it tc te)
   obtain ⟨r,e2,h⟩:=SO.of_ok h
   obtain ⟨q,e3,h⟩:=orStuck_ok h
   cases e4:setSlot (evF o δ (.comp caps m tup it tc te)).1 i r.1 r.2 with
   | none =>rw [e4] at e3; cases e3
   | some δ' =>
     rw [e4] at e3
     cases e3
     obtain ⟨h1,rfl⟩:=setSlot_ok e4
     refine tD_iff.mpr ⟨me,B,_,S1,?_⟩
     rw [← e1,e2]
     intro v H' s q
     obtain ⟨S2,s2⟩:=S1.store s q h1
     exact h _ _ S2 ((vis_sub (evF_sub o (.comp caps m tup it tc te))).trans s2)
end
end
end Z

namespace Z
open PySem PySem.Spec PyProof.Rows L2
section
variable {prog:Program} {w:World} {A:Around} {E:Value → Shared → Prop} {s:Shared}
theorem draw_one {it t:Addr} {i:Nat} {items:Array Value} {x:Value} {Q:Value → Shared → Prop} (hit:s.heap.IsTupleIter it t i) (ht:s.heap.IsTuple t items) (hx:items[i]? = some x) (hQ:∀ h',h'.IsTupleIter it t (i + 1) → Heap.SameBut it s.heap h' → Q x { s with heap:=h' }):wpAny (model prog w) A (Builtin.SmallTypes.nextOf (.ref it)) Q E s:=by
 obtain ⟨o,ho,hc,hd⟩:=id hit; obtain ⟨ol,hol,_,nl,hdl⟩:=ht; unfold Builtin.SmallTypes.nextOf
 refine wpAny_bind (wpAny_callSpecial?_slot (name:=Str.ofString "__next__") hit.typeIs F.slot_tuple_iterator_next (wpAny_call_entry F.slot_tuple_iterator_next hit.typeIs F.entry_tuple_iterator_next ?_ (F.args_tuple_iterator_next_1 _)))
 show wpAny _ _ (field (.ref it) 0 >>= _) _ _ s; refine wpAny_bind (wpAny_field ho hd (x:=.ref t) rfl ?_); show wpAny _ _ (if (Value.ref t == Value.none) = true then _ else _) _ _ s
 rw [if_neg (show ¬ ((Value.ref t == Value.none) = true) from Bool.false_ne_true)]; show wpAny _ _ (field (.ref it) 1 >>= _) _ _ s; refine wpAny_bind (wpAny_field ho hd (x:=.int i 0) rfl ?_); show wpAny _ _ (seqItems? (.ref t) >>= _) _ _ s
 refine wpAny_bind (wpAny_seqItems hol hdl ?_); simp only [Int.toNat_natCast,hx]
 refine wpAny_bind (wpAny_setField ho hd (by simp) (wpAny_pure ⟨x,rfl,wpAny_pure (hQ _ ⟨_,Heap.get?_update_self _ ho (Obj.isFreed_of_fields (Obj.data_mapFields hd _)),(Obj.cls_mapFields ..).trans hc,by rw [Obj.data_mapFields hd]; simp [rawInt]⟩ (Heap.SameBut.update ..))⟩))
theorem draw_end {it t:Addr} {i:Nat} {items:Array Value} {Q:Value → Shared → Prop} (hh:A.handled = none) (hit:s.heap.IsTupleIter it t i) (ht:s.heap.IsTuple t items) (hx:items[i]? = none)
 (hE:∀ h' e,Heap.ExtBut it s.heap h' → (∃ o,h'.get? e = some o ∧ o.cls = .type "StopIteration") → E (.ref e) { s with heap:=h' }):wpAny (model prog w) A (Builtin.SmallTypes.nextOf (.ref it)) Q E s:=by
 obtain ⟨o,ho,hc,hd⟩:=id hit; obtain ⟨ol,hol,_,nl,hdl⟩:=ht; unfold Builtin.SmallTypes.nextOf
 refine wpAny_bind (wpAny_callSpecial?_slot (name:=Str.ofString "__next__") hit.typeIs F.slot_tuple_iterator_next (wpAny_call_entry F.slot_tuple_iterator_next hit.typeIs F.entry_tuple_iterator_next ?_ (F.args_tuple_iterator_next_1 _)))
 show wpAny _ _ (field (.ref it) 0 >>= _) _ _ s; refine wpAny_bind (wpAny_field ho hd (x:=.ref t) rfl ?_); show wpAny _ _ (if (Value.ref t == Value.none) = true then _ else _) _ _ s
 rw [if_neg (show ¬ ((Value.ref t == Value.none) = true) from Bool.false_ne_true)]; show wpAny _ _ (field (.ref it) 1 >>= _) _ _ s; refine wpAny_bind (wpAny_field ho hd (x:=.int i 0) rfl ?_); show wpAny _ _ (seqItems? (.ref t) >>= _) _ _ s
 refine wpAny_bind (wpAny_seqItems hol hdl ?_); simp only [Int.toNat_natCast,hx]; refine wpAny_bind (wpAny_rule (wpAny_bind (wpAny_setField ho hd (by simp) ?_)))
 show wpAny _ _ (newExc (.type "StopIteration") [] >>= _) _ _ _; refine wpAny_bind ?_; simp only [newExc,newTuple]; refine wpAny_bind (wpAny_newObj_type ?_ (by size_fits))
 refine wpAny_bind (m:=firstArgMember _ _) (wpAny_of_eq (a:=Value.none) (by first | rfl | (simp only [firstArgMember]; rfl)) ?_); refine wpAny_newObj_type ?_ (by size_fits); simp only [raiseNew]; refine wpAny_bind (wpAny_handled ?_)
 first | rw [show A.in1.handled = none from hh] | rw [hh]
 exact wpAny_bind (wpAny_pure (wpAny_throw (hE _ _ (((Heap.SameBut.update ..).extBut.push _).push _) ⟨_,Heap.get?_push_size _ rfl,rfl⟩)))
noncomputable def ZipAt (z TI TO i1 i2 t1 t2:Addr) (k:Nat) (h:Heap):Prop:=IsZip h z TI TO .none ∧ IsPair h TI (.ref i1) (.ref i2) ∧ (∃ a b,IsPair h TO a b) ∧ h.IsTupleIter i1 t1 k ∧ h.IsTupleIter i2 t2 k
theorem zip_one {z TI TO i1 i2 t1 t2:Addr} {k:Nat} {xs ys:Array Value} {x y:Value} {Q:Option Value → Shared → Prop} (D:ZipApart z TI TO i1 i2 t1 t2) (st:ZipAt z TI TO i1 i2 t1 t2 k s.heap) (ht1:s.heap.IsTuple t1 xs) (ht2:s.heap.IsTuple t2 ys) (hx:xs[k]? = some x) (hy:ys[k]? = some y)
 (hQ:∀ h',IsZip h' z TI TO (rawInt s.heap.objs.size) → IsPair h' TI (.ref i1) (.ref i2) → (∃ a b,IsPair h' TO a b) → h'.IsTupleIter i1 t1 (k + 1) → h'.IsTupleIter i2 t2 (k + 1) → IsPair h' s.heap.objs.size x y → (∀ c o,c ≠ z → c ≠ TO → c ≠ i1 → c ≠ i2 → s.heap.get? c = some o → h'.get? c = some o) → Q (some (.ref s.heap.objs.size)) { s with heap:=h' }) :
 wpAny (model prog w) A (pyNext (.ref z)) Q E s:=by
 obtain ⟨hz,hTI,⟨a,b,hTO⟩,h1,h2⟩:=st
 have hT:s.TypeIs (.ref z) "zip":=⟨_,hz,rfl⟩
 unfold pyNext; refine wpAny_bind (wpAny_attempt (wpAny_callSpecial?_slot (name:=Str.ofString "__next__") hT F.slot_zip_next (wpAny_call_entry F.slot_zip_next hT F.entry_zip_next ?_ (F.args_zip_next_1 _))))
 show wpAny _ _ (field (.ref z) 2 >>= _) _ _ _; refine wpAny_bind (wpAny_field hz rfl (x:=.bool false) rfl ?_); show wpAny _ _ (field (.ref z) 3 >>= _) _ _ _; refine wpAny_bind (wpAny_field hz rfl (x:=.ref TI) rfl ?_); refine wpAny_bind (wpAny_seqItems hTI rfl ?_)
 show wpAny _ _ (Builtin.SmallTypes.ownedTupleIsFree (.ref z) >>= _) _ _ _; refine wpAny_bind ?_; unfold Builtin.SmallTypes.ownedTupleIsFree; refine wpAny_bind (wpAny_field hz rfl (x:=.none) rfl (wpAny_pure ?_)); simp only [if_true]
 refine wpAny_bind (wpAny_rule ?_); refine wpAny_bind (wpAny_field hz rfl (x:=.ref TO) rfl ?_); refine wpAny_bind (wpAny_setField_rec hz (by simp) fun ha hza hsa =>?_)
 replace hza:IsZip ha z TI TO .ellipsis:=hza
 refine wpAny_bind ?_; simp only [List.zipIdx_cons,List.zipIdx_nil,List.forIn_cons,List.forIn_nil]; refine wpAny_bind (wpAny_bind (wpAny_onRaise ?_)); show wpAny _ _ (Builtin.SmallTypes.nextOf (.ref i1) >>= _) _ _ _
 refine wpAny_bind (draw_one (h1.extBut hsa.extBut D.i1z) (ht1.extBut hsa.extBut D.l1z) hx fun hb h1b hsb =>wpAny_pure ?_)
 have hTOb:IsPair hb TO a b:=hsb.extBut _ _ D.TOi1 (hsa.extBut _ _ D.TOz hTO)
 refine wpAny_bind (wpAny_seqItems hTOb rfl ?_); refine wpAny_bind (wpAny_updateSeq_pair hTOb fun hc hTOc hsc =>?_)
 replace hTOc:IsPair hc TO x b:=hTOc
 refine wpAny_bind (wpAny_letGo (wpAny_pure ?_)); refine wpAny_bind (wpAny_bind (wpAny_onRaise ?_)); show wpAny _ _ (Builtin.SmallTypes.nextOf (.ref i2) >>= _) _ _ _
 refine wpAny_bind (draw_one (((h2.extBut hsa.extBut D.i2z).extBut hsb.extBut D.i12.symm).extBut hsc.extBut D.TOi2.symm) (((ht2.extBut hsa.extBut D.l2z).extBut hsb.extBut D.l2i1).extBut hsc.extBut D.l2TO) hy fun hd h2d hsd =>wpAny_pure ?_)
 have hTOd:IsPair hd TO x b:=hsd.extBut _ _ D.TOi2 hTOc
 refine wpAny_bind (wpAny_seqItems hTOd rfl ?_); refine wpAny_bind (wpAny_updateSeq_pair hTOd fun he hTOe hse =>?_)
 replace hTOe:IsPair he TO x y:=hTOe
 refine wpAny_bind (wpAny_letGo (wpAny_pure (wpAny_pure ?_))); refine wpAny_bind (wpAny_seqItems hTOe rfl ?_); refine wpAny_bind (wpAny_newTuple ?_)
 have sz:he.objs.size = s.heap.objs.size:=by rw [hse.1,hsd.1,hsc.1,hsb.1,hsa.1]
 have hze:IsZip he z TI TO .ellipsis:=hse.extBut _ _ D.TOz.symm (hsd.extBut _ _ D.i2z.symm (hsc.extBut _ _ D.TOz.symm (hsb.extBut _ _ D.i1z.symm hza)))
 have hke:∀ c o,c ≠ z → c ≠ TO → c ≠ i1 → c ≠ i2 → s.heap.get? c = some o → he.get? c = some o:=fun c o c1 c2 c3 c4 e =>hse.extBut _ _ c2 (hsd.extBut _ _ c4 (hsc.extBut _ _ c2 (hsb.extBut _ _ c3 (hsa.extBut _ _ c1 e))))
 have h1e:he.IsTupleIter i1 t1 (k + 1):=((h1b.extBut hsc.extBut D.TOi1.symm).extBut hsd.extBut D.i12).extBut hse.extBut D.TOi1.symm
 have h2e:he.IsTupleIter i2 t2 (k + 1):=h2d.extBut hse.extBut D.TOi2.symm
 have ltz:z < he.objs.size:=Heap.lt_size hze
 show wpAny _ _ (Builtin.SmallTypes.ownedTupleHandOut (.ref z) (.ref he.objs.size) >>= _) _ _ _; refine wpAny_bind ?_; unfold Builtin.SmallTypes.ownedTupleHandOut
 have hzf:IsZip (he.push { cls:=.type "tuple",data:=.seq #[x,y] }) z TI TO .ellipsis:=Heap.get?_push_of_some _ hze
 refine wpAny_bind (wpAny_setField_rec hzf (by simp) fun hg hzg hsg =>?_)
 replace hzg:IsZip hg z TI TO (rawInt he.objs.size):=hzg
 refine wpAny_setField_rec hzg (by simp) fun hi hzi hsi =>?_
 replace hzi:IsZip hi z TI TO (rawInt he.objs.size):=hzi
 have up:∀ c o,c ≠ z → he.get? c = some o → hi.get? c = some o:=fun c o c1 e =>hsi.extBut _ _ c1 (hsg.extBut _ _ c1 (Heap.get?_push_of_some _ e))
 have hTi:IsPair hi he.objs.size x y:=hsi.extBut _ _ (Nat.ne_of_gt ltz) (hsg.extBut _ _ (Nat.ne_of_gt ltz) (Heap.get?_push_size _ rfl))
 rw [sz] at hzi hTi
 refine wpAny_pure ⟨.ref he.objs.size,rfl,wpAny_pure ?_⟩
 rw [sz]
 exact hQ hi hzi (up _ _ D.TIz (hke _ _ D.TIz D.TITO D.TIi1 D.TIi2 hTI)) ⟨x,y,up _ _ D.TOz hTOe⟩ (h1e.at fun o e =>up _ o D.i1z e) (h2e.at fun o e =>up _ o D.i2z e) hTi fun c o c1 c2 c3 c4 e =>up c o c1 (hke c o c1 c2 c3 c4 e)
theorem zip_end {z TI TO i1 i2 t1 t2:Addr} {k:Nat} {xs ys:Array Value} {Q:Option Value → Shared → Prop} (hh:A.handled = none) (D:ZipApart z TI TO i1 i2 t1 t2) (st:ZipAt z TI TO i1 i2 t1 t2 k s.heap) (ht1:s.heap.IsTuple t1 xs) (ht2:s.heap.IsTuple t2 ys) (hend:xs[k]? = none ∨ ys[k]? = none)
 (hQ:∀ h',(∀ c o,c ≠ z → c ≠ TO → c ≠ i1 → c ≠ i2 → s.heap.get? c = some o → h'.get? c = some o) → Q none { s with heap:=h' }):wpAny (model prog w) A (pyNext (.ref z)) Q E s:=by
 obtain ⟨hz,hTI,⟨a,b,hTO⟩,h1,h2⟩:=st
 have hT:s.TypeIs (.ref z) "zip":=⟨_,hz,rfl⟩
 have fin:∀ {h':Heap} {e:Addr},(∀ c o,c ≠ z → c ≠ TO → c ≠ i1 → c ≠ i2 → s.heap.get? c = some o → h'.get? c = some o) → (∃ o,h'.get? e = some o ∧ o.cls = .type "StopIteration") → wpAny (model prog w) A (isInstance (.ref e) (.type "StopIteration") >>= fun b =>if b = true then pure none else throw (Value.ref e)) Q E { s with heap:=h' }:=fun {h' e} hk ⟨o,ho,hc⟩ =>
  wpAny_bind (wpAny_isInstance (T:="StopIteration") (b:=true) ⟨o,ho,hc⟩ isSubtype_stop (wpAny_pure (hQ _ hk)))
 unfold pyNext; refine wpAny_bind (wpAny_attempt (wpAny_callSpecial?_slot (name:=Str.ofString "__next__") hT F.slot_zip_next (wpAny_call_entry F.slot_zip_next hT F.entry_zip_next ?_ (F.args_zip_next_1 _))))
 show wpAny _ _ (field (.ref z) 2 >>= _) _ _ _; refine wpAny_bind (wpAny_field hz rfl (x:=.bool false) rfl ?_); show wpAny _ _ (field (.ref z) 3 >>= _) _ _ _; refine wpAny_bind (wpAny_field hz rfl (x:=.ref TI) rfl ?_); refine wpAny_bind (wpAny_seqItems hTI rfl ?_)
 show wpAny _ _ (Builtin.SmallTypes.ownedTupleIsFree (.ref z) >>= _) _ _ _; refine wpAny_bind ?_; unfold Builtin.SmallTypes.ownedTupleIsFree; refine wpAny_bind (wpAny_field hz rfl (x:=.none) rfl (wpAny_pure ?_)); simp only [if_true]
 refine wpAny_bind (wpAny_rule ?_); refine wpAny_bind (wpAny_field hz rfl (x:=.ref TO) rfl ?_); refine wpAny_bind (wpAny_setField_rec hz (by simp) fun ha hza hsa =>?_)
 replace hza:IsZip ha z TI TO .ellipsis:=hza
 refine wpAny_bind ?_; simp only [List.zipIdx_cons,List.zipIdx_nil,List.forIn_cons,List.forIn_nil]; refine wpAny_bind (wpAny_bind (wpAny_onRaise ?_)); show wpAny _ _ (Builtin.SmallTypes.nextOf (.ref i1) >>= _) _ _ _
 cases hx:xs[k]? with
 | none =>
   refine wpAny_bind (draw_end hh (h1.extBut hsa.extBut D.i1z) (ht1.extBut hsa.extBut D.l1z) hx fun hb e hsb he =>?_)
   obtain ⟨oe,hoe,hce⟩:=he
   have hzb:IsZip hb z TI TO .ellipsis:=hsb _ _ D.i1z.symm hza
   have ez:e ≠ z:=fun q =>by subst q; rw [hzb] at hoe; cases hoe; simp at hce
   exact wpAny_setField_rec hzb (by simp) fun hc _ hsc =>fin (fun c o c1 _ c3 _ q =>hsc.extBut _ _ c1 (hsb _ _ c3 (hsa.extBut _ _ c1 q))) ⟨oe,hsc.extBut _ _ ez hoe,hce⟩
 | some x =>
   have hy:ys[k]? = none:=by rcases hend with q | q; rw [hx] at q; cases q; exact q
   refine wpAny_bind (draw_one (h1.extBut hsa.extBut D.i1z) (ht1.extBut hsa.extBut D.l1z) hx fun hb h1b hsb =>wpAny_pure ?_)
   have hTOb:IsPair hb TO a b:=hsb.extBut _ _ D.TOi1 (hsa.extBut _ _ D.TOz hTO)
   refine wpAny_bind (wpAny_seqItems hTOb rfl ?_); refine wpAny_bind (wpAny_updateSeq_pair hTOb fun hc hTOc hsc =>?_); refine wpAny_bind (wpAny_letGo (wpAny_pure ?_)); refine wpAny_bind (wpAny_bind (wpAny_onRaise ?_)); show wpAny _ _ (Builtin.SmallTypes.nextOf (.ref i2) >>= _) _ _ _
   refine wpAny_bind (draw_end hh (((h2.extBut hsa.extBut D.i2z).extBut hsb.extBut D.i12.symm).extBut hsc.extBut D.TOi2.symm) (((ht2.extBut hsa.extBut D.l2z).extBut hsb.extBut D.l2i1).extBut hsc.extBut D.l2TO) hy fun hd e hsd he =>?_)
   obtain ⟨oe,hoe,hce⟩:=he
   have hzd:IsZip hd z TI TO .ellipsis:=hsd _ _ D.i2z.symm (hsc.extBut _ _ D.TOz.symm (hsb.extBut _ _ D.i1z.symm hza))
   have ez:e ≠ z:=fun q =>by subst q; rw [hzd] at hoe; cases hoe; simp at hce
   exact wpAny_setField_rec hzd (by simp) fun hf _ hsf =>fin (fun c o c1 c2 c3 c4 q =>hsf.extBut _ _ c1 (hsd _ _ c4 (hsc.extBut _ _ c2 (hsb.extBut _ _ c3 (hsa.extBut _ _ c1 q))))) ⟨oe,hsf.extBut _ _ ez hoe,hce⟩
noncomputable abbrev tit (t:Addr):Obj:={ cls:=.type "tuple_iterator",data:=.fields #[.ref t,.int 0 0] }
noncomputable abbrev zh2 (h:Heap) (t1 t2:Addr):Heap:=(h.push (tit t1)).push (tit t2)
noncomputable abbrev zh4 (h:Heap) (t1 t2:Addr):Heap:=((zh2 h t1 t2).push { cls:=.type "tuple",data:=.seq #[.ref h.objs.size,.ref (h.push (tit t1)).objs.size] }).push { cls:=.type "tuple",data:=.seq #[.none,.none] }
theorem zip_meets (t1 t2:Addr) (xs ys:Array Value):Meets (Builtin.«zip.__new__» ⟨[.type "zip",.ref t1,.ref t2],[]⟩) (fun _ R s =>s.heap.IsTuple t1 xs ∧ s.heap.IsTuple t2 ys ∧
 R (.ok (.ret (.ref (zh4 s.heap t1 t2).objs.size))) { s with heap:=(zh4 s.heap t1 t2).push { cls:=.type "zip",data:=.fields #[.none,.bool false,.bool false,.ref (zh2 s.heap t1 t2).objs.size,.ref ((zh2 s.heap t1 t2).push { cls:=.type "tuple",data:=.seq #[.ref s.heap.objs.size,.ref (s.heap.push (tit t1)).objs.size] }).objs.size] } }) :=
 .of_wp fun prog w A R s h =>by
  obtain ⟨hp,g,d,tk,os⟩:=s; obtain ⟨hl1,hl2,h⟩:=h
  have hsub:=sub_zip
  have hA:Heap.IsTuple (Shared.heap ⟨hp,g,d,tk,os⟩) t1 xs:=hl1
  have hB:Heap.IsTuple (Shared.heap ⟨hp.push { cls:=.type "tuple_iterator",data:=.fields #[.ref t1,.int 0 0] },g,d,tk,os⟩) t2 ys:=hl2.at fun o e =>Heap.get?_push_of_some _ e
  wp_walk using wpAny_pyIter_tuple hA,wpAny_pyIter_tuple hB
  exact ⟨_,rfl,h⟩
theorem zip_call {t1 t2:Addr} {xs ys:Array Value} {Q:Value → Shared → Prop} (ht1:s.heap.IsTuple t1 xs) (ht2:s.heap.IsTuple t2 ys)
 (h:∀ h',ZipAt (s.heap.objs.size + 4) (s.heap.objs.size + 2) (s.heap.objs.size + 3) s.heap.objs.size (s.heap.objs.size + 1) t1 t2 0 h' → (∀ c o,s.heap.get? c = some o → h'.get? c = some o) → Q (.ref (s.heap.objs.size + 4)) { s with heap:=h' }):wpAny (model prog w) A (call (.type "zip") [.ref t1,.ref t2]) Q E s:=by
 refine callType_new F.called_zip (by decide) (F.typeCall_zip_2 _ _) (F.newCall_zip_2 _ _) (fun obj =>F.args_object_init_3 obj _ _) F.entry_zip_new (zip_meets t1 t2 xs ys) ⟨ht1,ht2,?_⟩
 have n1:(s.heap.push (tit t1)).objs.size = s.heap.objs.size + 1:=Heap.size_push ..
 have n2:(zh2 s.heap t1 t2).objs.size = s.heap.objs.size + 2:=by rw [Heap.size_push,n1]
 have n3:((zh2 s.heap t1 t2).push { cls:=.type "tuple",data:=.seq #[.ref s.heap.objs.size,.ref (s.heap.push (tit t1)).objs.size] }).objs.size = s.heap.objs.size + 3:=by rw [Heap.size_push,n2]
 have n4:(zh4 s.heap t1 t2).objs.size = s.heap.objs.size + 4:=by rw [Heap.size_push,n3]
 have p5:((zh4 s.heap t1 t2).push { cls:=.type "zip",data:=.fields #[.none,.bool false,.bool false,.ref (zh2 s.heap t1 t2).objs.size,.ref ((zh2 s.heap t1 t2).push { cls:=.type "tuple",data:=.seq #[.ref s.heap.objs.size,.ref (s.heap.push (tit t1)).objs.size] }).objs.size] }).get? (zh4 s.heap t1 t2).objs.size = some _:=Heap.get?_push_size _ rfl
 have p4:(zh4 s.heap t1 t2).get? ((zh2 s.heap t1 t2).push { cls:=.type "tuple",data:=.seq #[.ref s.heap.objs.size,.ref (s.heap.push (tit t1)).objs.size] }).objs.size = some _:=Heap.get?_push_size _ rfl
 have p3:((zh2 s.heap t1 t2).push { cls:=.type "tuple",data:=.seq #[.ref s.heap.objs.size,.ref (s.heap.push (tit t1)).objs.size] }).get? (zh2 s.heap t1 t2).objs.size = some _:=Heap.get?_push_size _ rfl
 have p2:(zh2 s.heap t1 t2).get? (s.heap.push (tit t1)).objs.size = some _:=Heap.get?_push_size _ rfl
 have p1:(s.heap.push (tit t1)).get? s.heap.objs.size = some _:=Heap.get?_push_size _ rfl
 show _ ∧ _
 rw [n2,n3,n4] at p5 ⊢
 rw [n3] at p4
 rw [n2] at p3
 rw [n1] at p2
 refine ⟨⟨_,p5,rfl⟩,h _ ⟨p5,?_,⟨_,_,Heap.get?_push_of_some _ p4⟩,⟨_,Heap.get?_push_of_some _ (Heap.get?_push_of_some _ (Heap.get?_push_of_some _ (Heap.get?_push_of_some _ p1))),rfl,rfl⟩,⟨_,Heap.get?_push_of_some _ (Heap.get?_push_of_some _ (Heap.get?_push_of_some _ p2)),rfl,rfl⟩⟩ fun c o e =>Heap.get?_push_of_some _ (Heap.get?_push_of_some _ (Heap.get?_push_of_some _ (Heap.get?_push_of_some _ (Heap.get?_push_of_some _ e))))⟩
 exact (Heap.get?_push_of_some _ (Heap.get?_push_of_some _ p3)).trans (by rw [n1])
end
end Z

namespace Z
open PySem PySem.Spec PyProof.Rows L2
section
variable {X:Cx} {pins:List (Addr × Obj)} {σ:L2.St} {H:Hp} {s:Shared} {h':Heap} {fp:List Addr}
theorem inv_turns {t':Nat} (I:Inv X pins σ H s) (hf:∀ b ∈ fp,FpOk X pins H b) (k:∀ b o,b ∉ fp → s.heap.get? b = some o → h'.get? b = some o):Inv X pins σ H { s with heap:=h',toks:=t' }:=by
 have nit:∀ b u,H b = some u → b ∉ fp:=fun b u e z =>by have:=(hf b z).1; rw [this] at e; cases e
 refine I.step (g':=s.gens) (d':=s.drawn) (ch:=fp) (fun b hb =>?_) (fun b o _ _ hc e _ =>k b o hc e) (fun b o _ _ hc e _ =>⟨o.slots,k b o hc e⟩) (fun _ _ _ _ n =>n) (fun b o hc e =>⟨o,k b o hc e⟩) (fun _ _ e =>e) (fun _ _ _ e =>e) (fun b ps e =>⟨#[],by rw [e]; simp⟩) (fun m hm =>?_) (fun b u e =>?_) I.bare
 ·obtain ⟨_,f1,_,f3,f4,f5⟩:=hf b hb
  exact ⟨f3,f1,f4,f5⟩
 ·obtain ⟨o,es,ep,ho,r⟩:=hm
  exact ⟨o,es,ep,k _ o (fun z =>(hf _ z).2.1 rfl) ho,r⟩
 ·refine (I.hok b u e).stay (fun c v hc q =>k c v ?_ q) (fun _ q =>q) fun _ _ q =>q
  rcases hc with z | z
  ·rw [z]; exact nit b u e
  ·exact nit c _ z
theorem inv_turnLay {t':Nat} {a:Addr} {ob:HO} (I:Inv X pins σ H s) (hf:∀ b ∈ fp,FpOk X pins H b) (k:∀ b o,b ∉ fp → s.heap.get? b = some o → h'.get? b = some o) (hp:s.heap.objs.size ≤ a) (new:ObjOk X.prog X.w (upd H a ob) h' a ob):Inv X pins σ (upd H a ob) { s with heap:=h',toks:=t' }:=by
 have nit:∀ b u,H b = some u → b ∉ fp:=fun b u e z =>by have:=(hf b z).1; rw [this] at e; cases e
 have hn:H a = none:=I.hok.fresh hp
 have up:∀ {b:Addr} {u:HO},H b = some u → upd H a ob b = some u:=fun {b u} e =>by rw [upd_ne (ne_of_none e hn)]; exact e
 refine I.step (g':=s.gens) (d':=s.drawn) (ch:=fp) (fun b hb =>?_) (fun b o _ _ hc e _ =>k b o hc e) (fun b o _ _ hc e _ =>⟨o.slots,k b o hc e⟩) (fun b o _ e n =>?_) (fun b o hc e =>⟨o,k b o hc e⟩) (fun _ _ e =>up e) (fun _ _ _ e =>up e) (fun b ps e =>⟨#[],by rw [up e]; simp⟩) (fun m hm =>?_) (fun b u e =>?_) I.bare
 ·obtain ⟨_,f1,_,f3,f4,f5⟩:=hf b hb
  exact ⟨f3,f1,f4,f5⟩
 ·have:b ≠ a:=Nat.ne_of_lt (Nat.lt_of_lt_of_le (Heap.lt_size e) hp)
  rw [upd_ne this]; exact n
 ·obtain ⟨o,es,ep,ho,r⟩:=hm
  exact ⟨o,es,ep,k _ o (fun z =>(hf _ z).2.1 rfl) ho,r⟩
 ·by_cases hb:b = a
  ·subst hb; rw [upd_same] at e; cases e; exact new
  ·rw [upd_ne hb] at e
   refine (I.hok b u e).stay (fun c v hc q =>k c v ?_ q) (fun _ q =>up q) fun _ _ q =>up q
   rcases hc with z | z
   ·rw [z]; exact nit b u e
   ·exact nit c _ z
end
noncomputable def Itp (ok:Hp → Prop) (ps:List (V × V)):It:=⟨fun i H =>ok H ∧ i < ps.length,fun i H x H' =>∃ (p:Addr) (q:V × V),H p = none ∧ ps[i]? = some q ∧ x = .ref p ∧ H' = upd H p (.tup [q.1,q.2]),fun i H =>ok H ∧ ps.length ≤ i⟩
theorem tup2_ok {P:Program} {w:World} {H:Hp} {h:Heap} {a:Addr} {x y:V} {u v:Value} (rx:RelV x u) (ry:RelV y v) (e:h.get? a = some { cls:=.type "tuple",data:=.seq #[u,v] }):ObjOk P w H h a (.tup [x,y]) :=
 ⟨by show 2 ≤ sizeLine; rw [sizeLine_eq]; omega,[u,v],.cons rx (.cons ry .nil),⟨_,e,rfl,_,rfl⟩⟩
theorem turn_zip {P:Program} {w:World} {K:PySem.W.Frag} {elts:List Expr} {x1:Nat} {pos:Pos} {z TI TO i1 i2 t1 t2:Addr} (D:ZipApart z TI TO i1 i2 t1 t2) (xs ys:List V) :
 Turn P w K (.Tuple elts x1 pos) (Itp (fun H =>SqT K H t1 xs ∧ SqT K H t2 ys) (xs.zip ys)) [z,TI,TO,i1,i2] z (ZipAt z TI TO i1 i2 t1 t2) where
 mem:=by simp
 obj:=fun i h st b hb =>by
  obtain ⟨hz,hTI,⟨a,c,hTO⟩,⟨o1,e1,_,d1⟩,⟨o2,e2,_,d2⟩⟩:=st
  simp only [List.mem_cons,List.not_mem_nil,or_false] at hb
  rcases hb with rfl | rfl | rfl | rfl | rfl
  ·exact ⟨_,hz,fun v q =>by cases q⟩
  ·exact ⟨_,hTI,fun v q =>by cases q⟩
  ·exact ⟨_,hTO,fun v q =>by cases q⟩
  ·exact ⟨o1,e1,fun v q =>by rw [d1] at q; cases q⟩
  ·exact ⟨o2,e2,fun v q =>by rw [d2] at q; cases q⟩
 keep:=fun i h h' st k =>by
  obtain ⟨hz,hTI,⟨a,c,hTO⟩,s1,s2⟩:=st
  exact ⟨k z (by simp) _ hz,k TI (by simp) _ hTI,⟨a,c,k TO (by simp) _ hTO⟩,s1.at fun o e =>k i1 (by simp) o e,s2.at fun o e =>k i2 (by simp) o e⟩
 item:=by
  intro X hP hw hK hc i pins s σ H E I hf st hg
  subst hP hw hK
  obtain ⟨⟨hq1,hq2⟩,hi⟩:=hg
  obtain ⟨its1,rv1,p1,_⟩:=I.tuple hq1
  obtain ⟨its2,rv2,p2,_⟩:=I.tuple hq2
  have hl:i < xs.length ∧ i < ys.length:=by rw [List.length_zip] at hi; omega
  obtain ⟨u,hu,ru⟩:=rv1.get (List.getElem?_eq_getElem hl.1)
  obtain ⟨v,hv,rv⟩:=rv2.get (List.getElem?_eq_getElem hl.2)
  have old:∀ b ∈ [z,TI,TO,i1,i2],b < s.heap.objs.size:=fun b hb =>by
   obtain ⟨hz,hTI,⟨a,c,hTO⟩,⟨o1,e1,_⟩,⟨o2,e2,_⟩⟩:=id st
   simp only [List.mem_cons,List.not_mem_nil,or_false] at hb
   rcases hb with rfl | rfl | rfl | rfl | rfl
   ·exact Heap.lt_size hz
   ·exact Heap.lt_size hTI
   ·exact Heap.lt_size hTO
   ·exact Heap.lt_size e1
   ·exact Heap.lt_size e2
  refine zip_one D st (show s.heap.IsTuple t1 its1.toArray from p1) (show s.heap.IsTuple t2 its2.toArray from p2) (x:=u) (y:=v) (by simpa using hu) (by simpa using hv) fun ha a1 a2 a3 a4 a5 a6 ak =>?_
  refine ⟨_,rfl,wpAny_letOwnedTupleGo_zip a1 fun hb b1 bs =>?_⟩
  replace bs:Heap.SameBut z ha hb:=bs
  have nz:s.heap.objs.size ≠ z:=Nat.ne_of_gt (old z (by simp))
  have e2:hb.get? s.heap.objs.size = some { cls:=.type "tuple",data:=.seq #[u,v] }:=(bs.2 _ nz).trans a6
  refine ⟨.ref s.heap.objs.size,upd H s.heap.objs.size (.tup [xs[i]'hl.1,ys[i]'hl.2]),inv_turnLay (s:=s) (h':=hb) (t':=s.toks) I hf (fun b o hb' e =>?_) (Nat.le_refl _) (tup2_ok ru rv e2),rfl,⟨_,(xs[i]'hl.1,ys[i]'hl.2),I.hok.fresh (Nat.le_refl _),?_,rfl,rfl⟩,⟨b1,?_,?_,?_,?_⟩,fun b hb' =>?_⟩
  ·simp only [List.mem_cons,List.not_mem_nil,or_false,not_or] at hb'
   exact (bs.2 b hb'.1).trans (ak b o hb'.1 hb'.2.2.1 hb'.2.2.2.1 hb'.2.2.2.2 e)
  ·rw [List.getElem?_eq_getElem hi]; simp
  ·exact (bs.2 _ D.TIz).trans a2
  ·obtain ⟨c,d,q⟩:=a3
   exact ⟨c,d,(bs.2 _ D.TOz).trans q⟩
  ·exact a4.at fun o e =>(bs.2 _ D.i1z).trans e
  ·exact a5.at fun o e =>(bs.2 _ D.i2z).trans e
  ·rw [upd_ne (Nat.ne_of_lt (old b hb'))]
   exact (hf b hb').1
 done:=by
  intro X hP hw hK hc i pins s σ H E I hf st hg
  subst hP hw hK
  obtain ⟨⟨hq1,hq2⟩,hi⟩:=hg
  obtain ⟨its1,rv1,p1,_⟩:=I.tuple hq1
  obtain ⟨its2,rv2,p2,_⟩:=I.tuple hq2
  have l1:=rv1.length
  have l2:=rv2.length
  rw [List.length_zip] at hi
  refine zip_end (I.ok.hd hc) D st (show s.heap.IsTuple t1 its1.toArray from p1) (show s.heap.IsTuple t2 its2.toArray from p2) ?_ fun h' k =>⟨rfl,inv_turns (t':=s.toks) I hf fun b o hb e =>?_⟩
  ·by_cases q:xs.length ≤ i
   ·exact .inl (Array.getElem?_eq_none (by simp; omega))
   ·exact .inr (Array.getElem?_eq_none (by simp; omega))
  ·simp only [List.mem_cons,List.not_mem_nil,or_false,not_or] at hb
   exact k b o hb.1 hb.2.2.1 hb.2.2.2.1 hb.2.2.2.2 e
 self:=fun _ _ _ _ _ st h =>wpAny_pyIter_zip st.1 h
noncomputable def prsV (i:Nat):List V → List (V × V)
 | [] =>[]
 | x :: l =>(.int (i:Int),x) :: prsV (i + 1) l
theorem prsV_len:∀ (l:List V) (i:Nat),(prsV i l).length = l.length
 | [],_ =>rfl
 | _ :: l,i =>by simp [prsV,prsV_len l]
theorem prsV_get:∀ (l:List V) (i j:Nat) (x:V),l[j]? = some x → (prsV i l)[j]? = some (.int ((i + j:Nat):Int),x)
 | [],_,_,_,h =>by simp at h
 | y :: l,i,0,x,h =>by simp at h; subst h; simp [prsV]
 | y :: l,i,j + 1,x,h =>by
   simp only [prsV,List.getElem?_cons_succ] at h ⊢
   rw [prsV_get l (i + 1) j x h]
   congr 3
   omega
theorem turn_enum {P:Program} {w:World} {K:PySem.W.Frag} {elts:List Expr} {x1:Nat} {pos:Pos} {e it a:Addr} (ne:e ≠ it) (xs:List V) :
 Turn P w K (.Tuple elts x1 pos) (Itp (fun H =>SqL K H a xs) (prsV 0 xs)) [e,it] e (fun i h =>(∃ old,IsEnum h e it i old) ∧ h.IsListIter it a i) where
 mem:=by simp
 obj:=fun i h st b hb =>by
  obtain ⟨⟨old,he⟩,⟨o1,e1,_,d1⟩⟩:=st
  simp only [List.mem_cons,List.not_mem_nil,or_false] at hb
  rcases hb with rfl | rfl
  ·exact ⟨_,he,fun v q =>by cases q⟩
  ·exact ⟨o1,e1,fun v q =>by rw [d1] at q; cases q⟩
 keep:=fun i h h' st k =>by
  obtain ⟨⟨old,he⟩,s1⟩:=st
  exact ⟨⟨old,k e (by simp) _ he⟩,s1.at fun o q =>k it (by simp) o q⟩
 item:=by
  intro X hP hw hK hc i pins s σ H E I hf st hg
  subst hP hw hK
  obtain ⟨hq,hi⟩:=hg
  rw [prsV_len] at hi
  obtain ⟨its,rv,p,_⟩:=I.list hq
  obtain ⟨u,hu,ru⟩:=rv.get (List.getElem?_eq_getElem hi)
  obtain ⟨⟨old,he⟩,hit⟩:=st
  have lt1:e < s.heap.objs.size:=Heap.lt_size he
  have lt2:it < s.heap.objs.size:=by obtain ⟨_,q,_⟩:=id hit; exact Heap.lt_size q
  refine wpAny_pyNext_enum_item he hit p.isList (x:=u) (by simpa using hu) ne fun ha a1 a2 a3 _ ak =>?_
  refine ⟨_,rfl,wpAny_letOwnedTupleGo_enum a1 fun hb b1 bs =>?_⟩
  replace bs:Heap.SameBut e ha hb:=bs
  have e2:hb.get? s.heap.objs.size = some { cls:=.type "tuple",data:=.seq #[.int i s.toks,u] }:=(bs.2 _ (Nat.ne_of_gt lt1)).trans a3
  have ri:RelV (.int (i:Int)) (.int i s.toks):=⟨_,rfl⟩
  refine ⟨.ref s.heap.objs.size,upd H s.heap.objs.size (.tup [.int (i:Int),xs[i]'hi]),inv_turnLay (s:=s) (h':=hb) (t':=s.toks + 1) I hf (fun b o hb' q =>?_) (Nat.le_refl _) (tup2_ok ri ru e2),rfl,⟨_,(.int (i:Int),xs[i]'hi),I.hok.fresh (Nat.le_refl _),?_,rfl,rfl⟩,⟨⟨u,?_⟩,?_⟩,fun b hb' =>?_⟩
  ·simp only [List.mem_cons,List.not_mem_nil,or_false,not_or] at hb'
   exact (bs.2 b hb'.1).trans (ak b o hb'.1 hb'.2 q)
  ·have:=prsV_get xs 0 i _ (List.getElem?_eq_getElem hi)
   rw [Nat.zero_add] at this
   exact this
  ·rw [show (((i + 1:Nat)):Int) = (i:Int) + 1 from by omega]
   exact b1
  ·exact a2.at fun o q =>(bs.2 _ (Ne.symm ne)).trans q
  ·simp only [List.mem_cons,List.not_mem_nil,or_false] at hb'
   have:b < s.heap.objs.size:=by rcases hb' with rfl | rfl; exact lt1; exact lt2
   rw [upd_ne (Nat.ne_of_lt this)]
   exact (hf b (by simp [hb'])).1
 done:=by
  intro X hP hw hK hc i pins s σ H E I hf st hg
  subst hP hw hK
  obtain ⟨hq,hi⟩:=hg
  rw [prsV_len] at hi
  obtain ⟨its,rv,p,_⟩:=I.list hq
  have hl:=rv.length
  obtain ⟨⟨old,he⟩,hit⟩:=st
  exact wpAny_pyNext_enum_end (I.ok.hd hc) he hit p.isList (Array.getElem?_eq_none (by simp; omega)) fun h' k =>⟨rfl,inv_turns (t':=s.toks) I hf fun b o hb q =>k b o (fun z =>hb (by simp [z])) q⟩
 self:=fun _ _ _ _ _ st h =>by
  obtain ⟨⟨old,he⟩,_⟩:=st
  exact wpAny_pyIter_enum he h
section
variable {X:Cx} {elts:List Expr} {x1:Nat} {tpos p cpos:Pos}
noncomputable def iZip (K:PySem.W.Frag) (ta:TA):L2.TI:=fun σ H R =>ta σ H fun vs H1 =>∃ a b xs ys,vs = [.ref a,.ref b] ∧ SqT K H1 a xs ∧ SqT K H1 b ys ∧ R (Itp (fun H =>SqT K H a xs ∧ SqT K H b ys) (xs.zip ys)) H1
theorem pi_zip2 {a b:Expr} {ta:TA} (hg:Gl X "zip") (hm:X.mg "zip" = none) (ha:PA X [a,b] ta) (hs:starEach [a,b] X.env = [(false,eval a X.env),(false,eval b X.env)]) (hs2:starEach [b] X.env = [(false,eval b X.env)]):PI X (.Tuple elts x1 tpos) (.Call (.Name "zip" p) [a,b] [] cpos) (iZip X.K ta):=by
 intro pins s σ H R I h
 refine Call_ (ld_blt I hg hm boot_zip (PyProof.Rows.callWith_type1 (thn (ha cpos pins s σ H _ I h) fun us s1 ⟨vs,H1,I1,r1,q1⟩ =>?_) (by rw [hs,hs2]) (by rw [hs2]; rfl)))
 obtain ⟨a,b,xs,ys,rfl,hq1,hq2,q⟩:=q1
 cases r1 with
 | cons r rr =>
   cases rr with
   | cons r' rr =>
     cases rr
     cases r
     cases r'
     obtain ⟨its1,rv1,p1,_⟩:=I1.tuple hq1
     obtain ⟨its2,rv2,p2,_⟩:=I1.tuple hq2
     refine zip_call (show s1.heap.IsTuple a its1.toArray from p1) (show s1.heap.IsTuple b its2.toArray from p2) fun h' st hk =>?_
     refine wpAny_pyIter_zip st.1 ⟨_,[s1.heap.objs.size + 4,s1.heap.objs.size + 2,s1.heap.objs.size + 3,s1.heap.objs.size,s1.heap.objs.size + 1],_,_,H1,rfl,I1.kept (t':=s1.toks) hk,turn_zip (zipApart_new (p1:s1.heap.IsTuple a its1.toArray).lt (p2:s1.heap.IsTuple b its2.toArray).lt) xs ys,st,fun c hc =>?_,q⟩
     have:s1.heap.objs.size ≤ c:=by
      simp only [List.mem_cons,List.not_mem_nil,or_false] at hc
      rcases hc with rfl | rfl | rfl | rfl | rfl <;> omega
     exact I1.fpOk this (I1.hok.fresh this)
noncomputable def iEnum (K:PySem.W.Frag) (ta:TA):L2.TI:=fun σ H R =>ta σ H fun vs H1 =>∃ a xs,vs = [.ref a] ∧ SqL K H1 a xs ∧ R (Itp (fun H =>SqL K H a xs) (prsV 0 xs)) H1
theorem pi_enum1 {a:Expr} {ta:TA} (hg:Gl X "enumerate") (hm:X.mg "enumerate" = none) (ha:PA X [a] ta) (hs:starEach [a] X.env = [(false,eval a X.env)]):PI X (.Tuple elts x1 tpos) (.Call (.Name "enumerate" p) [a] [] cpos) (iEnum X.K ta):=by
 intro pins s σ H R I h
 refine Call_ (ld_blt I hg hm boot_enumerate (PyProof.Rows.callWith_type1 (thn (ha cpos pins s σ H _ I h) fun us s1 ⟨vs,H1,I1,r1,q1⟩ =>?_) hs rfl))
 obtain ⟨a,xs,rfl,hq,q⟩:=q1
 cases r1 with
 | cons r rr =>
   cases rr
   cases r
   obtain ⟨its,rv,p,_⟩:=I1.list hq
   refine call_enumerate_list p.isList fun h' he hit _ hk =>?_
   refine wpAny_pyIter_enum he ⟨_,[s1.heap.objs.size + 1,s1.heap.objs.size],_,_,H1,rfl,I1.kept (t':=s1.toks) hk,turn_enum (e:=s1.heap.objs.size + 1) (it:=s1.heap.objs.size) (a:=a) (Nat.succ_ne_self _) xs,⟨⟨_,he⟩,hit⟩,fun c hc =>?_,q⟩
   have:s1.heap.objs.size ≤ c:=by
    simp only [List.mem_cons,List.not_mem_nil,or_false] at hc
    rcases hc with rfl | rfl <;> omega
   exact I1.fpOk this (I1.hok.fresh this)
end
end Z

namespace Z
open PySem PySem.Spec PyProof.Rows L2
open AutoSeq1 (wpAny_loadPart')
section
variable {prog:Program} {w:World} {A:Around} {E:Value → Shared → Prop} {s:Shared} {K:Type} [DecidableEq K] {knd:KeyKind prog w K}
theorem key_one {it d:Addr} {i ep:Nat} {kvs:List (K × Value)} {k:K} {v:Value} {Q:Value → Shared → Prop} (hit:s.heap.IsKeyIter it d i kvs.length ep) (hm:s.heap.DictAt knd d kvs ep) (hx:kvs[i]? = some (k,v)) (hQ:∀ key h',knd.is k key = true → h'.IsKeyIter it d (i + 1) kvs.length ep → Heap.SameBut it s.heap h' → Q key { s with heap:=h' }):wpAny (model prog w) A (Builtin.SmallTypes.nextOf (.ref it)) Q E s:=by
 obtain ⟨o,ho,hc,hd⟩:=id hit; obtain ⟨od,es,hod,hcd,hdd,hk,hp,hn⟩:=id hm; unfold Builtin.SmallTypes.nextOf
 refine wpAny_bind (wpAny_callSpecial?_slot (name:=Str.ofString "__next__") hit.typeIs F.slot_dict_keyiterator_next (wpAny_call_entry F.slot_dict_keyiterator_next hit.typeIs F.entry_dict_keyiterator_next ?_ (F.args_dict_keyiterator_next_1 _)))
 refine wpAny_bind (wpAny_pure (wpAny_bind (wpAny_bind ?_))); first | refine wpAny_bind (wpAny_typeNameOfWhole_keyiter hit.typeIs (wpAny_pure ?_)) | refine wpAny_bind (wpAny_typeNameOf_keyiter hit.typeIs (wpAny_pure ?_))
 refine wpAny_bind (wpAny_fieldsOf ho hd ?_); simp only [show Builtin.Dict_items.ownsTuple "dict_keyiterator" = false by decide,Bool.false_eq_true,if_false]; show wpAny _ _ (if (Value.ref d == Value.none) = true then _ else _) _ _ s
 have hsz:es.size = kvs.length:=by rw [← hp.length,Array.length_toList]
 rw [if_neg (show ¬ ((Value.ref d == Value.none) = true) from Bool.false_ne_true)]; refine wpAny_bind (wpAny_pure (wpAny_bind (wpAny_dictEntries hod hdd ?_))); rw [if_neg (by rw [hsz]; simp)]; refine wpAny_bind (wpAny_pure (wpAny_bind (wpAny_dictEpoch hod hdd ?_)))
 rw [if_neg (by simp)]; refine wpAny_pure ?_
 have hlt:i < es.size:=by rw [hsz]; exact (List.getElem?_eq_some_iff.mp hx).1
 have hkey:knd.is k es[i].key = true:=(hp.get? (e:=es[i]) (by simp [hlt]) hx).1
 simp only [show ¬ ((i:Int) < 0) from by omega,if_false,Int.toNat_natCast,Array.getElem?_eq_getElem hlt]; refine wpAny_bind ?_
 first | refine wpAny_bind (wpAny_typeNameOfWhole_keyiter hit.typeIs (wpAny_pure (wpAny_bind (wpAny_isOneOf_keyiter hit.typeIs ?_)))) | refine wpAny_bind (wpAny_typeNameOf_keyiter hit.typeIs (wpAny_pure (wpAny_bind (wpAny_isOneOf_keyiter hit.typeIs ?_))))
 show wpAny _ _ (setField (.ref it) 1 (rawInt ((i:Int) + 1)) >>= _) _ _ s; refine wpAny_bind (wpAny_setField ho hd (by simp) ?_)
 have hit':(s.heap.update it (Obj.mapFields (·.setIfInBounds 1 (rawInt ((i:Int) + 1))))).IsKeyIter it d (i + 1) kvs.length ep:=⟨_,Heap.get?_update_self _ ho (Obj.isFreed_of_fields (Obj.data_mapFields hd _)),(Obj.cls_mapFields ..).trans hc,by rw [Obj.data_mapFields hd]; simp [rawInt]⟩
 refine wpAny_bind (wpAny_holding (wpAny_bind (wpAny_isOneOf_keyiter (s:={ s with heap:=s.heap.update it (Obj.mapFields (·.setIfInBounds 1 (rawInt ((i:Int) + 1)))) }) hit'.typeIs ?_))); show wpAny _ _ (pure es[i].key) _ _ _
 exact wpAny_pure (wpAny_pure ⟨_,rfl,wpAny_pure (hQ _ _ hkey hit' (Heap.SameBut.update ..))⟩)
theorem key_end {it d:Addr} {i ep:Nat} {kvs:List (K × Value)} {Q:Value → Shared → Prop} (hh:A.handled = none) (hit:s.heap.IsKeyIter it d i kvs.length ep) (hm:s.heap.DictAt knd d kvs ep) (hx:kvs[i]? = none)
 (hE:∀ h' e,Heap.ExtBut it s.heap h' → (∃ o,h'.get? e = some o ∧ o.cls = .type "StopIteration") → E (.ref e) { s with heap:=h' }):wpAny (model prog w) A (Builtin.SmallTypes.nextOf (.ref it)) Q E s:=by
 obtain ⟨o,ho,hc,hd⟩:=id hit; obtain ⟨od,es,hod,hcd,hdd,hk,hp,hn⟩:=id hm; unfold Builtin.SmallTypes.nextOf
 refine wpAny_bind (wpAny_callSpecial?_slot (name:=Str.ofString "__next__") hit.typeIs F.slot_dict_keyiterator_next (wpAny_call_entry F.slot_dict_keyiterator_next hit.typeIs F.entry_dict_keyiterator_next ?_ (F.args_dict_keyiterator_next_1 _)))
 refine wpAny_bind (wpAny_pure (wpAny_bind (wpAny_bind ?_))); first | refine wpAny_bind (wpAny_typeNameOfWhole_keyiter hit.typeIs (wpAny_pure ?_)) | refine wpAny_bind (wpAny_typeNameOf_keyiter hit.typeIs (wpAny_pure ?_))
 refine wpAny_bind (wpAny_fieldsOf ho hd ?_); simp only [show Builtin.Dict_items.ownsTuple "dict_keyiterator" = false by decide,Bool.false_eq_true,if_false]; show wpAny _ _ (if (Value.ref d == Value.none) = true then _ else _) _ _ s
 have hsz:es.size = kvs.length:=by rw [← hp.length,Array.length_toList]
 rw [if_neg (show ¬ ((Value.ref d == Value.none) = true) from Bool.false_ne_true)]; refine wpAny_bind (wpAny_pure (wpAny_bind (wpAny_dictEntries hod hdd ?_))); rw [if_neg (by rw [hsz]; simp)]; refine wpAny_bind (wpAny_pure (wpAny_bind (wpAny_dictEpoch hod hdd ?_)))
 rw [if_neg (by simp)]; refine wpAny_pure ?_
 have hge:es.size ≤ i:=by rw [hsz]; exact List.getElem?_eq_none_iff.mp hx
 simp only [show ¬ ((i:Int) < 0) from by omega,if_false,Int.toNat_natCast,Array.getElem?_eq_none hge]; refine wpAny_bind ?_
 first | refine wpAny_bind (wpAny_typeNameOfWhole_keyiter hit.typeIs (wpAny_pure ?_)) | refine wpAny_bind (wpAny_typeNameOf_keyiter hit.typeIs (wpAny_pure ?_))
 show wpAny _ _ (setField (.ref it) 0 .none >>= _) _ _ s; refine wpAny_bind (wpAny_setField ho hd (by simp) ?_); show wpAny _ _ (newExc (.type "StopIteration") [] >>= _) _ _ _; refine wpAny_bind ?_; simp only [newExc,newTuple]; refine wpAny_bind (wpAny_newObj_type ?_ (by size_fits))
 refine wpAny_bind (m:=firstArgMember _ _) (wpAny_of_eq (a:=Value.none) (by first | rfl | (simp only [firstArgMember]; rfl)) ?_); refine wpAny_newObj_type ?_ (by size_fits); simp only [raiseNew]; refine wpAny_bind (wpAny_handled ?_)
 first | rw [show A.in1.handled = none from hh] | rw [hh]
 exact wpAny_bind (wpAny_pure (wpAny_throw (hE _ _ (((Heap.SameBut.update ..).extBut.push _).push _) ⟨_,Heap.get?_push_size _ rfl,rfl⟩)))
theorem draws_keys (hh:A.handled = none) (it d:Addr) (ne:d ≠ it) (kvs:List (K × Value)) (ep:Nat):Draws prog w A it [it,d] kvs.length (fun i x =>∃ k v,kvs[i]? = some (k,v) ∧ knd.is k x = true) (fun i h =>h.IsKeyIter it d i kvs.length ep ∧ h.DictAt knd d kvs ep) where
 live:=fun _ _ ⟨⟨o,ho,_⟩,_⟩ =>⟨o,ho⟩
 frame:=fun _ _ _ ⟨⟨o,ho,r⟩,⟨od,es,hod,r'⟩⟩ hk =>⟨⟨o,hk it (by simp) o ho,r⟩,⟨od,es,hk d (by simp) od hod,r'⟩⟩
 item:=fun i s Q E hi ⟨hit,hm⟩ hQ =>by
  refine key_one hit hm (k:=(kvs[i]).1) (v:=(kvs[i]).2) (by simp [hi]) fun key h' hkey hit' sb =>hQ _ h' s.toks ⟨(kvs[i]).1,(kvs[i]).2,by simp [hi],hkey⟩ ⟨hit',hm.extBut sb.extBut ne⟩ sb
 done:=fun s Q E ⟨hit,hm⟩ hE =>key_end hh hit hm (by simp) hE
theorem enum_newD (l:Addr) (kvs:List (K × Value)) (ep:Nat) (hs:(l == sysModules) = false) :
 MeetsIn prog w (Builtin.«enumerate.__new__» ⟨[.type "enumerate",.ref l],[]⟩) (fun _ R s =>s.heap.DictAt knd l kvs ep ∧ R (.ok (.ret (.ref (s.heap.push { cls:=.type "dict_keyiterator",data:=.fields #[.ref l,.int 0 0,.int kvs.length 0,.int ep 0] }).objs.size))) { s with heap:=(s.heap.push { cls:=.type "dict_keyiterator",data:=.fields #[.ref l,.int 0 0,.int kvs.length 0,.int ep 0] }).push { cls:=.type "enumerate",data:=.fields #[.none,.bool false,.ref s.heap.objs.size,rawInt 0,.none,.none] } }) :=
 .of_wp fun A R s h =>by
  obtain ⟨hp,g,d,tk,os⟩:=s; obtain ⟨hm,h⟩:=h; have hsub:=sub_enumerate
  have hm':(Shared.heap ⟨hp,g,d,tk,os⟩).DictAt knd l kvs ep:=hm
  obtain ⟨o,es,ho,_⟩:=id hm
  wp_walk using wpAny_loadPart' ho
  refine wpAny_stack_any fun st =>wpAny_pure ?_; split
  ·rename_i c _ _ _ _ _; cases (c == Value.type "enumerate")
   ·wp_walk using wpAny_loadPart' ho,wpAny_pyIter_dict hs hm'
    exact ⟨_,rfl,h⟩
   ·wp_walk using wpAny_loadPart' ho,wpAny_pyIter_dict hs hm'
    exact ⟨_,rfl,h⟩
  ·wp_walk using wpAny_loadPart' ho,wpAny_pyIter_dict hs hm'
   exact ⟨_,rfl,h⟩
theorem call_enumD {l:Addr} {kvs:List (K × Value)} {ep:Nat} {Q:Value → Shared → Prop} (hs:(l == sysModules) = false) (hm:s.heap.DictAt knd l kvs ep)
 (h:∀ h',IsEnum h' (s.heap.objs.size + 1) s.heap.objs.size 0 .none → h'.IsKeyIter s.heap.objs.size l 0 kvs.length ep → (∀ b o,s.heap.get? b = some o → h'.get? b = some o) → Q (.ref (s.heap.objs.size + 1)) { s with heap:=h' }):wpAny (model prog w) A (call (.type "enumerate") [.ref l]) Q E s:=by
 refine callType_newIn F.called_enumerate (by decide) (F.typeCall_enumerate_1 _) (F.newCall_enumerate_1 _) (fun obj =>F.args_object_init_2 obj _) F.entry_enumerate_new (enum_newD l kvs ep hs) ⟨hm,?_⟩
 have hz:(s.heap.push { cls:=.type "dict_keyiterator",data:=.fields #[.ref l,.int 0 0,.int kvs.length 0,.int ep 0] }).objs.size = s.heap.objs.size + 1:=Heap.size_push ..
 have he:=Heap.get?_push_size (s.heap.push { cls:=.type "dict_keyiterator",data:=.fields #[.ref l,.int 0 0,.int kvs.length 0,.int ep 0] }) (o:={ cls:=.type "enumerate",data:=.fields #[.none,.bool false,.ref s.heap.objs.size,rawInt 0,.none,.none] }) rfl
 show _ ∧ _; rw [hz] at he ⊢
 exact ⟨⟨_,he,rfl⟩,h _ he ⟨_,Heap.get?_push_of_some _ (Heap.get?_push_size _ rfl),rfl,rfl⟩ fun b o x =>Heap.get?_push_of_some _ (Heap.get?_push_of_some _ x)⟩
end
noncomputable def Itq (ok:Hp → Prop) (ps:List (V × V)):It:=⟨fun i H =>ok H ∧ i < ps.length,fun i H x H' =>∃ (p:Addr) (q:V × V),H p = none ∧ ps[i]? = some q ∧ x = .ref p ∧ H' = upd H p (.tup [q.1,q.2]),fun i H =>ok H ∧ i = ps.length⟩
theorem turn_enumD {P:Program} {w:World} {K:PySem.W.Frag} {elts:List Expr} {x1:Nat} {pos:Pos} {e it a:Addr} (ne:e ≠ it) (kvs:List (Key × V)) (ep:Nat) :
 Turn P w K (.Tuple elts x1 pos) (Itq (fun H =>H a = some (.dK kvs ep)) (prsV 0 (kvs.map fun p =>kV p.1))) [e,it] e (fun i h =>(∃ old,IsEnum h e it i old) ∧ h.IsKeyIter it a i kvs.length ep) where
 mem:=by simp
 obj:=fun i h st b hb =>by
  obtain ⟨⟨old,he⟩,⟨o1,e1,_,d1⟩⟩:=st
  simp only [List.mem_cons,List.not_mem_nil,or_false] at hb
  rcases hb with rfl | rfl
  ·exact ⟨_,he,fun v q =>by cases q⟩
  ·exact ⟨o1,e1,fun v q =>by rw [d1] at q; cases q⟩
 keep:=fun i h h' st k =>by
  obtain ⟨⟨old,he⟩,s1⟩:=st
  exact ⟨⟨old,k e (by simp) _ he⟩,s1.at fun o q =>k it (by simp) o q⟩
 item:=by
  intro X hP hw hK hc i pins s σ H E I hf st hg
  subst hP hw hK
  obtain ⟨hq,hi⟩:=hg
  rw [prsV_len,List.length_map] at hi
  obtain ⟨_,lo,vs,rel,dd⟩:=(show ObjOk X.prog X.w H s.heap a (.dK kvs ep) from I.hok a _ hq)
  have hl:kvs.length = vs.length:=rel.length
  have ae:a ≠ e:=fun z =>by have:=(hf e (by simp)).1; rw [← z,hq] at this; cases this
  have ai:a ≠ it:=fun z =>by have:=(hf it (by simp)).1; rw [← z,hq] at this; cases this
  obtain ⟨⟨old,he⟩,hit⟩:=st
  rw [hl] at hit
  have lt1:e < s.heap.objs.size:=Heap.lt_size he
  have lt2:it < s.heap.objs.size:=by obtain ⟨_,q,_⟩:=id hit; exact Heap.lt_size q
  have hkeys:=rel.keys
  refine wpAny_pyNext_enum_itemD (draws_keys (A:=X.A.in1) (I.ok.hd hc) it a ai vs ep) he ⟨hit,dd⟩ (by omega) ne (by simp [ne,Ne.symm ae]) fun x ha tk ⟨k,v,hx,hkx⟩ a1 a2 a3 _ ak =>?_
  refine ⟨_,rfl,wpAny_letOwnedTupleGo_enum a1 fun hb b1 bs =>?_⟩
  replace bs:Heap.SameBut e ha hb:=bs
  have e2:hb.get? s.heap.objs.size = some { cls:=.type "tuple",data:=.seq #[.int i tk,x] }:=(bs.2 _ (Nat.ne_of_gt lt1)).trans a3
  have ri:RelV (.int (i:Int)) (.int i tk):=⟨_,rfl⟩
  have ek:(kvs[i]).1 = k:=by
   have:=congrArg (fun l =>l[i]?) hkeys
   simpa [hi,hx] using this
  have rk:RelV (kV (kvs[i]).1) x:=by rw [ek]; exact is_kV hkx
  refine ⟨.ref s.heap.objs.size,upd H s.heap.objs.size (.tup [.int (i:Int),kV (kvs[i]).1]),inv_turnLay (s:=s) (h':=hb) (t':=tk + 1) I hf (fun b o hb' q =>?_) (Nat.le_refl _) (tup2_ok ri rk e2),rfl,⟨_,(.int (i:Int),kV (kvs[i]).1),I.hok.fresh (Nat.le_refl _),?_,rfl,rfl⟩,⟨⟨x,?_⟩,?_⟩,fun b hb' =>?_⟩
  ·simp only [List.mem_cons,List.not_mem_nil,or_false,not_or] at hb'
   exact (bs.2 b hb'.1).trans (ak b o hb'.1 hb'.2 q)
  ·have:=prsV_get (kvs.map fun p =>kV p.1) 0 i (kV (kvs[i]).1) (by simp [hi])
   rw [Nat.zero_add] at this
   exact this
  ·rw [show (((i + 1:Nat)):Int) = (i:Int) + 1 from by omega]
   exact b1
  ·rw [hl]; exact a2.1.at fun o q =>(bs.2 _ (Ne.symm ne)).trans q
  ·simp only [List.mem_cons,List.not_mem_nil,or_false] at hb'
   have:b < s.heap.objs.size:=by rcases hb' with rfl | rfl; exact lt1; exact lt2
   rw [upd_ne (Nat.ne_of_lt this)]
   exact (hf b (by simp [hb'])).1
 done:=by
  intro X hP hw hK hc i pins s σ H E I hf st hg
  subst hP hw hK
  obtain ⟨hq,hi⟩:=hg
  rw [prsV_len,List.length_map] at hi
  subst hi
  obtain ⟨_,lo,vs,rel,dd⟩:=(show ObjOk X.prog X.w H s.heap a (.dK kvs ep) from I.hok a _ hq)
  have hl:kvs.length = vs.length:=rel.length
  have ai:a ≠ it:=fun z =>by have:=(hf it (by simp)).1; rw [← z,hq] at this; cases this
  obtain ⟨⟨old,he⟩,hit⟩:=st
  rw [hl] at hit he
  exact wpAny_pyNext_enum_endD (draws_keys (A:=X.A.in1) (I.ok.hd hc) it a ai vs ep) he ⟨hit,dd⟩ fun h' k =>⟨rfl,inv_turns (t':=s.toks) I hf fun b o hb q =>k b o (fun z =>hb (by simp [z])) q⟩
 self:=fun _ _ _ _ _ st h =>by
  obtain ⟨⟨old,he⟩,_⟩:=st
  exact wpAny_pyIter_enum he h
section
variable {X:Cx} {elts:List Expr} {x1:Nat} {tpos p cpos:Pos} {tg:Expr}
noncomputable def iEnumD (ta:TA):L2.TI:=fun σ H R =>ta σ H fun vs H1 =>∃ a kvs ep,vs = [.ref a] ∧ H1 a = some (.dK kvs ep) ∧ R (Itq (fun H =>H a = some (.dK kvs ep)) (prsV 0 (kvs.map fun p =>kV p.1))) H1
theorem pi_enumD {a:Expr} {ta:TA} (hg:Gl X "enumerate") (hm:X.mg "enumerate" = none) (ha:PA X [a] ta) (hs:starEach [a] X.env = [(false,eval a X.env)]):PI X (.Tuple elts x1 tpos) (.Call (.Name "enumerate" p) [a] [] cpos) (iEnumD ta):=by
 intro pins s σ H R I h
 refine Call_ (ld_blt I hg hm boot_enumerate (PyProof.Rows.callWith_type1 (thn (ha cpos pins s σ H _ I h) fun us s1 ⟨vs,H1,I1,r1,q1⟩ =>?_) hs rfl))
 obtain ⟨a,kvs,ep,rfl,hq,q⟩:=q1
 cases r1 with
 | cons r rr =>
   cases rr
   cases r
   obtain ⟨_,lo,vs,rel,dd⟩:=(show ObjOk X.prog X.w H1 s1.heap a (.dK kvs ep) from I1.hok a _ hq)
   have hl:kvs.length = vs.length:=rel.length
   refine call_enumD lo dd fun h' he hit hk =>?_
   refine wpAny_pyIter_enum he ⟨_,[s1.heap.objs.size + 1,s1.heap.objs.size],_,_,H1,rfl,I1.kept (t':=s1.toks) hk,turn_enumD (e:=s1.heap.objs.size + 1) (it:=s1.heap.objs.size) (a:=a) (Nat.succ_ne_self _) kvs ep,⟨⟨_,he⟩,by rw [hl]; exact hit⟩,fun c hc =>?_,q⟩
   have:s1.heap.objs.size ≤ c:=by
    simp only [List.mem_cons,List.not_mem_nil,or_false] at hc
    rcases hc with rfl | rfl <;> omega
   exact I1.fpOk this (I1.hok.fresh this)
noncomputable def Its (lo st:Int) (n:Nat):It:=⟨fun i _ =>i < n,fun i H x H' =>H' = H ∧ x = .int (lo + i * st),fun i _ =>n ≤ i⟩
theorem turn_its {P:Program} {w:World} {K:PySem.W.Frag} {tg:Expr} (it:Addr) (lo st:Int) (n:Nat):Turn P w K tg (Its lo st n) [it] it (fun i h =>IsRangeIter h it (lo + (i:Nat) * st) ((n:Int) - (i:Nat)) st) where
 mem:=by simp
 obj:=fun i h hst b hb =>by
  have e:b = it:=by simpa using hb
  subst e
  exact ⟨_,hst,fun v z =>by cases (z:Data.fields _ = Data.cell v)⟩
 keep:=fun i h h' hst k =>k it (by simp) _ hst
 item:=by
  intro X hP hw hK hc i pins s σ H E I hf hst hg
  subst hP hw hK
  obtain ⟨f0,f1,f2,f3,f4,f5⟩:=hf it (by simp)
  refine (Walks.range (prog:=X.prog) (w:=X.w) (I.ok.hd hc) it lo st n).item i s _ _ hg hst fun v h' tk hv st' kk =>?_
  obtain ⟨t,rfl⟩:=hv
  exact ⟨_,rfl,go_of (s:={ s with heap:=h',toks:=tk }) (n:="range_iterator") st' rfl rfl (by decide) ⟨.int (lo + i * st),H,I.turned (fun b o hb e =>kk b o (by simpa using hb) e) f0 f1 f3 f4 f5,⟨t,rfl⟩,⟨rfl,rfl⟩,st',fun b hb =>(hf b hb).1⟩⟩
 done:=by
  intro X hP hw hK hc i pins s σ H E I hf hst hg
  subst hP hw hK
  obtain ⟨f0,f1,f2,f3,f4,f5⟩:=hf it (by simp)
  exact wpAny_pyNext_range_end (I.ok.hd hc) hst (by have:n ≤ i:=hg; omega) fun h' eb =>⟨rfl,I.turned (t':=s.toks) (fun b o hb e =>eb b o hb e) f0 f1 f3 f4 f5⟩
 self:=fun _ _ _ _ _ hst h =>wpAny_pyIter_rangeiter hst h
noncomputable def rgN (lo hi st:Int):Nat:=(if lo < hi then (hi - lo - 1) / st + 1 else 0).toNat
theorem rgN_size {lo hi st:Int} (h0:0 < st):((rgN lo hi st:Nat):Int) = Builtin.Range.rangeSize lo hi st:=by
 have h:st > 0:=h0
 unfold rgN Builtin.Range.rangeSize
 rw [if_pos h]
 split
 ·have:=Int.ediv_nonneg (show 0 ≤ hi - lo - 1 by omega) (show 0 ≤ st by omega)
  omega
 ·rfl
theorem rg_small {lo hi st:Int} (h1:-1000000 ≤ lo ∧ lo ≤ 1000000) (h2:-1000000 ≤ hi ∧ hi ≤ 1000000) (h3:0 < st ∧ st ≤ 1000000):Builtin.Range.small lo hi st = true:=by
 have hz:0 ≤ Builtin.Range.rangeSize lo hi st ∧ Builtin.Range.rangeSize lo hi st ≤ 2000000:=by
  rw [← rgN_size h3.1]
  refine ⟨by omega,?_⟩
  unfold rgN
  split
  ·have:=Int.ediv_le_self st (show 0 ≤ hi - lo - 1 by omega)
   omega
  ·decide
 have h:st > 0:=h3.1
 unfold Builtin.Range.small
 generalize Builtin.Range.rangeSize lo hi st = z at *
 simp only [Builtin.Range.rangeFitsLong,Bool.and_eq_true,Bool.or_eq_true,decide_eq_true_eq,h,if_true]
 refine ⟨⟨⟨⟨?_,?_⟩,?_⟩,?_⟩,.inr ?_⟩ <;> omega
noncomputable def iRng3 (ta:TA):L2.TI:=fun σ H R =>ta σ H fun vs H1 =>∃ i j k:Int,vs = [.int i,.int j,.int k] ∧ ((-1000000 ≤ i ∧ i ≤ 1000000) ∧ (-1000000 ≤ j ∧ j ≤ 1000000) ∧ (0 < k ∧ k ≤ 1000000)) ∧ R (Its i k (rgN i j k)) H1
theorem pi_range3 {a b c:Expr} {ta:TA} {pos:Pos} (hg:Gl X "range") (hm:X.mg "range" = none) (ha:PA X [a,b,c] ta) (hs:starEach [a,b,c] X.env = (false,eval a X.env) :: starEach [b,c] X.env) (hs2:starEach [b,c] X.env = [(false,eval b X.env),(false,eval c X.env)]) :
 PI X tg (.Call (.Name "range" p) [a,b,c] [] pos) (iRng3 ta):=by
 intro pins s σ H R I h
 refine Call_ (ld_blt I hg hm boot_range (PyProof.Rows.callWith_type1 (thn (ha pos pins s σ H _ I h) fun us s1 ⟨vs,H1,I1,r1,q1⟩ =>?_) hs (by rw [hs2]; rfl)))
 obtain ⟨i,j,k,rfl,⟨b1,b2,b3⟩,q⟩:=q1
 cases r1 with
 | cons r rr =>
   cases rr with
   | cons r' rr =>
     cases rr with
     | cons r'' rr =>
       cases rr
       obtain ⟨t,rfl⟩:=r
       obtain ⟨t',rfl⟩:=r'
       obtain ⟨t'',rfl⟩:=r''
       refine call_range_3 (by omega) ?_ (.inl (PyProof.noPylong_small (by omega)))
       refine wpAny_pyIter_range (IsRange.new ..) (rg_small b1 b2 b3) ?_
       have I2:Inv X pins σ H1 { s1 with heap:=s1.heap.push { cls:=.type "range",data:=.fields #[.int i t,.int j t',.int k t''] },toks:=s1.toks }:=I1.kept fun b o e =>Heap.get?_push_of_some _ e
       refine ⟨_,[(s1.heap.push { cls:=.type "range",data:=.fields #[.int i t,.int j t',.int k t''] }).objs.size],_,_,H1,rfl,I2.kept (t':=s1.toks) fun b o e =>Heap.get?_push_of_some _ e,turn_its _ i k (rgN i j k),?_,fun b hb =>?_,q⟩
       ·show IsRangeIter _ _ (i + ((0:Nat):Int) * k) (((rgN i j k:Nat):Int) - ((0:Nat):Int)) k
        rw [show i + ((0:Nat):Int) * k = i by simp,show ((rgN i j k:Nat):Int) - ((0:Nat):Int) = Builtin.Range.rangeSize i j k by rw [← rgN_size b3.1]; simp]
        exact Heap.get?_push_size _ rfl
       ·have e:b = (s1.heap.push { cls:=.type "range",data:=.fields #[.int i t,.int j t',.int k t''] }).objs.size:=by simpa using hb
        subst e
        exact I2.fpOk (Nat.le_refl _) (I2.hok.fresh (Nat.le_refl _))
theorem yields_its {H2:Hp} (lo st:Int) (n:Nat):Yields (Its lo st n) H2 ((List.range n).map fun (k:Nat) =>V.int (lo + (k:Int) * st)) where
 go:=fun i H' s hi =>by simpa [Its] using hi
 yld:=fun i H' x H'' s hi ⟨e,y⟩ =>⟨e,by
  have hi:i < n:=by simpa using hi
  rw [List.getElem?_map,List.getElem?_range hi,y]; rfl⟩
 stop:=fun H' s =>by simp [Its]
theorem its_reps {W:Wd} {G:Hp} (lo st:Int):∀ l:List Nat,Reps W G (l.map fun (k:Nat) =>D.int (lo + (k:Int) * st)) (l.map fun (k:Nat) =>V.int (lo + (k:Int) * st))
 | [] =>by simp only [List.map_nil,Reps]
 | k :: l =>by simp only [List.map_cons,Reps,Rep]; exact ⟨trivial,its_reps lo st l⟩
end
end Z

namespace Z
open PySem PySem.Spec PyProof.Rows L2
section
variable {X:Cx} {W:Wd} {lk:Bool} {σ:L2.St} {H H1 H':Hp} {me:Option Addr} {B:Addr → Prop} {δ:Dst} {o:Orc} {p cpos pos tpos:Pos} {tg:Expr}
noncomputable def top (lk:Bool) (H2:Hp) (P:Addr → Prop):Hp:=if lk = true then H2 else vis H2 P
noncomputable def WalkL (X:Cx) (W:Wd) (o:Orc) (lk:Bool) (it:TI) (wi:L2.TI):Prop:=∀ σ H (K:It → Hp → Prop),(∃ me B δ l,SR X W me B H σ δ ∧ evI o δ lk it = .ok l ∧ ∀ J H2,Same H H2 → Ylds W J (top lk H2 (Hid B σ δ)) (vis H2 (Hid B σ δ)) l → K J H2) → wi σ H K
theorem WalkL.comp {it:TI} {wi:L2.TI} (h:WalkL X W o true it wi):WalkR X W o it wi:=fun σ H K ⟨me,B,δ,l,S,e,k⟩ =>h σ H K ⟨me,B,δ,l,S,e,fun J H2 s y =>k J H2 s (by simpa [top] using y)⟩
theorem top_le {H2:Hp} {P:Addr → Prop}:Same (top lk H2 P) H2:=by
 unfold top; split
 ·exact Same.refl _
 ·exact vis_le
theorem res_lst {H':Hp} {P:Addr → Prop} {w:Bool} {l:List D} {v:V} (h:Res W P lk H H' w (.lst l) v) (hp:∀ a,P a → ∃ u,H a = some u):∃ a xs,v = .ref a ∧ SqL W.K (top lk H' P) a xs ∧ Reps W (vis H' P) l xs:=by
 cases lk with
 | true =>
   obtain ⟨a,xs,rfl,q1,q2⟩:=h.look
   exact ⟨a,xs,rfl,by simpa [top] using q1,q2⟩
 | false =>
   have:=h.keep hp
   simp only [Rep] at this
   obtain ⟨a,xs,rfl,q1,q2⟩:=this
   exact ⟨a,xs,rfl,by simpa [top] using q1,q2⟩
theorem res_dct {H':Hp} {P:Addr → Prop} {w:Bool} {ks:List DK} {vs:List D} {v:V} (h:Res W P lk H H' w (.dct ks vs) v) (hp:∀ a,P a → ∃ u,H a = some u):∃ a kvs ep,v = .ref a ∧ top lk H' P a = some (.dK kvs ep) ∧ Reps W (vis H' P) (ks.map keyD) (kvs.map fun p =>kV p.1):=by
 cases lk with
 | true =>
   obtain ⟨a,kvs,rfl,⟨ep,q1⟩,q2,q3,q4⟩:=h.look
   exact ⟨a,kvs,ep,rfl,by simpa [top] using q1,reps_keys q2 q3.2⟩
 | false =>
   have:=h.keep hp
   simp only [Rep] at this
   obtain ⟨a,kvs,rfl,⟨ep,q1⟩,q2,q3,q4⟩:=this
   exact ⟨a,kvs,ep,rfl,by simpa [top] using q1,reps_keys q2 q3.2⟩
theorem res_tup {H':Hp} {P:Addr → Prop} {w:Bool} {l:List D} {v:V} (h:Res W P lk H H' w (.tup l) v):∃ a xs,v = .ref a ∧ SqT W.K (vis H' P) a xs ∧ Reps W (vis H' P) l xs:=by
 have:=h.look
 simp only [RepT,Rep] at this
 exact this
theorem tup_top {K:PySem.W.Frag} {H2:Hp} {P:Addr → Prop} {a:Addr} {xs:List V} (h:SqT K (vis H2 P) a xs):SqT K (top lk H2 P) a xs:=by
 unfold top; split
 ·exact same_tup vis_le h
 ·exact h
theorem w_val {iter:Expr} {t:T} (hk:W.K = X.K) (he:PE X iter (tD X W lk fun δ =>ev o δ lk t)):∃ wi,PI X tg iter wi ∧ WalkL X W o lk (.val t) wi:=by
 refine ⟨_,PI.or (PI.or (pi_list he) (pi_tup he)) (pi_dict he),fun σ H K ⟨me,B,δ,l,S,e,k⟩ =>?_⟩
 simp only [evI] at e
 cases e1:ev o δ lk t with
 | exc c =>rw [e1] at e; cases e
 | stuck =>rw [e1] at e; cases e
 | ok r =>
 rw [e1] at e
 simp only [R.bind] at e
 cases e2:r.2 with
 | lst l' =>
   rw [e2] at e
   cases e
   refine .inl (.inl (tD_iff.mpr ⟨me,B,δ,S,?_⟩))
   rw [e1]
   intro v H1 s q
   rw [e2] at q
   obtain ⟨c,xs,rfl,q1,q2⟩:=res_lst q S.know
   exact ⟨c,rfl,⟨xs,hk ▸ top_le.seq q1⟩,k _ _ s (.of (yields_list (hk ▸ q1)) q2)⟩
 | tup l' =>
   rw [e2] at e
   cases e
   refine .inl (.inr (tD_iff.mpr ⟨me,B,δ,S,?_⟩))
   rw [e1]
   intro v H1 s q
   rw [e2] at q
   obtain ⟨c,xs,rfl,q1,q2⟩:=res_tup q
   exact ⟨c,rfl,⟨xs,hk ▸ same_tup vis_le q1⟩,k _ _ s (.of (yields_tup (hk ▸ tup_top q1)) q2)⟩
 | dct ks vs =>
   rw [e2] at e
   cases e
   refine .inr (tD_iff.mpr ⟨me,B,δ,S,?_⟩)
   rw [e1]
   intro v H1 s q
   rw [e2] at q
   obtain ⟨c,kvs,ep,rfl,q1,q2⟩:=res_dct q S.know
   exact ⟨c,kvs,ep,rfl,top_le _ _ q1,k _ _ s (.of (yields_dict q1) q2)⟩
 | _ =>rw [e2] at e; cases e
theorem w_rng1 {e1:Expr} {t:T} (hgl:Gl X "range") (hm:X.mg "range" = none) (h1:PE X e1 (tD X W true fun δ =>ev o δ true t)) (hst:isStar1 e1 = false):∃ wi,PI X tg (.Call (.Name "range" p) [e1] [] cpos) wi ∧ WalkL X W o lk (.rng1 t) wi:=by
 refine ⟨_,pi_range1 hgl hm (pa_cons h1 pa_nil (star1 hst)) (star1 hst),fun σ H K ⟨me,B,δ,l,S,e,k⟩ =>?_⟩
 simp only [evI] at e
 refine tD_iff.mpr ⟨me,B,δ,S,?_⟩
 cases e3:ev o δ true t with
 | ok r =>
   rw [e3] at e
   simp only [R.bind] at e
   cases e4:r.2 with
   | int n =>
     rw [e4] at e
     obtain ⟨hc1,e⟩:=chk_ok e
     cases e
     intro v H1 s1 q1
     have q1:=q1.look
     rw [e4] at q1
     have hn:=inR_ok hc1
     have:=repT_int q1
     subst this
     refine ⟨n,rfl,by omega,by omega,k _ _ s1 (.of (yields_range 0 n.toNat) ?_)⟩
     have e5:rngD 0 n = (List.range n.toNat).map fun (k:Nat) =>D.int (0 + (k:Int)):=by unfold rngD; rw [Int.sub_zero]
     rw [e5]
     exact rng_reps 0 n.toNat
   | _ =>rw [e4] at e; cases e
 | exc c =>rw [e3] at e; cases e
 | stuck =>rw [e3] at e; cases e
theorem zipD_len:∀ (l r:List D) (xs ys:List V),l.length = xs.length → r.length = ys.length → (zipD l r).length = (xs.zip ys).length
 | [],_,[],_,_,_ =>rfl
 | _ :: _,[],_ :: _,[],_,_ =>rfl
 | _ :: l,_ :: r,_ :: xs,_ :: ys,h1,h2 =>by simp [zipD,zipD_len l r xs ys (by simpa using h1) (by simpa using h2)]
 | [],_,_ :: _,_,h,_ =>by simp at h
 | _ :: _,_,[],_,h,_ =>by simp at h
 | _ :: _,[],_ :: _,_ :: _,_,h =>by simp at h
 | _ :: _,_ :: _,_ :: _,[],_,h =>by simp at h
theorem zipD_get:∀ (l r:List D) (i:Nat) (d:D),(zipD l r)[i]? = some d → ∃ x y,l[i]? = some x ∧ r[i]? = some y ∧ d = .tup [x,y]
 | [],_,_,_,h =>by simp [zipD] at h
 | _ :: _,[],_,_,h =>by simp [zipD] at h
 | x :: l,y :: r,0,d,h =>by simp [zipD] at h; exact ⟨x,y,rfl,rfl,h.symm⟩
 | x :: l,y :: r,i + 1,d,h =>by
   simp only [zipD,List.getElem?_cons_succ] at h ⊢
   exact zipD_get l r i d h
theorem enumD_len:∀ (l:List D) (i:Nat),(enumD i l).length = l.length
 | [],_ =>rfl
 | _ :: l,i =>by simp [enumD,enumD_len l]
theorem enumD_get:∀ (l:List D) (i j:Nat) (d:D),(enumD i l)[j]? = some d → ∃ x,l[j]? = some x ∧ d = .tup [.int ((i + j:Nat):Int),x]
 | [],_,_,_,h =>by simp [enumD] at h
 | x :: l,i,0,d,h =>by simp [enumD] at h; exact ⟨x,rfl,by rw [← h]; rfl⟩
 | x :: l,i,j + 1,d,h =>by
   simp only [enumD,List.getElem?_cons_succ] at h ⊢
   obtain ⟨y,h1,h2⟩:=enumD_get l (i + 1) j d h
   exact ⟨y,h1,by rw [h2]; congr 4; omega⟩
theorem w_zip {es:List Expr} {x1:Nat} {e1 e2:Expr} {t1 t2:T} (hk:W.K = X.K) (hgl:Gl X "zip") (hm:X.mg "zip" = none) (h1:PE X e1 (tD X W true fun δ =>ev o δ true t1)) (h2:PE X e2 (tD X W true fun δ =>ev o δ true t2)) (hst1:isStar1 e1 = false) (hst2:isStar1 e2 = false) :
 ∃ wi,PI X (.Tuple es x1 tpos) (.Call (.Name "zip" p) [e1,e2] [] cpos) wi ∧ WalkL X W o lk (.zip t1 t2) wi:=by
 have hs2:starEach [e2] X.env = [(false,eval e2 X.env)]:=star1 hst2
 refine ⟨_,pi_zip2 hgl hm (pa_cons h1 (pa_cons h2 pa_nil hs2) (star1 hst1)) (by rw [star1 hst1,hs2]) hs2,fun σ H K ⟨me,B,δ,l,S,e,k⟩ =>?_⟩
 simp only [evI] at e
 refine tD_iff.mpr ⟨me,B,δ,S,?_⟩
 cases e3:ev o δ true t1 with
 | ok r =>
   rw [e3] at e
   simp only [R.bind] at e
   intro v H1 s1 q1
   refine tD_iff.mpr ⟨me,B,δ,S.mono s1,?_⟩
   cases e5:ev o δ true t2 with
   | ok r2 =>
     rw [e5] at e
     obtain ⟨la,lb,e4,e6,rfl⟩:=zipR_ok e
     intro v2 H2 s2 q2
     rw [e4] at q1
     rw [e6] at q2
     obtain ⟨a,xs,rfl,a1,a2⟩:=res_tup q1
     obtain ⟨b,ys,rfl,b1,b2⟩:=res_tup q2
     have up:Same (vis H1 (Hid B σ δ)) (vis H2 (Hid B σ δ)):=vis_mono s2
     have a1':=same_tup up a1
     have a2':=a2.mono up
     refine ⟨a,b,xs,ys,rfl,hk ▸ same_tup vis_le a1',hk ▸ same_tup vis_le b1,k _ _ (s1.trans s2) ⟨fun i G s hi =>⟨⟨hk ▸ same_tup s (tup_top a1'),hk ▸ same_tup s (tup_top b1)⟩,?_⟩,fun i G x G' d s ed ⟨q,pr,z1,z2,z3,z4⟩ =>?_,fun G s =>⟨⟨hk ▸ same_tup s (tup_top a1'),hk ▸ same_tup s (tup_top b1)⟩,?_⟩⟩⟩
     ·rw [← zipD_len la lb xs ys a2.length b2.length]; exact hi
     ·obtain ⟨x',y',f1,f2,f3⟩:=zipD_get la lb i d ed
      obtain ⟨v1,g1,g2⟩:=a2'.get f1
      obtain ⟨v2,g3,g4⟩:=b2.get f2
      have:pr = (v1,v2):=by
       have hz:(xs.zip ys)[i]? = some (v1,v2):=by
        rw [List.getElem?_zip_eq_some]; exact ⟨g1,g3⟩
       rw [z2] at hz; exact Option.some.inj hz
      subst this
      exact .inr ⟨q,x',y',v1,v2,f3,z3,z1,z4,g2,g4⟩
     ·rw [← zipD_len la lb xs ys a2.length b2.length]; exact Nat.le_refl _
   | exc c =>rw [e5] at e; cases e
   | stuck =>rw [e5] at e; cases e
 | exc c =>rw [e3] at e; cases e
 | stuck =>rw [e3] at e; cases e
theorem w_enum {es:List Expr} {x1:Nat} {e1:Expr} {t:T} (hk:W.K = X.K) (hgl:Gl X "enumerate") (hm:X.mg "enumerate" = none) (h1:PE X e1 (tD X W lk fun δ =>ev o δ lk t)) (hst:isStar1 e1 = false):∃ wi,PI X (.Tuple es x1 tpos) (.Call (.Name "enumerate" p) [e1] [] cpos) wi ∧ WalkL X W o lk (.enum t) wi:=by
 refine ⟨_,PI.or (pi_enum1 hgl hm (pa_cons h1 pa_nil (star1 hst)) (star1 hst)) (pi_enumD hgl hm (pa_cons h1 pa_nil (star1 hst)) (star1 hst)),fun σ H K ⟨me,B,δ,l,S,e,k⟩ =>?_⟩
 simp only [evI] at e
 cases e3:ev o δ lk t with
 | ok r =>
   rw [e3] at e
   simp only [R.bind] at e
   cases e4:r.2 with
   | lst la =>
     rw [e4] at e
     cases e
     refine .inl (tD_iff.mpr ⟨me,B,δ,S,?_⟩)
     rw [e3]
     intro v H1 s1 q1
     rw [e4] at q1
     obtain ⟨a,xs,rfl,a1,a2⟩:=res_lst q1 S.know
     refine ⟨a,xs,rfl,hk ▸ top_le.seq a1,k _ _ s1 ⟨fun i G s hi =>⟨hk ▸ s.seq a1,?_⟩,fun i G x G' d s ed ⟨q,pr,z1,z2,z3,z4⟩ =>?_,fun G s =>⟨hk ▸ s.seq a1,?_⟩⟩⟩
     ·rw [prsV_len,← a2.length,← enumD_len la 0]; exact hi
     ·obtain ⟨x',f1,f2⟩:=enumD_get la 0 i d ed
      obtain ⟨v1,g1,g2⟩:=a2.get f1
      rw [prsV_get xs 0 i v1 g1] at z2
      cases z2
      exact .inr ⟨q,_,x',_,v1,f2,z3,z1,z4,by simp only [Rep],g2⟩
     ·rw [prsV_len,← a2.length,← enumD_len la 0]; exact Nat.le_refl _
   | dct ks vs =>
     rw [e4] at e
     cases e
     refine .inr (tD_iff.mpr ⟨me,B,δ,S,?_⟩)
     rw [e3]
     intro v H1 s1 q1
     rw [e4] at q1
     obtain ⟨a,kvs,ep,rfl,a1,a2⟩:=res_dct q1 S.know
     refine ⟨a,kvs,ep,rfl,top_le _ _ a1,k _ _ s1 ⟨fun i G s hi =>⟨s _ _ a1,?_⟩,fun i G x G' d s ed ⟨q,pr,z1,z2,z3,z4⟩ =>?_,fun G s =>⟨s _ _ a1,?_⟩⟩⟩
     ·rw [prsV_len,← a2.length,← enumD_len (ks.map keyD) 0]; exact hi
     ·obtain ⟨x',f1,f2⟩:=enumD_get (ks.map keyD) 0 i d ed
      obtain ⟨v1,g1,g2⟩:=a2.get f1
      rw [prsV_get _ 0 i v1 g1] at z2
      cases z2
      exact .inr ⟨q,_,x',_,v1,f2,z3,z1,z4,by simp only [Rep],g2⟩
     ·rw [prsV_len,← a2.length,← enumD_len (ks.map keyD) 0]
   | _ =>rw [e4] at e; cases e
 | exc c =>rw [e3] at e; cases e
 | stuck =>rw [e3] at e; cases e
theorem w_rng3 {e1 e2 e3:Expr} {t1 t2 t3:T} (hgl:Gl X "range") (hm:X.mg "range" = none) (h1:PE X e1 (tD X W true fun δ =>ev o δ true t1)) (h2:PE X e2 (tD X W true fun δ =>ev o δ true t2)) (h3:PE X e3 (tD X W true fun δ =>ev o δ true t3)) (hst1:isStar1 e1 = false) (hst2:isStar1 e2 = false) (hst3:isStar1 e3 = false) :
 ∃ wi,PI X tg (.Call (.Name "range" p) [e1,e2,e3] [] cpos) wi ∧ WalkL X W o lk (.rng3 t1 t2 t3) wi:=by
 have hs3:starEach [e3] X.env = [(false,eval e3 X.env)]:=star1 hst3
 have hs2:starEach [e2,e3] X.env = [(false,eval e2 X.env),(false,eval e3 X.env)]:=by rw [star1 hst2,hs3]
 refine ⟨_,pi_range3 hgl hm (pa_cons h1 (pa_cons h2 (pa_cons h3 pa_nil hs3) (star1 hst2)) (star1 hst1)) (star1 hst1) hs2,fun σ H K ⟨me,B,δ,l,S,e,k⟩ =>?_⟩
 simp only [evI] at e
 refine tD_iff.mpr ⟨me,B,δ,S,?_⟩
 cases g1:ev o δ true t1 with
 | ok r1 =>
   cases g2:ev o δ true t2 with
   | ok r2 =>
     cases g3:ev o δ true t3 with
     | ok r3 =>
       rw [g1,g2,g3] at e
       simp only [R.bind] at e
       intro v1 H1 s1 q1
       refine tD_iff.mpr ⟨me,B,δ,S.mono s1,?_⟩
       rw [g2]
       intro v2 H2 s2 q2
       refine tD_iff.mpr ⟨me,B,δ,(S.mono s1).mono s2,?_⟩
       rw [g3]
       intro v3 H3 s3 q3
       obtain ⟨i,j,st,f1,f2,f3,e⟩:=rng3R_ok e
       obtain ⟨hc1,e⟩:=chk_ok e
       cases e
       simp only [Bool.and_eq_true,decide_eq_true_eq] at hc1
       have hi:=inR_ok hc1.1.1.1
       have hj:=inR_ok hc1.1.1.2
       have hst:=inR_ok hc1.1.2
       have q1:=q1.look
       rw [f1] at q1
       have q2:=q2.look
       rw [f2] at q2
       have q3:=q3.look
       rw [f3] at q3
       exact ⟨i,j,st,by rw [repT_int q1,repT_int q2,repT_int q3],⟨hi,hj,⟨hc1.2,hst.2⟩⟩,k _ _ ((s1.trans s2).trans s3) (.of (yields_its i st (rgN i j st)) (its_reps i st (List.range (rgN i j st))))⟩
     | exc c =>rw [g1,g2,g3] at e; cases e
     | stuck =>rw [g1,g2,g3] at e; cases e
   | exc c =>rw [g1,g2] at e; cases e
   | stuck =>rw [g1,g2] at e; cases e
 | exc c =>rw [g1] at e; cases e
 | stuck =>rw [g1] at e; cases e
theorem for_walk {is:List Nat} {tup:Bool} {g:TG} (hg:TgOk X W tg is tup g) {sb:SL} {En:Ends} {l:List D} {J:It} (S:SR X W me B H σ δ) (Y:Ylds W J (vis H (Hid B σ δ)) (vis H (Hid B σ δ)) l)
 (h:AfterS X W me B (vis H (Hid B σ δ)) (forGo (evSs o sb) is tup l δ) En) :
 ∃ Wv:Nat → Nat → L2.St → Hp → Prop,(∃ m,Wv 0 m σ H) ∧ ∀ i m σ H,Wv i m σ H →
  (J.stop i H ∧ En.nx σ H) ∨ (J.go i H ∧ ∃ N:L2.St → Hp → Prop,(∀ σ' H',N σ' H' → ∃ m',m' < m ∧ Wv (i + 1) m' σ' H') ∧ ∀ x H',J.yld i H x H' → g x σ H' fun σ2 H2 =>tS X W (evSs o sb) { En with nx:=N,ct:=N,bk:=En.nx } σ2 H2):=by
 let Pv:Nat → L2.St → Hp → Prop:=fun i σ' H' =>∃ δ',SR X W me B H' σ' δ' ∧ Same (vis H (Hid B σ δ)) (vis H' (Hid B σ' δ')) ∧ AfterS X W me B (vis H' (Hid B σ' δ')) (forGo (evSs o sb) is tup (l.drop i) δ') En
 refine ⟨fun i m σ' H' =>m = l.length - i ∧ i ≤ l.length ∧ Pv i σ' H',⟨l.length,rfl,Nat.zero_le _,δ,S,Same.refl _,h⟩,?_⟩
 rintro i m σ' H' ⟨rfl,hi,δ',S',s',h'⟩
 by_cases hlt:i < l.length
 ·refine .inr ⟨Y.go i H' (s'.trans vis_le) hlt,Pv (i + 1),fun σ2 H2 q =>⟨l.length - (i + 1),by omega,rfl,hlt,q⟩,fun x H'' y =>?_⟩
  obtain ⟨d,ed⟩:∃ d,l[i]? = some d:=⟨_,List.getElem?_eq_getElem hlt⟩
  obtain ⟨sy,rd⟩:=(Y.yld i H' x H'' d (s'.trans vis_le) ed y).rep s' S'.know
  have hd:l.drop i = d :: l.drop (i + 1):=by
   obtain ⟨hi,e⟩:=List.getElem?_eq_some_iff.mp ed
   rw [List.drop_eq_getElem_cons hi,e]
  rw [hd] at h'
  simp only [forGo] at h'
  have S'':=S'.mono sy
  have sv:Same (vis H' (Hid B σ' δ')) (vis H'' (Hid B σ' δ')):=vis_mono sy
  replace h':=AfterS.mono h' sv
  cases e2:takes is.length tup d with
  | none =>simp only [e2] at h'; exact h'.elim
  | some ds =>
    simp only [e2] at h'
    cases e3:setSlots δ' is ds with
    | none =>simp only [e3] at h'; exact h'.elim
    | some δ1 =>
      simp only [e3] at h'
      refine hg.2 S'' rd e2 e3 fun σ1 S1 s1 =>⟨me,B,δ1,S1,?_⟩
      have h':=AfterS.mono h' s1
      cases e4:evSs o sb δ1 with
      | nx δ2 =>rw [e4] at h'; exact fun σ2 H2 S2 s2 =>⟨δ2,S2,((s'.trans sv).trans s1).trans s2,AfterS.mono h' s2⟩
      | ct δ2 =>rw [e4] at h'; exact fun σ2 H2 S2 s2 =>⟨δ2,S2,((s'.trans sv).trans s1).trans s2,AfterS.mono h' s2⟩
      | bk δ2 =>rw [e4] at h'; exact h'
      | rt w d δ2 =>rw [e4] at h'; exact h'
      | ex c δ2 =>rw [e4] at h'; exact h'.elim
      | stuck =>rw [e4] at h'; exact h'.elim
 ·have e:i = l.length:=by omega
  subst e
  refine .inl ⟨Y.stop H' (s'.trans vis_le),?_⟩
  rw [List.drop_length] at h'
  simp only [forGo,AfterS] at h'
  exact h' σ' H' S' (Same.refl _)
theorem share_it (S:SR X W me B H σ δ) (it:TI):SR X W me B H σ (shareIt δ it) ∧ Same (vis H (Hid B σ δ)) (vis H (Hid B σ (shareIt δ it))):=by
 have one:∀ i,SR X W me B H σ (Z.share1 δ i) ∧ Same (vis H (Hid B σ δ)) (vis H (Hid B σ (Z.share1 δ i))):=fun i =>⟨S.share1 i,vis_sub (share1_sub i)⟩
 unfold shareIt
 split
 ·exact one _
 ·exact one _
 ·exact ⟨S,Same.refl _⟩
theorem ds_forW {iter:Expr} {body:List Stmt} {is:List Nat} {tup:Bool} {g:TG} {it:TI} {sb:SL} (hp:PassesOwn (model X.prog X.w) X.A X.env X.xe) (hc:X.calm = true) (hg:TgOk X W tg is tup g) (hi:∃ wi,PI X tg iter wi ∧ WalkL X W o false it wi)
 (hb:PSs X body (tS X W (evSs o sb))) (hs:∀ x,foldedSetIterable iter X.env x = pure x):PS X (.For tg iter body [] pos) (tS X W (evS o (.for_ is tup it sb))):=by
 obtain ⟨wi,h1,h2⟩:=hi
 refine PS.imp (ps_for hp hc h1 hg.1 hb hs) fun En σ H ⟨me,B,δ,S,h⟩ =>?_
 simp only [evS] at h
 obtain ⟨S1,s1⟩:=share_it S it
 obtain ⟨l,e,h⟩:=SO.of_ok h
 refine h2 σ H _ ⟨me,B,_,l,S1,e,fun J H2 s y =>?_⟩
 have y':Ylds W J (vis H2 (Hid B σ (shareIt δ it))) (vis H2 (Hid B σ (shareIt δ it))) l:=by simpa [top] using y
 exact for_walk hg (S1.mono s) y' (AfterS.mono h (s1.trans (vis_mono s)))
end
end Z

namespace Z
open PySem PySem.Spec PyProof.Rows L2
noncomputable def stepM (m z:Int):Int:=if z > m then z else m
section
variable {prog:Program} {w:World} {A:Around} {E:Value → Shared → Prop} {s:Shared} {R:Result → Shared → Prop}
theorem cmp_gt {A:Around} {s:Shared} {a b:Int} {t u:Tok} {Q:Value → Shared → Prop} (h:Q (.bool (decide (a > b))) s):wpAny (model prog w) A (richCompare .Gt (.int a t) (.int b u)) Q E s :=
 richCompare_gives (op:=.Gt) (typeIs_int s _ t) (typeIs_int s _ u) PySem.F.slot_int_gt PySem.F.entry_int_gt (PySem.F.args_int_gt_2 _ _) (gives_int_gt _ _ t u) (fun x =>nomatch x) h
theorem maxd_loop {I l S:Addr} {vs:List Value} {ns:List Int} {kw:List (Str × Value)} (hh:A.handled = none) (hi:IntsAre vs ns) (hlI:l ≠ I) (hSI:S ≠ I) (hSl:S ≠ l):∀ (k j:Nat) (s:Shared) (m:Int) (t:Tok) (c:Nat),ns.length - j = k → j ≤ ns.length → s.heap.IsListIter I l j → s.heap.IsList l vs.toArray →
 s.heap.get? S = some { cls:=.type "list",dict:=none,data:=.seq #[.int m t,.int m t] c,slots:=#[] } →
 (∀ t' h' tk,(∀ b o,b ≠ I → b ≠ S → s.heap.get? b = some o → h'.get? b = some o) → R (.ok (.ret (.int ((ns.drop j).foldl stepM m) t'))) { s with heap:=h',toks:=tk }) →
 codeAny (model prog w) A (.builtin "max.loop" ⟨[.ref I,.none,.ref S],kw⟩) R s:=by
 have hname:(toString "max" ++ toString ".loop":String) = "max.loop":=by decide
 have hlen:=hi.length
 intro k
 induction k with
 | zero =>
   intro j s m t c hk hj hit hl hS hR
   have e:j = ns.length:=by omega
   refine codeAny_builtin PySem.F.entry_max_loop ?_; rw [Around.under_plainId PySem.F.plain_max_loop _]; show wpAny _ A.in1 (seqItems? (.ref S) >>= _) _ _ s
   refine wpAny_bind (wpAny_seqItems hS rfl ?_); show wpAny _ A.in1 (tryCatch (pyNext (.ref I)) _ >>= _) _ _ s
   refine wpAny_bind (wpAny_tryCatch (wpAny_pyNext_list_end hh hit hl (Array.getElem?_eq_none (by simp; omega)) fun h' hx =>?_))
   have hS':=hx S _ hSI hS
   show wpAny _ A.in1 (updateSeq S (fun _ =>#[]) >>= _) _ _ _; refine wpAny_bind (wpAny_updateSeq hS' rfl (wpAny_bind (wpAny_letGo (wpAny_pure ?_))))
   have:=hR t (h'.update S (Obj.mapSeq fun _ =>#[])) s.toks fun b o b1 b2 q =>(Heap.get?_update_other _ _ (Ne.symm b2)).trans (hx b o b1 q)
   rw [e,List.drop_length] at this
   exact this
 | succ k ih =>
   intro j s m t c hk hj hit hl hS hR
   have hlt:j < ns.length:=by omega
   obtain ⟨u,hu⟩:=hi.get j (ns[j]'hlt) (List.getElem?_eq_getElem hlt)
   have hd:ns.drop j = ns[j]'hlt :: ns.drop (j + 1):=List.drop_eq_getElem_cons hlt
   rw [hd] at hR
   generalize ns[j]'hlt = z at hu hR
   refine codeAny_builtin PySem.F.entry_max_loop ?_; rw [Around.under_plainId PySem.F.plain_max_loop _]; show wpAny _ A.in1 (seqItems? (.ref S) >>= _) _ _ s
   refine wpAny_bind (wpAny_seqItems hS rfl ?_); show wpAny _ A.in1 (tryCatch (pyNext (.ref I)) _ >>= _) _ _ s
   refine wpAny_bind (wpAny_tryCatch (wpAny_pyNext_list_item hit hl (x:=.int z u) (by simpa using hu) fun h' hit' hs' =>?_))
   have hS':=(hs'.2 S hSI).trans hS
   have hl':=hl.extBut hs'.extBut hlI
   show wpAny _ A.in1 (tryCatch (holding [.int z u,.int z u] (richCompare .Gt (.int z u) (.int m t) >>= _)) _ >>= _) _ _ _
   refine wpAny_bind (wpAny_tryCatch (wpAny_holding (wpAny_bind (cmp_gt ?_)))); refine wpAny_bind (wpAny_holding (wpAny_truthy_bool ?_)); refine wpAny_bind (wpAny_letGo (wpAny_pure ?_))
   by_cases hb:z > m
   ·simp only [decide_eq_true hb,if_true]; refine wpAny_bind (wpAny_updateSeq hS' rfl (wpAny_bind (wpAny_letGo ?_))); rw [hname]
    refine wpAny_pure ⟨plainId_quiet PySem.F.plain_max_loop _,ih (j + 1) _ z u _ (by omega) hlt (hit'.at fun o e =>(Heap.get?_update_other _ _ hSI).trans e) (hl'.at fun o e =>(Heap.get?_update_other _ _ hSl).trans e) (Heap.get?_update_self _ hS' rfl) fun t' h'' tk hk'' =>?_⟩
    have:=hR t' h'' tk fun b o b1 b2 q =>hk'' b o b1 b2 ((Heap.get?_update_other _ _ (Ne.symm b2)).trans ((hs'.2 b b1).trans q))
    rw [List.foldl_cons,show stepM m z = z from if_pos hb] at this
    exact this
   ·simp only [decide_eq_false hb,Bool.false_eq_true,if_false]; refine wpAny_bind (wpAny_letGo ?_); rw [hname]
    refine wpAny_pure ⟨plainId_quiet PySem.F.plain_max_loop _,ih (j + 1) _ m t c (by omega) hlt hit' hl' hS' fun t' h'' tk hk'' =>?_⟩
    have:=hR t' h'' tk fun b o b1 b2 q =>hk'' b o b1 b2 ((hs'.2 b b1).trans q)
    rw [List.foldl_cons,show stepM m z = m from if_neg hb] at this
    exact this
theorem args_maxd (a v:Value):argsOk "max" ⟨[a],[(Str.ofString "default",v)]⟩:=by unfold argsOk; kernel_rfl
noncomputable def maxOf (d:Int):List Int → Int
 | [] =>d
 | y :: r =>r.foldl stepM y
theorem maxd_call {l:Addr} {vs:List Value} {ns:List Int} {d:Int} {td:Tok} {Q:Value → Shared → Prop} (hh:A.handled = none) (hl:s.heap.IsList l vs.toArray) (hi:IntsAre vs ns)
 (hQ:∀ t h' tk,(∀ b o,s.heap.get? b = some o → h'.get? b = some o) → Q (.int (maxOf d ns) t) { s with heap:=h',toks:=tk }):wpAny (model prog w) A (call (.builtin "max") [.ref l] [(Str.ofString "default",.int d td)]) Q E s:=by
 have hname:(toString "max" ++ toString ".loop":String) = "max.loop":=by decide
 have hlen:=hi.length
 have ll:l < s.heap.objs.size:=by obtain ⟨o,e,_⟩:=hl; exact Heap.lt_size e
 refine kmk_tree PySem.F.kind_max PySem.F.plain_max PySem.F.entry_max (args_maxd _ _) ?_
 show wpAny _ A.in1 (Builtin.Builtins.bindParams "max" ["key","default"] 0 ⟨[],[(Str.ofString "default",.int d td)]⟩ >>= _) _ _ s
 refine wpAny_bind (wpAny_of_eq (show Builtin.Builtins.bindParams "max" ["key","default"] 0 ⟨[],[(Str.ofString "default",.int d td)]⟩ = pure [none,some (.int d td)] from rfl) ?_); refine wpAny_bind (wpAny_pure ?_)
 refine wpAny_bind (wpAny_pyIter_list hl ?_); refine wpAny_bind (wpAny_newList ?_ (Nat.zero_le _)); rw [hname]
 generalize hh1:s.heap.push { cls:=.type "list_iterator",data:=.fields #[.ref l,.int 0 0] } = h1
 have n1:h1.objs.size = s.heap.objs.size + 1:=by rw [← hh1]; exact Heap.size_push ..
 have old:∀ b o,s.heap.get? b = some o → (h1.push (seqObj "list" #[] 0)).get? b = some o:=fun b o e =>Heap.get?_push_of_some _ (by rw [← hh1]; exact Heap.get?_push_of_some _ e)
 have gI:(h1.push (seqObj "list" #[] 0)).IsListIter s.heap.objs.size l 0:=⟨_,Heap.get?_push_of_some _ (by rw [← hh1]; exact Heap.get?_push_size _ rfl),rfl,rfl⟩
 have gS:(h1.push (seqObj "list" #[] 0)).get? h1.objs.size = some (seqObj "list" #[] 0):=Heap.get?_push_size _ rfl
 have gl:(h1.push (seqObj "list" #[] 0)).IsList l vs.toArray:=hl.at fun o e =>old _ o e
 have lI:l ≠ s.heap.objs.size:=Nat.ne_of_lt ll
 have SI:h1.objs.size ≠ s.heap.objs.size:=by rw [n1]; exact Nat.succ_ne_self _
 have Sl:h1.objs.size ≠ l:=by rw [n1]; exact Nat.ne_of_gt (Nat.lt_succ_of_lt ll)
 refine wpAny_pure ⟨plainId_quiet PySem.F.plain_max_loop _,?_⟩
 refine codeAny_builtin PySem.F.entry_max_loop ?_; rw [Around.under_plainId PySem.F.plain_max_loop _]; show wpAny _ A.in1 (seqItems? (.ref h1.objs.size) >>= _) _ _ _
 refine wpAny_bind (wpAny_seqItems gS rfl ?_); show wpAny _ A.in1 (tryCatch (pyNext (.ref s.heap.objs.size)) _ >>= _) _ _ _
 cases ns with
 | nil =>
   cases hi
   refine wpAny_bind (wpAny_tryCatch (wpAny_pyNext_list_end hh gI gl (by simp) fun h' hx =>?_))
   refine wpAny_bind (wpAny_rule (wpAny_pure ?_))
   exact hQ td h' _ fun b o e =>hx b o (Nat.ne_of_lt (Heap.lt_size e)) (old b o e)
 | cons z ns =>
   obtain ⟨u,hu⟩:=hi.get 0 z rfl
   refine wpAny_bind (wpAny_tryCatch (wpAny_pyNext_list_item gI gl (x:=.int z u) (by simpa using hu) fun h' hit' hs' =>?_))
   have hS':=(hs'.2 _ SI).trans gS
   have hl':=gl.extBut hs'.extBut lI
   show wpAny _ A.in1 (updateSeq h1.objs.size (fun _ =>#[.int z u,.int z u]) >>= _) _ _ _; refine wpAny_bind (wpAny_updateSeq hS' rfl ?_); rw [hname]
   refine wpAny_pure ⟨plainId_quiet PySem.F.plain_max_loop _,maxd_loop hh hi lI SI Sl _ 1 _ z u _ rfl (by simp) (hit'.at fun o e =>(Heap.get?_update_other _ _ SI).trans e) (hl'.at fun o e =>(Heap.get?_update_other _ _ Sl).trans e) (Heap.get?_update_self _ hS' rfl) fun t' h'' tk hk'' =>?_⟩
   exact hQ t' h'' tk fun b o e =>hk'' b o (Nat.ne_of_lt (Heap.lt_size e)) (fun q =>by have:=Heap.lt_size e; rw [q,n1] at this; exact Nat.not_lt_of_le (Nat.le_succ _) this) ((Heap.get?_update_other _ _ (fun q =>by have:=Heap.lt_size e; rw [← q,n1] at this; exact Nat.not_lt_of_le (Nat.le_succ _) this)).trans ((hs'.2 b (Nat.ne_of_lt (Heap.lt_size e))).trans (old b o e)))
end
section
variable {X:Cx} {W:Wd} {lk:Bool} {σ:L2.St} {H H1 H':Hp} {me:Option Addr} {B:Addr → Prop} {δ:Dst} {o:Orc} {p cpos pos kp:Pos} {a b:Expr}
noncomputable def tMaxd (K:PySem.W.Frag) (ta:TA) (td:TE):TE:=fun σ H Q =>ta σ H fun vs H1 =>∃ x,vs = [x] ∧ td σ H1 fun y H2 =>∃ l ns d,x = .ref l ∧ y = .int d ∧ SqL K H2 l (ns.map V.int) ∧ Q (.int (maxOf d ns)) H2
theorem pe_maxd {ta:TA} {td:TE} (hc:X.calm = true) (hg:Gl X "max") (hm:X.mg "max" = none) (ha:PA X [a] ta) (hb:PE X b td) (hst:isStar1 a = false):PE X (.Call (.Name "max" p) [a] [⟨some "default",b,kp⟩] cpos) (tMaxd X.K ta td):=by
 intro pins s σ H Q I h
 refine wpAny_Call_Name_kw (ld_blt I hg hm boot_max ?_)
 have hs:starEach [a] X.env = [(false,eval a X.env)]:=star1 hst
 refine callWith_kw (thn (ha cpos pins s σ H _ I h) fun us s1 ⟨vs,H1,I1,r1,x,ex,q1⟩ =>?_) (by rw [hs]; rfl) (by rw [hs]; rfl) rfl rfl
 subst ex
 cases r1 with
 | cons r rr =>
   cases rr
   refine kws_cons (thn (hb pins s1 σ H1 _ I1 q1) fun v s2 ⟨y,H2,I2,r2,l,ns,d,e1,e2,hq,q⟩ =>kws_nil ?_)
   subst e1 e2
   cases r
   obtain ⟨t,rfl⟩:=r2
   obtain ⟨its,rv,pl,_⟩:=I2.list hq
   exact maxd_call (I2.ok.hd hc) pl.isList (intsAre_of rv) fun t' h' tk hk =>⟨.int (maxOf d ns),H2,I2.kept hk,⟨_,rfl⟩,q⟩
theorem ints_reps {G:Hp}:∀ {l:List D} {ns:List Int} {xs:List V},intsOf l = some ns → Reps W G l xs → xs = ns.map V.int
 | [],ns,xs,h,r =>by
   simp only [intsOf,Option.some.injEq] at h
   subst h
   cases xs with
   | nil =>rfl
   | cons _ _ =>simp only [Reps] at r
 | d :: l,ns,xs,h,r =>by
   cases d <;> first | exact nope h | simp only [intsOf] at h
   rename_i z
   cases e:intsOf l with
   | none =>rw [e] at h; cases h
   | some ms =>
     rw [e] at h
     cases h
     cases xs with
     | nil =>simp only [Reps] at r
     | cons x xs =>
       simp only [Reps,Rep] at r
       rw [List.map_cons,r.1,ints_reps e r.2]
theorem d_maxd {ta tb:T} (hk:W.K = X.K) (hc:X.calm = true) (hg:Gl X "max") (hm:X.mg "max" = none) (ha:PE X a (tD X W true fun δ =>ev o δ true ta)) (hb:PE X b (tD X W true fun δ =>ev o δ true tb)) (hst:isStar1 a = false) :
 PE X (.Call (.Name "max" p) [a] [⟨some "default",b,kp⟩] cpos) (tD X W lk fun δ =>ev o δ lk (.b2 .maxd ta tb)):=by
 refine PE.imp (pe_maxd hc hg hm (pa_cons ha pa_nil (star1 hst)) hb hst) fun σ H Q h =>?_
 obtain ⟨me,B,δ,S,h⟩:=tD_iff.mp h
 simp only [ev] at h
 refine tD.mono (part S h) fun v H1 ⟨r1,e1,S1,s1,t1,_,h1⟩ =>⟨v,rfl,?_⟩
 refine tD.mono (part S1 h1) fun v2 H2 ⟨r2,e2,S2,s2,t2,_,h2⟩ =>?_
 cases e3:r1.2 with
 | lst l =>
   cases e4:r2.2 with
   | int d =>
     rw [e3,e4] at h2
     simp only [b2D] at h2
     cases e5:intsOf l with
     | none =>rw [e5] at h2; exact h2.elim
     | some ns =>
       rw [e5] at h2
       simp only [Option.map_some,R.of] at h2
       have t1:=t1.mono s2 (vis_mono s2)
       rw [e3] at t1
       rw [e4] at t2
       obtain ⟨c,xs,rfl,q1,q2⟩:=t1
       have:=ints_reps e5 q2
       subst this
       exact ⟨c,ns,d,rfl,repT_int t2,hk ▸ q1,h2 _ _ (Same.refl _) (.shared (by simp only [Rep]; cases ns <;> rfl))⟩
   | _ =>rw [e3,e4] at h2; exact h2.elim
 | _ =>rw [e3] at h2; revert h2; cases r2.2 <;> intro h2 <;> exact h2.elim
end
end Z

namespace Z
open PySem PySem.Spec PyProof.Rows L2
section
variable {X:Cx} {W:Wd}
theorem call_sumB (hc:X.calm = true):CallR X (.builtin "sum") (fun xs H Q =>∃ (c:Addr) (ns:List Int),xs = [.ref c] ∧ SqL X.K H c (ns.map V.int) ∧ Q (.int ns.sum) H):=by
 intro pins s σ H xs us Q I r h
 obtain ⟨c,ns,rfl,hq,q⟩:=h
 obtain ⟨u,rfl,rx⟩:=vals1 r
 cases rx
 obtain ⟨its,rv,pl,hz⟩:=I.list hq
 have hi:IntsAre its ns:=L2.intsAre_of rv
 obtain ⟨zs,hzs⟩:=hi.allInts.items
 have hn:zs.toList.map (·.1) = ns:=by rw [← nums_intItems,← hzs]; exact hi.numsOf
 have hl:s.heap.IsList c (intItems zs):=hzs ▸ pl.isList
 refine sum_intListG (I.ok.hd hc) hl fun h' tk t' hk =>?_
 have e:preSum (numAt zs) zs.size = ns.sum:=by rw [preSum_eq,hn,List.take_of_length_le (by rw [← hn]; simp)]
 rw [e]
 exact ⟨.int ns.sum,H,I.kept hk,⟨_,rfl⟩,q⟩
theorem sem_sum (hk:W.K = X.K):Sem1 W (fun xs H Q =>∃ (c:Addr) (ns:List Int),xs = [.ref c] ∧ SqL X.K H c (ns.map V.int) ∧ Q (.int ns.sum) H) (b1D .sum):=by
 intro lk P H x dx Q w d hS hK hx e k
 cases dx <;> first | exact nope e | exact nopeR e | simp only [b1D] at e
 rename_i l
 cases e1:intsOf l with
 | none =>rw [e1] at e; cases e
 | some ns =>
   rw [e1] at e
   cases e
   obtain ⟨c,vs,rfl,q1,q2⟩:=hx
   have:=ints_reps e1 q2
   subst this
   exact ⟨c,ns,rfl,hk ▸ q1,k _ H (Same.refl H) res_int⟩
end
end Z

namespace Z
open PySem PySem.Spec PyProof.Rows L2
section
variable {X:Cx} {W:Wd} {lk:Bool} {σ:L2.St} {H H1 H':Hp} {me:Option Addr} {B:Addr → Prop} {δ:Dst} {o:Orc} {p px cpos pos:Pos} {a b:Expr}
theorem d_max2 {ta tb:T} (hc:X.calm = true) (hg:Gl X "max") (hm:X.mg "max" = none) (ha:PE X a (tD X W true fun δ =>ev o δ true ta)) (hb:PE X b (tD X W true fun δ =>ev o δ true tb)) (hst1:isStar1 a = false) (hst2:isStar1 b = false) :
 PE X (.Call (.Name "max" p) [a,b] [] cpos) (tD X W lk fun δ =>ev o δ lk (.b2 .max ta tb)):=by
 have hs2:starEach [b] X.env = [(false,eval b X.env)]:=star1 hst2
 refine PE.imp (pe_callB (call_max2 hc) hg hm boot_max (pa_cons ha (pa_cons hb pa_nil hs2) (star1 hst1)) (by decide) (by decide) (by rw [star1 hst1,hs2]) (by rw [hs2]; rfl)) fun σ H Q h =>?_
 obtain ⟨me,B,δ,S,h⟩:=tD_iff.mp h
 simp only [ev] at h
 refine tD.mono (part S h) fun v H1 ⟨r1,e1,S1,s1,t1,_,h1⟩ =>?_
 refine tD.mono (part S1 h1) fun v2 H2 ⟨r2,e2,S2,s2,t2,_,h2⟩ =>?_
 cases e3:r1.2 with
 | int i =>
   cases e4:r2.2 with
   | int j =>
     rw [e3,e4] at h2
     simp only [b2D] at h2
     have t1:=t1.mono s2 (vis_mono s2)
     rw [e3] at t1
     rw [e4] at t2
     exact ⟨i,j,by rw [repT_int t1,repT_int t2],h2 _ _ (Same.refl _) res_int⟩
   | _ =>rw [e3,e4] at h2; exact h2.elim
 | lst l =>
   rw [e3] at h2
   revert h2
   cases r2.2 <;> intro h2 <;> exact h2.elim
 | _ =>rw [e3] at h2; revert h2; cases r2.2 <;> intro h2 <;> exact h2.elim
noncomputable def KDct (P:Program) (w:World) (W:Wd) (ad:Addr) (ks:List DK) (vs:List D):Prop:=∃ kvs:List (Key × Value),(∀ h:Heap,W.K.In h → h.DictOf (mixKind P w) ad kvs) ∧ ∀ x d,look ks vs x = some d → ∃ (u:Value) (v:V),valueAt kvs (keyV x) = some u ∧ RelV v u ∧ ∀ G,Rep W G d v
theorem d_kidx {x:Str} {ad:Addr} {ks:List DK} {vs:List D} {ti:T} (hk:W.K = X.K) (hd:KDct X.prog X.w W ad ks vs) (hg:Gl X x) (hm:X.mg x = some (.ref ad)) (hdb:(x == ("__debug__":Str)) = false) (hi:PE X b (tD X W true fun δ =>ev o δ true ti)) (hs:NoSl b) :
 PE X (.Subscript (.Name x px) b pos) (tD X W lk fun δ =>ev o δ lk (.kidx ks vs ti)):=by
 obtain ⟨kvs,h1,h2⟩:=hd
 intro pins s σ H Q I h
 obtain ⟨me,B,δ,S,h⟩:=tD_iff.mp h
 simp only [ev] at h
 refine subD_of PySem.F.slot_dict_getitem.lookup hs (ld_glob I hg hm ?_ hdb)
 refine thn (hi pins s σ H _ I (part S h)) fun iv s2 ⟨y,H2,I2,ry,r1,e1,S1,s1,t1,_,q⟩ =>?_
 have dd:=h1 s2.heap (hk ▸ I2.kIn)
 cases e5:keyOf r1.2 with
 | none =>rw [e5] at q; exact q.elim
 | some k =>
   rw [e5] at q
   simp only [Option.bind_some] at q
   cases e6:look ks vs k with
   | none =>rw [e6] at q; exact q.elim
   | some d =>
     rw [e6] at q
     obtain ⟨u,v,g1,g2,g3⟩:=h2 k d e6
     have ey:=key_rep e5 t1
     subst ey
     exact ⟨dd.typeIs,wpAny_getItem_of (kV_is ry) dd.mapOf g1 ⟨v,H2,I2.tok _,g2,q v H2 (Same.refl _) (.shared (g3 _))⟩⟩
end
end Z

namespace Z
open PySem PySem.Spec PyProof.Rows L2
noncomputable def ft_maxd:Bool:=true
noncomputable def ft_max2:Bool:=true
noncomputable def ft_rng2:Bool:=false
noncomputable def ft_rng3:Bool:=true
noncomputable def ft_zip:Bool:=true
noncomputable def ft_enum:Bool:=true
noncomputable def ft_get2:Bool:=true
noncomputable def ft_kidx:Bool:=true
noncomputable def ft_join:Bool:=false
noncomputable def ft_dcst:Bool:=false
noncomputable def ft_any:Bool:=true
noncomputable def ft_sum:Bool:=true
noncomputable def ft_list:Bool:=false
noncomputable def ft_dict:Bool:=false
noncomputable def ft_sorted:Bool:=true
noncomputable def ft_all:Bool:=true
section
variable {X:Cx} {W:Wd} {lk:Bool} {o:Orc} {p px cpos pos kp apos tpos:Pos} {a b c tg:Expr}
theorem f_maxd (hft:ft_maxd = true) {ta tb:T} (hk:W.K = X.K) (hc:X.calm = true) (hg:Gl X "max") (hm:X.mg "max" = none) (ha:PE X a (tD X W true fun δ =>ev o δ true ta)) (hb:PE X b (tD X W true fun δ =>ev o δ true tb)) (hst:isStar1 a = false) :
 PE X (.Call (.Name "max" p) [a] [⟨some "default",b,kp⟩] cpos) (tD X W lk fun δ =>ev o δ lk (.b2 .maxd ta tb)):=d_maxd hk hc hg hm ha hb hst
theorem f_max2 (hft:ft_max2 = true) {ta tb:T} (hc:X.calm = true) (hg:Gl X "max") (hm:X.mg "max" = none) (ha:PE X a (tD X W true fun δ =>ev o δ true ta)) (hb:PE X b (tD X W true fun δ =>ev o δ true tb)) (hst1:isStar1 a = false) (hst2:isStar1 b = false) :
 PE X (.Call (.Name "max" p) [a,b] [] cpos) (tD X W lk fun δ =>ev o δ lk (.b2 .max ta tb)):=d_max2 hc hg hm ha hb hst1 hst2
theorem f_rng2 (hft:ft_rng2 = true) {e1 e2:Expr} {t1 t2:T} (hgl:Gl X "range") (hm:X.mg "range" = none) (h1:PE X e1 (tD X W true fun δ =>ev o δ true t1)) (h2:PE X e2 (tD X W true fun δ =>ev o δ true t2)) (hst1:isStar1 e1 = false) (hst2:isStar1 e2 = false) :
 ∃ wi,PI X tg (.Call (.Name "range" p) [e1,e2] [] cpos) wi ∧ WalkL X W o lk (.rng2 t1 t2) wi:=absurd hft (by decide)
theorem f_rng3 (hft:ft_rng3 = true) {e1 e2 e3:Expr} {t1 t2 t3:T} (hgl:Gl X "range") (hm:X.mg "range" = none) (h1:PE X e1 (tD X W true fun δ =>ev o δ true t1)) (h2:PE X e2 (tD X W true fun δ =>ev o δ true t2)) (h3:PE X e3 (tD X W true fun δ =>ev o δ true t3)) (hst1:isStar1 e1 = false) (hst2:isStar1 e2 = false) (hst3:isStar1 e3 = false) :
 ∃ wi,PI X tg (.Call (.Name "range" p) [e1,e2,e3] [] cpos) wi ∧ WalkL X W o lk (.rng3 t1 t2 t3) wi:=w_rng3 hgl hm h1 h2 h3 hst1 hst2 hst3
theorem f_zip (hft:ft_zip = true) {es:List Expr} {x1:Nat} {e1 e2:Expr} {t1 t2:T} (hk:W.K = X.K) (hgl:Gl X "zip") (hm:X.mg "zip" = none) (h1:PE X e1 (tD X W true fun δ =>ev o δ true t1)) (h2:PE X e2 (tD X W true fun δ =>ev o δ true t2)) (hst1:isStar1 e1 = false) (hst2:isStar1 e2 = false) :
 ∃ wi,PI X (.Tuple es x1 tpos) (.Call (.Name "zip" p) [e1,e2] [] cpos) wi ∧ WalkL X W o lk (.zip t1 t2) wi:=w_zip hk hgl hm h1 h2 hst1 hst2
theorem f_enum (hft:ft_enum = true) {es:List Expr} {x1:Nat} {e1:Expr} {t:T} (hk:W.K = X.K) (hgl:Gl X "enumerate") (hm:X.mg "enumerate" = none) (h1:PE X e1 (tD X W lk fun δ =>ev o δ lk t)) (hst:isStar1 e1 = false):∃ wi,PI X (.Tuple es x1 tpos) (.Call (.Name "enumerate" p) [e1] [] cpos) wi ∧ WalkL X W o lk (.enum t) wi:=w_enum hk hgl hm h1 hst
theorem f_get2 (hft:ft_get2 = true) {ta tb tc:T} (hu:X.A.units + 1 < cLine) (ha:PE X a (tD X W true fun δ =>ev o δ true ta)) (hb:PE X b (tD X W true fun δ =>ev o δ true tb)) (hc:PE X c (tD X W false fun δ =>ev o δ false tc)) (m:M2 X a "get" apos b c cpos) :
 PE X (.Call (.Attribute a "get" apos) [b,c] [] cpos) (tD X W lk fun δ =>ev o δ lk (.get2 ta tb tc)):=d_get2 hu ha hb hc m
theorem f_kidx (hft:ft_kidx = true) {x:Str} {ad:Addr} {ks:List DK} {vs:List D} {ti:T} (hk:W.K = X.K) (hd:KDct X.prog X.w W ad ks vs) (hg:Gl X x) (hm:X.mg x = some (.ref ad)) (hdb:(x == ("__debug__":Str)) = false) (hi:PE X b (tD X W true fun δ =>ev o δ true ti)) (hs:NoSl b) :
 PE X (.Subscript (.Name x px) b pos) (tD X W lk fun δ =>ev o δ lk (.kidx ks vs ti)):=d_kidx hk hd hg hm hdb hi hs
theorem f_list (hft:ft_list = true) (hk:W.K = X.K) (hc:X.calm = true):∃ r,CallR X (.type "list") r ∧ Sem1 W r (b1D .list):=absurd hft (by decide)
theorem f_dict (hft:ft_dict = true) (hk:W.K = X.K) (hc:X.calm = true):∃ r,CallR X (.type "dict") r ∧ Sem1 W r (b1D .dict):=absurd hft (by decide)
theorem f_all (hft:ft_all = true) (hk:W.K = X.K) (hc:X.calm = true):∃ r,CallR X (.builtin "all") r ∧ Sem1 W r (b1D .all):=⟨_,call_allB hc,sem_all hk⟩
theorem f_any (hft:ft_any = true) (hk:W.K = X.K) (hc:X.calm = true):∃ r,CallR X (.builtin "any") r ∧ Sem1 W r (b1D .any):=⟨_,call_anyB hc,sem_any hk⟩
theorem f_sum (hft:ft_sum = true) (hk:W.K = X.K) (hc:X.calm = true):∃ r,CallR X (.builtin "sum") r ∧ Sem1 W r (b1D .sum):=⟨_,call_sumB hc,sem_sum hk⟩
theorem f_sorted (hft:ft_sorted = true) (hk:W.K = X.K) (hc:X.calm = true):∃ r,CallR X (.builtin "sorted") r ∧ Sem1 W r (b1D .sorted):=⟨_,call_sortedS hc,sem_sorted hk⟩
theorem f_join (hft:ft_join = true) {ta tb:T} (hk:W.K = X.K) (ha:PE X a (tD X W true fun δ =>ev o δ true ta)) (hb:PE X b (tD X W true fun δ =>ev o δ true tb)) (h2:plainBase a = true) (hst:isStar1 b = false) (h1:(apos.endLine == cpos.line) = true):PE X (.Call (.Attribute a "join" apos) [b] [] cpos) (tD X W lk fun δ =>ev o δ lk (.m1 .join ta tb)):=absurd hft (by decide)
end
end Z

namespace Z
open PySem PySem.Spec PyProof.Rows L2
inductive Gk where
 | fn (i np:Nat)
 | cls (c:Nat)
 | val (d:D)
 | dct (ks:List DK) (vs:List D)
structure Tc where
 N:List Str
 sc:Scope
 gl:List (Str × Gk)
noncomputable def nameIx:List Str → Str → Option Nat
 | [],_ =>none
 | y :: l,x =>if y = x then some 0 else (nameIx l x).map (· + 1)
theorem nameIx_get:∀ {N:List Str} {x:Str} {i:Nat},nameIx N x = some i → N[i]? = some x
 | [],_,_,h =>by simp [nameIx] at h
 | y :: l,x,i,h =>by
   simp only [nameIx] at h
   split at h
   ·rename_i e
    cases h
    simp [e]
   ·cases e:nameIx l x with
    | none =>rw [e] at h; cases h
    | some j =>
      rw [e] at h
      cases h
      simpa using nameIx_get e
noncomputable def ixs (N:List Str):List Str → Option (List Nat)
 | [] =>some []
 | x :: l =>(nameIx N x).bind fun i =>(ixs N l).map fun r =>i :: r
theorem ixs_get {N:List Str}:∀ {l:List Str} {r:List Nat} {j k:Nat},ixs N l = some r → r[j]? = some k → ∃ x,l[j]? = some x ∧ N[k]? = some x
 | [],r,j,k,h,e =>by
   simp only [ixs,Option.some.injEq] at h
   subst h
   simp at e
 | x :: l,r,j,k,h,e =>by
   simp only [ixs] at h
   cases e1:nameIx N x with
   | none =>rw [e1] at h; cases h
   | some i =>
     cases e2:ixs N l with
     | none =>simp [e1,e2] at h
     | some r' =>
       simp [e1,e2] at h
       subst h
       cases j with
       | zero =>simp at e; subst e; exact ⟨x,rfl,nameIx_get e1⟩
       | succ j =>
         obtain ⟨y,h1,h2⟩:=ixs_get e2 (by simpa using e)
         exact ⟨y,by simpa using h1,h2⟩
theorem ixs_len {N:List Str}:∀ {l:List Str} {r:List Nat},ixs N l = some r → r.length = l.length
 | [],r,h =>by simp only [ixs,Option.some.injEq] at h; subst h; rfl
 | x :: l,r,h =>by
   simp only [ixs] at h
   cases e1:nameIx N x with
   | none =>rw [e1] at h; cases h
   | some i =>
     cases e2:ixs N l with
     | none =>simp [e1,e2] at h
     | some r' =>simp [e1,e2] at h; subst h; simp [ixs_len e2]
noncomputable def visB (sc:Scope) (x:Str):Bool:=(match sc.names.lookup x with | some .local =>true | some .cell =>true | some .free =>true | _ =>false) && !(x == ("__debug__":Str)) && !(x == ("__classdict__":Str))
noncomputable def locB (sc:Scope) (x:Str):Bool:=match sc.names.lookup x with | some .local =>true | some .cell =>true | _ =>false
noncomputable def glB (sc:Scope) (x:Str):Bool:=decide (sc.names.lookup x = some .globalImplicit)
noncomputable def trOp:Operator → Option O2
 | .Add =>some .add
 | .Sub =>some .sub
 | .Mult =>some .mul
 | .FloorDiv =>some .fdiv
 | .Mod =>some .mod
 | .Pow =>some .pow
 | _ =>none
noncomputable def trCmp:CmpOp → Option O2
 | .Eq =>some .eq
 | .NotEq =>some .ne
 | .Lt =>some .lt
 | .LtE =>some .le
 | .Gt =>some .gt
 | .GtE =>some .ge
 | .Is =>some .is
 | .IsNot =>some .isnot
 | .In =>some .in
 | .NotIn =>some .notin
noncomputable def trConst:Const → Option D
 | .none =>some .non
 | .bool b =>some (.bl b)
 | .int i =>some (.int i)
 | .str s =>if s.length ≤ 1000000 then some (.str s.cps.toList) else none
 | _ =>none
noncomputable def trTy (x:Str):Option Ty :=
 if x = "int" then some .int else if x = "bool" then some .bool else if x = "str" then some .str else if x = "tuple" then some .tup else if x = "list" then some .lst else if x = "dict" then some .dct else none
noncomputable def trL (f:Expr → Option T):List Expr → Option TL
 | [] =>some .nil
 | e :: es =>(f e).bind fun t =>(trL f es).map fun l =>.cons t l
noncomputable def trB (f:Expr → Option T) (k:T → T → T):List Expr → Option T
 | [] =>none
 | [e] =>f e
 | e :: es =>(f e).bind fun t =>(trB f k es).map fun u =>k t u
noncomputable def trOpt (f:Expr → Option T):Option Expr → Option T
 | none =>some (.cst .non)
 | some e =>(f e).bind fun t =>match t with
   | .cst .non =>none
   | t =>some t
noncomputable def isSlice:Expr → Bool
 | .Slice _ _ _ _ =>true
 | _ =>false
noncomputable def isSet:Expr → Bool
 | .Set .. =>true
 | _ =>false
noncomputable def fn1 (x:Str):Option B1 :=
 if x = "abs" then some .abs else if x = "len" then some .len else if x = "tuple" then some .tuple else if x = "list" ∧ ft_list = true then some .list else if x = "dict" ∧ ft_dict = true then some .dict else
 if x = "all" ∧ ft_all = true then some .all else if x = "any" ∧ ft_any = true then some .any else if x = "sum" ∧ ft_sum = true then some .sum else if x = "sorted" ∧ ft_sorted = true then some .sorted else none
noncomputable def trCall (tc:Tc) (f:Expr → Option T) (x:Str) (args:List Expr):Option T :=
 if glB tc.sc x && !(x == ("__debug__":Str)) && !(args.any isStar1) then (match tc.gl.lookup x with
  | some (.fn i np) =>if args.length = np ∧ args ≠ [] then (trL f args).map fun l =>.call i l else none
  | some _ =>none
  | none =>match args with
    | [a] =>(fn1 x).bind fun b =>(f a).map fun t =>.b1 b t
    | [a,b] =>if x = "max" ∧ ft_max2 = true then (f a).bind fun t =>(f b).map fun u =>.b2 .max t u else (match b with
      | .Name y _ =>if x = "isinstance" ∧ glB tc.sc y = true ∧ (tc.gl.lookup y).isNone = true then (f a).bind fun t =>(trTy y).map fun ty =>.isin t ty else none
      | _ =>none)
    | _ =>none) else none
noncomputable def trMaxd (tc:Tc) (f:Expr → Option T) (x:Str) (a b:Expr):Option T:=if x = "max" ∧ ft_maxd = true ∧ glB tc.sc "max" = true ∧ (tc.gl.lookup ("max":Str)).isNone = true ∧ isStar1 a = false then (f a).bind fun t =>(f b).map fun u =>.b2 .maxd t u else none
noncomputable def dctOf (tc:Tc) (e:Expr):Option (List DK × List D):=match e with
 | .Name x _ =>if ft_kidx && glB tc.sc x && !(x == ("__debug__":Str)) then (match tc.gl.lookup x with | some (.dct ks vs) =>some (ks,vs) | _ =>none) else none
 | _ =>none
noncomputable def trCs:List Expr → Option (List D)
 | [] =>some []
 | .Constant c _ _ :: l =>(trConst c).bind fun d =>(trCs l).map fun r =>d :: r
 | _ =>none
noncomputable def trKs:List (Option Expr) → Option (List DK)
 | [] =>some []
 | some (.Constant c _ _) :: l =>(trConst c).bind fun d =>(keyOf d).bind fun k =>(trKs l).map fun r =>k :: r
 | _ =>none
noncomputable def cstL:List D → TL
 | [] =>.nil
 | d :: l =>.cons (.cst d) (cstL l)
noncomputable def trDct (ks:List (Option Expr)) (vs:List Expr):Option T:=(trKs ks).bind fun k =>(trCs vs).bind fun d =>if k.length = d.length ∧ k.length ≤ 15 ∧ k ≠ [] ∧ k.Nodup then some (.dnew k (cstL d)) else none
noncomputable def isTupE:Expr → Bool
 | .Tuple .. =>true
 | _ =>false
noncomputable def trMeth (f:Expr → Option T) (a:Expr) (name:Str) (args:List Expr) (ok:Bool):Option T :=
 if ok && plainBase a && !(args.any isStar1) then (match args with
  | [b] =>if name = "join" ∧ ft_join = true then (f a).bind fun ta =>(f b).map fun tb =>.m1 .join ta tb else none
  | [b,c] =>if name = "get" ∧ ft_get2 = true then (f a).bind fun ta =>(f b).bind fun tb =>(f c).map fun tc =>.get2 ta tb tc else none
  | _ =>none) else none
noncomputable def trI (tc:Tc) (f:Expr → Option T) (tp:Bool) (e:Expr):Option TI:=match e with
 | .Call (.Name x _) [a] [] _ =>if x = "range" then (if glB tc.sc "range" && (tc.gl.lookup ("range":Str)).isNone && !isStar1 a then (f a).map .rng1 else none) else
   if x = "enumerate" then (if ft_enum && tp && glB tc.sc "enumerate" && (tc.gl.lookup ("enumerate":Str)).isNone && !isStar1 a then (f a).map .enum else none) else (f e).map .val
 | .Call (.Name x _) [a,b] [] _ =>if x = "range" then (if ft_rng2 && glB tc.sc "range" && (tc.gl.lookup ("range":Str)).isNone && !isStar1 a && !isStar1 b then (f a).bind fun ta =>(f b).map fun tb =>.rng2 ta tb else none) else
   if x = "zip" then (if ft_zip && tp && glB tc.sc "zip" && (tc.gl.lookup ("zip":Str)).isNone && !isStar1 a && !isStar1 b then (f a).bind fun ta =>(f b).map fun tb =>.zip ta tb else none) else (f e).map .val
 | .Call (.Name x _) [a,b,c] [] _ =>if x = "range" then (if ft_rng3 && glB tc.sc "range" && (tc.gl.lookup ("range":Str)).isNone && !isStar1 a && !isStar1 b && !isStar1 c then (f a).bind fun ta =>(f b).bind fun tb =>(f c).map fun td =>.rng3 ta tb td else none) else (f e).map .val
 | e =>if isSet e then none else (f e).map .val
noncomputable def tgList:List Expr → Option (List Str)
 | [] =>some []
 | .Name x _ :: es =>(tgList es).map fun l =>x :: l
 | _ =>none
noncomputable def tgNames:Expr → Option (List Str × Bool)
 | .Name x _ =>some ([x],false)
 | .Tuple es _ _ =>(tgList es).map fun l =>(l,true)
 | _ =>none
noncomputable def frees (scope:Scope):List Str:=(scope.names.filter fun y =>y.2 == .free).map (·.1)
noncomputable def relabelS (scope sc:Scope):Scope:={ scope with names:=scope.names.map fun (n,k) =>if (k == .free && sc.kind == .function && sc.names.lookup n == some .cell) then (n,.cell) else (n,k) }
noncomputable def blkB (scope:Scope):Bool:=decide (scope.kind = .function) && scope.names.all fun y =>!(y.2 == .cell) && (!(y.2 == .local) || decide (scope.names.lookup y.1 = some .local)) && (!(y.2 == .free) || decide (scope.names.lookup y.1 = some .free))
noncomputable def okBlk (tc:Tc) (scope:Scope) (tn cn:List Str):Bool:=blkB scope && decide (tn ++ cn).Nodup && (tn.all fun x =>decide (scope.names.lookup x = some .local)) &&
 cn.all fun x =>decide (tc.sc.names.lookup x = some .cell) || decide (tc.sc.names.lookup x = some .free)
noncomputable def trIfs (f:Expr → Option T):List Expr → Option T
 | [] =>some (.cst (.bl true))
 | [c] =>f c
 | _ =>none
noncomputable def trComp (tc:Tc) (f:Tc → Expr → Option T) (elt tg iter:Expr) (ifs:List Expr) (scope:Scope):Option T :=
 (tgNames tg).bind fun q =>if okBlk tc scope q.1 (frees scope) then
  (ixs tc.N (frees scope)).bind fun caps =>(trI tc (f tc) (isTupE tg) iter).bind fun it =>(trIfs (f ⟨q.1 ++ frees scope,relabelS scope tc.sc,tc.gl⟩) ifs).bind fun c =>
   (f ⟨q.1 ++ frees scope,relabelS scope tc.sc,tc.gl⟩ elt).map fun e =>.comp caps q.1.length q.2 it c e else none
noncomputable def trEb (f:Tc → Expr → Option T) (tc:Tc) (e:Expr):Option T:=match e with
 | .Name x _ =>if visB tc.sc x then (nameIx tc.N x).map .var else if glB tc.sc x && !(x == ("__debug__":Str)) then (match tc.gl.lookup x with | some (.val d) =>some (.cst d) | _ =>none) else none
 | .IfExp c a b _ =>(f tc c).bind fun tc' =>(f tc a).bind fun ta =>(f tc b).map fun tb =>.ite tc' ta tb
 | .Constant c _ _ =>(trConst c).map .cst
 | .BinOp a op b _ =>(trOp op).bind fun p =>(f tc a).bind fun ta =>(f tc b).map fun tb =>.op2 p ta tb
 | .UnaryOp .Not a _ =>(f tc a).map .not
 | .UnaryOp .USub a _ =>(f tc a).map .neg
 | .Compare a [op] [b] _ =>if behindInMarks op b then none else (trCmp op).bind fun p =>(f tc a).bind fun ta =>(f tc b).map fun tb =>.op2 p ta tb
 | .BoolOp .And vs _ =>trB (f tc) .and vs
 | .BoolOp .Or vs _ =>trB (f tc) .or vs
 | .Tuple es _ _ =>if es.any isStar1 then none else (trL (f tc) es).map .tup
 | .List es _ =>if es.any isStar1 then none else (trL (f tc) es).map .lst
 | .Dict [] [] _ =>some (.dnew [] .nil)
 | .Dict (k0 :: ks) vs _ =>if ft_dcst then trDct (k0 :: ks) vs else none
 | .Subscript a (.Slice lo hi none _) _ =>(f tc a).bind fun t =>(trOpt (f tc) lo).bind fun l =>(trOpt (f tc) hi).map fun h =>.slc t l h
 | .Subscript a b _ =>if isSlice b then none else (match dctOf tc a with
   | some q =>(f tc b).map fun i =>.kidx q.1 q.2 i
   | none =>(f tc a).bind fun t =>(f tc b).map fun i =>.idx t i)
 | .Call (.Name x _) args [] _ =>trCall tc (f tc) x args
 | .Call (.Name x _) [a] [⟨some kw,b,_⟩] _ =>if kw = "default" then trMaxd tc (f tc) x a b else none
 | .Call (.Attribute a name apos) args [] cpos =>trMeth (f tc) a name args (apos.endLine == cpos.line)
 | .ListComp elt [g] scope _ =>if g.is_async = 0 then trComp tc f elt g.target g.iter g.ifs scope else none
 | _ =>none
noncomputable def trE:Nat → Tc → Expr → Option T
 | 0,_,_ =>none
 | k + 1,tc,e =>trEb (fun tc' e' =>trE k tc' e') tc e
theorem trE_succ {k:Nat} {tc:Tc} {e:Expr}:trE (k + 1) tc e = trEb (trE k) tc e:=rfl
theorem trE_comp {k:Nat} {tc:Tc} {elt:Expr} {g:Comprehension} {scope:Scope} {pos:Pos}:trE (k + 1) tc (.ListComp elt [g] scope pos) = if g.is_async = 0 then trComp tc (fun tc' e =>trE k tc' e) elt g.target g.iter g.ifs scope else none:=rfl
theorem trE_name {k:Nat} {tc:Tc} {x:Str} {pos:Pos}:trE (k + 1) tc (.Name x pos) = if visB tc.sc x then (nameIx tc.N x).map .var else if glB tc.sc x && !(x == ("__debug__":Str)) then (match tc.gl.lookup x with | some (.val d) =>some (.cst d) | _ =>none) else none:=rfl
noncomputable def bltNames:List Str:=["abs","len","isinstance","int","bool","str","tuple","list","dict","all","any","sorted","range","max","zip","enumerate","sum"]
structure Fits (X:Cx) (W:Wd) (tc:Tc) (o:Orc) (k:Nat):Prop where
 N:X.N = tc.N
 nd:tc.N.Nodup
 sc:X.env.scope = tc.sc
 K:W.K = X.K
 room:Room k X.A
 calm:X.calm = true
 xe:X.xe = fun _ _ =>False
 gf:∀ x i np,tc.gl.lookup x = some (.fn i np) → ∃ f fd ps,X.mg x = some (.ref f) ∧ PySem.W.keepIn X.K (.ref f) = true ∧ Binds X.K fd ps [] ∧ FnOk X.prog X.w X.K X.mg X.base CX0 k f fd ps (spFn W (o.fn i) np)
 gb:∀ x,x ∈ bltNames → tc.gl.lookup x = none → X.mg x = none
 gv:∀ x d,tc.gl.lookup x = some (.val d) → ∃ u v,X.mg x = some u ∧ RelV v u ∧ ∀ G,Rep W G d v
 gd:∀ x ks vs,tc.gl.lookup x = some (.dct ks vs) → ∃ ad,X.mg x = some (.ref ad) ∧ KDct X.prog X.w W ad ks vs
theorem Fits.comp {X:Cx} {W:Wd} {tc:Tc} {o:Orc} {k:Nat} (F:Fits X W tc o k) {scope:Scope} {N:List Str} (hN:N.Nodup) (fp:List Addr) (pins:List (Addr × Obj)) (s:Shared) (H:Hp):Fits (cxC X scope N fp pins s H) W ⟨N,relabelS scope tc.sc,tc.gl⟩ o k where
 N:=rfl
 nd:=hN
 sc:=by
  show relabel scope X.env = _
  rw [← F.sc]
  rfl
 K:=F.K
 room:=F.room
 calm:=F.calm
 xe:=F.xe
 gf:=F.gf
 gb:=F.gb
 gv:=F.gv
 gd:=F.gd
theorem trL_len {f:Expr → Option T} {o:Orc}:∀ {es:List Expr} {l:TL},trL f es = some l → ∀ δ r,evL o δ l = .ok r → r.2.length = es.length
 | [],l,h,δ,r,e =>by
   simp only [trL,Option.some.injEq] at h
   subst h
   simp only [evL] at e
   cases e; rfl
 | x :: es,l,h,δ,r,e =>by
   simp only [trL] at h
   cases e1:f x with
   | none =>rw [e1] at h; cases h
   | some t =>
     rw [e1] at h
     cases e2:trL f es with
     | none =>simp [e2] at h
     | some l' =>
       simp [e2] at h
       subst h
       simp only [evL] at e
       cases e3:ev o δ (lkOwn δ t) t with
       | ok y =>
         rw [e3] at e
         cases e4:evL o δ l' with
         | ok z =>
           simp only [e4,R.bind] at e
           cases e
           simp [trL_len e2 δ z e4]
         | exc c =>simp only [e4,R.bind] at e; cases e
         | stuck =>simp only [e4,R.bind] at e; cases e
       | exc c =>rw [e3] at e; cases e
       | stuck =>rw [e3] at e; cases e
theorem star_any {es:List Expr} {env:Env} {pos:Pos} (h:es.any isStar1 = false):(backTo pos (starEach es env)).any (·.1) = false:=by
 induction es with
 | nil =>rfl
 | cons e es ih =>
   simp only [List.any_cons,Bool.or_eq_false_iff] at h
   rw [star1 h.1]
   show (false || (backTo pos (starEach es env)).any (·.1)) = false
   rw [ih h.2]; rfl
section
variable {X:Cx} {W:Wd} {tc:Tc} {o:Orc} {k:Nat}
theorem tD_ev {e:Expr} {t:T} {lk:Bool} {f:Dst → R (Bool × D)} (h:PE X e (tD X W lk f)) (hf:∀ δ,f δ = ev o δ lk t):PE X e (tD X W lk fun δ =>ev o δ lk t):=by
 have:f = fun δ =>ev o δ lk t:=funext hf
 rw [← this]; exact h
theorem tT_ev {e:Expr} {t:T} {f:Dst → R (Bool × D)} (h:PT X e (tT X W f)) (hf:∀ δ,f δ = ev o δ true t):PT X e (tT X W fun δ =>ev o δ true t):=by
 have:f = fun δ =>ev o δ true t:=funext hf
 rw [← this]; exact h
theorem visB_ok {x:Str} (F:Fits X W tc o k) (h:visB tc.sc x = true):Vis X.env.scope x ∧ (x == ("__debug__":Str)) = false ∧ (x == ("__classdict__":Str)) = false:=by
 unfold visB at h
 simp only [Bool.and_eq_true,Bool.not_eq_true'] at h
 refine ⟨?_,h.1.2,h.2⟩
 rw [F.sc]
 unfold Vis
 have h1:=h.1.1
 split at h1
 ·rename_i e; exact .inl e
 ·rename_i e; exact .inr (.inl e)
 ·rename_i e; exact .inr (.inr e)
 ·cases h1
theorem args_ok {f:Expr → Option T} (hf:∀ e t,f e = some t → ∀ lk,PE X e (tD X W lk fun δ =>ev o δ lk t)):∀ {es:List Expr} {l:TL},trL f es = some l → es.any isStar1 = false → PA X es (tL X W fun δ =>evL o δ l)
 | [],l,h,_ =>by
   simp only [trL,Option.some.injEq] at h
   subst h
   exact da_nil o
 | x :: es,l,h,hs =>by
   simp only [trL] at h
   simp only [List.any_cons,Bool.or_eq_false_iff] at hs
   cases e1:f x with
   | none =>rw [e1] at h; cases h
   | some t =>
     rw [e1] at h
     cases e2:trL f es with
     | none =>simp [e2] at h
     | some l' =>
       simp [e2] at h
       subst h
       exact da_cons (hf x t e1) (args_ok hf e2 hs.2) (star1 hs.1)
noncomputable def Bl (x:R (Bool × D)):Prop:=∀ r,x = .ok r → ∃ b,r = (false,.bl b)
theorem bl_ok {b:Bool}:Bl (.ok (false,.bl b)):=fun _ h =>by cases h; exact ⟨_,rfl⟩
theorem bl_st:Bl .stuck:=fun _ h =>nomatch h
theorem bl_of {x:Option Bool} {f:Bool → Bool}:Bl (.of (x.map fun t =>(false,.bl (f t)))):=by cases x <;> first | exact bl_st | exact bl_ok
theorem o2_bl {p:O2} (hp:p = .eq ∨ p = .ne ∨ p = .lt ∨ p = .le ∨ p = .gt ∨ p = .ge ∨ p = .is ∨ p = .isnot):∀ x y r,o2 p x y = .ok r → ∃ b,r = (false,.bl b):=by
 intro x y
 show Bl (o2 p x y)
 rcases hp with rfl | rfl | rfl | rfl | rfl | rfl | rfl | rfl
 ·exact bl_of (f:=id)
 ·exact bl_of (f:=not)
 iterate 4
  ·cases x <;> first | exact bl_st | (cases y <;> first | exact bl_st | exact bl_ok)
 iterate 2
  ·cases y <;> first | exact bl_st | (cases x <;> exact bl_ok)
theorem bin_ok (F:Fits X W tc o k) {a b:Expr} {op:Operator} {p:O2} {ta tb:T} {pos:Pos} (h:trOp op = some p) (ha:PE X a (tD X W true fun δ =>ev o δ true ta)) (hb:PE X b (tD X W true fun δ =>ev o δ true tb)) (lk:Bool) :
 PE X (.BinOp a op b pos) (tD X W lk fun δ =>ev o δ lk (.op2 p ta tb)):=by
 have fin:∀ {r:R2},OpR X (binaryOp op) r → Sem2 W r (o2 p) → PE X (.BinOp a op b pos) (tD X W lk fun δ =>ev o δ lk (.op2 p ta tb)):=fun h1 h2 =>tD_ev (d_op2 h1 h2 (o2_noexc p) ha hb) fun δ =>by simp only [ev]
 cases op <;> simp [trOp] at h <;> subst h
 ·exact fin op_addAll (sem_add F.K)
 ·exact fin op_sub sem_sub
 ·exact fin op_mulZ sem_mul
 ·exact fin op_modN sem_mod
 ·exact fin op_pow sem_pow
 ·exact fin op_fdivZ sem_fdiv
theorem cmp_ok (F:Fits X W tc o k) {a b:Expr} {op:CmpOp} {p:O2} {ta tb:T} {pos:Pos} (h:trCmp op = some p) (hm:behindInMarks op b = false) (ha:PE X a (tD X W true fun δ =>ev o δ true ta)) (hb:PE X b (tD X W true fun δ =>ev o δ true tb)) :
 (∀ lk,PE X (.Compare a [op] [b] pos) (tD X W lk fun δ =>ev o δ lk (.op2 p ta tb))) ∧ PT X (.Compare a [op] [b] pos) (tT X W fun δ =>ev o δ true (.op2 p ta tb)):=by
 have fin:∀ {r:R2},OpR X (compareOp op) r → Sem2 W r (o2 p) → (∀ x y r,o2 p x y = .ok r → ∃ b,r = (false,.bl b)) →
  (∀ lk,PE X (.Compare a [op] [b] pos) (tD X W lk fun δ =>ev o δ lk (.op2 p ta tb))) ∧ PT X (.Compare a [op] [b] pos) (tT X W fun δ =>ev o δ true (.op2 p ta tb)):=fun h1 h2 h4 =>
  ⟨fun lk =>tD_ev (d_cmp h1 h2 (o2_noexc p) ha hb hm) fun δ =>by simp only [ev],tT_ev (dt_cmp h1 h2 (o2_noexc p) h4 ha hb hm) fun δ =>by simp only [ev]⟩
 cases op <;> simp [trCmp] at h <;> subst h
 ·exact fin (OpR.or op_eq (op_deepEq F.K F.room.units)) sem_eq (o2_bl (by simp))
 ·exact fin (OpR.or op_ne (op_deepNe F.K F.room.units)) sem_ne (o2_bl (by simp))
 ·exact fin op_ltAll sem_lt (o2_bl (by simp))
 ·exact fin op_leAll sem_le (o2_bl (by simp))
 ·exact fin op_gt sem_gt (o2_bl (by simp))
 ·exact fin op_ge sem_ge (o2_bl (by simp))
 ·exact fin op_isN sem_is (o2_bl (by simp))
 ·exact fin op_notN sem_isnot (o2_bl (by simp))
 ·obtain ⟨h1,h2⟩:=d_in (pos:=pos) F.K (hu_of F.room) ha hb hm
  exact ⟨fun lk =>tD_ev (h1 lk) fun δ =>by simp only [ev],tT_ev h2 fun δ =>by simp only [ev]⟩
 ·obtain ⟨h1,h2⟩:=d_notin (pos:=pos) F.K (hu_of F.room) ha hb hm
  exact ⟨fun lk =>tD_ev (h1 lk) fun δ =>by simp only [ev],tT_ev h2 fun δ =>by simp only [ev]⟩
end
end Z

namespace Z
open PySem PySem.Spec PyProof.Rows L2
theorem f_dct (hft:ft_dcst = true) {X:Cx} {W:Wd} {o:Orc} {ks:List (Option Expr)} {vs:List Expr} {t:T} {pos:Pos} (h:trDct ks vs = some t) (lk:Bool):PE X (.Dict ks vs pos) (tD X W lk fun δ =>ev o δ lk t):=absurd hft (by decide)
end Z

namespace Z
open PySem PySem.Spec PyProof.Rows L2
section
variable {X:Cx} {W:Wd} {tc:Tc} {o:Orc} {k:Nat}
noncomputable def Right (X:Cx) (W:Wd) (o:Orc) (e:Expr) (t:T):Prop:=(∀ lk,PE X e (tD X W lk fun δ =>ev o δ lk t)) ∧ PT X e (tT X W fun δ =>ev o δ true t)
theorem and_ev (δ:Dst) (lk:Bool) (a b:T):((ev o δ true a).bind fun x =>andD x.2 (ev o δ true b)) = ev o δ lk (.and a b):=by
 simp only [ev]
 rfl
theorem or_ev (δ:Dst) (lk:Bool) (a b:T):((ev o δ true a).bind fun x =>orD x.2 (ev o δ true b)) = ev o δ lk (.or a b):=by
 simp only [ev]
 rfl
theorem bool_and {f:Expr → Option T} {pos:Pos} (hf:∀ e t,f e = some t → Right X W o e t):∀ {vs:List Expr} {t:T},trB f .and vs = some t →
 (∀ lk,PE X (.BoolOp .And vs pos) (tD X W lk fun δ =>ev o δ lk t)) ∧ PW X (.BoolOp .And vs pos) (tT X W fun δ =>ev o δ true t)
 | [],t,h =>by simp [trB] at h
 | [e],t,h =>by
   simp only [trB] at h
   exact ⟨fun lk =>d_one ((hf e t h).1 lk),wt_one (hf e t h).2⟩
 | e :: e' :: es,t,h =>by
   simp only [trB] at h
   cases e1:f e with
   | none =>rw [e1] at h; cases h
   | some u =>
     rw [e1] at h
     cases e2:trB f .and (e' :: es) with
     | none =>simp [e2] at h
     | some v =>
       simp [e2] at h
       subst h
       obtain ⟨h1,h2⟩:=bool_and hf e2
       exact ⟨fun lk =>tD_ev (d_and ((hf e u e1).1 true) (h1 true)) fun δ =>and_ev δ lk u v,by
        have:=wt_and (hf e u e1).2 h2
        rw [show (fun δ =>(ev o δ true u).bind fun x =>andD x.2 (ev o δ true v)) = fun δ =>ev o δ true (.and u v) from funext fun δ =>and_ev δ true u v] at this
        exact this⟩
theorem bool_or {f:Expr → Option T} {pos:Pos} (hf:∀ e t,f e = some t → Right X W o e t):∀ {vs:List Expr} {t:T},trB f .or vs = some t →
 (∀ lk,PE X (.BoolOp .Or vs pos) (tD X W lk fun δ =>ev o δ lk t)) ∧ PW X (.BoolOp .Or vs pos) (tT X W fun δ =>ev o δ true t)
 | [],t,h =>by simp [trB] at h
 | [e],t,h =>by
   simp only [trB] at h
   exact ⟨fun lk =>d_one ((hf e t h).1 lk),wt_one (hf e t h).2⟩
 | e :: e' :: es,t,h =>by
   simp only [trB] at h
   cases e1:f e with
   | none =>rw [e1] at h; cases h
   | some u =>
     rw [e1] at h
     cases e2:trB f .or (e' :: es) with
     | none =>simp [e2] at h
     | some v =>
       simp [e2] at h
       subst h
       obtain ⟨h1,h2⟩:=bool_or hf e2
       exact ⟨fun lk =>tD_ev (d_or ((hf e u e1).1 true) (h1 true)) fun δ =>or_ev δ lk u v,by
        have:=wt_or (hf e u e1).2 h2
        rw [show (fun δ =>(ev o δ true u).bind fun x =>orD x.2 (ev o δ true v)) = fun δ =>ev o δ true (.or u v) from funext fun δ =>or_ev δ true u v] at this
        exact this⟩
theorem right_val {e:Expr} {t:T} (h:∀ lk,PE X e (tD X W lk fun δ =>ev o δ lk t)) (he:∀ whole,isTrue e X.env whole = (do let v ← whole; standAt e.pos; holding [v] (truthy v))):Right X W o e t:=⟨h,dt_val (h true) he⟩
theorem opt_ok {f:Expr → Option T} (hf:∀ e t,f e = some t → Right X W o e t) {e:Option Expr} {t:T} (h:trOpt f e = some t):IsO t e X W o:=by
 cases e with
 | none =>
   simp only [trOpt,Option.some.injEq] at h
   exact .inl ⟨rfl,h.symm⟩
 | some e =>
   simp only [trOpt] at h
   cases e1:f e with
   | none =>rw [e1] at h; cases h
   | some u =>
     rw [e1] at h
     simp only [Option.bind_some] at h
     split at h
     ·cases h
     ·rename_i hne
      cases h
      exact .inr ⟨e,rfl,fun z =>hne z,(hf e t e1).1⟩
theorem glB_ok (F:Fits X W tc o k) {x:Str} (h:glB tc.sc x = true):Gl X x:=by
 unfold glB at h
 have:=of_decide_eq_true h
 show X.env.scope.names.lookup x = _
 rw [F.sc]; exact this
theorem trTy_ok {y:Str} {ty:Ty} (h:trTy y = some ty):∃ T,tyName ty = some T ∧ bootBuiltins y = some (.type T) ∧ y ≠ "__name__" ∧ (y == ("__debug__":Str)) = false ∧ y ∈ bltNames:=by
 unfold trTy at h
 split at h
 ·rename_i e; cases h; subst e; exact ⟨"int",rfl,by kernel_rfl,by decide +kernel,by decide +kernel,by decide +kernel⟩
 ·split at h
  ·rename_i e; cases h; subst e; exact ⟨"bool",rfl,by kernel_rfl,by decide +kernel,by decide +kernel,by decide +kernel⟩
  ·split at h
   ·rename_i e; cases h; subst e; exact ⟨"str",rfl,by kernel_rfl,by decide +kernel,by decide +kernel,by decide +kernel⟩
   ·split at h
    ·rename_i e; cases h; subst e; exact ⟨"tuple",rfl,by kernel_rfl,by decide +kernel,by decide +kernel,by decide +kernel⟩
    ·split at h
     ·rename_i e; cases h; subst e; exact ⟨"list",rfl,by kernel_rfl,by decide +kernel,by decide +kernel,by decide +kernel⟩
     ·split at h
      ·rename_i e; cases h; subst e; exact ⟨"dict",rfl,by kernel_rfl,by decide +kernel,by decide +kernel,by decide +kernel⟩
      ·cases h
theorem fn1_ok (F:Fits X W tc o k) {x:Str} {b:B1} {a:Expr} {u:T} {p pos:Pos} {lk:Bool} (h:fn1 x = some b) (hg:Gl X x) (e:tc.gl.lookup x = none) (ha:PE X a (tD X W true fun δ =>ev o δ true u)) (hst:isStar1 a = false) :
 PE X (.Call (.Name x p) [a] [] pos) (tD X W lk fun δ =>ev o δ lk (.b1 b u)):=by
 have fb:∀ {id:String} {r:List V → Hp → VK → Prop},CallR X (.builtin id) r → Sem1 W r (b1D b) → bootBuiltins x = some (.builtin id) → x ≠ "__name__" → (x == ("__debug__":Str)) = false → x ∈ bltNames → PE X (.Call (.Name x p) [a] [] pos) (tD X W lk fun δ =>ev o δ lk (.b1 b u)) :=
  fun h1 h2 h3 h4 h5 h6 =>tD_ev (d_b1 h1 h2 (b1_noexc b) hg (F.gb _ h6 e) h3 ha h4 h5 (star1 hst)) fun δ =>by simp only [ev]
 have ft:∀ {id:String} {r:List V → Hp → VK → Prop},CallR X (.type id) r → Sem1 W r (b1D b) → bootBuiltins x = some (.type id) → x ≠ "__name__" → (x == ("__debug__":Str)) = false → x ∈ bltNames → PE X (.Call (.Name x p) [a] [] pos) (tD X W lk fun δ =>ev o δ lk (.b1 b u)) :=
  fun h1 h2 h3 h4 h5 h6 =>tD_ev (d_ty1 h1 h2 (b1_noexc b) hg (F.gb _ h6 e) h3 ha h4 h5 (star1 hst)) fun δ =>by simp only [ev]
 unfold fn1 at h
 split at h
 ·rename_i ex; subst ex; cases h
  exact fb call_abs sem_abs PyProof.Rows.boot_abs (by decide +kernel) (by decide +kernel) (by decide +kernel)
 split at h
 ·rename_i ex; subst ex; cases h
  exact fb (CallR.or (CallR.or call_len_seq call_len_str) call_lenD) (sem_len F.K) PySem.boot_len (by decide +kernel) (by decide +kernel) (by decide +kernel)
 split at h
 ·rename_i ex; subst ex; cases h
  exact ft call_tuple_of (sem_tuple F.K) (by kernel_rfl) (by decide +kernel) (by decide +kernel) (by decide +kernel)
 split at h
 ·rename_i ex; obtain ⟨rfl,hq⟩:=ex; cases h
  obtain ⟨r,c1,c2⟩:=f_list (X:=X) (W:=W) hq F.K F.calm
  exact ft c1 c2 (by kernel_rfl) (by decide +kernel) (by decide +kernel) (by decide +kernel)
 split at h
 ·rename_i ex; obtain ⟨rfl,hq⟩:=ex; cases h
  obtain ⟨r,c1,c2⟩:=f_dict (X:=X) (W:=W) hq F.K F.calm
  exact ft c1 c2 (by kernel_rfl) (by decide +kernel) (by decide +kernel) (by decide +kernel)
 split at h
 ·rename_i ex; obtain ⟨rfl,hq⟩:=ex; cases h
  obtain ⟨r,c1,c2⟩:=f_all (X:=X) (W:=W) hq F.K F.calm
  exact fb c1 c2 (by kernel_rfl) (by decide +kernel) (by decide +kernel) (by decide +kernel)
 split at h
 ·rename_i ex; obtain ⟨rfl,hq⟩:=ex; cases h
  obtain ⟨r,c1,c2⟩:=f_any (X:=X) (W:=W) hq F.K F.calm
  exact fb c1 c2 (by kernel_rfl) (by decide +kernel) (by decide +kernel) (by decide +kernel)
 split at h
 ·rename_i ex; obtain ⟨rfl,hq⟩:=ex; cases h
  obtain ⟨r,c1,c2⟩:=f_sum (X:=X) (W:=W) hq F.K F.calm
  exact fb c1 c2 (by kernel_rfl) (by decide +kernel) (by decide +kernel) (by decide +kernel)
 split at h
 ·rename_i ex; obtain ⟨rfl,hq⟩:=ex; cases h
  obtain ⟨r,c1,c2⟩:=f_sorted (X:=X) (W:=W) hq F.K F.calm
  exact fb c1 c2 PyProof.Rows.boot_sorted (by decide +kernel) (by decide +kernel) (by decide +kernel)
 ·cases h
theorem call_ok (F:Fits X W tc o k) {f:Expr → Option T} (hf:∀ e t,f e = some t → Right X W o e t) {x:Str} {args:List Expr} {t:T} {p pos:Pos} (h:trCall tc f x args = some t) (lk:Bool) :
 PE X (.Call (.Name x p) args [] pos) (tD X W lk fun δ =>ev o δ lk t):=by
 unfold trCall at h
 split at h
 ·rename_i hc
  simp only [Bool.and_eq_true,Bool.not_eq_true'] at hc
  obtain ⟨⟨hg,hdb⟩,hst⟩:=hc
  have hg:=glB_ok F hg
  split at h
  ·rename_i i np e
   split at h
   ·rename_i hn
    cases e1:trL f args with
    | none =>rw [e1] at h; cases h
    | some l =>
      rw [e1] at h
      cases h
      obtain ⟨fa,fd,ps,h1,h2,h3,h4⟩:=F.gf x i np e
      cases args with
      | nil =>exact absurd rfl hn.2
      | cons a as =>
        have hst':=hst
        simp only [List.any_cons,Bool.or_eq_false_iff] at hst'
        exact d_call (fun δ r e =>by rw [trL_len e1 δ r e]; exact hn.1) h4 F.room hg h1 h2 h3 (args_ok (fun e t h =>(hf e t h).1) e1 hst) hdb (star1 hst'.1) (star_any hst'.2)
   ·cases h
  ·cases h
  ·rename_i e
   split at h
   ·rename_i a
    simp only [List.any_cons,List.any_nil,Bool.or_false] at hst
    cases e0:fn1 x with
    | none =>rw [e0] at h; cases h
    | some b =>
      rw [e0] at h
      cases e1:f a with
      | none =>simp [e1] at h
      | some u =>
        simp [e1] at h
        subst h
        exact fn1_ok F e0 hg e ((hf a u e1).1 true) hst
   ·rename_i a b
    simp only [List.any_cons,List.any_nil,Bool.or_false,Bool.or_eq_false_iff] at hst
    split at h
    ·rename_i ex
     obtain ⟨rfl,hq⟩:=ex
     cases e1:f a with
     | none =>rw [e1] at h; cases h
     | some u =>
       cases e2:f b with
       | none =>simp [e1,e2] at h
       | some u2 =>
         simp [e1,e2] at h
         subst h
         exact f_max2 hq F.calm hg (F.gb _ (by decide +kernel) e) ((hf a u e1).1 true) ((hf b u2 e2).1 true) hst.1 hst.2
    ·split at h
     ·rename_i y py
      split at h
      ·rename_i hc2
       obtain ⟨ex,hgy,hly⟩:=hc2
       subst ex
       cases e1:f a with
       | none =>rw [e1] at h; cases h
       | some u =>
         rw [e1] at h
         cases e2:trTy y with
         | none =>simp [e2] at h
         | some ty =>
           simp [e2] at h
           subst h
           obtain ⟨T,hT,hb,hn,hd,hm⟩:=trTy_ok e2
           have hly:tc.gl.lookup y = none:=by simpa using hly
           exact tD_ev (d_isin (o:=o) F.K hT hg (F.gb _ (by decide +kernel) e) (glB_ok F hgy) (F.gb _ hm hly) hb hn hd ((hf a u e1).1 true) (star1 hst.1)) fun δ =>by simp only [ev]
      ·cases h
     ·cases h
   ·cases h
 ·cases h
theorem maxd_ok (F:Fits X W tc o k) {f:Expr → Option T} (hf:∀ e t,f e = some t → Right X W o e t) {x:Str} {a b:Expr} {t:T} {p pos kp:Pos} (h:trMaxd tc f x a b = some t) (lk:Bool):PE X (.Call (.Name x p) [a] [⟨some "default",b,kp⟩] pos) (tD X W lk fun δ =>ev o δ lk t):=by
 unfold trMaxd at h
 split at h
 ·rename_i hc
  obtain ⟨rfl,hq,hg,hl,hst⟩:=hc
  cases e1:f a with
  | none =>rw [e1] at h; cases h
  | some u =>
    cases e2:f b with
    | none =>simp [e1,e2] at h
    | some u2 =>
      simp [e1,e2] at h
      subst h
      exact f_maxd hq F.K F.calm (glB_ok F hg) (F.gb _ (by decide +kernel) (by simpa using hl)) ((hf a u e1).1 true) ((hf b u2 e2).1 true) hst
 ·cases h
theorem meth_ok (F:Fits X W tc o k) {f:Expr → Option T} (hf:∀ e t,f e = some t → Right X W o e t) {a:Expr} {name:Str} {args:List Expr} {ok:Bool} {t:T} {apos cpos:Pos} (h:trMeth f a name args ok = some t) (hok:ok = (apos.endLine == cpos.line)) (lk:Bool) :
 PE X (.Call (.Attribute a name apos) args [] cpos) (tD X W lk fun δ =>ev o δ lk t):=by
 unfold trMeth at h
 split at h
 ·rename_i hc
  simp only [Bool.and_eq_true,Bool.not_eq_true'] at hc
  obtain ⟨⟨h1,h2⟩,hst⟩:=hc
  rw [hok] at h1
  split at h
  ·rename_i b
   simp only [List.any_cons,List.any_nil,Bool.or_false] at hst
   split at h
   ·rename_i ex
    obtain ⟨rfl,hq⟩:=ex
    cases e1:f a with
    | none =>rw [e1] at h; cases h
    | some ta =>
      cases e2:f b with
      | none =>simp [e1,e2] at h
      | some tb =>
        simp [e1,e2] at h
        subst h
        exact f_join hq F.K ((hf a ta e1).1 true) ((hf b tb e2).1 true) h2 hst h1
   ·cases h
  ·rename_i b c
   simp only [List.any_cons,List.any_nil,Bool.or_false,Bool.or_eq_false_iff] at hst
   split at h
   ·rename_i ex
    obtain ⟨rfl,hq⟩:=ex
    cases e1:f a with
    | none =>rw [e1] at h; cases h
    | some ta =>
      cases e2:f b with
      | none =>simp [e1,e2] at h
      | some tb =>
        cases e3:f c with
        | none =>simp [e1,e2,e3] at h
        | some tcc =>
          simp [e1,e2,e3] at h
          subst h
          exact f_get2 hq (hu_of F.room) ((hf a ta e1).1 true) ((hf b tb e2).1 true) ((hf c tcc e3).1 false) (m2_of h2 hst.1 hst.2 h1)
   ·cases h
  ·cases h
 ·cases h
theorem folded_no {e:Expr} {env:Env} (h:isSet e = false) (x:Value):foldedSetIterable e env x = pure x:=by
 cases e <;> first | rfl | (simp [isSet] at h)
theorem range_mem:("range":Str) ∈ bltNames:=by decide +kernel
theorem zip_mem:("zip":Str) ∈ bltNames:=by decide +kernel
theorem enum_mem:("enumerate":Str) ∈ bltNames:=by decide +kernel
theorem tupE {tg:Expr} (h:isTupE tg = true):∃ es x1 p,tg = .Tuple es x1 p:=by
 cases tg <;> first | (simp [isTupE] at h; done) | exact ⟨_,_,_,rfl⟩
theorem iter_ok (F:Fits X W tc o k) {f:Expr → Option T} (hf:∀ e t,f e = some t → Right X W o e t) {e:Expr} {it:TI} (tg:Expr) (h:trI tc f (isTupE tg) e = some it) (lk:Bool):(∃ wi,PI X tg e wi ∧ WalkL X W o lk it wi) ∧ ∀ x,foldedSetIterable e X.env x = pure x:=by
 have val:isSet e = false → (f e).map TI.val = some it → (∃ wi,PI X tg e wi ∧ WalkL X W o lk it wi) ∧ ∀ x,foldedSetIterable e X.env x = pure x:=fun hs h =>by
  cases e1:f e with
  | none =>rw [e1] at h; cases h
  | some t =>
    rw [e1] at h
    cases h
    exact ⟨w_val F.K ((hf e t e1).1 lk),folded_no hs⟩
 unfold trI at h
 split at h
 ·rename_i x px a pc
  split at h
  ·rename_i ex
   subst ex
   split at h
   ·rename_i hc
    simp only [Bool.and_eq_true,Bool.not_eq_true',Option.isNone_iff_eq_none] at hc
    cases e1:f a with
    | none =>rw [e1] at h; cases h
    | some t =>
      rw [e1] at h
      cases h
      exact ⟨w_rng1 (glB_ok F hc.1.1) (F.gb _ range_mem hc.1.2) ((hf a t e1).1 true) hc.2,fun _ =>rfl⟩
   ·cases h
  ·split at h
   ·rename_i ex
    subst ex
    split at h
    ·rename_i hc
     simp only [Bool.and_eq_true,Bool.not_eq_true',Option.isNone_iff_eq_none] at hc
     obtain ⟨es,x1,p,rfl⟩:=tupE hc.1.1.1.2
     cases e1:f a with
     | none =>rw [e1] at h; cases h
     | some t =>
       rw [e1] at h
       cases h
       exact ⟨f_enum hc.1.1.1.1 F.K (glB_ok F hc.1.1.2) (F.gb _ enum_mem hc.1.2) ((hf a t e1).1 lk) hc.2,fun _ =>rfl⟩
    ·cases h
   ·exact val rfl h
 ·rename_i x px a b pc
  split at h
  ·rename_i ex
   subst ex
   split at h
   ·rename_i hc
    simp only [Bool.and_eq_true,Bool.not_eq_true',Option.isNone_iff_eq_none] at hc
    cases e1:f a with
    | none =>rw [e1] at h; cases h
    | some t =>
      cases e2:f b with
      | none =>simp [e1,e2] at h
      | some t2 =>
        simp [e1,e2] at h
        subst h
        exact ⟨f_rng2 hc.1.1.1.1 (glB_ok F hc.1.1.1.2) (F.gb _ range_mem hc.1.1.2) ((hf a t e1).1 true) ((hf b t2 e2).1 true) hc.1.2 hc.2,fun _ =>rfl⟩
   ·cases h
  ·split at h
   ·rename_i ex
    subst ex
    split at h
    ·rename_i hc
     simp only [Bool.and_eq_true,Bool.not_eq_true',Option.isNone_iff_eq_none] at hc
     obtain ⟨es,x1,p,rfl⟩:=tupE hc.1.1.1.1.2
     cases e1:f a with
     | none =>rw [e1] at h; cases h
     | some t =>
       cases e2:f b with
       | none =>simp [e1,e2] at h
       | some t2 =>
         simp [e1,e2] at h
         subst h
         exact ⟨f_zip hc.1.1.1.1.1 F.K (glB_ok F hc.1.1.1.2) (F.gb _ zip_mem hc.1.1.2) ((hf a t e1).1 true) ((hf b t2 e2).1 true) hc.1.2 hc.2,fun _ =>rfl⟩
    ·cases h
   ·exact val rfl h
 ·rename_i x px a b c pc
  split at h
  ·rename_i ex
   subst ex
   split at h
   ·rename_i hc
    simp only [Bool.and_eq_true,Bool.not_eq_true',Option.isNone_iff_eq_none] at hc
    cases e1:f a with
    | none =>rw [e1] at h; cases h
    | some t =>
      cases e2:f b with
      | none =>simp [e1,e2] at h
      | some t2 =>
        cases e3:f c with
        | none =>simp [e1,e2,e3] at h
        | some t3 =>
          simp [e1,e2,e3] at h
          subst h
          exact ⟨f_rng3 hc.1.1.1.1.1 (glB_ok F hc.1.1.1.1.2) (F.gb _ range_mem hc.1.1.1.2) ((hf a t e1).1 true) ((hf b t2 e2).1 true) ((hf c t3 e3).1 true) hc.1.1.2 hc.1.2 hc.2,fun _ =>rfl⟩
   ·cases h
  ·exact val rfl h
 ·split at h
  ·cases h
  ·rename_i hs
   exact val (by simpa using hs) h
theorem blk_of {scope:Scope} (h:blkB scope = true):Blk scope:=by
 unfold blkB at h
 simp only [Bool.and_eq_true,decide_eq_true_eq,List.all_eq_true,Bool.or_eq_true,Bool.not_eq_true'] at h
 refine ⟨h.1,fun y hy z =>?_,fun y hy z =>?_,fun y hy z =>?_⟩
 ·have:=(h.2 y hy).1.1
  rw [z] at this
  cases this
 ·rcases (h.2 y hy).1.2 with q | q
  ·rw [z] at q; cases q
  ·exact q
 ·rcases (h.2 y hy).2 with q | q
  ·rw [z] at q; cases q
  ·exact q
theorem frees_mem {scope:Scope} {x:Str}:x ∈ frees scope ↔ (x,NameKind.free) ∈ scope.names:=by
 unfold frees
 constructor
 ·intro h
  obtain ⟨y,hy,rfl⟩:=List.mem_map.mp h
  obtain ⟨h1,h2⟩:=List.mem_filter.mp hy
  have:y.2 = .free:=by simpa using h2
  rw [← this]; exact h1
 ·exact fun h =>List.mem_map.mpr ⟨_,List.mem_filter.mpr ⟨h,by simp⟩,rfl⟩
theorem tgL_pg {X':Cx} {tl:List Str} (hN:X'.N.Nodup) (hloc:∀ x ∈ tl,X'.env.scope.names.lookup x = some .local):∀ {es:List Expr} {l:List Str} {i:Nat},tgList es = some l → (∀ (j:Nat) x,l[j]? = some x → X'.N[i + j]? = some x ∧ x ∈ tl) →
 PGs X' es (gNames (List.range' i l.length)) ∧ (assignEach es X'.env).length = l.length ∧ (assignEach es X'.env).findIdx? (·.1) = none
 | [],l,i,h,_ =>by
   simp only [tgList,Option.some.injEq] at h
   subst h
   exact ⟨pgs_nil,rfl,rfl⟩
 | e :: es,l,i,h,hl =>by
   cases e <;> first | exact nope h | simp only [tgList] at h
   rename_i x p
   cases e1:tgList es with
   | none =>rw [e1] at h; cases h
   | some l' =>
     rw [e1] at h
     cases h
     obtain ⟨h1,h2,h3⟩:=tgL_pg hN hloc (i:=i + 1) e1 fun j y hj =>by
      have:=hl (j + 1) y (by simpa using hj)
      rw [show i + (j + 1) = i + 1 + j by omega] at this
      exact this
     obtain ⟨k1,k2⟩:=hl 0 x rfl
     rw [Nat.add_zero] at k1
     have kl:=hloc x k2
     refine ⟨?_,?_,?_⟩
     ·rw [List.length_cons,List.range'_succ]
      exact pgs_cons (pg_name hN k1 (.inl kl) (.inr kl)) h1
     ·show (assignEach es X'.env).length + 1 = _
      rw [h2]; rfl
     ·show List.findIdx? (·.1) ((false,assign (.Name x p) X'.env) :: assignEach es X'.env) = none
      rw [List.findIdx?_cons,h3]; rfl
theorem gTup_range {K:PySem.W.Frag} {n:Nat}:gTup K n (gNames (List.range n)) = gTup K (List.range n).length (gNames (List.range n)):=by rw [List.length_range]
theorem comp_in (F:Fits X W tc o k) {f:Tc → Expr → Option T} (hf:∀ (X':Cx) (tc':Tc),Fits X' W tc' o k → ∀ e t,f tc' e = some t → Right X' W o e t) {elt tg iter:Expr} {ifs:List Expr} {scope:Scope} {t:T} (h:trComp tc f elt tg iter ifs scope = some t) :
 ∃ N m caps tup g it c e,t = .comp caps m tup it c e ∧ CompIn X W o scope N elt tg iter ifs m caps tup g it c e:=by
 unfold trComp at h
 cases e1:tgNames tg with
 | none =>rw [e1] at h; cases h
 | some q =>
 obtain ⟨tn,tup⟩:=q
 rw [e1] at h
 simp only [Option.bind_some] at h
 split at h
 ·rename_i hb
  cases e2:ixs tc.N (frees scope) with
  | none =>rw [e2] at h; cases h
  | some caps =>
  cases e3:trI tc (f tc) (isTupE tg) iter with
  | none =>simp [e2,e3] at h
  | some it =>
  cases e4:trIfs (f ⟨tn ++ frees scope,relabelS scope tc.sc,tc.gl⟩) ifs with
  | none =>simp [e2,e3,e4] at h
  | some c =>
  cases e5:f ⟨tn ++ frees scope,relabelS scope tc.sc,tc.gl⟩ elt with
  | none =>simp [e2,e3,e4,e5] at h
  | some e =>
  simp [e2,e3,e4,e5] at h
  subst h
  unfold okBlk at hb
  simp only [Bool.and_eq_true,decide_eq_true_eq,List.all_eq_true,Bool.or_eq_true] at hb
  obtain ⟨⟨⟨b1,b2⟩,b3⟩,b4⟩:=hb
  have FC:=fun fp pins s H =>F.comp (scope:=scope) b2 fp pins s H
  obtain ⟨⟨wi,hi1,hi2⟩,hs⟩:=iter_ok F (fun e t h =>hf X tc F e t h) tg e3 true
  have hi:∃ wi,PI X tg iter wi ∧ WalkR X W o it wi:=⟨wi,hi1,hi2.comp⟩
  have hloc:∀ (X0:Cx),X0.env = X.env → ∀ x ∈ tn,(relabel scope X.env).names.lookup x = some .local:=fun _ _ x hx =>lookup_relabel_local (b3 x hx)
  have hg:∃ g,(∀ fp pins s H,PG (cxC X scope (tn ++ frees scope) fp pins s H) tg g) ∧ (∀ H0,TgR { X with H₀:=H0 } W (List.range tn.length) tup g) ∧ (tup = false → tn.length = 1):=by
   cases tg <;> first | exact nope e1 | simp only [tgNames] at e1
   ·rename_i x p
    cases e1
    exact ⟨gName 0,fun fp pins s H =>pg_name (X:=cxC X scope ([x] ++ frees scope) fp pins s H) b2 rfl (.inl (hloc X rfl x List.mem_cons_self)) (.inr (hloc X rfl x List.mem_cons_self)),fun H0 =>tgr_name,fun _ =>rfl⟩
   ·rename_i es kk p
    cases e6:tgList es with
    | none =>rw [e6] at e1; cases e1
    | some l =>
      rw [e6] at e1
      cases e1
      refine ⟨gTup X.K tn.length (gNames (List.range tn.length)),fun fp pins s H =>?_,fun H0 =>?_,fun z =>by cases z⟩
      ·obtain ⟨k1,k2,k3⟩:=tgL_pg (X':=cxC X scope (tn ++ frees scope) fp pins s H) (tl:=tn) b2 (hloc X rfl) (i:=0) e6 fun j x hj =>⟨by
        rw [Nat.zero_add]
        show (tn ++ frees scope)[j]? = some x
        rw [List.getElem?_append_left (List.getElem?_eq_some_iff.mp hj).1]; exact hj,List.mem_of_getElem? hj⟩
       rw [← List.range_eq_range'] at k1
       exact pg_tup (X:=cxC X scope (tn ++ frees scope) fp pins s H) F.calm k1 k2 k3
      ·rw [gTup_range]
       exact tgr_tup (X:={ X with H₀:=H0 }) F.K
  obtain ⟨g,g1,g2,g3⟩:=hg
  refine ⟨tn ++ frees scope,tn.length,caps,tup,g,it,c,e,rfl,F.K,F.xe,F.calm,blk_of b1,⟨?_,fun j kk x hj hx =>?_,fun y hy hk =>?_⟩,g3,hi,g1,g2,fun fp pins s H =>?_,fun fp pins s H =>(hf _ _ (FC fp pins s H) elt e e5).1 false,hs⟩
  ·rw [List.length_append,ixs_len e2]
  ·obtain ⟨y,y1,y2⟩:=ixs_get e2 hj
   rw [List.getElem?_append_right (by omega),Nat.add_sub_cancel_left,y1] at hx
   cases hx
   have hm:=List.mem_of_getElem? y1
   rw [F.N,F.sc]
   exact ⟨y2,(blk_of b1).fre _ (frees_mem.mp hm) rfl,b4 x hm⟩
  ·rw [F.sc]
   exact b4 y.1 (frees_mem.mpr (by rw [← hk]; exact hy))
  ·cases ifs with
   | nil =>
     simp only [trIfs,Option.some.injEq] at e4
     subst e4
     refine PIf.imp pif_nil fun σ H' Q ⟨me,B,δ,S,q⟩ =>?_
     simp only [ev,R.bind,truth,R.of] at q
     exact q H' (Same.refl _)
   | cons c1 rest =>
     cases rest with
     | nil =>
       simp only [trIfs] at e4
       exact pif_one (hf _ _ (FC fp pins s H) c1 c e4).2
     | cons _ _ =>simp [trIfs] at e4
 ·cases h
theorem const_ok {c:Const} {d:D} {j:Nat} {pos:Pos} (h:trConst c = some d) (lk:Bool):PE X (.Constant c j pos) (tD X W lk fun δ =>ev o δ lk (.cst d)):=by
 cases c <;> first | exact nope h | simp only [trConst] at h
 ·cases h; exact d_cst pe_non (fun G =>by simp only [Rep]) o
 ·cases h; exact d_cst pe_bl (fun G =>by simp only [Rep]) o
 ·cases h; exact d_cst pe_int (fun G =>by simp only [Rep]) o
 ·split at h
  ·rename_i s hl
   cases h
   refine d_cst pe_str (fun G =>?_) o
   simp only [Rep,strV]
   refine ⟨trivial,?_⟩
   have:s.cps.toList.length = s.length:=by simp [Str.length]
   omega
  ·cases h
theorem plainIx {b:Expr} (h:isSlice b = false):PlainIx b:=fun o i =>by cases b <;> first | rfl | (simp [isSlice] at h)
theorem d_idx {a b:Expr} {ta tb:T} {pos:Pos} (F:Fits X W tc o k) (ha:PE X a (tD X W true fun δ =>ev o δ true ta)) (hb:PE X b (tD X W true fun δ =>ev o δ true tb)) (hs:isSlice b = false) (lk:Bool) :
 PE X (.Subscript a b pos) (tD X W lk fun δ =>ev o δ lk (.idx ta tb)):=by
 have nosl:NoSl b:=by intro x y; cases b <;> first | rfl | (simp [isSlice] at hs)
 refine PE.imp (PE.or (pe_ix ix_all ha hb (plainIx hs)) (pe_dget (hu_of F.room) ha hb nosl)) fun σ H Q h =>?_
 obtain ⟨me,B,δ,S,h⟩:=tD_iff.mp h
 simp only [ev] at h
 by_cases hd:∃ r ks vs,ev o δ true ta = .ok r ∧ r.2 = .dct ks vs
 ·obtain ⟨r,ks,vs,e,e2⟩:=hd
  refine .inr ?_
  refine tD.mono (part (fa:=fun δ =>ev o δ true ta) S h) fun v H1 ⟨r1,e1,S1,s1,t1,_,h1⟩ =>?_
  have:r1 = r:=by rw [e] at e1; cases e1; rfl
  subst this
  refine tD.mono (part (fa:=fun δ =>ev o δ true tb) (g:=fun y =>idxD r1.2 y.2) S1 h1) fun u H2 ⟨r2,e3,S2,s2,t2,_,h2⟩ =>?_
  rw [e2] at t1 h2
  obtain ⟨a,kvs,rfl,q1,q2,q3,q4⟩:=t1
  simp only [idxD] at h2
  cases e4:keyOf r2.2 with
  | none =>rw [e4] at h2; exact h2.elim
  | some x =>
    rw [e4] at h2
    simp only [Option.bind_some] at h2
    cases e5:look ks vs x with
    | none =>rw [e5] at h2; exact h2.elim
    | some d =>
      rw [e5] at h2
      obtain ⟨v,h3,h4⟩:=look_val q2 (q4.mono (vis_mono s2)) e5
      refine ⟨a,v,rfl,?_,h2 v H2 (Same.refl _) (.shared h4)⟩
      rw [key_rep e4 t2,← h3]
      obtain ⟨ep,q1⟩:=q1; exact DGet.k (s2 _ _ q1)
 ·refine .inl (tOp_of (lk:=lk) (sem_idx F.K) (by intro x y c; cases x <;> simp only [seqIdx] <;> first | (intro z; cases z; done) | exact idxD_noexc _ _ _) ?_)
  refine tD_iff.mpr ⟨me,B,δ,S,?_⟩
  have e:((ev o δ true ta).bind fun x =>(ev o δ true tb).bind fun y =>seqIdx x.2 y.2) = ((ev o δ true ta).bind fun x =>(ev o δ true tb).bind fun y =>idxD x.2 y.2):=by
   cases e:ev o δ true ta with
   | ok r =>
     show ((ev o δ true tb).bind fun y =>seqIdx r.2 y.2) = ((ev o δ true tb).bind fun y =>idxD r.2 y.2)
     congr 1
     funext y
     cases e2:r.2 with
     | dct ks vs =>exact absurd ⟨r,ks,vs,e,e2⟩ hd
     | _ =>rfl
   | exc c =>rfl
   | stuck =>rfl
  show After X W lk σ H (Hid B σ δ) ((ev o δ true ta).bind fun x =>(ev o δ true tb).bind fun y =>seqIdx x.2 y.2) Q
  rw [e]
  exact h
theorem sndE:∀ (n:Nat) {X:Cx} {tc:Tc},Fits X W tc o k → ∀ (e:Expr) (t:T),trE n tc e = some t → Right X W o e t:=by
 intro n
 induction n with
 | zero =>intro X tc F e t h; exact nope h
 | succ n ih' =>
   intro X tc F e t h
   have ih:=fun e t h =>ih' F e t h
   cases e with
   | Name x pos =>
     rw [trE_succ] at h; delta trEb at h; dsimp only at h
     split at h
     ·rename_i hv
      obtain ⟨h1,h2,h3⟩:=visB_ok F hv
      cases e1:nameIx tc.N x with
      | none =>rw [e1] at h; cases h
      | some i =>
        rw [e1] at h
        cases h
        exact right_val (fun lk =>d_var (by rw [F.N]; exact nameIx_get e1) h1 h2 h3 o) (fun _ =>rfl)
     ·split at h
      ·rename_i hc
       simp only [Bool.and_eq_true,Bool.not_eq_true'] at hc
       split at h
       ·rename_i d e1
        cases h
        obtain ⟨u,v,m1,m2,m3⟩:=F.gv x d e1
        exact right_val (fun lk =>d_cst (pe_glob (glB_ok F hc.1) m1 m2 hc.2) m3 o) (fun _ =>rfl)
       ·cases h
      ·cases h
   | IfExp c a b pos =>
     rw [trE_succ] at h; delta trEb at h; dsimp only at h
     cases e1:trE n tc c with
     | none =>rw [e1] at h; cases h
     | some u1 =>
       cases e2:trE n tc a with
       | none =>simp [e1,e2] at h
       | some u2 =>
         cases e3:trE n tc b with
         | none =>simp [e1,e2,e3] at h
         | some u3 =>
           simp [e1,e2,e3] at h
           subst h
           exact ⟨fun lk =>d_ite (ih c u1 e1).2 ((ih a u2 e2).1 lk) ((ih b u3 e3).1 lk),dt_ite (ih c u1 e1).2 (ih a u2 e2).2 (ih b u3 e3).2⟩
   | Constant c j pos =>
     rw [trE_succ] at h; delta trEb at h; dsimp only at h
     cases e1:trConst c with
     | none =>rw [e1] at h; cases h
     | some d =>
       rw [e1] at h
       cases h
       exact right_val (fun lk =>const_ok e1 lk) (fun _ =>rfl)
   | BinOp a op b pos =>
     rw [trE_succ] at h; delta trEb at h; dsimp only at h
     cases e1:trOp op with
     | none =>rw [e1] at h; cases h
     | some p =>
       cases e2:trE n tc a with
       | none =>simp [e1,e2] at h
       | some ta =>
         cases e3:trE n tc b with
         | none =>simp [e1,e2,e3] at h
         | some tb =>
           simp [e1,e2,e3] at h
           subst h
           exact right_val (fun lk =>bin_ok F e1 ((ih a ta e2).1 true) ((ih b tb e3).1 true) lk) (fun _ =>rfl)
   | UnaryOp op a pos =>
     cases op <;> first | exact nope h | (rw [trE_succ] at h; delta trEb at h; dsimp only at h)
     all_goals
      cases e1:trE n tc a with
      | none =>rw [e1] at h; cases h
      | some ta =>
        rw [e1] at h
        cases h
        first
         | exact ⟨fun lk =>tD_ev (d_not ((ih a ta e1).1 true)) fun δ =>by simp only [ev],tT_ev (dt_not (ih a ta e1).2) fun δ =>by simp only [ev]⟩
         | exact right_val (fun lk =>d_neg ((ih a ta e1).1 true)) (fun _ =>rfl)
   | Compare a ops cs pos =>
     match ops,cs,h with
     | [op],[b],h =>
       rw [trE_succ] at h; delta trEb at h; dsimp only at h
       split at h
       ·cases h
       ·rename_i hm
        cases e1:trCmp op with
        | none =>rw [e1] at h; cases h
        | some p =>
          cases e2:trE n tc a with
          | none =>simp [e1,e2] at h
          | some ta =>
            cases e3:trE n tc b with
            | none =>simp [e1,e2,e3] at h
            | some tb =>
              simp [e1,e2,e3] at h
              subst h
              exact cmp_ok F e1 (by simpa using hm) ((ih a ta e2).1 true) ((ih b tb e3).1 true)
     | [],_,h =>exact nope h
     | _ :: _ :: _,_,h =>exact nope h
     | [_],[],h =>exact nope h
     | [_],_ :: _ :: _,h =>exact nope h
   | BoolOp op vs pos =>
     cases op with
     | And =>
       rw [trE_succ] at h; delta trEb at h; dsimp only at h
       obtain ⟨h1,h2⟩:=bool_and (pos:=pos) ih h
       exact ⟨h1,h2.pt⟩
     | Or =>
       rw [trE_succ] at h; delta trEb at h; dsimp only at h
       obtain ⟨h1,h2⟩:=bool_or (pos:=pos) ih h
       exact ⟨h1,h2.pt⟩
   | Tuple es kk pos =>
     rw [trE_succ] at h; delta trEb at h; dsimp only at h
     split at h
     ·cases h
     ·rename_i hst
      cases e1:trL (trE n tc) es with
      | none =>rw [e1] at h; cases h
      | some l =>
        rw [e1] at h
        cases h
        exact right_val (fun lk =>d_tup (args_ok (fun e t h =>(ih e t h).1) e1 (by simpa using hst))) (fun _ =>rfl)
   | List es pos =>
     rw [trE_succ] at h; delta trEb at h; dsimp only at h
     split at h
     ·cases h
     ·rename_i hst
      cases e1:trL (trE n tc) es with
      | none =>rw [e1] at h; cases h
      | some l =>
        rw [e1] at h
        cases h
        exact right_val (fun lk =>d_lst (args_ok (fun e t h =>(ih e t h).1) e1 (by simpa using hst))) (fun _ =>rfl)
   | Dict ks vs pos =>
     match ks,vs,h with
     | [],[],h =>
       rw [trE_succ] at h; delta trEb at h; simp only [Option.some.injEq] at h
       subst h
       exact right_val (fun lk =>d_dnew0) (fun _ =>rfl)
     | [],_ :: _,h =>exact nope h
     | k0 :: ks,vs,h =>
       rw [trE_succ] at h; delta trEb at h; dsimp only at h
       split at h
       ·rename_i hq
        exact right_val (fun lk =>f_dct hq h lk) (fun _ =>rfl)
       ·cases h
   | ListComp elt gens scope pos =>
     match gens,h with
     | [g],h =>
       rw [trE_succ] at h; delta trEb at h; dsimp only at h
       split at h
       ·rename_i h0
        obtain ⟨tg,iter,ifs,as⟩:=g
        simp only at h0 h
        subst h0
        obtain ⟨N,m,caps,tup,g,it,c,e,rfl,A⟩:=comp_in F (fun X' tc' F' e t h =>ih' F' e t h) h
        exact right_val (fun lk =>d_comp A) (fun _ =>rfl)
       ·cases h
     | [],h =>exact nope h
     | _ :: _ :: _,h =>exact nope h
   | Subscript a b pos =>
     by_cases hs:∃ lo hi p2,b = .Slice lo hi none p2
     ·obtain ⟨lo,hi,p2,rfl⟩:=hs
      rw [trE_succ] at h; delta trEb at h; dsimp only at h
      cases e1:trE n tc a with
      | none =>rw [e1] at h; cases h
      | some ta =>
        cases e2:trOpt (trE n tc) lo with
        | none =>simp [e1,e2] at h
        | some tl =>
          cases e3:trOpt (trE n tc) hi with
          | none =>simp [e1,e2,e3] at h
          | some th =>
            simp [e1,e2,e3] at h
            subst h
            exact right_val (fun lk =>tD_ev (d_slc sl_all (sem_slc F.K) ((ih a ta e1).1 true) (opt_ok ih e2) (opt_ok ih e3)) fun δ =>by simp only [ev]) (fun _ =>rfl)
     ·have h':(if isSlice b then none else (match dctOf tc a with
       | some q =>(trE n tc b).map fun i =>T.kidx q.1 q.2 i
       | none =>(trE n tc a).bind fun t =>(trE n tc b).map fun i =>T.idx t i)) = some t:=by
       cases b <;> first | exact h | skip
       rename_i lo hi st p2
       cases st with
       | none =>exact absurd ⟨lo,hi,p2,rfl⟩ hs
       | some st =>exact nope h
      cases hsl:isSlice b with
      | true =>simp [hsl] at h'
      | false =>
        simp only [hsl,Bool.false_eq_true,if_false] at h'
        cases e0:dctOf tc a with
        | some q =>
          rw [e0] at h'
          cases e2:trE n tc b with
          | none =>simp [e2] at h'
          | some tb =>
            simp [e2] at h'
            subst h'
            cases a <;> first | exact nope e0 | simp only [dctOf] at e0
            rename_i x px
            split at e0
            ·rename_i hc
             simp only [Bool.and_eq_true,Bool.not_eq_true'] at hc
             split at e0
             ·rename_i ks vs e1
              cases e0
              obtain ⟨ad,m1,m2⟩:=F.gd x ks vs e1
              exact right_val (fun lk =>f_kidx hc.1.1 F.K m2 (glB_ok F hc.1.2) m1 hc.2 ((ih b tb e2).1 true) (by intro x y; cases b <;> first | rfl | (simp [isSlice] at hsl))) (fun _ =>rfl)
             ·cases e0
            ·cases e0
        | none =>
        rw [e0] at h'
        simp only at h'
        cases e1:trE n tc a with
        | none =>rw [e1] at h'; cases h'
        | some ta =>
          cases e2:trE n tc b with
          | none =>simp [e1,e2] at h'
          | some tb =>
            simp [e1,e2] at h'
            subst h'
            exact right_val (fun lk =>d_idx F ((ih a ta e1).1 true) ((ih b tb e2).1 true) hsl lk) (fun _ =>rfl)
   | Call f args kws pos =>
     match f,kws,h with
     | .Name x p,[],h =>
       rw [trE_succ] at h; delta trEb at h; dsimp only at h
       exact right_val (fun lk =>call_ok F ih h lk) (fun _ =>rfl)
     | .Attribute a name apos,[],h =>
       rw [trE_succ] at h; delta trEb at h; dsimp only at h
       exact right_val (fun lk =>meth_ok F ih h rfl lk) (fun _ =>rfl)
     | .Name x p,[kw],h =>
       match args,kw,h with
       | [a],⟨some nm,b,kp⟩,h =>
         rw [trE_succ] at h; delta trEb at h; dsimp only at h
         split at h
         ·rename_i ex
          subst ex
          exact right_val (fun lk =>maxd_ok F ih h lk) (fun _ =>rfl)
         ·cases h
       | [_],⟨none,_,_⟩,h =>exact nope h
       | [],⟨some _,_,_⟩,h | [],⟨none,_,_⟩,h =>exact nope h
       | _ :: _ :: _,⟨some _,_,_⟩,h | _ :: _ :: _,⟨none,_,_⟩,h =>exact nope h
     | .Name x p,⟨some _,_,_⟩ :: _ :: _,h | .Name x p,⟨none,_,_⟩ :: _ :: _,h =>rcases args with _ | ⟨_,_ | _⟩ <;> exact nope h
     | .Attribute ..,_ :: _,h =>exact nope h
     | .BoolOp ..,_,h =>exact nope h
     | .NamedExpr ..,_,h =>exact nope h
     | .BinOp ..,_,h =>exact nope h
     | .UnaryOp ..,_,h =>exact nope h
     | .Lambda ..,_,h =>exact nope h
     | .IfExp ..,_,h =>exact nope h
     | .Dict ..,_,h =>exact nope h
     | .Set ..,_,h =>exact nope h
     | .ListComp ..,_,h =>exact nope h
     | .SetComp ..,_,h =>exact nope h
     | .DictComp ..,_,h =>exact nope h
     | .GeneratorExp ..,_,h =>exact nope h
     | .Await ..,_,h =>exact nope h
     | .Yield ..,_,h =>exact nope h
     | .YieldFrom ..,_,h =>exact nope h
     | .Compare ..,_,h =>exact nope h
     | .Call ..,_,h =>exact nope h
     | .FormattedValue ..,_,h =>exact nope h
     | .JoinedStr ..,_,h =>exact nope h
     | .Constant ..,_,h =>exact nope h
     | .Subscript ..,_,h =>exact nope h
     | .Starred ..,_,h =>exact nope h
     | .List ..,_,h =>exact nope h
     | .Tuple ..,_,h =>exact nope h
     | .Slice ..,_,h =>exact nope h
   | _ =>exact nope h
end
end Z

namespace Z
open PySem PySem.Spec PyProof.Rows L2
noncomputable def isComp:Expr → Bool
 | .ListComp .. =>true
 | .SetComp .. =>true
 | .DictComp .. =>true
 | _ =>false
noncomputable def trNames (tc:Tc):List Expr → Option (List Nat)
 | [] =>some []
 | .Name x _ :: es =>if locB tc.sc x then (nameIx tc.N x).bind fun i =>(trNames tc es).map fun l =>i :: l else none
 | _ =>none
noncomputable def trTg (tc:Tc):Expr → Option (List Nat × Bool)
 | .Name x _ =>if locB tc.sc x then (nameIx tc.N x).map fun i =>([i],false) else none
 | .Tuple es _ _ =>(trNames tc es).map fun l =>(l,true)
 | _ =>none
noncomputable def trSs (f:Stmt → Option S):List Stmt → Option SL
 | [] =>some .nil
 | s :: ss =>(f s).bind fun t =>(trSs f ss).map fun l =>.cons t l
noncomputable def isName:Expr → Bool
 | .Name .. =>true
 | _ =>false
noncomputable def isVar:T → Bool
 | .var _ =>true
 | _ =>false
noncomputable def depthE:Nat:=40
noncomputable def isComp1:Expr → Bool
 | .ListComp _ [g] _ _ =>decide (g.is_async = 0)
 | _ =>false
noncomputable def trA (tc:Tc) (tgs:List Expr) (e:Expr):Option S:=match tgs with
 | [.Name x _] =>if locB tc.sc x && (!isComp e || isComp1 e) then (nameIx tc.N x).bind fun i =>(trE depthE tc e).map fun t =>.set i t else none
 | [.Subscript (.Name x _) k _] =>if visB tc.sc x && !isSlice k && !isComp e then (nameIx tc.N x).bind fun i =>(trE depthE tc k).bind fun tk =>(trE depthE tc e).map fun t =>.seti i tk t else none
 | _ =>none
noncomputable def trX (tc:Tc) (e:Expr):Option S:=match e with
 | .Call (.Attribute (.Name x _) m apos) [e] [] cpos =>if m = "append" then (if visB tc.sc x && !isStar1 e && (apos.endLine == cpos.line) then (nameIx tc.N x).bind fun i =>(trE depthE tc e).map fun t =>.append i t else none) else none
 | .Call (.Name x p) args [] pos =>(trE depthE tc (.Call (.Name x p) args [] pos)).map .expr
 | _ =>none
noncomputable def tlVar:TL → Bool
 | .nil =>false
 | .cons (.var _) _ =>true
 | .cons _ l =>tlVar l
noncomputable def tlLst:TL → Bool
 | .nil =>false
 | .cons (.lst l) r =>tlVar l || tlLst r
 | .cons _ r =>tlLst r
noncomputable def lstV:T → Bool
 | .not (.call _ l) =>tlLst l
 | _ =>false
noncomputable def trSb (f:Stmt → Option S) (tc:Tc) (st:Stmt):Option S:=match st with
 | .Assign tgs e _ =>trA tc tgs e
 | .If c a b _ =>(trE depthE tc c).bind fun t =>(trSs f a).bind fun u =>(trSs f b).map fun v =>if lstV t then .ifq t u v else .ifs t u v
 | .For tg iter body [] _ =>(trTg tc tg).bind fun g =>(trI tc (trE depthE tc) (isTupE tg) iter).bind fun it =>(trSs f body).map fun b =>.for_ g.1 g.2 it b
 | .While c body [] _ =>(trE depthE tc c).bind fun t =>(trSs f body).map fun b =>.while_ t b
 | .Return (some e) _ =>(trE depthE tc e).bind fun t =>if isVar t && !isName e then none else some (.ret t)
 | .Return none _ =>some .retn
 | .Expr e _ =>trX tc e
 | .Pass _ =>some .pass
 | .Break _ =>some .brk
 | .Continue _ =>some .cont
 | _ =>none
noncomputable def trS:Nat → Tc → Stmt → Option S
 | 0,_,_ =>none
 | n + 1,tc,st =>trSb (trS n tc) tc st
theorem trS_succ {n:Nat} {tc:Tc} {st:Stmt}:trS (n + 1) tc st = trSb (trS n tc) tc st:=rfl
structure FitsS (X:Cx) (W:Wd) (tc:Tc) (o:Orc) (k:Nat):Prop extends Fits X W tc o k where
 fn:∀ x,X.fn x = true
section
variable {X:Cx} {W:Wd} {tc:Tc} {o:Orc} {k:Nat}
theorem locB_ok (F:Fits X W tc o k) {x:Str} (h:locB tc.sc x = true):Loc X.env.scope x:=by
 unfold locB at h
 rw [F.sc]
 unfold L2.Loc
 split at h
 ·rename_i e; exact .inl e
 ·rename_i e; exact .inr e
 ·cases h
theorem passes (F:Fits X W tc o k):PassesOwn (model X.prog X.w) X.A X.env X.xe:=by
 rw [F.xe]
 exact PassesOwn.never
theorem swaps_no {e:Expr} {t:Option Expr} {l:Nat} {env:Env} (h:isComp e = false):swapsWith e t l env = pure false:=by
 cases e <;> first | rfl | (simp [isComp] at h)
theorem names_ok (F:FitsS X W tc o k):∀ {es:List Expr} {is:List Nat},trNames tc es = some is → PGs X es (gNames is) ∧ (assignEach es X.env).length = is.length ∧ (assignEach es X.env).findIdx? (·.1) = none
 | [],is,h =>by
   simp only [trNames,Option.some.injEq] at h
   subst h
   exact ⟨pgs_nil,rfl,rfl⟩
 | .Name x p :: es,is,h =>by
   simp only [trNames] at h
   split at h
   ·rename_i hl
    cases e1:nameIx tc.N x with
    | none =>rw [e1] at h; cases h
    | some i =>
      cases e2:trNames tc es with
      | none =>simp [e1,e2] at h
      | some l =>
        simp [e1,e2] at h
        subst h
        obtain ⟨h1,h2,h3⟩:=names_ok F e2
        refine ⟨pgs_cons (pg_name (by rw [F.N]; exact F.nd) (by rw [F.N]; exact nameIx_get e1) (locB_ok F.toFits hl) (.inl (F.fn x))) h1,?_,?_⟩
        ·show (assignEach es X.env).length + 1 = _
         rw [h2]; rfl
        ·show List.findIdx? (·.1) ((false,assign (.Name x p) X.env) :: assignEach es X.env) = none
         rw [List.findIdx?_cons,h3]; rfl
   ·cases h
 | .BoolOp .. :: _,_,h =>by simp [trNames] at h
 | .NamedExpr .. :: _,_,h =>by simp [trNames] at h
 | .BinOp .. :: _,_,h =>by simp [trNames] at h
 | .UnaryOp .. :: _,_,h =>by simp [trNames] at h
 | .Lambda .. :: _,_,h =>by simp [trNames] at h
 | .IfExp .. :: _,_,h =>by simp [trNames] at h
 | .Dict .. :: _,_,h =>by simp [trNames] at h
 | .Set .. :: _,_,h =>by simp [trNames] at h
 | .ListComp .. :: _,_,h =>by simp [trNames] at h
 | .SetComp .. :: _,_,h =>by simp [trNames] at h
 | .DictComp .. :: _,_,h =>by simp [trNames] at h
 | .GeneratorExp .. :: _,_,h =>by simp [trNames] at h
 | .Await .. :: _,_,h =>by simp [trNames] at h
 | .Yield .. :: _,_,h =>by simp [trNames] at h
 | .YieldFrom .. :: _,_,h =>by simp [trNames] at h
 | .Compare .. :: _,_,h =>by simp [trNames] at h
 | .Call .. :: _,_,h =>by simp [trNames] at h
 | .FormattedValue .. :: _,_,h =>by simp [trNames] at h
 | .JoinedStr .. :: _,_,h =>by simp [trNames] at h
 | .Constant .. :: _,_,h =>by simp [trNames] at h
 | .Attribute .. :: _,_,h =>by simp [trNames] at h
 | .Subscript .. :: _,_,h =>by simp [trNames] at h
 | .Starred .. :: _,_,h =>by simp [trNames] at h
 | .List .. :: _,_,h =>by simp [trNames] at h
 | .Tuple .. :: _,_,h =>by simp [trNames] at h
 | .Slice .. :: _,_,h =>by simp [trNames] at h
theorem tg_ok (F:FitsS X W tc o k) {tg:Expr} {g:List Nat × Bool} (h:trTg tc tg = some g):∃ gg,TgOk X W tg g.1 g.2 gg:=by
 cases tg <;> first | exact nope h | simp only [trTg] at h
 ·split at h
  ·rename_i hl
   rename_i x p
   cases e1:nameIx tc.N x with
   | none =>rw [e1] at h; cases h
   | some i =>
     rw [e1] at h
     cases h
     exact ⟨_,tg_name (by rw [F.N]; exact F.nd) (by rw [F.N]; exact nameIx_get e1) (locB_ok F.toFits hl) (.inl (F.fn x))⟩
  ·cases h
 ·rename_i es kk p
  cases e1:trNames tc es with
  | none =>rw [e1] at h; cases h
  | some l =>
    rw [e1] at h
    cases h
    obtain ⟨h1,h2,h3⟩:=names_ok F e1
    exact ⟨_,tg_tup F.K F.calm h1 h2 h3⟩
theorem sndSs {f:Stmt → Option S} (hf:∀ s t,f s = some t → PS X s (tS X W (evS o t))):∀ {ss:List Stmt} {l:SL},trSs f ss = some l → PSs X ss (tS X W (evSs o l))
 | [],l,h =>by
   simp only [trSs,Option.some.injEq] at h
   subst h
   exact ds_nil o
 | s :: ss,l,h =>by
   simp only [trSs] at h
   cases e1:f s with
   | none =>rw [e1] at h; cases h
   | some t =>
     rw [e1] at h
     cases e2:trSs f ss with
     | none =>simp [e2] at h
     | some l' =>
       simp [e2] at h
       subst h
       exact ds_cons (hf s t e1) (sndSs hf e2)
theorem assign_sub {o' k:Expr} {pp:Pos} {env:Env} (h:isSlice k = false) (v:Value):assign (.Subscript o' k pp) env v = (do
 let ov ← holding [v] (eval o' env)
 let iv ← holding [v,ov] (eval k env)
 standAt pp
 holding [v,ov,iv] (setItem ov iv v)
 release [v,ov,iv] []):=by
 cases k <;> first | rfl | (simp [isSlice] at h)
theorem sole_no {o' k e:Expr} {pp:Pos} {l:Nat} {env:Env} (h:isComp e = false):swapsWithSole [.Subscript o' k pp] e l env = pure false:=by
 cases e <;> first | rfl | (simp [isComp] at h)
theorem stores_no {o' k e:Expr} {pp:Pos} {env:Env}:swappedStores [.Subscript o' k pp] e env = pure none:=by
 cases e <;> rfl
theorem trA_ok (F:FitsS X W tc o k) {tgs:List Expr} {e:Expr} {t:S} {pos:Pos} (h:trA tc tgs e = some t):PS X (.Assign tgs e pos) (tS X W (evS o t)):=by
 have E:=fun e t h =>sndE depthE F.toFits e t h
 unfold trA at h
 split at h
 ·rename_i x px
  split at h
  ·rename_i hc
   simp only [Bool.and_eq_true,Bool.or_eq_true,Bool.not_eq_true'] at hc
   cases e1:nameIx tc.N x with
   | none =>rw [e1] at h; cases h
   | some i =>
     cases e2:trE depthE tc e with
     | none =>simp [e1,e2] at h
     | some u =>
       simp [e1,e2] at h
       subst h
       have hnd:X.N.Nodup:=by rw [F.N]; exact F.nd
       have hni:X.N[i]? = some x:=by rw [F.N]; exact nameIx_get e1
       by_cases hcomp:isComp e = true
       ·have hc1:isComp1 e = true:=by
         rcases hc.2 with z | z
         ·rw [hcomp] at z; cases z
         ·exact z
        unfold isComp1 at hc1
        split at hc1
        ·rename_i elt g scope epos
         have hg0:g.is_async = 0:=of_decide_eq_true hc1
         obtain ⟨tg,iter,ifs,as⟩:=g
         simp only at hg0
         subst hg0
         rw [show depthE = 39 + 1 from rfl,trE_comp,if_pos rfl] at e2
         obtain ⟨N,m,caps,tup,g,it,c,e,rfl,A⟩:=comp_in F.toFits (fun X' tc' F' e t h =>sndE 39 F' e t h) e2
         refine d_setC (bsw:=X.env.blockKind == .function && X.env.kindOf x == some .local && px.line == epos.line && !(scope.names.any fun (n,k) =>n == x && (k == .local || k == .cell))) A hnd hni (locB_ok F.toFits hc.1) (.inl (F.fn x)) (fun hb =>?_) rfl
         simp only [Bool.and_eq_true,beq_iff_eq] at hb
         exact hb.1.1.2
        ·cases hc1
       ·exact d_set hnd hni (locB_ok F.toFits hc.1) ((E e u e2).1 false) (swaps_no (by simpa using hcomp)) (.inl (F.fn x))
  ·cases h
 ·rename_i x p kx pos'
  split at h
  ·rename_i hc
   simp only [Bool.and_eq_true,Bool.not_eq_true'] at hc
   obtain ⟨⟨hv,hsl⟩,hcp⟩:=hc
   cases e1:nameIx tc.N x with
   | none =>rw [e1] at h; cases h
   | some i =>
     cases e2:trE depthE tc kx with
     | none =>simp [e1,e2] at h
     | some tk =>
       cases e3:trE depthE tc e with
       | none =>simp [e1,e2,e3] at h
       | some u =>
         simp [e1,e2,e3] at h
         subst h
         obtain ⟨h1,h2,h3⟩:=visB_ok F.toFits hv
         exact ds_seti F.K (hu_of F.room) (pe_var (by rw [F.N]; exact nameIx_get e1) h1 h2 h3) ((E kx tk e2).1 true) ((E e u e3).1 false) (assign_sub hsl) (sole_no hcp) stores_no rfl
  ·cases h
 ·cases h
theorem trX_ok (F:FitsS X W tc o k) {e:Expr} {t:S} {pos:Pos} (h:trX tc e = some t):PS X (.Expr e pos) (tS X W (evS o t)):=by
 have E:=fun e t h =>sndE depthE F.toFits e t h
 unfold trX at h
 split at h
 ·rename_i x p m apos e cpos
  split at h
  ·rename_i ex
   subst ex
   split at h
   ·rename_i hc
    simp only [Bool.and_eq_true,Bool.not_eq_true'] at hc
    obtain ⟨h1,h2,h3⟩:=visB_ok F.toFits hc.1.1
    cases e1:nameIx tc.N x with
    | none =>rw [e1] at h; cases h
    | some i =>
      cases e2:trE depthE tc e with
      | none =>simp [e1,e2] at h
      | some u =>
        simp [e1,e2] at h
        subst h
        exact ds_append (pe_var (by rw [F.N]; exact nameIx_get e1) h1 h2 h3) ((E e u e2).1 false) hc.1.2 hc.2
   ·cases h
  ·cases h
 ·rename_i x p args cp
  cases e2:trE depthE tc (.Call (.Name x p) args [] cp) with
  | none =>rw [e2] at h; cases h
  | some u =>
    rw [e2] at h
    cases h
    exact ds_expr ((E _ u e2).1 true)
 ·cases h
theorem sndS:∀ (n:Nat) {tc:Tc},FitsS X W tc o k → ∀ (st:Stmt) (t:S),trS n tc st = some t → PS X st (tS X W (evS o t)):=by
 intro n
 induction n with
 | zero =>intro tc F st t h; exact nope h
 | succ n ih' =>
   intro tc F st t h
   have ih:=fun st t h =>ih' F st t h
   have E:=fun e t h =>sndE depthE F.toFits e t h
   cases st with
   | Assign tgs e pos =>
     rw [trS_succ] at h; delta trSb at h; dsimp only at h
     exact trA_ok F h
   | Expr e pos =>
     rw [trS_succ] at h; delta trSb at h; dsimp only at h
     exact trX_ok F h
   | If c a b pos =>
     rw [trS_succ] at h; delta trSb at h; dsimp only at h
     cases e1:trE depthE tc c with
     | none =>rw [e1] at h; cases h
     | some u =>
       cases e2:trSs (trS n tc) a with
       | none =>simp [e1,e2] at h
       | some sa =>
         cases e3:trSs (trS n tc) b with
         | none =>simp [e1,e2,e3] at h
         | some sb =>
           simp only [e1,e2,e3,Option.bind_some,Option.map_some,Option.some.injEq] at h
           split at h
           ·subst h; exact ds_ifq (E c u e1).2 (sndSs ih e2) (sndSs ih e3)
           ·subst h; exact ds_if (E c u e1).2 (sndSs ih e2) (sndSs ih e3)
   | For tg iter body orelse pos =>
     cases orelse with
     | cons _ _ =>exact nope h
     | nil =>
       rw [trS_succ] at h; delta trSb at h; dsimp only at h
       cases e1:trTg tc tg with
       | none =>rw [e1] at h; cases h
       | some g =>
         cases e2:trI tc (trE depthE tc) (isTupE tg) iter with
         | none =>simp [e1,e2] at h
         | some it =>
           cases e3:trSs (trS n tc) body with
           | none =>simp [e1,e2,e3] at h
           | some sb =>
             simp [e1,e2,e3] at h
             subst h
             obtain ⟨gg,hg⟩:=tg_ok F e1
             obtain ⟨hi,hs⟩:=iter_ok F.toFits E tg e2 false
             exact ds_forW (passes F.toFits) F.calm hg hi (sndSs ih e3) hs
   | While c body orelse pos =>
     cases orelse with
     | cons _ _ =>exact nope h
     | nil =>
       rw [trS_succ] at h; delta trSb at h; dsimp only at h
       cases e1:trE depthE tc c with
       | none =>rw [e1] at h; cases h
       | some u =>
         cases e3:trSs (trS n tc) body with
         | none =>simp [e1,e3] at h
         | some sb =>
           simp [e1,e3] at h
           subst h
           exact ds_while (passes F.toFits) (E c u e1).2 (sndSs ih e3)
   | Return v pos =>
     cases v with
     | none =>
       rw [trS_succ] at h; delta trSb at h; simp only [Option.some.injEq] at h
       subst h
       exact ds_retn
     | some e =>
       rw [trS_succ] at h; delta trSb at h; dsimp only at h
       cases e1:trE depthE tc e with
       | none =>rw [e1] at h; cases h
       | some u =>
         rw [e1] at h
         simp only [Option.bind_some] at h
         split at h
         ·cases h
         rename_i hc
         cases h
         by_cases hv:∃ i,u = .var i
         ·obtain ⟨i,rfl⟩:=hv
          cases e with
          | Name x px =>
            rw [show depthE = 39 + 1 from rfl,trE_name] at e1
            split at e1
            ·rename_i hv
             obtain ⟨h1,h2,h3⟩:=visB_ok F.toFits hv
             cases e2:nameIx tc.N x with
             | none =>rw [e2] at e1; cases e1
             | some j =>
               rw [e2] at e1
               cases e1
               exact ds_retv (by rw [F.N]; exact nameIx_get e2) h1 h2 h3
            ·split at e1
             ·split at e1 <;> cases e1
             ·cases e1
          | _ =>simp [isVar,isName] at hc
         ·exact ds_ret (fun i z =>hv ⟨i,z⟩) ((E e u e1).1 false)
   | Pass pos =>rw [trS_succ] at h; delta trSb at h; simp only [Option.some.injEq] at h; subst h; exact ds_pass
   | Break pos =>rw [trS_succ] at h; delta trSb at h; simp only [Option.some.injEq] at h; subst h; exact ds_brk
   | Continue pos =>rw [trS_succ] at h; delta trSb at h; simp only [Option.some.injEq] at h; subst h; exact ds_cont
   | _ =>exact nope h
end
end Z

namespace Z
open PySem PySem.Spec PyProof.Rows L2
structure Df where
 name:Str
 qual:Str
 st:Stmt
 N:List Str
 ps:List Str
 fd:Fd
noncomputable def glOf:Nat → List Df → List (Str × Gk)
 | _,[] =>[]
 | i,d :: l =>(d.name,.fn i d.ps.length) :: glOf (i + 1) l
theorem glOf_get {x:Str} {j np:Nat}:∀ {l:List Df} {i:Nat},(glOf i l).lookup x = some (.fn j np) → ∃ d k,j = i + k ∧ l[k]? = some d ∧ d.name = x ∧ d.ps.length = np
 | [],_,h =>by simp [glOf] at h
 | d :: l,i,h =>by
   simp only [glOf,List.lookup_cons] at h
   cases e:(x == d.name) with
   | true =>
     rw [e] at h
     simp only [Option.some.injEq,Gk.fn.injEq] at h
     exact ⟨d,0,by omega,rfl,(eq_of_beq e).symm,h.2⟩
   | false =>
     rw [e] at h
     obtain ⟨d',k,h1,h2,h3⟩:=glOf_get h
     exact ⟨d',k + 1,by omega,by simpa using h2,h3⟩
noncomputable def NoFn (cs:List (Str × Gk)):Prop:=∀ p ∈ cs,∀ i np,p.2 ≠ .fn i np
theorem lookup_append {α:Type} {x:Str}:∀ {l m:List (Str × α)},(l ++ m).lookup x = (l.lookup x).or (m.lookup x)
 | [],m =>by simp
 | (y,g) :: l,m =>by
   simp only [List.cons_append,List.lookup_cons]
   cases (x == y)
   ·exact lookup_append
   ·rfl
theorem lookup_mem {α:Type} {x:Str} {v:α}:∀ {l:List (Str × α)},l.lookup x = some v → (x,v) ∈ l
 | [],h =>by simp at h
 | (y,g) :: l,h =>by
   simp only [List.lookup_cons] at h
   cases e:(x == y) with
   | true =>
     rw [e] at h
     cases h
     have:=eq_of_beq e
     subst this
     exact List.mem_cons_self
   | false =>rw [e] at h; exact List.mem_cons_of_mem _ (lookup_mem h)
theorem glAll_get {x:Str} {j np:Nat} {l:List Df} {cs:List (Str × Gk)} (hc:NoFn cs) (h:(glOf 0 l ++ cs).lookup x = some (.fn j np)):∃ d k,j = 0 + k ∧ l[k]? = some d ∧ d.name = x ∧ d.ps.length = np:=by
 rw [lookup_append] at h
 cases e:(glOf 0 l).lookup x with
 | some q =>
   rw [e] at h
   cases h
   exact glOf_get e
 | none =>
   rw [e] at h
   exact absurd rfl (hc _ (lookup_mem h) j np)
structure DfOk (gl:List (Str × Gk)) (d:Df):Prop where
 sc:FnScope d.N d.ps (defScope d.st)
 np:d.ps.length = d.fd.np
 ns:d.N.length = d.fd.ns
 tr:trSs (trS 40 ⟨d.N,defScope d.st,gl⟩) (defBody d.st) = some d.fd.body
section
variable {P:Program} {w:World} {K:PySem.W.Frag} {mg:Str → Option Value} {base:Heap} {W:Wd} {p:Prg} {w0:Nat} {gl:List (Str × Gk)}
noncomputable def DfAt (K:PySem.W.Frag) (mg:Str → Option Value) (d:Df):Prop:=∃ f fd,Fun K d.name d.qual d.st f fd ∧ Binds K fd d.ps [] ∧ mg d.name = some (.ref f)
noncomputable def AllOk (P:Program) (w:World) (K:PySem.W.Frag) (mg:Str → Option Value) (base:Heap) (W:Wd) (p:Prg) (w0:Nat) (gl:List (Str × Gk)) (n:Nat):Prop :=
 ∀ x i np,gl.lookup x = some (.fn i np) → ∃ f fd ps,mg x = some (.ref f) ∧ PySem.W.keepIn K (.ref f) = true ∧ Binds K fd ps [] ∧ FnOk P w K mg base CX0 n f fd ps (spFn W ((orc p w0 n).fn i) np)
theorem fn_step {d:Df} {i n:Nat} {f:Addr} {fd:FuncData} (hk:W.K = K) (F:Fun K d.name d.qual d.st f fd) (ok:DfOk gl d) (hi:p.fns[i]? = some d.fd) (ih:AllOk P w K mg base W p w0 gl n)
 (hgb:∀ x ∈ bltNames,gl.lookup x = none → mg x = none) (hgv:∀ x d,gl.lookup x = some (.val d) → ∃ u v,mg x = some u ∧ RelV v u ∧ ∀ G,Rep W G d v) (hgd:∀ x ks vs,gl.lookup x = some (.dct ks vs) → ∃ ad,mg x = some (.ref ad) ∧ KDct P w W ad ks vs):FnOk P w K mg base CX0 (n + 1) f fd d.ps (spFn W ((orc p w0 (n + 1)).fn i) d.ps.length):=by
 have e:(orc p w0 (n + 1)).fn i = runFn (orc p w0 n) ⟨d.ps.length,d.N.length,d.fd.body⟩:=by
  funext a
  have e2:d.fd = ⟨d.ps.length,d.N.length,d.fd.body⟩:=by
   rw [ok.np,ok.ns]
  show (match p.fns[i]? with | some d =>runFn (orc p w0 n) d a | none =>.stuck) = _
  rw [hi,← e2]
 rw [e]
 have tr:=ok.tr
 refine fn_sound F ok.sc rfl rfl (fun cdv A outer s H E hr =>?_) hk
 have FT:FitsS (cxOf CX0 P w K mg base d.N d.qual (defScope d.st) f cdv A outer s H E).nox W ⟨d.N,defScope d.st,gl⟩ (orc p w0 n) n:=⟨⟨rfl,ok.sc.nd,rfl,hk,hr,rfl,rfl,ih,hgb,hgv,hgd⟩,fun _ =>rfl⟩
 exact sndSs (sndS 40 FT) tr
theorem fns_all {ds:List Df} {cs:List (Str × Gk)} (hcs:NoFn cs) (hk:W.K = K) (hp:p.fns = ds.map (·.fd)) (hok:∀ d ∈ ds,DfOk (glOf 0 ds ++ cs) d) (hat:∀ d ∈ ds,DfAt K mg d) (hgb:∀ x ∈ bltNames,(glOf 0 ds ++ cs).lookup x = none → mg x = none)
 (hgv:∀ x d,(glOf 0 ds ++ cs).lookup x = some (.val d) → ∃ u v,mg x = some u ∧ RelV v u ∧ ∀ G,Rep W G d v) (hgd:∀ x ks vs,(glOf 0 ds ++ cs).lookup x = some (.dct ks vs) → ∃ ad,mg x = some (.ref ad) ∧ KDct P w W ad ks vs) :
 ∀ n,AllOk P w K mg base W p w0 (glOf 0 ds ++ cs) n:=by
 intro n
 induction n with
 | zero =>
   intro x i np h
   obtain ⟨d,k,h1,h2,h3,h4⟩:=glAll_get hcs h
   obtain ⟨f,fd,F,b,m⟩:=hat d (List.mem_of_getElem? h2)
   refine ⟨f,fd,d.ps,by rw [← h3]; exact m,F.kp,b,fun vs H Q E q =>by rw [h4]; exact q.1,fun A outer s H args us vs Q E _ _ _ _ q =>?_⟩
   obtain ⟨_,_,_,_,_,_,r,e,_⟩:=q
   cases e
 | succ n ih =>
   intro x i np h
   obtain ⟨d,k,h1,h2,h3,h4⟩:=glAll_get hcs h
   obtain ⟨f,fd,F,b,m⟩:=hat d (List.mem_of_getElem? h2)
   refine ⟨f,fd,d.ps,by rw [← h3]; exact m,F.kp,b,?_⟩
   have:=fn_step (i:=i) hk F (hok d (List.mem_of_getElem? h2)) (by rw [hp,List.getElem?_map,h1,Nat.zero_add,h2]; rfl) ih hgb hgv hgd
   rw [h4] at this
   exact this
end
structure CsOk (P:Program) (w:World) (W:Wd) (mg:Str → Option Value) (q:Str × Gk):Prop where
 val:∀ d,q.2 = .val d → ∃ u v,mg q.1 = some u ∧ RelV v u ∧ ∀ G,Rep W G d v
 dct:∀ ks vs,q.2 = .dct ks vs → ∃ ad,mg q.1 = some (.ref ad) ∧ KDct P w W ad ks vs
theorem glOf_noval {x:Str} {g:Gk}:∀ {l:List Df} {i:Nat},(glOf i l).lookup x = some g → ∃ j np,g = .fn j np
 | [],_,h =>by simp [glOf] at h
 | d :: l,i,h =>by
   simp only [glOf,List.lookup_cons] at h
   cases e:(x == d.name) with
   | true =>rw [e] at h; cases h; exact ⟨_,_,rfl⟩
   | false =>rw [e] at h; exact glOf_noval h
theorem cs_all {P:Program} {w:World} {W:Wd} {mg:Str → Option Value} {ds:List Df} {cs:List (Str × Gk)} (h:∀ q ∈ cs,CsOk P w W mg q):(∀ x d,(glOf 0 ds ++ cs).lookup x = some (.val d) → ∃ u v,mg x = some u ∧ RelV v u ∧ ∀ G,Rep W G d v) ∧
 ∀ x ks vs,(glOf 0 ds ++ cs).lookup x = some (.dct ks vs) → ∃ ad,mg x = some (.ref ad) ∧ KDct P w W ad ks vs:=by
 have key:∀ x g,(glOf 0 ds ++ cs).lookup x = some g → (∀ j np,g ≠ .fn j np) → (x,g) ∈ cs:=fun x g e hn =>by
  rw [lookup_append] at e
  cases e1:(glOf 0 ds).lookup x with
  | some q =>
    rw [e1] at e
    cases e
    obtain ⟨j,np,rfl⟩:=glOf_noval e1
    exact absurd rfl (hn j np)
  | none =>rw [e1] at e; exact lookup_mem e
 exact ⟨fun x d e =>(h _ (key x _ e (by simp))).val d rfl,fun x ks vs e =>(h _ (key x _ e (by simp))).dct ks vs rfl⟩
theorem str_k {W:Wd} {x:List Nat} (h:x.length ≤ 1000):∀ G,Rep W G (.str x) (.str (strV x)):=fun G =>by
 simp only [Rep]; exact ⟨trivial,by omega⟩
noncomputable def entK (w:World) (q:List Nat × Tok × List Nat × Tok):DictEntry:=⟨PyData.keyHash w.params (strV q.1),.str (strV q.1) q.2.1,.str (strV q.2.2.1) q.2.2.2⟩
theorem dct_k {P:Program} {w:World} {W:Wd} {a:Addr} {ep:Nat} {es:Array DictEntry} {qs:List (List Nat × Tok × List Nat × Tok)} (h:W.K.lookup a = some { cls:=.type "dict",data:=.dict es ep }) (he:es.toList = qs.map (entK w)) (hn:(qs.map (·.1)).Nodup) (hl:∀ q ∈ qs,q.2.2.1.length ≤ 1000) :
 KDct P w W a (qs.map fun q =>.s q.1) (qs.map fun q =>.str q.2.2.1):=by
 have hnk:((qs.map fun q =>((.inr (strV q.1):Key),(Value.str (strV q.2.2.1) q.2.2.2))).map (·.1)).Nodup:=by
  rw [List.map_map]
  refine List.pairwise_map.mpr ((List.pairwise_map.mp hn).imp fun z e =>z ?_)
  have:strV _ = strV _:=Sum.inr.inj e
  exact strV_inj this
 refine ⟨qs.map fun q =>(.inr (strV q.1),.str (strV q.2.2.1) q.2.2.2),fun hp hK =>⟨_,es,ep,hK a _ h,⟨rfl,rfl,rfl⟩,rfl,fun e hm =>?_,?_,hnk⟩,fun x d e =>?_⟩
 ·have:e ∈ es.toList:=by simpa using hm
  rw [he] at this
  obtain ⟨q,_,rfl⟩:=List.mem_map.mp this
  exact ⟨.inr (strV q.1),by simp [mixKind,keyIs,entK,Value.isStrOf],rfl⟩
 ·rw [he]
  clear he hn hl hnk h
  induction qs with
  | nil =>exact .nil
  | cons q qs ih =>exact .cons (by simp [mixKind,keyIs,entK,Value.isStrOf]) rfl ih
 ·clear he hnk h
  induction qs with
  | nil =>simp [look] at e
  | cons q qs ih =>
    simp only [List.map_cons,look] at e
    split at e
    ·rename_i ex
     subst ex
     cases e
     exact ⟨.str (strV q.2.2.1) q.2.2.2,.str (strV q.2.2.1),by simp [valueAt,keyV],⟨_,rfl⟩,str_k (hl q List.mem_cons_self)⟩
    ·rename_i ex
     obtain ⟨u,v,h1,h2,h3⟩:=ih (List.nodup_cons.mp hn).2 (fun q hq =>hl q (List.mem_cons_of_mem _ hq)) e
     refine ⟨u,v,?_,h2,h3⟩
     simp only [valueAt,List.map_cons,List.find?_cons] at h1 ⊢
     rw [show decide ((Sum.inr (strV q.1):Key) = keyV x) = false from decide_eq_false fun z =>ex (keyV_inj (x:=.s q.1) z)]
     exact h1
theorem reps_ints {W:Wd} {G:Hp}:∀ ns:List Int,Reps W G (ns.map .int) (ns.map V.int)
 | [] =>by simp only [List.map_nil,Reps]
 | n :: ns =>by simp only [List.map_cons,Reps,Rep]; exact ⟨trivial,reps_ints ns⟩
noncomputable def spZ (K:PySem.W.Frag) (p:Prg) (n i:Nat):Sp:=fun vs H Q E =>∃ w0,∀ CT,spFn ⟨K,CT⟩ ((orc p w0 n).fn i) 1 vs H Q E
theorem spZ_law {K:PySem.W.Frag} {p:Prg} {n i:Nat} {H:Hp} {a:Addr} {ns:List Int} (hp:∃ w0,(orc p w0 n).fn i [.lst (ns.map .int)] = .ok (false,.bl true)) (hS:SqL K H a (ns.map V.int)):spZ K p n i [.ref a] H (fun v _ =>v = .bl true) fun _ _ _ =>False:=by
 obtain ⟨w0,e⟩:=hp
 refine ⟨w0,fun CT =>⟨rfl,fun _ =>False,[.lst (ns.map .int)],fun _ z =>z.elim,fun _ z =>z.elim,?_,_,e,fun v H' s q =>?_⟩⟩
 ·simp only [Reps,Rep]
  refine ⟨⟨a,_,rfl,?_,reps_ints ns⟩,trivial⟩
  have:Same H (vis H fun _ =>False):=fun b o h =>vis_of h fun z =>z
  exact this.seq hS
 ·have:=q.look
  simp only [RepT,Rep] at this
  exact this
theorem walkZ {l:PySem.W.OpenLaw} {q:Program} {loose:List Str} {XP:(Str → Option Value) → Heap → Prop} {YP:World → Heap → Prop} {d:DefRec} {K:Params → PySem.W.Frag} {p:Prg} {n i:Nat} {x:Str}
 (hn:l.most = some 63) (hdf:d.params.defaults = []) (hr:Room n callerA) (hY:∀ (w:World) (h:Heap),YP w h → (K w.params).In h)
 (F:∀ (w:World) (mg:Str → Option Value) (fa:Addr) (h:Heap),(K w.params).In h → h.Ns mainGlobals mg → mg d.name = some (.ref fa) →
  ∃ (fd:FuncData) (CT:Nat → Addr),(∀ (s:Shared) (u:Value),BindsTo s fd ⟨[u],[]⟩ [(x,u)]) ∧ ∀ (base:Heap) (w0:Nat),FnOk l.prog w (K w.params) mg base CX0 n fa fd [x] (spFn ⟨K w.params,CT⟩ ((orc p w0 n).fn i) 1))
 (hp:∀ ns:List Int,ns.length ≤ 63 → ∃ w0,(orc p w0 n).fn i [.lst (ns.map .int)] = .ok (false,.bl true)) :
 PySem.W.WalkO q loose XP YP l.row.toRowW d [] (fun f vs =>PySem.call f vs):=by
 refine L2.walk_of (n:=63) (k:=n) (x:=x) (CX:=fun _ =>CX0) (sp:=fun w =>spZ (K w.params) p n i) hn (by decide) hdf hr hY (fun w mg fa h KX G hm =>?_) (fun w H a ns hl _ hS =>spZ_law (hp ns hl) hS) fun _ _ _ _ _ z =>z
 obtain ⟨fd,CT,hb,hF⟩:=F w mg fa h KX G hm
 refine ⟨fd,hb,fun base _ _ =>⟨fun vs H Q E ⟨w0,q⟩ =>(hF base w0).len vs H Q E (q CT),fun A outer s H args us vs Q E hr he hb hv ⟨w0,hs⟩ =>(hF base w0).run A outer s H args us vs Q E hr he hb hv (hs CT)⟩⟩
theorem us1 {α:Type} {P:List α → Prop} (h:∀ a,P [a]):∀ us:List α,us.length = 1 → P us
 | [a],_ =>h a
theorem us2 {α:Type} {P:List α → Prop} (h:∀ a b,P [a,b]):∀ us:List α,us.length = 2 → P us
 | [a,b],_ =>h a b
theorem us3 {α:Type} {P:List α → Prop} (h:∀ a b c,P [a,b,c]):∀ us:List α,us.length = 3 → P us
 | [a,b,c],_ =>h a b c
theorem us4 {α:Type} {P:List α → Prop} (h:∀ a b c d,P [a,b,c,d]):∀ us:List α,us.length = 4 → P us
 | [a,b,c,d],_ =>h a b c d
noncomputable def BindP (d:Df):Prop:=∀ (kV doc pm:Value) (an:Option Addr) (cdv ct:Value) (us:List Value),us.length = d.ps.length → bindArgs (PySem.W.fnOf d.name d.qual (defArgs d.st) (defBody d.st) (defScope d.st) .none kV doc pm an cdv ct) ⟨us,[]⟩ = pure (d.ps.zip us)
theorem bindP1 {d:Df} (hn:d.ps.length = 1) (h:∀ (kV doc pm:Value) (an:Option Addr) (cdv ct:Value) (a:Value),bindArgs (PySem.W.fnOf d.name d.qual (defArgs d.st) (defBody d.st) (defScope d.st) .none kV doc pm an cdv ct) ⟨[a],[]⟩ = pure (d.ps.zip [a])):BindP d:=fun kV doc pm an cdv ct us hl =>us1 (P:=fun us =>bindArgs (PySem.W.fnOf d.name d.qual (defArgs d.st) (defBody d.st) (defScope d.st) .none kV doc pm an cdv ct) ⟨us,[]⟩ = pure (d.ps.zip us)) (h kV doc pm an cdv ct) us (hl.trans hn)
theorem bindP2 {d:Df} (hn:d.ps.length = 2) (h:∀ (kV doc pm:Value) (an:Option Addr) (cdv ct:Value) (a b:Value),bindArgs (PySem.W.fnOf d.name d.qual (defArgs d.st) (defBody d.st) (defScope d.st) .none kV doc pm an cdv ct) ⟨[a,b],[]⟩ = pure (d.ps.zip [a,b])):BindP d:=fun kV doc pm an cdv ct us hl =>us2 (P:=fun us =>bindArgs (PySem.W.fnOf d.name d.qual (defArgs d.st) (defBody d.st) (defScope d.st) .none kV doc pm an cdv ct) ⟨us,[]⟩ = pure (d.ps.zip us)) (h kV doc pm an cdv ct) us (hl.trans hn)
theorem bindP3 {d:Df} (hn:d.ps.length = 3) (h:∀ (kV doc pm:Value) (an:Option Addr) (cdv ct:Value) (a b c:Value),bindArgs (PySem.W.fnOf d.name d.qual (defArgs d.st) (defBody d.st) (defScope d.st) .none kV doc pm an cdv ct) ⟨[a,b,c],[]⟩ = pure (d.ps.zip [a,b,c])):BindP d:=fun kV doc pm an cdv ct us hl =>us3 (P:=fun us =>bindArgs (PySem.W.fnOf d.name d.qual (defArgs d.st) (defBody d.st) (defScope d.st) .none kV doc pm an cdv ct) ⟨us,[]⟩ = pure (d.ps.zip us)) (h kV doc pm an cdv ct) us (hl.trans hn)
theorem bindP4 {d:Df} (hn:d.ps.length = 4) (h:∀ (kV doc pm:Value) (an:Option Addr) (cdv ct:Value) (a b c e:Value),bindArgs (PySem.W.fnOf d.name d.qual (defArgs d.st) (defBody d.st) (defScope d.st) .none kV doc pm an cdv ct) ⟨[a,b,c,e],[]⟩ = pure (d.ps.zip [a,b,c,e])):BindP d:=fun kV doc pm an cdv ct us hl =>us4 (P:=fun us =>bindArgs (PySem.W.fnOf d.name d.qual (defArgs d.st) (defBody d.st) (defScope d.st) .none kV doc pm an cdv ct) ⟨us,[]⟩ = pure (d.ps.zip us)) (h kV doc pm an cdv ct) us (hl.trans hn)
theorem df_mk {K:PySem.W.Frag} {h:Heap} {mg:Str → Option Value} {d:Df} {f:Addr} {od an:Option Addr} {sl:Array (Option Value)} {oc kV dc pm cd ct:Value} (X:K.In h) (G:h.Ns mainGlobals mg)
 (a:PySem.W.nsIn K mainGlobals d.name = some (some (.ref f))) (l:K.lookup f = some ⟨oc,od,.func (PySem.W.fnOf d.name d.qual (defArgs d.st) (defBody d.st) (defScope d.st) .none kV dc pm an cd ct),sl⟩) (c:PySem.W.codeIn K cd d.qual = true) (k:PySem.W.keepIn K (.ref f) = true)
 (hb:BindP d):DfAt K mg d :=
 ⟨f,_,fun_mk l c k,(fun_mk (st:=d.st) l c k).binds hb,PySem.W.mg_of X G a⟩
end Z

namespace KG
open Z
theorem evSs_nx {o:Orc} {s:S} {l:SL} {δ δ':Dst} (h:evS o s δ = .nx δ'):evSs o (.cons s l) δ = evSs o l δ':=by simp only [evSs,h]
theorem fmod_range (a b:Int) (hb:0 < b):0 ≤ a.fmod b ∧ a.fmod b < b:=⟨Int.fmod_nonneg_of_pos a hb,Int.fmod_lt_of_pos a hb⟩
noncomputable def L26:List Nat:=[97,98,99,100,101,102,103,104,105,106,107,108,109,110,111,112,113,114,115,116,117,118,119,120,121,122]
noncomputable def S36:List Nat:=L26 ++ [48,49,50,51,52,53,54,55,56,57]
noncomputable def lt (j:Int):Nat:=L26.getD (j.fmod 26).toNat 0
noncomputable def sg (j:Int):Nat:=S36.getD (j.fmod 36).toNat 0
theorem idx_str (x:List Nat) (j:Int) (h0:0 ≤ j) (h1:j < x.length):idxD (.str x) (.int j) = .ok (false,.str [x.getD j.toNat 0]):=by
 have hn:j.toNat < x.length:=by omega
 simp only [idxD,place,if_pos h0,if_pos h1,Option.bind_some,R.of]
 rw [List.getElem?_eq_getElem hn]
 simp [List.getD_eq_getElem?_getD,List.getElem?_eq_getElem hn]
theorem comp_map {f c:List D → R (Bool × D)} {g:D → D}:∀ {l:List D},(∀ d ∈ l,c [d] = .ok (false,.bl true)) → (∀ d ∈ l,∃ w,f [d] = .ok (w,g d)) → compGo f c 1 false l = .ok (l.map g)
 | [],_,_ =>rfl
 | d :: l,hc,hf =>by
   obtain ⟨w,e⟩:=hf d List.mem_cons_self
   have ih:=comp_map (fun d h =>hc d (List.mem_cons_of_mem _ h)) (fun d h =>hf d (List.mem_cons_of_mem _ h))
   simp only [compGo,takes,Bool.false_eq_true,if_false,R.of,R.bind,hc d List.mem_cons_self,truth,if_true,e,ih,List.map_cons]
theorem comp_filter {f c:List D → R (Bool × D)} {g:D → D} {q:D → Bool}:∀ {l:List D},(∀ d ∈ l,c [d] = .ok (false,.bl (q d))) → (∀ d ∈ l,q d = true → ∃ w,f [d] = .ok (w,g d)) → compGo f c 1 false l = .ok ((l.filter q).map g)
 | [],_,_ =>rfl
 | d :: l,hc,hf =>by
   have ih:=comp_filter (fun d h =>hc d (List.mem_cons_of_mem _ h)) (fun d h =>hf d (List.mem_cons_of_mem _ h))
   cases hq:q d with
   | true =>
     obtain ⟨w,e⟩:=hf d List.mem_cons_self hq
     simp only [compGo,takes,Bool.false_eq_true,if_false,R.of,R.bind,hc d List.mem_cons_self,truth,hq,if_true,e,ih,List.filter_cons_of_pos hq,List.map_cons]
   | false =>
     simp only [compGo,takes,Bool.false_eq_true,if_false,R.of,R.bind,hc d List.mem_cons_self,truth,hq,ih,List.filter_cons_of_neg (show ¬ q d = true by simp [hq])]
theorem comp_tup {f c:List D → R (Bool × D)} {m:Nat} {g:List D → D}:∀ {l:List (List D)},(∀ x ∈ l,x.length = m) → (∀ x ∈ l,c x = .ok (false,.bl true)) → (∀ x ∈ l,∃ w,f x = .ok (w,g x)) → compGo f c m true (l.map D.tup) = .ok (l.map g)
 | [],_,_,_ =>rfl
 | x :: l,hm,hc,hf =>by
   obtain ⟨w,e⟩:=hf x List.mem_cons_self
   have ih:=comp_tup (fun d h =>hm d (List.mem_cons_of_mem _ h)) (fun d h =>hc d (List.mem_cons_of_mem _ h)) (fun d h =>hf d (List.mem_cons_of_mem _ h))
   simp only [List.map_cons,compGo,takes,if_true,hm x List.mem_cons_self,R.of,R.bind,hc x List.mem_cons_self,truth,e,ih]
noncomputable def nmSize (cell base:Int):Int:=if (base.fdiv 8).fmod 2 = 1 then 1 + (base + cell).fmod 8 else 1 + base.fmod 8
noncomputable def nmRow (cell base:Int):List Nat:=((List.range (nmSize cell base).toNat).map fun (k:Nat) =>sg (base.fdiv 3 + 5 * (k:Int))).set 0 (lt (base.fdiv 3))
noncomputable def nmPlace (cell base:Int):Int:=(base.fdiv 16).fmod (nmSize cell base)
noncomputable def nmRow2 (cell base:Int):List Nat:=if nmPlace cell base = 0 then (nmRow cell base).set 0 (lt (base.fdiv 5 + cell)) else (nmRow cell base).set (nmPlace cell base).toNat (sg (base.fdiv 5 + cell))
noncomputable def wordsD:List (List Nat):=[[97,110,100],[111,114],[110,111,116],[115,111,109,101],[97,108,108],[97,108,105,107,101],[98,121]]
noncomputable def nm (cell base:Int):List Nat:=if nmRow2 cell base ∈ wordsD then nmRow2 cell base ++ [57] else nmRow2 cell base
theorem mul5 (k:Int):mulOk 5 k = true:=by
 have:bits 5 ≤ 64:=by decide
 simp [mulOk,this]
section
variable (o:Orc) (cell base:Int)
end
end KG

namespace KG
open Z
theorem runFn_at {o:Orc} {f:Fd} {args:List D} {w:Bool} {d:D} {δ0:Dst} (ha:args.length = f.np) (h0:args.map (fun d =>some (Own.sh,d)) ++ List.replicate (f.ns - f.np) none = δ0) (h:∃ δ,evSs o f.body δ0 = .rt w d δ):runFn o f args = .ok (w,d):=by
 obtain ⟨δ,h⟩:=h
 simp only [runFn,ha,if_true,h0,h]
theorem stp {o:Orc} {s:S} {l:SL} {δ:Dst} {w:Bool} {d:D} (δ':Dst) (h:evS o s δ = .nx δ') (k:∃ δ1,evSs o l δ' = .rt w d δ1):∃ δ1,evSs o (.cons s l) δ = .rt w d δ1:=by
 obtain ⟨δ1,k⟩:=k
 exact ⟨δ1,(evSs_nx h).trans k⟩
theorem stpR {o:Orc} {s:S} {l:SL} {δ:Dst} {w:Bool} {d:D} {δ':Dst} (h:evS o s δ = .rt w d δ'):∃ δ1,evSs o (.cons s l) δ = .rt w d δ1:=⟨δ',by simp only [evSs,h]⟩
noncomputable def cellFd:Fd:=⟨2,2,(SL.cons (S.ifs (T.op2 .lt (T.var 1) (T.b1 .len (T.var 0))) (SL.cons (S.ret (T.idx (T.var 0) (T.var 1))) SL.nil) SL.nil) (SL.cons (S.ret (T.cst (D.int 0))) SL.nil))⟩
theorem cell_run (o:Orc) (ns:List Int) (k:Nat):runFn o cellFd [.lst (ns.map .int),.int (k:Int)] = .ok (false,.int (ns.getD k 0)):=by
 by_cases h:k < ns.length
 ·have h':(k:Int) < (ns.length:Int):=by omega
  have h0:(0:Int) ≤ k:=by omega
  simp [runFn,cellFd,evSs,evS,evF,ev,R.bind,o2,b1D,arith,truth,R.of,SO.of,h,h',idxD,place,h0,List.getD_eq_getElem?_getD,List.getElem?_eq_getElem h]
 ·have h':¬ (k:Int) < (ns.length:Int):=by omega
  have h2:ns[k]? = none:=List.getElem?_eq_none (by omega)
  simp [runFn,cellFd,evSs,evS,evF,ev,R.bind,o2,b1D,arith,truth,R.of,SO.of,h,h',List.getD_eq_getElem?_getD,h2]
theorem idx_int (x:List Int) (k:Nat) (h:k < x.length):idxD (.lst (x.map .int)) (.int (k:Int)) = .ok (false,.int (x.getD k 0)):=by
 have h0:(0:Int) ≤ k:=by omega
 simp [idxD,place,h0,h,R.of,List.getD_eq_getElem?_getD,List.getElem?_eq_getElem h]
noncomputable def sameFd (ix:Nat):Fd:=⟨2,2,(SL.cons (S.ifs (T.isin (T.var 1) .tup) (SL.cons (S.ifs (T.or (T.not (T.isin (T.var 0) .tup)) (T.op2 .ne (T.b1 .len (T.var 0)) (T.b1 .len (T.var 1)))) (SL.cons (S.ret (T.cst (D.bl false))) SL.nil) SL.nil) (SL.cons (S.ret (T.b1 .all (T.comp [1,0] 1 false (TI.rng1 (T.b1 .len (T.var 1))) (T.cst (D.bl true)) (T.call ix (TL.cons (T.idx (T.var 2) (T.var 0)) (TL.cons (T.idx (T.var 1) (T.var 0)) TL.nil)))))) SL.nil)) SL.nil) (SL.cons (S.ifs (T.isin (T.var 1) .str) (SL.cons (S.ret (T.and (T.isin (T.var 0) .str) (T.op2 .eq (T.var 0) (T.var 1)))) SL.nil) SL.nil) (SL.cons (S.ret (T.and (T.isin (T.var 0) .int) (T.and (T.not (T.isin (T.var 0) .bool)) (T.op2 .eq (T.var 0) (T.var 1))))) SL.nil)))⟩
theorem boolsOf_true:∀ n:Nat,boolsOf (List.replicate n (.bl true)) = some (List.replicate n true)
 | 0 =>rfl
 | n + 1 =>by simp [List.replicate_succ,boolsOf,boolsOf_true n]
theorem idx_tup (x:List D) (k:Nat) (h:k < x.length):idxD (.tup x) (.int (k:Int)) = .ok (false,x[k]):=by
 have h0:(0:Int) ≤ k:=by omega
 simp [idxD,place,h0,h,R.of,List.getElem?_eq_getElem h]
theorem immL_repl:∀ n:Nat,immL (List.replicate n (.bl true)) = true
 | 0 =>rfl
 | n + 1 =>by simp [List.replicate_succ,immL,D.imm,immL_repl n]
theorem same_tup (o:Orc) (ix:Nat) (l:List D) (hl:l.length ≤ 1000000) (h:∀ d ∈ l,o.fn ix [d,d] = .ok (false,.bl true)):runFn o (sameFd ix) [.tup l,.tup l] = .ok (false,.bl true):=by
 have hr:inR (l.length:Int) = true:=by simp [inR]; omega
 have hcg:compGo (fun x =>ev o ((x ++ [D.tup l,D.tup l]).map fun d =>some (Own.sh,d)) false (T.call ix (TL.cons (T.idx (T.var 2) (T.var 0)) (TL.cons (T.idx (T.var 1) (T.var 0)) TL.nil)))) (fun x =>ev o ((x ++ [D.tup l,D.tup l]).map fun d =>some (Own.sh,d)) true (T.cst (D.bl true))) 1 false (rngD 0 l.length) = .ok (List.replicate l.length (.bl true)):=by
  rw [comp_map (g:=fun d =>.bl true)]
  ·rw [List.map_const']; simp [rngD]
  ·intro d _
   simp [ev]
  ·intro d hd
   obtain ⟨k,hk,rfl⟩:=List.mem_map.mp hd
   have hk':k < l.length:=by have:=List.mem_range.mp hk; omega
   refine ⟨false,?_⟩
   simp [ev,evL,R.bind,idx_tup l k hk',lkOwn,h _ (List.getElem_mem hk'),lent]
 have hs:size l.length = true:=by simp [size]; omega
 have he:ev o [some (.sh,.tup l),some (.sh,.tup l)] true (T.comp [1,0] 1 false (TI.rng1 (T.b1 .len (T.var 1))) (T.cst (D.bl true)) (T.call ix (TL.cons (T.idx (T.var 2) (T.var 0)) (TL.cons (T.idx (T.var 1) (T.var 0)) TL.nil)))) = .ok (true,.lst (List.replicate l.length (.bl true))):=by
  rw [ev]
  have h1:evI o [some (.sh,.tup l),some (.sh,.tup l)] true (TI.rng1 (T.b1 .len (T.var 1))) = .ok (rngD 0 l.length):=by simp [evI,ev,R.bind,R.chk,b1D,hr]
  have h2:slotsD [some (.sh,.tup l),some (.sh,.tup l)] [1,0] = some [.tup l,.tup l]:=by simp [slotsD,slotD]
  rw [h1,h2]
  simp only [R.bind,R.of]
  rw [hcg]
  simp [R.chk,hs,immL_repl]
 refine runFn_at rfl (δ0:=[some (.sh,.tup l),some (.sh,.tup l)]) rfl ?_
 refine stpR (δ':=[some (.sh,.tup l),some (.sh,.tup l)]) ?_
 rw [evS]
 have hc:((ev o [some (.sh,.tup l),some (.sh,.tup l)] true (T.isin (T.var 1) .tup)).bind fun x =>R.of (truth x.2)) = .ok true:=by simp [ev,R.bind,isD,R.of,truth]
 rw [hc]
 simp only [SO.of,if_true]
 rw [evSs_nx (δ':=[some (.sh,.tup l),some (.sh,.tup l)])]
 ·have he2:ev o [some (.sh,.tup l),some (.sh,.tup l)] false (T.b1 .all (T.comp [1,0] 1 false (TI.rng1 (T.b1 .len (T.var 1))) (T.cst (D.bl true)) (T.call ix (TL.cons (T.idx (T.var 2) (T.var 0)) (TL.cons (T.idx (T.var 1) (T.var 0)) TL.nil))))) = .ok (false,.bl true):=by
   rw [ev,he]
   simp [R.bind,b1D,boolsOf_true,R.of]
  simp only [evSs,evS,evF,he2,SO.of]
 ·simp [evSs,evS,ev,R.bind,isD,R.of,truth,SO.of,o2,eqA,eqS,boolD,b1D]
end KG

namespace KG
open Z
theorem ltS_asymm:∀ x y,ltS x y = true → ltS y x = false
 | [],[],h =>by simp [ltS] at h
 | [],_ :: _,_ =>by simp [ltS]
 | _ :: _,[],h =>by simp [ltS] at h
 | a :: x,b :: y,h =>by
   simp only [ltS] at h ⊢
   by_cases h1:a < b
   ·have:¬ b < a:=by omega
    simp [this,h1]
   ·by_cases h2:b < a
    ·simp [h1,h2] at h
    ·simp only [h1,h2,if_false] at h ⊢
     exact ltS_asymm x y h
theorem ltS_total:∀ x y,ltS x y = false → ltS y x = false → x = y
 | [],[],_,_ =>rfl
 | [],_ :: _,h,_ =>by simp [ltS] at h
 | _ :: _,[],_,h =>by simp [ltS] at h
 | a :: x,b :: y,h,h' =>by
   simp only [ltS] at h h'
   by_cases h1:a < b
   ·simp [h1] at h
   ·by_cases h2:b < a
    ·simp [h2] at h'
    ·simp only [h1,h2,if_false] at h h'
     rw [ltS_total x y h h',show a = b by omega]
theorem ltS_trans:∀ x y z,ltS x y = true → ltS y z = true → ltS x z = true
 | [],[],_,h,_ =>by simp [ltS] at h
 | [],_ :: _,[],_,h =>by simp [ltS] at h
 | [],_ :: _,_ :: _,_,_ =>rfl
 | _ :: _,[],_,h,_ =>by simp [ltS] at h
 | _ :: _,_ :: _,[],_,h =>by simp [ltS] at h
 | a :: x,b :: y,c :: z,h,h' =>by
   simp only [ltS] at h h' ⊢
   by_cases h1:a < b
   ·by_cases h3:b < c
    ·have:a < c:=by omega
     simp [this]
    ·by_cases h4:c < b
     ·simp [h3,h4] at h'
     ·have:a < c:=by omega
      simp [this]
   ·by_cases h2:b < a
    ·simp [h1,h2] at h
    ·simp only [h1,h2,if_false] at h
     by_cases h3:b < c
     ·have:a < c:=by omega
      simp [this]
     ·by_cases h4:c < b
      ·simp [h3,h4] at h'
      ·simp only [h3,h4,if_false] at h'
       have e1:¬ a < c:=by omega
       have e2:¬ c < a:=by omega
       simp only [e1,e2,if_false]
       exact ltS_trans x y z h h'
theorem insS_comm (x y:List Nat):∀ l,insS x (insS y l) = insS y (insS x l)
 | [] =>by
   simp only [insS]
   cases h1:ltS x y <;> cases h2:ltS y x <;> simp [insS]
   ·exact ⟨(ltS_total _ _ h1 h2).symm,ltS_total _ _ h1 h2⟩
   ·have:=ltS_asymm _ _ h1; simp [this] at h2
 | a :: l =>by
   have ih:=insS_comm x y l
   simp only [insS]
   cases hx:ltS x a <;> cases hy:ltS y a <;> simp only [insS,hx,hy,Bool.false_eq_true,if_false,if_true]
   ·rw [ih]
   ·cases h:ltS x y with
    | true =>have:=ltS_trans _ _ _ h hy; simp [this] at hx
    | false =>simp [insS,hx]
   ·cases h:ltS y x with
    | true =>have:=ltS_trans _ _ _ h hx; simp [this] at hy
    | false =>simp [insS,hy]
   ·cases h1:ltS x y <;> cases h2:ltS y x <;> simp [insS,hx,hy]
    ·exact ⟨(ltS_total _ _ h1 h2).symm,ltS_total _ _ h1 h2⟩
    ·have:=ltS_asymm _ _ h1; simp [this] at h2
theorem sortS_eq {l l':List (List Nat)} (h:l.Perm l'):sortS l = sortS l':=by
 induction h with
 | nil =>rfl
 | cons x _ ih =>simp only [sortS,ih]
 | swap x y l =>simp only [sortS,insS_comm]
 | trans _ _ h1 h2 =>exact h1.trans h2
theorem insS_perm (x:List Nat):∀ l,(insS x l).Perm (x :: l)
 | [] =>List.Perm.refl _
 | y :: l =>by
   simp only [insS]
   split
   ·exact List.Perm.refl _
   ·exact ((insS_perm x l).cons y).trans (List.Perm.swap x y l)
theorem sortS_perm:∀ l,(sortS l).Perm l
 | [] =>List.Perm.refl _
 | x :: l =>(insS_perm x _).trans ((sortS_perm l).cons x)
theorem nodup_len {α:Type} [DecidableEq α]:∀ {l m:List α},l.Nodup → (∀ x ∈ l,x ∈ m) → l.length ≤ m.length
 | [],_,_,_ =>by simp
 | a :: l,m,hn,hs =>by
   have ha:a ∈ m:=hs a List.mem_cons_self
   have hn':=List.nodup_cons.mp hn
   have:=nodup_len (m:=m.erase a) hn'.2 fun x hx =>(List.mem_erase_of_ne (show x ≠ a from fun e =>hn'.1 (e ▸ hx))).mpr (hs x (List.mem_cons_of_mem _ hx))
   rw [List.length_erase_of_mem ha] at this
   have hp:0 < m.length:=List.length_pos_of_mem ha
   simp only [List.length_cons]
   omega
theorem perm_of_nodup {α:Type} [DecidableEq α] {l m:List α} (h1:l.Nodup) (h2:m.Nodup) (h:∀ x,x ∈ l ↔ x ∈ m):l.Perm m:=by
 rw [List.perm_iff_count]
 intro a
 by_cases ha:a ∈ l
 ·rw [h1.count,h2.count,if_pos ha,if_pos ((h a).mp ha)]
 ·rw [List.count_eq_zero_of_not_mem ha,List.count_eq_zero_of_not_mem fun x =>ha ((h a).mpr x)]
noncomputable abbrev Pair:=List Nat × Int
noncomputable def addP:List Pair → Pair → List Pair
 | [],p =>[p]
 | (x,v) :: m,p =>if x = p.1 then (x,v + p.2) :: m else (x,v) :: addP m p
noncomputable def ksD (m:List Pair):List DK:=m.map fun p =>.s p.1
noncomputable def vsD (m:List Pair):List D:=m.map fun p =>.int p.2
noncomputable def lookP:List Pair → List Nat → Option Int
 | [],_ =>none
 | (x,v) :: m,n =>if x = n then some v else lookP m n
theorem look_P (n:List Nat):∀ m:List Pair,look (ksD m) (vsD m) (.s n) = (lookP m n).map .int
 | [] =>rfl
 | (x,v) :: m =>by
   have ih:=look_P n m
   simp only [ksD,vsD,List.map_cons,look,lookP] at ih ⊢
   by_cases h:x = n
   ·simp [h]
   ·simp [h,ih]
theorem putKs_P (p:Pair):∀ m:List Pair,putKs (ksD m) (.s p.1) = ksD (addP m p)
 | [] =>rfl
 | (x,v) :: m =>by
   have ih:=putKs_P p m
   simp only [ksD,List.map_cons,putKs,addP] at ih ⊢
   by_cases h:x = p.1
   ·simp [h]
   ·simp [h,ih]
theorem putV_P (p:Pair):∀ m:List Pair,putV (ksD m) (vsD m) (.s p.1) (.int ((lookP m p.1).getD 0 + p.2)) = vsD (addP m p)
 | [] =>by simp [ksD,vsD,putV,addP,lookP]
 | (x,v) :: m =>by
   have ih:=putV_P p m
   simp only [ksD,vsD,List.map_cons,putV,addP,lookP] at ih ⊢
   by_cases h:x = p.1
   ·simp [h]
   ·simp [h,ih]
noncomputable def tot (l:List Pair) (n:List Nat):Int:=((l.filter fun p =>p.1 = n).map (·.2)).sum
noncomputable def gather (l:List Pair):List Pair:=l.foldl addP []
theorem lookP_addP (p:Pair) (n:List Nat):∀ m,lookP (addP m p) n = if p.1 = n then some ((lookP m n).getD 0 + p.2) else lookP m n
 | [] =>by simp [addP,lookP]
 | (x,v) :: m =>by
   have ih:=lookP_addP p n m
   simp only [addP]
   by_cases h:x = p.1
   ·simp only [h,if_true,lookP]
    by_cases h2:p.1 = n <;> simp [h2]
   ·simp only [h,if_false,lookP]
    by_cases h2:x = n
    ·have:¬ p.1 = n:=fun e =>h (h2.trans e.symm)
     simp [h2,this]
    ·simp [h2,ih]
theorem keys_addP (p:Pair) (n:List Nat):∀ m:List Pair,n ∈ (addP m p).map (·.1) ↔ n = p.1 ∨ n ∈ m.map (·.1)
 | [] =>by simp [addP]
 | (x,v) :: m =>by
   have ih:=keys_addP p n m
   simp only [addP]
   by_cases h:x = p.1
   ·simp [h]
   ·simp only [h,if_false,List.map_cons,List.mem_cons,ih]
    constructor
    ·rintro (h | h | h) <;> simp [h]
    ·rintro (h | h | h) <;> simp [h]
theorem nodup_addP (p:Pair):∀ m:List Pair,(m.map (·.1)).Nodup → ((addP m p).map (·.1)).Nodup
 | [],_ =>by simp [addP]
 | (x,v) :: m,hn =>by
   have hn':=List.nodup_cons.mp (by simpa using hn:(x :: m.map (·.1)).Nodup)
   simp only [addP]
   by_cases h:x = p.1
   ·simpa [h] using hn
   ·simp only [h,if_false,List.map_cons]
    refine List.nodup_cons.mpr ⟨?_,nodup_addP p m hn'.2⟩
    rw [keys_addP]
    rintro (e | e)
    ·exact h e
    ·exact hn'.1 e
theorem len_addP (p:Pair):∀ m:List Pair,(addP m p).length ≤ m.length + 1
 | [] =>by simp [addP]
 | (x,v) :: m =>by
   have:=len_addP p m
   simp only [addP]
   split <;> simp only [List.length_cons] <;> omega
theorem gather_inv:∀ (l m:List Pair),(m.map (·.1)).Nodup → ((l.foldl addP m).map (·.1)).Nodup ∧ (∀ n,n ∈ (l.foldl addP m).map (·.1) ↔ n ∈ l.map (·.1) ∨ n ∈ m.map (·.1)) ∧ ∀ n,(lookP (l.foldl addP m) n).getD 0 = (lookP m n).getD 0 + tot l n
 | [],m,hn =>by simp [hn,tot]
 | p :: l,m,hn =>by
   obtain ⟨h1,h2,h3⟩:=gather_inv l (addP m p) (nodup_addP p m hn)
   refine ⟨h1,fun n =>?_,fun n =>?_⟩
   ·rw [List.foldl_cons,h2,keys_addP]
    simp only [List.map_cons,List.mem_cons]
    constructor
    ·rintro (h | h | h) <;> simp [h]
    ·rintro ((h | h) | h) <;> simp [h]
   ·rw [List.foldl_cons,h3,lookP_addP]
    by_cases h:p.1 = n
    ·simp [h,tot]; omega
    ·simp [h,tot]
theorem lookP_mem (n:List Nat):∀ m:List Pair,n ∈ m.map (·.1) → ∃ v,lookP m n = some v
 | [],h =>by simp at h
 | (x,v) :: m,h =>by
   simp only [lookP]
   by_cases e:x = n
   ·exact ⟨v,by simp [e]⟩
   ·obtain ⟨v',h'⟩:=lookP_mem n m (by
     simp only [List.map_cons,List.mem_cons] at h
     rcases h with h | h
     ·exact absurd h.symm e
     ·exact h)
    exact ⟨v',by simp [e,h']⟩
noncomputable def keysOf (l:List Pair):List (List Nat):=(gather l).map (·.1)
theorem keysOf_nodup (l:List Pair):(keysOf l).Nodup:=(gather_inv l [] (by simp)).1
theorem mem_keysOf (l:List Pair) (n:List Nat):n ∈ keysOf l ↔ n ∈ l.map (·.1):=by
 have:=(gather_inv l [] (by simp)).2.1 n
 simpa [keysOf,gather] using this
theorem look_gather (l:List Pair) (n:List Nat) (h:n ∈ keysOf l):lookP (gather l) n = some (tot l n):=by
 obtain ⟨v,hv⟩:=lookP_mem n (gather l) h
 have:=(gather_inv l [] (by simp)).2.2 n
 rw [show l.foldl addP [] = gather l from rfl,hv] at this
 simp [lookP] at this
 rw [hv,this]
noncomputable def prD (p:Pair):D:=.tup [.str p.1,.int p.2]
noncomputable def sumL (l:List Pair):List Pair:=((sortS (keysOf l)).filter fun n =>tot l n ≠ 0).map fun n =>(n,tot l n)
noncomputable def sumD (c:Int) (l:List Pair):D:=.tup [.int c,.tup ((sumL l).map prD)]
theorem strsOf_keys:∀ m:List Pair,strsOf ((ksD m).map keyD) = some (m.map (·.1))
 | [] =>rfl
 | p :: m =>by
   have:=strsOf_keys m
   simp only [ksD,List.map_cons,List.map_map,keyD,strsOf] at this ⊢
   rw [this]; rfl
end KG

namespace KG
open Z
noncomputable abbrev Srt (l:List (List Nat)):Prop:=l.Pairwise fun a b =>ltS b a = false
theorem insS_srt (x:List Nat):∀ l,Srt l → Srt (insS x l)
 | [],_ =>by simp [insS]
 | y :: l,h =>by
   obtain ⟨h1,h2⟩:=List.pairwise_cons.mp h
   simp only [insS]
   cases e:ltS x y with
   | true =>
     simp only [if_true]
     refine List.pairwise_cons.mpr ⟨fun z hz =>?_,h⟩
     rcases List.mem_cons.mp hz with rfl | hz
     ·exact ltS_asymm _ _ e
     ·cases e2:ltS z x with
      | false =>rfl
      | true =>
        have:=ltS_trans _ _ _ e2 e
        rw [h1 z hz] at this; cases this
   | false =>
     simp only [Bool.false_eq_true,if_false]
     refine List.pairwise_cons.mpr ⟨fun z hz =>?_,insS_srt x l h2⟩
     rcases List.mem_cons.mp ((insS_perm x l).mem_iff.mp hz) with rfl | hz
     ·exact e
     ·exact h1 z hz
theorem sortS_srt:∀ l,Srt (sortS l)
 | [] =>by simp [sortS]
 | x :: l =>insS_srt x _ (sortS_srt l)
theorem insS_id (x:List Nat):∀ l,(∀ y ∈ l,ltS y x = false) → insS x l = x :: l
 | [],_ =>rfl
 | y :: l,h =>by
   simp only [insS]
   cases e:ltS x y with
   | true =>rfl
   | false =>
     have hy:=ltS_total _ _ e (h y List.mem_cons_self)
     subst hy
     simp only [Bool.false_eq_true,if_false]
     rw [insS_id x l fun z hz =>h z (List.mem_cons_of_mem _ hz)]
theorem sortS_id:∀ l,Srt l → sortS l = l
 | [],_ =>rfl
 | x :: l,h =>by
   obtain ⟨h1,h2⟩:=List.pairwise_cons.mp h
   simp only [sortS]
   rw [sortS_id l h2,insS_id x l h1]
theorem tot_cons (p:Pair) (l:List Pair) (n:List Nat):tot (p :: l) n = (if p.1 = n then p.2 else 0) + tot l n:=by
 by_cases h:p.1 = n <;> simp [tot,h]
theorem tot_out (l:List Pair) (n:List Nat) (h:n ∉ l.map (·.1)):tot l n = 0:=by
 induction l with
 | nil =>rfl
 | cons p l ih =>
   simp only [List.map_cons,List.mem_cons,not_or] at h
   rw [tot_cons,ih h.2,if_neg fun e =>h.1 e.symm]; rfl
theorem tot_mem (l:List Pair) (hn:(l.map (·.1)).Nodup):∀ p ∈ l,tot l p.1 = p.2:=by
 induction l with
 | nil =>simp
 | cons q l ih =>
   obtain ⟨h1,h2⟩:=List.nodup_cons.mp (by simpa using hn:(q.1 :: l.map (·.1)).Nodup)
   intro p hp
   rw [tot_cons]
   rcases List.mem_cons.mp hp with rfl | hp
   ·rw [if_pos rfl,tot_out l _ h1]; omega
   ·have:q.1 ≠ p.1:=fun e =>h1 (e ▸ List.mem_map_of_mem hp)
    rw [if_neg this,ih h2 p hp]; omega
theorem sumL_id {L:List Pair} (h1:Srt (L.map (·.1))) (h2:(L.map (·.1)).Nodup) (h3:∀ p ∈ L,p.2 ≠ 0):sumL L = L:=by
 have hk:sortS (keysOf L) = L.map (·.1):=by
  rw [← sortS_id _ h1]
  apply sortS_eq
  apply perm_of_nodup (keysOf_nodup _) h2
  intro x
  rw [mem_keysOf]
 unfold sumL
 rw [hk,List.filter_map,List.map_map]
 have hf:L.filter ((fun n =>decide (tot L n ≠ 0)) ∘ fun p =>p.1) = L:=by
  apply List.filter_eq_self.mpr
  intro p hp
  simp [tot_mem L h2 p hp,h3 p hp]
 have hf':L.filter ((fun n =>!decide (tot L n = 0)) ∘ fun p =>p.1) = L:=by
  apply List.filter_eq_self.mpr
  intro p hp
  simp [tot_mem L h2 p hp,h3 p hp]
 first | rw [hf] | rw [hf'] | simp only [hf,hf']
 conv =>rhs; rw [← List.map_id L]
 apply List.map_congr_left
 intro p hp
 simp [tot_mem L h2 p hp]
end KG

namespace KG
open Z
noncomputable abbrev dctP (m:List Pair):D:=.dct (ksD m) (vsD m)
theorem get2_P (m:List Pair) (n:List Nat):get2D (dctP m) (.str n) (.int 0) = .ok (false,.int ((lookP m n).getD 0)):=by
 simp only [get2D,keyOf,Option.map_some,R.of,look_P]
 cases lookP m n <;> rfl
theorem put_P (m:List Pair) (p:Pair) (hm:m.length ≤ 100000):putItem (dctP m) (.str p.1) (.int ((lookP m p.1).getD 0 + p.2)) = some (dctP (addP m p)):=by
 have:(ksD m).length ≤ 100000:=by simpa [ksD] using hm
 simp only [putItem,keyOf,Option.bind_some,this,if_true,putKs_P,putV_P]
theorem sorted_P (m:List Pair) (hm:m.length < 64):b1D .sorted (dctP m) = .ok (true,.lst ((sortS (m.map (·.1))).map .str)):=by
 have:(m.map (·.1)).length < 64:=by simpa using hm
 simp only [b1D,itemsS,Option.bind_some,strsOf_keys,this,if_true,R.of]
noncomputable def cmC:T:=(T.op2 .ne (T.idx (T.var 1) (T.var 0)) (T.cst (D.int 0)))
noncomputable def cmE:T:=(T.tup (TL.cons (T.var 0) (TL.cons (T.idx (T.var 1) (T.var 0)) TL.nil)))
theorem idx_P (l:List Pair) (n:List Nat) (h:n ∈ keysOf l):idxD (dctP (gather l)) (.str n) = .ok (false,.int (tot l n)):=by
 simp only [idxD,keyOf,Option.bind_some,look_P,look_gather l n h,Option.map_some,R.of]
theorem size2:size 2 = true:=by decide
theorem comp_sum (o:Orc) (l:List Pair):compGo (fun x =>ev o ((x ++ [dctP (gather l)]).map fun d =>some (Own.sh,d)) false cmE) (fun x =>ev o ((x ++ [dctP (gather l)]).map fun d =>some (Own.sh,d)) true cmC) 1 false ((sortS (keysOf l)).map .str) = .ok ((sumL l).map prD):=by
 rw [comp_filter (g:=fun d =>match d with | .str n =>prD (n,tot l n) | _ =>.non) (q:=fun d =>match d with | .str n =>decide (tot l n ≠ 0) | _ =>false)]
 ·rw [List.filter_map]
  simp [sumL,Function.comp_def]
 ·intro d hd
  obtain ⟨n,hn,rfl⟩:=List.mem_map.mp hd
  have hk:n ∈ keysOf l:=(sortS_perm _).mem_iff.mp hn
  have hi:=idx_P l n hk
  generalize dctP (gather l) = X at hi
  simp [cmC,ev,R.bind,hi,o2,eqA,eqS,R.of]
 ·intro d hd _
  obtain ⟨n,hn,rfl⟩:=List.mem_map.mp hd
  have hk:n ∈ keysOf l:=(sortS_perm _).mem_iff.mp hn
  have hi:=idx_P l n hk
  generalize dctP (gather l) = X at hi
  refine ⟨false,?_⟩
  simp [cmE,ev,evL,lkOwn,isOwn,R.bind,hi,R.chk,size2,prD]
theorem imm_pr:∀ l:List Pair,immL (l.map prD) = true
 | [] =>rfl
 | p :: l =>by simp [immL,prD,D.imm,imm_pr l]
theorem sumL_len (l:List Pair):(sumL l).length ≤ (keysOf l).length:=by
 unfold sumL
 rw [List.length_map]
 refine Nat.le_trans (List.length_filter_le _ _) ?_
 rw [(sortS_perm _).length_eq]
 exact Nat.le_refl _
theorem takes_pr (p:Pair):takes 2 true (prD p) = some [.str p.1,.int p.2]:=by simp [takes,prD]
noncomputable def soB:SL:=(SL.cons (S.seti 2 (T.var 3) (T.op2 .add (T.get2 (T.var 2) (T.var 3) (T.cst (D.int 0))) (T.var 4))) SL.nil)
noncomputable def soE:T:=(T.tup (TL.cons (T.var 0) (TL.cons (T.b1 .tuple (T.comp [2] 1 false (TI.val (T.b1 .sorted (T.var 2))) cmC cmE)) TL.nil)))
noncomputable def soFd:Fd:=⟨2,5,(SL.cons (S.set 2 (T.dnew [] TL.nil)) (SL.cons (S.for_ [3,4] true (TI.val (T.var 1)) soB) (SL.cons (S.ret soE) SL.nil)))⟩
theorem so_body (o:Orc) (a b:Option Slot) (m:List Pair) (p:Pair) (hm:m.length ≤ 100000):evSs o soB [a,b,some (.ow,dctP m),some (.sh,.str p.1),some (.sh,.int p.2)] = .nx [a,b,some (.ow,dctP (addP m p)),some (.sh,.str p.1),some (.sh,.int p.2)]:=by
 have h1:=get2_P m p.1
 have h2:=put_P m p hm
 generalize dctP m = X at h1 h2 ⊢
 generalize dctP (addP m p) = Y at h2 ⊢
 generalize (lookP m p.1).getD 0 = v at h1 h2
 have he:ev o [a,b,some (.ow,X),some (.sh,.str p.1),some (.sh,.int p.2)] false (T.op2 .add (T.get2 (T.var 2) (T.var 3) (T.cst (D.int 0))) (T.var 4)) = .ok (false,.int (v + p.2)):=by
  simp [ev,R.bind,h1,o2,arith]
 generalize v + p.2 = z at he h2
 simp only [soB,evSs,evS,evF,he,SO.of]
 simp [ev,ownD,h2,orStuck]
theorem so_for (o:Orc) (a b:Option Slot):∀ (l m:List Pair) (c d:Option Slot),m.length + l.length ≤ 100000 → ∃ c' d',forGo (evSs o soB) [3,4] true (l.map prD) [a,b,some (.ow,dctP m),c,d] = .nx [a,b,some (.ow,dctP (l.foldl addP m)),c',d']
 | [],m,c,d,_ =>⟨c,d,rfl⟩
 | p :: l,m,c,d,h =>by
   simp only [List.length_cons] at h
   have hl:=len_addP p m
   obtain ⟨c',d',ih⟩:=so_for o a b l (addP m p) (some (.sh,.str p.1)) (some (.sh,.int p.2)) (by omega)
   refine ⟨c',d',?_⟩
   have hs:setSlots [a,b,some (.ow,dctP m),c,d] [3,4] [.str p.1,.int p.2] = some [a,b,some (.ow,dctP m),some (.sh,.str p.1),some (.sh,.int p.2)]:=by simp [setSlots,setSlot]
   simp only [List.map_cons,forGo,List.length_cons,List.length_nil,Nat.zero_add,Nat.reduceAdd,takes_pr,hs,so_body o a b m p (by omega),List.foldl_cons]
   exact ih
theorem so_ret (o:Orc) (c:Int) (b d e:Option Slot) (l:List Pair) (hk:(keysOf l).length < 64):ev o [some (.sh,.int c),b,some (.ow,dctP (gather l)),d,e] false soE = .ok (false,sumD c l):=by
 have hg:=comp_sum o l
 have hs:=sorted_P (gather l) (by simpa [keysOf] using hk)
 have hi:=imm_pr (sumL l)
 have hz:size ((sumL l).map prD).length = true:=by
  have:=sumL_len l
  simp [size]; omega
 have hx:ev o [some (.sh,.int c),b,some (.ow,dctP (gather l)),d,e] true (T.comp [2] 1 false (TI.val (T.b1 .sorted (T.var 2))) cmC cmE) = .ok (true,.lst ((sumL l).map prD)):=by
  rw [show (gather l).map (·.1) = keysOf l from rfl] at hs
  rw [ev]
  have h1:evI o [some (.sh,.int c),b,some (.ow,dctP (gather l)),d,e] true (TI.val (T.b1 .sorted (T.var 2))) = .ok ((sortS (keysOf l)).map .str):=by
   generalize dctP (gather l) = X at hs
   simp [evI,ev,R.bind,hs,itemsK,R.of]
  have h2:slotsD [some (.sh,.int c),b,some (.ow,dctP (gather l)),d,e] [2] = some [dctP (gather l)]:=by simp [slotsD,slotD]
  rw [h1,h2]
  simp only [R.bind,R.of]
  rw [hg]
  simp only [R.chk,hz,hi,Bool.true_or,Bool.and_self,if_true]
 unfold sumD
 generalize (sumL l).map prD = L at hx
 generalize dctP (gather l) = X at hx
 have hb:ev o [some (.sh,.int c),b,some (.ow,X),d,e] false (T.b1 .tuple (T.comp [2] 1 false (TI.val (T.b1 .sorted (T.var 2))) cmC cmE)) = .ok (false,.tup L):=by
  rw [ev,hx]; rfl
 have h0:ev o [some (.sh,.int c),b,some (.ow,X),d,e] false (T.var 0) = .ok (false,.int c):=by simp [ev]
 rw [soE,ev,evL,evL,evL]
 simp only [lkOwn,isOwn,hb,h0,R.bind,R.chk,List.length_cons,List.length_nil,size2,List.getElem?_cons_zero]
 simp [size2]
theorem sum_run (o:Orc) (c:Int) (l:List Pair) (x:D) (hx:itemsK x = some (l.map prD)) (hl:l.length ≤ 1000) (hk:(keysOf l).length < 64):runFn o soFd [.int c,x] = .ok (false,sumD c l):=by
 refine runFn_at rfl (δ0:=[some (.sh,.int c),some (.sh,x),none,none,none]) rfl ?_
 refine stp [some (.sh,.int c),some (.sh,x),some (.ow,dctP []),none,none] ?_ ?_
 ·simp [evS,evF,ev,evL,R.bind,R.chk,SO.of,setSlot,orStuck,ksD,vsD]
 obtain ⟨c',d',hf⟩:=so_for o (some (.sh,.int c)) (some (.sh,x)) l [] none none (by simp; omega)
 refine stp [some (.sh,.int c),some (.sh,x),some (.ow,dctP (gather l)),c',d'] ?_ ?_
 ·rw [evS]
  have h1:shareIt [some (.sh,.int c),some (.sh,x),some (.ow,dctP []),none,none] (TI.val (T.var 1)) = [some (.sh,.int c),some (.sh,x),some (.ow,dctP []),none,none]:=by simp [shareIt,share1]
  have h2:evI o [some (.sh,.int c),some (.sh,x),some (.ow,dctP []),none,none] false (TI.val (T.var 1)) = .ok (l.map prD):=by simp [evI,ev,R.bind,hx,R.of]
  rw [h1]
  simp only [h2,SO.of]
  exact hf
 refine stpR (δ':=[some (.sh,.int c),some (.sh,x),some (.ow,dctP (gather l)),c',d']) ?_
 have:=so_ret o c (some (.sh,x)) c' d' l hk
 show SO.of (evF o _ soE).1 (evF o _ soE).2 _ = _
 simp only [evF,this,SO.of]
theorem orc_fn {P:Prg} {w n f:Nat} {d:Fd} {a:List D} (h:P.fns[f]? = some d):(orc P w (n + 1)).fn f a = runFn (orc P w n) d a:=by simp only [orc,h]
theorem comp_ofN {α:Type} {f c:List D → R (Bool × D)} {a g:α → D}:∀ {l:List α},(∀ d ∈ l,c [a d] = .ok (false,.bl true)) → (∀ d ∈ l,∃ w,f [a d] = .ok (w,g d)) → compGo f c 1 false (l.map a) = .ok (l.map g)
 | [],_,_ =>rfl
 | d :: l,hc,hf =>by
   obtain ⟨w,h⟩:=hf d List.mem_cons_self
   have ih:=comp_ofN (l:=l) (fun x hx =>hc x (List.mem_cons_of_mem _ hx)) (fun x hx =>hf x (List.mem_cons_of_mem _ hx))
   simp only [List.map_cons,compGo,takes,Bool.false_eq_true,if_false,R.of,R.bind,hc d List.mem_cons_self,truth,if_true,h,ih]
theorem ev_comp (o:Orc) (δ:Dst) (lk:Bool) (it:TI) (caps:List Nat) (cs l r:List D) (m:Nat) (tg:Bool) (c e:T) (hI:evI o δ true it = .ok l) (hs:slotsD δ caps = some cs) (ho:(caps.all fun i =>!isOwn δ i) = true) (hr:r.length ≤ 1000)
 (hc:compGo (fun x =>ev o ((x ++ cs).map fun d =>some (Own.sh,d)) false e) (fun x =>ev o ((x ++ cs).map fun d =>some (Own.sh,d)) true c) m tg l = .ok r):ev o δ lk (T.comp caps m tg it c e) = .ok (true,.lst r):=by
 rw [ev,hI,hs]
 simp only [R.bind,R.of]
 rw [hc]
 have hz:size r.length = true:=by simp [size]; omega
 simp only [ho,hz,R.chk]
 simp
theorem set_of {o:Orc} {δ δ':Dst} {i:Nat} {e:T} {w:Bool} {d:D} (h:ev o δ false e = .ok (w,d)) (hs:setSlot δ i w d = some δ'):evS o (.set i e) δ = .nx δ':=by
 simp only [evS,evF,h,SO.of,hs,Option.map_some,orStuck]
theorem ifs_of {o:Orc} {δ:Dst} {c:T} {w b:Bool} {x y:SL} (h:ev o δ true c = .ok (w,.bl b)):evS o (.ifs c x y) δ = if b = true then evSs o x δ else evSs o y δ:=by
 simp only [evS,h,R.bind,truth,R.of,SO.of]
theorem slc_strT (w:List Nat) (m:Nat):slcD (.str w) none (some (m:Int)) = some (false,.str (w.take m)):=by
 have:clip w.length (m:Int) = min m w.length:=by unfold clip; rw [if_pos (Int.natCast_nonneg m),Int.toNat_natCast]
 simp only [slcD,lowOf,highOf,this,cut,List.drop_zero,List.take_eq_take_iff,Option.some.injEq,Prod.mk.injEq,D.str.injEq,true_and]
 exact Nat.min_assoc .. |>.trans (by rw [Nat.min_self])
theorem eqi {o:Orc} {δ:Dst} {a:T} {x y:Int} {w:Bool} (h:ev o δ true a = .ok (w,.int x)):ev o δ true (T.op2 .eq a (T.cst (D.int y))) = .ok (false,.bl (decide (x = y))):=by
 simp only [ev,h,R.bind,o2,eqA,eqS,Option.map_some,R.of]
theorem op2_ev {o:Orc} {δ:Dst} {lk:Bool} {p:O2} {a b:T} {w1 w2:Bool} {x y:D} (ha:ev o δ true a = .ok (w1,x)) (hb:ev o δ true b = .ok (w2,y)):ev o δ lk (T.op2 p a b) = o2 p x y:=by
 simp only [ev,ha,hb,R.bind]
theorem cat_str {a b:List Nat} (h:a.length + b.length ≤ 1000):o2 .add (.str a) (.str b) = .ok (false,.str (a ++ b)):=by
 have:size (a.length + b.length) = true:=decide_eq_true (Nat.le_trans h (by decide))
 simp only [o2,this,R.chk,if_true]
theorem slc_strF (w:List Nat) (m:Nat):slcD (.str w) (some (m:Int)) none = some (false,.str (w.drop m)):=by
 have:clip w.length (m:Int) = min m w.length:=by unfold clip; rw [if_pos (Int.natCast_nonneg m),Int.toNat_natCast]
 simp only [slcD,lowOf,highOf,this,cut,List.take_length]
 congr 3
 by_cases h:m ≤ w.length
 ·rw [Nat.min_eq_left h]
 ·rw [Nat.min_eq_right (Nat.le_of_not_le h),List.drop_length,List.drop_eq_nil_of_le (Nat.le_of_not_le h)]
theorem ev_var {o:Orc} {δ:Dst} {lk:Bool} {i:Nat} {d:D} (h:δ[i]? = some (some (.sh,d))):ev o δ lk (T.var i) = .ok (false,d):=by simp only [ev,h]
theorem ev_cst {o:Orc} {δ:Dst} {lk:Bool} {d:D}:ev o δ lk (T.cst d) = .ok (false,d):=by simp only [ev]
theorem mulE {a b:Int} (h:mulOk a b = true):o2 .mul (.int a) (.int b) = .ok (false,.int (a * b)):=by simp only [o2,arith,h,R.chk,if_true]
section
variable {o:Orc} {δ:Dst} {lk:Bool}
theorem evL_cons {t:T} {l:TL} {x:D} {xs:List D} {w:Bool} (hk:lkOwn δ t = false) (h:ev o δ false t = .ok (w,x)) (hl:evL o δ l = .ok (false,xs)):evL o δ (.cons t l) = .ok (false,x :: xs):=by
 simp only [evL,hk,h,hl,R.bind,Bool.or_false]
theorem call_ev {f:Nat} {l:TL} {xs:List D} {w:Bool} {x:D} (hl:evL o δ l = .ok (false,xs)) (h:o.fn f xs = .ok (w,x)):ev o δ lk (T.call f l) = .ok (w,x):=by
 simp only [ev,hl,R.bind,h,lent,Bool.false_eq_true,if_false]
theorem tup_ev {l:TL} {xs:List D} (hl:evL o δ l = .ok (false,xs)) (hz:size xs.length = true):ev o δ lk (T.tup l) = .ok (false,.tup xs):=by
 simp only [ev,hl,R.bind,hz,Bool.not_false,Bool.and_self,R.chk,if_true]
theorem lst_ev {l:TL} {xs:List D} (hl:evL o δ l = .ok (false,xs)) (hz:size xs.length = true):ev o δ lk (T.lst l) = .ok (true,.lst xs):=by
 simp only [ev,hl,R.bind,hz,Bool.not_false,Bool.and_self,R.chk,if_true]
theorem and_tt {a b:T} {w w' c:Bool} (ha:ev o δ true a = .ok (w,.bl true)) (hb:ev o δ true b = .ok (w',.bl c)):ev o δ lk (T.and a b) = .ok (false,.bl c):=by simp only [ev,ha,hb,R.bind,boolD]
theorem and_f {a b:T} {w:Bool} (ha:ev o δ true a = .ok (w,.bl false)):ev o δ lk (T.and a b) = .ok (false,.bl false):=by simp only [ev,ha,R.bind]
theorem ifN {c:T} {x:SL} {w:Bool} (h:ev o δ true c = .ok (w,.bl false)):evS o (.ifs c x .nil) δ = .nx δ:=by rw [ifs_of h]; rfl
theorem cat_lst {a b:List D} (h:a.length + b.length ≤ 1000):o2 .add (.lst a) (.lst b) = .ok (true,.lst (a ++ b)):=by
 have:size (a.length + b.length) = true:=decide_eq_true (Nat.le_trans h (by decide))
 simp only [o2,this,R.chk,if_true]
noncomputable def isV:T → Bool
 | .var _ =>true
 | _ =>false
theorem retR {e:T} {w:Bool} {d:D} (h:ev o δ false e = .ok (w,d)) (hv:isV e = false):evS o (.ret e) δ = .rt w d δ:=by
 have:evS o (.ret e) δ = SO.of (evF o δ e).1 (evF o δ e).2 fun r =>.rt r.1 r.2 (evF o δ e).1:=by cases e <;> first | rfl | exact nomatch hv
 rw [this]; simp only [evF,h,SO.of]
theorem ifR {c:T} {s:S} {l y:SL} {δ':Dst} {w b:Bool} {d:D} (h:ev o δ true c = .ok (b,.bl true)) (k:evS o s δ = .rt w d δ'):evS o (.ifs c (.cons s l) y) δ = .rt w d δ':=by
 rw [ifs_of h]; simp only [if_true,evSs,k]
end
theorem sz1:size 1 = true:=by decide
theorem sz2:size 2 = true:=by decide
end KG

namespace KG
open Z
noncomputable def namesFd:Fd:=⟨1,6,(SL.cons (S.set 1 (T.cst (D.str [122,120,119,118,117,116,115,114,113,112,110,109,108,107,106,105,104,103,102,101,100,99,98]))) (SL.cons (S.set 2 (T.idx (T.var 1) (T.op2 .mod (T.op2 .fdiv (T.var 0) (T.cst (D.int 2))) (T.cst (D.int 23))))) (SL.cons (S.for_ [3] false (TI.rng1 (T.cst (D.int 6))) (SL.cons (S.set 2 (T.op2 .add (T.var 2) (T.idx (T.op2 .add (T.var 1) (T.cst (D.str [48,49,50,51,52,53,54,55,56,57]))) (T.op2 .mod (T.op2 .mod (T.op2 .mul (T.op2 .mul (T.op2 .add (T.op2 .mod (T.var 0) (T.op2 .pow (T.cst (D.int 10)) (T.cst (D.int 9)))) (T.var 3)) (T.op2 .add (T.var 3) (T.cst (D.int 7)))) (T.cst (D.int 48271))) (T.cst (D.int 65521))) (T.cst (D.int 33)))))) SL.nil)) (SL.cons (S.ifs (T.op2 .eq (T.op2 .mod (T.var 0) (T.cst (D.int 2))) (T.cst (D.int 1))) (SL.cons (S.set 4 (T.op2 .mod (T.op2 .fdiv (T.var 0) (T.cst (D.int 46))) (T.cst (D.int 4)))) (SL.cons (S.ret (T.comp [4,2] 1 false (TI.rng1 (T.cst (D.int 4))) (T.cst (D.bl true)) (T.slc (T.var 2) (T.cst D.non) (T.op2 .add (T.op2 .add (T.var 1) (T.var 0)) (T.cst (D.int 1)))))) SL.nil)) SL.nil) (SL.cons (S.set 2 (T.slc (T.var 2) (T.cst D.non) (T.op2 .mod (T.op2 .fdiv (T.var 0) (T.cst (D.int 46))) (T.cst (D.int 8))))) (SL.cons (S.set 5 (T.op2 .mod (T.op2 .fdiv (T.var 0) (T.cst (D.int 368))) (T.op2 .add (T.b1 .len (T.var 2)) (T.cst (D.int 1))))) (SL.cons (S.ret (T.comp [5,0,1,2] 1 false (TI.rng1 (T.cst (D.int 4))) (T.cst (D.bl true)) (T.op2 .add (T.op2 .add (T.slc (T.var 4) (T.cst D.non) (T.var 1)) (T.idx (T.var 3) (T.op2 .mod (T.op2 .add (T.op2 .fdiv (T.var 2) (T.cst (D.int 3312))) (T.op2 .mul (T.cst (D.int 5)) (T.var 0))) (T.cst (D.int 23))))) (T.slc (T.var 4) (T.var 1) (T.cst D.non))))) SL.nil)))))))⟩
noncomputable def numbFd:Fd:=⟨1,1,(SL.cons (S.ifs (T.op2 .eq (T.op2 .mod (T.var 0) (T.cst (D.int 3))) (T.cst (D.int 0))) (SL.cons (S.ret (T.op2 .sub (T.op2 .mod (T.op2 .fdiv (T.var 0) (T.cst (D.int 3))) (T.cst (D.int 15))) (T.cst (D.int 7)))) SL.nil) SL.nil) (SL.cons (S.ret (T.op2 .sub (T.op2 .mod (T.op2 .fdiv (T.var 0) (T.cst (D.int 3))) (T.op2 .add (T.op2 .mul (T.cst (D.int 2)) (T.op2 .pow (T.cst (D.int 10)) (T.cst (D.int 60)))) (T.cst (D.int 1)))) (T.op2 .pow (T.cst (D.int 10)) (T.cst (D.int 60))))) SL.nil))⟩
noncomputable def pointFd (inumber:Nat) (icell_at:Nat):Fd:=⟨2,5,(SL.cons (S.set 2 (T.dnew [] TL.nil)) (SL.cons (S.for_ [3,4] true (TI.enum (T.var 1)) (SL.cons (S.seti 2 (T.var 4) (T.call inumber (TL.cons (T.call icell_at (TL.cons (T.var 0) (TL.cons (T.op2 .add (T.cst (D.int 1)) (T.var 3)) TL.nil))) TL.nil))) SL.nil)) (SL.cons (S.ret (T.var 2)) SL.nil)))⟩
noncomputable def manyFd:Fd:=⟨2,2,(SL.cons (S.ifs (T.op2 .eq (T.op2 .mod (T.var 0) (T.cst (D.int 5))) (T.cst (D.int 1))) (SL.cons (S.ret (T.op2 .mul (T.op2 .add (T.var 1) (T.cst (D.int 1))) (T.op2 .sub (T.cst (D.int 1)) (T.op2 .mul (T.cst (D.int 2)) (T.op2 .mod (T.op2 .fdiv (T.var 0) (T.cst (D.int 5))) (T.cst (D.int 2))))))) SL.nil) SL.nil) (SL.cons (S.ret (T.op2 .mul (T.op2 .sub (T.op2 .mod (T.op2 .fdiv (T.var 0) (T.cst (D.int 5))) (T.cst (D.int 7))) (T.cst (D.int 3))) (T.op2 .add (T.cst (D.int 1)) (T.op2 .mod (T.op2 .fdiv (T.var 0) (T.cst (D.int 35))) (T.cst (D.int 4)))))) SL.nil))⟩
noncomputable def nearFd:Fd:=⟨1,1,(SL.cons (S.ifs (T.op2 .eq (T.op2 .mod (T.var 0) (T.cst (D.int 4))) (T.cst (D.int 3))) (SL.cons (S.ret (T.op2 .sub (T.op2 .mod (T.op2 .fdiv (T.var 0) (T.cst (D.int 4))) (T.op2 .add (T.op2 .mul (T.cst (D.int 2)) (T.op2 .pow (T.cst (D.int 10)) (T.cst (D.int 20)))) (T.cst (D.int 1)))) (T.op2 .pow (T.cst (D.int 10)) (T.cst (D.int 20))))) SL.nil) SL.nil) (SL.cons (S.ret (T.op2 .sub (T.op2 .mod (T.op2 .fdiv (T.var 0) (T.cst (D.int 4))) (T.cst (D.int 5))) (T.cst (D.int 2)))) SL.nil))⟩
noncomputable def lsumFd (inear:Nat) (imany:Nat):Fd:=⟨3,9,(SL.cons (S.set 3 (T.lst TL.nil)) (SL.cons (S.set 4 (T.call inear (TL.cons (T.op2 .fdiv (T.var 0) (T.cst (D.int 16))) TL.nil))) (SL.cons (S.for_ [5,6] true (TI.enum (T.b1 .sorted (T.var 1))) (SL.cons (S.set 7 (T.op2 .mod (T.op2 .mul (T.op2 .mul (T.op2 .add (T.op2 .mod (T.var 0) (T.var 2)) (T.var 5)) (T.op2 .add (T.op2 .mul (T.cst (D.int 2)) (T.var 5)) (T.cst (D.int 3)))) (T.cst (D.int 48271))) (T.cst (D.int 1000003)))) (SL.cons (S.set 8 (T.op2 .mul (T.call imany (TL.cons (T.var 7) (TL.cons (T.op2 .mod (T.var 0) (T.var 2)) TL.nil))) (T.op2 .sub (T.cst (D.int 1)) (T.op2 .mul (T.cst (D.int 2)) (T.op2 .mod (T.op2 .fdiv (T.var 0) (T.cst (D.int 48))) (T.cst (D.int 2))))))) (SL.cons (S.ifs (T.op2 .ne (T.var 8) (T.cst (D.int 0))) (SL.cons (S.append 3 (T.tup (TL.cons (T.var 6) (TL.cons (T.var 8) TL.nil)))) (SL.cons (S.set 4 (T.op2 .sub (T.var 4) (T.op2 .mul (T.var 8) (T.idx (T.var 1) (T.var 6))))) SL.nil)) SL.nil) SL.nil)))) (SL.cons (S.ret (T.tup (TL.cons (T.var 4) (TL.cons (T.b1 .tuple (T.var 3)) TL.nil)))) SL.nil))))⟩
noncomputable def atomFd (isum:Nat):Fd:=⟨3,4,(SL.cons (S.set 3 (T.call isum (TL.cons (T.var 0) (TL.cons (T.var 1) (TL.cons (T.var 2) TL.nil))))) (SL.cons (S.ifs (T.op2 .eq (T.op2 .mod (T.var 0) (T.cst (D.int 2))) (T.cst (D.int 0))) (SL.cons (S.ret (T.tup (TL.cons (T.cst (D.str [108,101,97,115,116])) (TL.cons (T.var 3) TL.nil)))) SL.nil) SL.nil) (SL.cons (S.ifs (T.op2 .eq (T.op2 .mod (T.op2 .fdiv (T.var 0) (T.cst (D.int 2))) (T.cst (D.int 8))) (T.cst (D.int 7))) (SL.cons (S.ret (T.tup (TL.cons (T.cst (D.str [114,101,115,116])) (TL.cons (T.op2 .add (T.op2 .mod (T.var 0) (T.var 2)) (T.cst (D.int 1))) (TL.cons (T.var 3) TL.nil))))) SL.nil) SL.nil) (SL.cons (S.ret (T.tup (TL.cons (T.cst (D.str [114,101,115,116])) (TL.cons (T.op2 .add (T.op2 .mod (T.op2 .fdiv (T.var 0) (T.cst (D.int 2))) (T.cst (D.int 8))) (T.cst (D.int 1))) (TL.cons (T.var 3) TL.nil))))) SL.nil))))⟩
noncomputable def grpFd:Fd:=⟨4,6,(SL.cons (S.set 4 (T.slc (T.var 1) (T.b2 .max (T.cst (D.int 0)) (T.op2 .sub (T.b1 .len (T.var 1)) (T.var 2))) (T.cst D.non))) (SL.cons (S.set 5 (T.op2 .add (T.cst (D.int 1)) (T.b2 .maxd (T.comp [] 1 false (TI.val (T.var 4)) (T.cst (D.bl true)) (T.idx (T.var 0) (T.cst (D.int 1)))) (T.cst (D.int 0))))) (SL.cons (S.ifs (T.op2 .gt (T.var 5) (T.cst (D.int 17))) (SL.cons (S.ret (T.op2 .add (T.var 1) (T.lst (TL.cons (T.tup (TL.cons (T.var 3) (TL.cons (T.cst (D.int 0)) TL.nil))) TL.nil)))) SL.nil) SL.nil) (SL.cons (S.ret (T.op2 .add (T.slc (T.var 1) (T.cst D.non) (T.b2 .max (T.cst (D.int 0)) (T.op2 .sub (T.b1 .len (T.var 1)) (T.var 2)))) (T.lst (TL.cons (T.tup (TL.cons (T.tup (TL.cons (T.var 0) (TL.cons (T.b1 .tuple (T.comp [] 1 false (TI.val (T.var 4)) (T.cst (D.bl true)) (T.idx (T.var 0) (T.cst (D.int 0))))) TL.nil))) (TL.cons (T.var 5) TL.nil))) TL.nil)))) SL.nil))))⟩
noncomputable def treeFd (istep:Nat):Fd:=⟨4,6,(SL.cons (S.set 4 (T.lst TL.nil)) (SL.cons (S.for_ [5] false (TI.val (T.var 0)) (SL.cons (S.set 4 (T.call istep (TL.cons (T.var 4) (TL.cons (T.var 5) (TL.cons (T.var 1) (TL.cons (T.var 2) TL.nil)))))) SL.nil)) (SL.cons (S.ifs (T.op2 .eq (T.b1 .len (T.var 4)) (T.cst (D.int 1))) (SL.cons (S.ret (T.idx (T.idx (T.var 4) (T.cst (D.int 0))) (T.cst (D.int 0)))) SL.nil) SL.nil) (SL.cons (S.ret (T.tup (TL.cons (T.var 3) (TL.cons (T.b1 .tuple (T.comp [] 1 false (TI.val (T.var 4)) (T.cst (D.bl true)) (T.idx (T.var 0) (T.cst (D.int 0))))) TL.nil)))) SL.nil))))⟩
noncomputable def samezFd (isame:Nat):Fd:=⟨2,2,(SL.cons (S.ifs (T.isin (T.var 1) .tup) (SL.cons (S.ifs (T.or (T.not (T.isin (T.var 0) .tup)) (T.op2 .ne (T.b1 .len (T.var 0)) (T.b1 .len (T.var 1)))) (SL.cons (S.ret (T.cst (D.bl false))) SL.nil) SL.nil) (SL.cons (S.ret (T.b1 .all (T.comp [] 2 true (TI.zip (T.var 0) (T.var 1)) (T.cst (D.bl true)) (T.call isame (TL.cons (T.var 0) (TL.cons (T.var 1) TL.nil)))))) SL.nil)) SL.nil) (SL.cons (S.ifs (T.isin (T.var 1) .str) (SL.cons (S.ret (T.and (T.isin (T.var 0) .str) (T.op2 .eq (T.var 0) (T.var 1)))) SL.nil) SL.nil) (SL.cons (S.ret (T.and (T.isin (T.var 0) .int) (T.and (T.not (T.isin (T.var 0) .bool)) (T.op2 .eq (T.var 0) (T.var 1))))) SL.nil)))⟩
noncomputable def L23:List Nat:=[122,120,119,118,117,116,115,114,113,112,110,109,108,107,106,105,104,103,102,101,100,99,98]
noncomputable def L33:List Nat:=L23 ++ [48,49,50,51,52,53,54,55,56,57]
theorem L23_len:L23.length = 23:=rfl
theorem L33_len:L33.length = 33:=rfl
theorem L23_nodup:L23.Nodup:=by decide
theorem fdivOk (c:Int) (n:Nat) (h0:n ≠ 0) (h:n.log2 < 9000):arith .fdiv c (n:Int) = .ok (false,.int (c.fdiv n)):=by
 have:(n:Int) ≠ 0:=by omega
 simp [arith,R.chk,h0,h]
theorem modOk (c m:Int) (h:m ≠ 0):arith .mod c m = .ok (false,.int (c.fmod m)):=by simp [arith,R.chk,h]
theorem modE (c m:Int) (h:m ≠ 0):o2 .mod (.int c) (.int m) = .ok (false,.int (c.fmod m)):=modOk c m h
theorem fdE48 (c:Int):o2 .fdiv (.int c) (.int 48) = .ok (false,.int (c.fdiv 48)):=fdivOk c 48 (by decide) (by decide)
theorem mul64 {a b:Int} (h:b.natAbs < 2 ^ 60):mulOk a b = true:=by
 have:bits b ≤ 64:=by
  unfold bits
  split
  ·omega
  ·rename_i hb
   have:b.natAbs.log2 < 60:=(Nat.log2_lt (by omega)).mpr h
   omega
 simp [mulOk,this]
theorem mulOk64 (a b:Int) (h:b.natAbs < 2 ^ 60):arith .mul a b = .ok (false,.int (a * b)):=by simp [arith,R.chk,mul64 h]
noncomputable def nsB:SL:=(SL.cons (S.set 2 (T.op2 .add (T.var 2) (T.idx (T.op2 .add (T.var 1) (T.cst (D.str [48,49,50,51,52,53,54,55,56,57]))) (T.op2 .mod (T.op2 .mod (T.op2 .mul (T.op2 .mul (T.op2 .add (T.op2 .mod (T.var 0) (T.op2 .pow (T.cst (D.int 10)) (T.cst (D.int 9)))) (T.var 3)) (T.op2 .add (T.var 3) (T.cst (D.int 7)))) (T.cst (D.int 48271))) (T.cst (D.int 65521))) (T.cst (D.int 33)))))) SL.nil)
noncomputable def sg33 (j:Int):Nat:=L33.getD (j.fmod 33).toNat 0
theorem idx_33 (j:Int):idxD (.str L33) (.int (j.fmod 33)) = .ok (false,.str [sg33 j]):=by
 have:=fmod_range j 33 (by omega)
 exact idx_str L33 _ this.1 (by rw [L33_len]; omega)
noncomputable def lt23 (j:Int):Nat:=L23.getD (j.fmod 23).toNat 0
theorem idx_23 (j:Int):idxD (.str L23) (.int (j.fmod 23)) = .ok (false,.str [lt23 j]):=by
 have:=fmod_range j 23 (by omega)
 exact idx_str L23 _ this.1 (by rw [L23_len]; omega)
theorem ns_body (o:Orc) (c:Int) (w:List Nat) (k:Nat) (hk:k < 1000) (hw:w.length ≤ 100) (e f:Option Slot) :
 evSs o nsB [some (.sh,.int c),some (.sh,.str L23),some (.sh,.str w),some (.sh,.int (k:Int)),e,f] = .nx [some (.sh,.int c),some (.sh,.str L23),some (.sh,.str (w ++ [sg33 (((c.fmod 1000000000 + k) * (k + 7) * 48271).fmod 65521)])),some (.sh,.int (k:Int)),e,f]:=by
 have m1:arith .mul (c.fmod 1000000000 + k) (k + 7) = .ok (false,.int ((c.fmod 1000000000 + k) * (k + 7))):=mulOk64 _ _ (by omega)
 have m2:∀ x,arith .mul x 48271 = .ok (false,.int (x * 48271)):=fun x =>mulOk64 _ _ (by decide)
 have r1:∀ x,arith .mod x 1000000000 = .ok (false,.int (x.fmod 1000000000)):=fun x =>modOk _ _ (by decide)
 have r2:∀ x,arith .mod x 65521 = .ok (false,.int (x.fmod 65521)):=fun x =>modOk _ _ (by decide)
 have r3:∀ x,arith .mod x 33 = .ok (false,.int (x.fmod 33)):=fun x =>modOk _ _ (by decide)
 have ad:∀ x y,arith .add x y = .ok (false,.int (x + y)):=fun x y =>rfl
 have cat:o2 .add (.str L23) (.str [48,49,50,51,52,53,54,55,56,57]) = .ok (false,.str L33):=rfl
 have i33:=idx_33 (((c.fmod 1000000000 + k) * (k + 7) * 48271).fmod 65521)
 have o2i:∀ p a b,(p = .add ∨ p = .mul ∨ p = .mod ∨ p = .pow) → o2 p (.int a) (.int b) = arith p a b:=by
  intro p a b h; rcases h with rfl | rfl | rfl | rfl <;> rfl
 have p9:o2 .pow (.int 10) (.int 9) = .ok (false,.int 1000000000):=by rfl
 have e1:ev o [some (.sh,.int c),some (.sh,.str L23),some (.sh,.str w),some (.sh,.int (k:Int)),e,f] true (T.op2 .mod (T.op2 .mod (T.op2 .mul (T.op2 .mul (T.op2 .add (T.op2 .mod (T.var 0) (T.op2 .pow (T.cst (D.int 10)) (T.cst (D.int 9)))) (T.var 3)) (T.op2 .add (T.var 3) (T.cst (D.int 7)))) (T.cst (D.int 48271))) (T.cst (D.int 65521))) (T.cst (D.int 33))) = .ok (false,.int ((((c.fmod 1000000000 + k) * (k + 7) * 48271).fmod 65521).fmod 33)):=by
  generalize h9:(1000000000:Int) = T9 at *
  simp [ev,R.bind,p9,o2i,ad,m1,m2,r1,r2,r3]
 have e2:ev o [some (.sh,.int c),some (.sh,.str L23),some (.sh,.str w),some (.sh,.int (k:Int)),e,f] true (T.op2 .add (T.var 1) (T.cst (D.str [48,49,50,51,52,53,54,55,56,57]))) = .ok (false,.str L33):=by
  simp only [ev,R.bind,List.getElem?_cons_zero,List.getElem?_cons_succ]
  exact cat
 have e3:ev o [some (.sh,.int c),some (.sh,.str L23),some (.sh,.str w),some (.sh,.int (k:Int)),e,f] false (T.op2 .add (T.var 2) (T.idx (T.op2 .add (T.var 1) (T.cst (D.str [48,49,50,51,52,53,54,55,56,57]))) (T.op2 .mod (T.op2 .mod (T.op2 .mul (T.op2 .mul (T.op2 .add (T.op2 .mod (T.var 0) (T.op2 .pow (T.cst (D.int 10)) (T.cst (D.int 9)))) (T.var 3)) (T.op2 .add (T.var 3) (T.cst (D.int 7)))) (T.cst (D.int 48271))) (T.cst (D.int 65521))) (T.cst (D.int 33))))) = .ok (false,.str (w ++ [sg33 (((c.fmod 1000000000 + k) * (k + 7) * 48271).fmod 65521)])):=by
  rw [ev]
  rw [show ev o [some (.sh,.int c),some (.sh,.str L23),some (.sh,.str w),some (.sh,.int (k:Int)),e,f] true (T.var 2) = .ok (false,.str w) from rfl]
  rw [ev,e2,e1]
  simp only [R.bind]
  rw [i33]
  have hs:size (w.length + 1) = true:=by simp [size]; omega
  simp [o2,R.chk,hs]
 simp only [nsB,evSs,evS,evF,e3]
 simp [SO.of,setSlot,orStuck]
theorem ns_for (o:Orc) (c:Int) (e f:Option Slot):∀ (l:List Nat) (w:List Nat) (d:Option Slot),(∀ k ∈ l,k < 1000) → w.length + l.length ≤ 100 → ∃ w' d',w'.length = w.length + l.length ∧
 forGo (evSs o nsB) [3] false (l.map fun (k:Nat) =>D.int (k:Int)) [some (.sh,.int c),some (.sh,.str L23),some (.sh,.str w),d,e,f] = .nx [some (.sh,.int c),some (.sh,.str L23),some (.sh,.str w'),d',e,f]
 | [],w,d,_,_ =>⟨w,d,by simp,rfl⟩
 | k :: l,w,d,h,hl =>by
   simp only [List.length_cons] at hl
   have hb:=ns_body o c w k (h k List.mem_cons_self) (by omega) e f
   generalize hw2:w ++ [sg33 (((c.fmod 1000000000 + (k:Int)) * (k + 7) * 48271).fmod 65521)] = w2 at hb
   have hw2l:w2.length = w.length + 1:=by rw [← hw2]; simp
   obtain ⟨w',d',h1,h2⟩:=ns_for o c e f l w2 (some (.sh,.int (k:Int))) (fun x hx =>h x (List.mem_cons_of_mem _ hx)) (by omega)
   refine ⟨w',d',by simp only [List.length_cons]; omega,?_⟩
   simp only [List.map_cons,forGo,takes,Bool.false_eq_true,if_false,setSlots]
   rw [show setSlot [some (.sh,.int c),some (.sh,.str L23),some (.sh,.str w),d,e,f] 3 false (.int (k:Int)) = some [some (.sh,.int c),some (.sh,.str L23),some (.sh,.str w),some (.sh,.int (k:Int)),e,f] from by simp [setSlot]]
   simp only [Option.bind_some]
   rw [hb]
   exact h2
theorem nsFd_eq:namesFd = ⟨1,6,(SL.cons (S.set 1 (T.cst (D.str L23))) (SL.cons (S.set 2 (T.idx (T.var 1) (T.op2 .mod (T.op2 .fdiv (T.var 0) (T.cst (D.int 2))) (T.cst (D.int 23))))) (SL.cons (S.for_ [3] false (TI.rng1 (T.cst (D.int 6))) nsB)
 (SL.cons (S.ifs (T.op2 .eq (T.op2 .mod (T.var 0) (T.cst (D.int 2))) (T.cst (D.int 1))) (SL.cons (S.set 4 (T.op2 .mod (T.op2 .fdiv (T.var 0) (T.cst (D.int 46))) (T.cst (D.int 4)))) (SL.cons (S.ret (T.comp [4,2] 1 false (TI.rng1 (T.cst (D.int 4))) (T.cst (D.bl true)) (T.slc (T.var 2) (T.cst D.non) (T.op2 .add (T.op2 .add (T.var 1) (T.var 0)) (T.cst (D.int 1)))))) SL.nil)) SL.nil)
 (SL.cons (S.set 2 (T.slc (T.var 2) (T.cst D.non) (T.op2 .mod (T.op2 .fdiv (T.var 0) (T.cst (D.int 46))) (T.cst (D.int 8))))) (SL.cons (S.set 5 (T.op2 .mod (T.op2 .fdiv (T.var 0) (T.cst (D.int 368))) (T.op2 .add (T.b1 .len (T.var 2)) (T.cst (D.int 1)))))
 (SL.cons (S.ret (T.comp [5,0,1,2] 1 false (TI.rng1 (T.cst (D.int 4))) (T.cst (D.bl true)) (T.op2 .add (T.op2 .add (T.slc (T.var 4) (T.cst D.non) (T.var 1)) (T.idx (T.var 3) (T.op2 .mod (T.op2 .add (T.op2 .fdiv (T.var 2) (T.cst (D.int 3312))) (T.op2 .mul (T.cst (D.int 5)) (T.var 0))) (T.cst (D.int 23))))) (T.slc (T.var 4) (T.var 1) (T.cst D.non))))) SL.nil)))))))⟩:=rfl
noncomputable def NmOk (N:List (List Nat)):Prop:=N.length = 4 ∧ N.Nodup ∧ ∀ x ∈ N,1 ≤ x.length ∧ x.length ≤ 8
theorem ns_odd (o:Orc) (c:Int) (w:List Nat) (hw:w.length = 7) (hc:c.fmod 2 = 1) (d f:Option Slot):∃ N,NmOk N ∧ ∃ δ,evS o (S.ifs (T.op2 .eq (T.op2 .mod (T.var 0) (T.cst (D.int 2))) (T.cst (D.int 1))) (SL.cons (S.set 4 (T.op2 .mod (T.op2 .fdiv (T.var 0) (T.cst (D.int 46))) (T.cst (D.int 4)))) (SL.cons (S.ret (T.comp [4,2] 1 false (TI.rng1 (T.cst (D.int 4))) (T.cst (D.bl true)) (T.slc (T.var 2) (T.cst D.non) (T.op2 .add (T.op2 .add (T.var 1) (T.var 0)) (T.cst (D.int 1)))))) SL.nil)) SL.nil) [some (.sh,.int c),some (.sh,.str L23),some (.sh,.str w),d,none,f] = .rt true (.lst (N.map .str)) δ:=by
 have r4:=fmod_range (c.fdiv 46) 4 (by decide)
 obtain ⟨j,hj,hs⟩:∃ j:Nat,j < 4 ∧ (c.fdiv 46).fmod 4 = (j:Int):=⟨((c.fdiv 46).fmod 4).toNat,by omega,by omega⟩
 have ln:∀ k,k < 4 → (w.take (j + k + 1)).length = j + k + 1:=fun k hk =>by rw [List.length_take,hw]; omega
 have dif:∀ a b,a < b → b < 4 → w.take (j + a + 1) ≠ w.take (j + b + 1):=fun a b h1 h2 e =>by
  have:=congrArg List.length e
  rw [ln a (Nat.lt_trans h1 h2),ln b h2] at this
  omega
 have hl:∀ k,k < 4 → 1 ≤ (w.take (j + k + 1)).length ∧ (w.take (j + k + 1)).length ≤ 8:=fun k hk =>by rw [ln k hk]; omega
 refine ⟨[0,1,2,3].map fun k =>w.take (j + k + 1),⟨rfl,?_,?_⟩,[some (.sh,.int c),some (.sh,.str L23),some (.sh,.str w),d,some (.sh,.int j),f],?_⟩
 ·simp only [List.map_cons,List.map_nil,List.nodup_cons,List.mem_cons,List.not_mem_nil,or_false,not_or,not_false_eq_true,List.nodup_nil,and_true]
  exact ⟨⟨dif 0 1 (by decide) (by decide),dif 0 2 (by decide) (by decide),dif 0 3 (by decide) (by decide)⟩,⟨dif 1 2 (by decide) (by decide),dif 1 3 (by decide) (by decide)⟩,dif 2 3 (by decide) (by decide)⟩
 ·intro x hx
  obtain ⟨k,hk,rfl⟩:=List.mem_map.mp hx
  exact hl k ((by decide:∀ k ∈ [0,1,2,3],k < 4) k hk)
 ·have e1:ev o [some (.sh,.int c),some (.sh,.str L23),some (.sh,.str w),d,none,f] true (T.op2 .mod (T.var 0) (T.cst (D.int 2))) = .ok (false,.int 1):=by rw [← hc]; exact modOk c 2 (by decide)
  have e2:ev o [some (.sh,.int c),some (.sh,.str L23),some (.sh,.str w),d,none,f] false (T.op2 .mod (T.op2 .fdiv (T.var 0) (T.cst (D.int 46))) (T.cst (D.int 4))) = .ok (false,.int j):=by
   rw [← hs]; simp only [ev,List.getElem?_cons_zero,R.bind,o2]; rw [show arith .fdiv c 46 = _ from fdivOk c 46 (by decide) (by decide)]; exact modOk _ 4 (by decide)
  have hcg:compGo (fun x =>ev o ((x ++ [D.int j,D.str w]).map fun d =>some (Own.sh,d)) false (T.slc (T.var 2) (T.cst D.non) (T.op2 .add (T.op2 .add (T.var 1) (T.var 0)) (T.cst (D.int 1))))) (fun x =>ev o ((x ++ [D.int j,D.str w]).map fun d =>some (Own.sh,d)) true (T.cst (D.bl true))) 1 false ([0,1,2,3].map fun (k:Nat) =>D.int (k:Int)) = .ok ([0,1,2,3].map fun k =>.str (w.take (j + k + 1))) :=
   comp_ofN (fun _ _ =>rfl) fun k _ =>⟨false,(congrArg (fun q =>R.of q) (slc_strT w (j + k + 1)):_)⟩
  have he:=ev_comp o [some (.sh,.int c),some (.sh,.str L23),some (.sh,.str w),d,some (.sh,.int j),f] false (TI.rng1 (T.cst (D.int 4))) [4,2] [.int j,.str w] _ _ 1 false _ _ rfl rfl rfl (by show 4 ≤ 1000; decide) hcg
  have s1:=set_of (i:=4) (δ':=[some (.sh,.int c),some (.sh,.str L23),some (.sh,.str w),d,some (.sh,.int j),f]) e2 rfl
  rw [ifs_of (eqi e1)]
  simp only [evSs,s1,decide_true,if_true]
  simp only [evS,evF,he,SO.of]
  rfl
theorem lt23_ne (q:Int) (a b:Nat) (ha:a < b) (hb:b < 4):lt23 (q + 5 * (a:Int)) ≠ lt23 (q + 5 * (b:Int)):=by
 have r1:=fmod_range (q + 5 * (a:Int)) 23 (by omega)
 have r2:=fmod_range (q + 5 * (b:Int)) 23 (by omega)
 intro e
 unfold lt23 at e
 have hx:((q + 5 * (a:Int)).fmod 23).toNat < L23.length:=by rw [L23_len]; omega
 have hy:((q + 5 * (b:Int)).fmod 23).toNat < L23.length:=by rw [L23_len]; omega
 rw [List.getD_eq_getElem?_getD,List.getD_eq_getElem?_getD,List.getElem?_eq_getElem hx,List.getElem?_eq_getElem hy] at e
 have:=(List.getElem_inj L23_nodup).mp (by simpa using e)
 have e2:(q + 5 * (a:Int)).fmod 23 = (q + 5 * (b:Int)).fmod 23:=by omega
 have f1:=Int.emod_add_mul_ediv (q + 5 * (a:Int)) 23
 have f2:=Int.emod_add_mul_ediv (q + 5 * (b:Int)) 23
 rw [Int.fmod_eq_emod_of_nonneg _ (by omega),Int.fmod_eq_emod_of_nonneg _ (by omega)] at e2
 omega
theorem ins_ne {u v:List Nat} {x y:Nat} (h:x ≠ y):u ++ [x] ++ v ≠ u ++ [y] ++ v:=fun e =>h (by simpa using e)
theorem ns_even (o:Orc) (c:Int) (w:List Nat) (hw:w.length ≤ 7) (p:Int) (hp:0 ≤ p ∧ p ≤ w.length) (d e:Option Slot):∃ N,NmOk N ∧ ev o [some (.sh,.int c),some (.sh,.str L23),some (.sh,.str w),d,e,some (.sh,.int p)] false (T.comp [5,0,1,2] 1 false (TI.rng1 (T.cst (D.int 4))) (T.cst (D.bl true)) (T.op2 .add (T.op2 .add (T.slc (T.var 4) (T.cst D.non) (T.var 1)) (T.idx (T.var 3) (T.op2 .mod (T.op2 .add (T.op2 .fdiv (T.var 2) (T.cst (D.int 3312))) (T.op2 .mul (T.cst (D.int 5)) (T.var 0))) (T.cst (D.int 23))))) (T.slc (T.var 4) (T.var 1) (T.cst D.non)))) = .ok (true,.lst (N.map .str)):=by
 obtain ⟨q,rfl⟩:∃ q:Nat,p = (q:Int):=⟨p.toNat,by omega⟩
 have ne:∀ a b:Nat,a < b → b < 4 → w.take q ++ [lt23 (c.fdiv 3312 + 5 * (a:Int))] ++ w.drop q ≠ w.take q ++ [lt23 (c.fdiv 3312 + 5 * (b:Int))] ++ w.drop q:=fun a b h1 h2 =>ins_ne (lt23_ne _ a b h1 h2)
 have lt:(w.take q).length + (w.drop q).length = w.length:=by rw [← List.length_append,List.take_append_drop]
 have ln:∀ k:Nat,(w.take q ++ [lt23 (c.fdiv 3312 + 5 * (k:Int))] ++ w.drop q).length = w.length + 1:=fun k =>by
  rw [List.length_append,List.length_append,List.length_singleton]; omega
 refine ⟨[0,1,2,3].map fun (k:Nat) =>w.take q ++ [lt23 (c.fdiv 3312 + 5 * (k:Int))] ++ w.drop q,⟨rfl,?_,?_⟩,?_⟩
 ·simp only [List.map_cons,List.map_nil,List.nodup_cons,List.mem_cons,List.not_mem_nil,or_false,not_or,not_false_eq_true,List.nodup_nil,and_true]
  exact ⟨⟨ne 0 1 (by decide) (by decide),ne 0 2 (by decide) (by decide),ne 0 3 (by decide) (by decide)⟩,⟨ne 1 2 (by decide) (by decide),ne 1 3 (by decide) (by decide)⟩,ne 2 3 (by decide) (by decide)⟩
 ·intro x hx
  obtain ⟨k,_,rfl⟩:=List.mem_map.mp hx
  rw [ln k]
  exact ⟨Nat.le_add_left ..,Nat.succ_le_succ hw⟩
 ·refine ev_comp o _ false (TI.rng1 (T.cst (D.int 4))) [5,0,1,2] [.int (q:Int),.int c,.str L23,.str w] ([0,1,2,3].map fun (k:Nat) =>D.int (k:Int)) _ 1 false _ _ rfl rfl rfl (by show 4 ≤ 1000; decide) ?_
  rw [List.map_map]
  refine comp_ofN (fun _ _ =>rfl) fun k _ =>⟨false,?_⟩
  have hm:o2 .mul (.int 5) (.int (k:Int)) = .ok (false,.int (5 * (k:Int))):=by simp only [o2,arith,mul5,R.chk,if_true]
  have hf:o2 .fdiv (.int c) (.int 3312) = .ok (false,.int (c.fdiv 3312)):=fdivOk c 3312 (by decide) (by decide)
  have eJ:ev o ([D.int (k:Int),D.int (q:Int),D.int c,D.str L23,D.str w].map fun d =>some (Own.sh,d)) true (T.op2 .mod (T.op2 .add (T.op2 .fdiv (T.var 2) (T.cst (D.int 3312))) (T.op2 .mul (T.cst (D.int 5)) (T.var 0))) (T.cst (D.int 23))) = .ok (false,.int ((c.fdiv 3312 + 5 * (k:Int)).fmod 23)) :=
   (op2_ev (w1:=false) (w2:=false) (x:=.int (c.fdiv 3312 + 5 * (k:Int))) (y:=.int 23) ((op2_ev (w1:=false) (w2:=false) (x:=.int (c.fdiv 3312)) (y:=.int (5 * (k:Int))) ((op2_ev (w1:=false) (w2:=false) (x:=.int c) (y:=.int 3312) rfl rfl).trans hf) ((op2_ev (w1:=false) (w2:=false) (x:=.int 5) (y:=.int (k:Int)) rfl rfl).trans hm)).trans rfl) rfl).trans (modOk _ 23 (by decide))
  have eI:ev o ([D.int (k:Int),D.int (q:Int),D.int c,D.str L23,D.str w].map fun d =>some (Own.sh,d)) true (T.idx (T.var 3) (T.op2 .mod (T.op2 .add (T.op2 .fdiv (T.var 2) (T.cst (D.int 3312))) (T.op2 .mul (T.cst (D.int 5)) (T.var 0))) (T.cst (D.int 23)))) = .ok (false,.str [lt23 (c.fdiv 3312 + 5 * (k:Int))]) :=
   (congrArg (fun r:R (Bool × D) =>r.bind fun y =>idxD (.str L23) y.2) eJ).trans (idx_23 _)
  have eA:ev o ([D.int (k:Int),D.int (q:Int),D.int c,D.str L23,D.str w].map fun d =>some (Own.sh,d)) true (T.slc (T.var 4) (T.cst D.non) (T.var 1)) = .ok (false,.str (w.take q)):=congrArg R.of (slc_strT w q)
  have eB:ev o ([D.int (k:Int),D.int (q:Int),D.int c,D.str L23,D.str w].map fun d =>some (Own.sh,d)) true (T.slc (T.var 4) (T.var 1) (T.cst D.non)) = .ok (false,.str (w.drop q)):=congrArg R.of (slc_strF w q)
  exact (op2_ev ((op2_ev eA eI).trans (cat_str (by rw [List.length_singleton]; omega))) eB).trans (cat_str (by rw [List.length_append,List.length_singleton]; omega))
theorem names_run (o:Orc) (c:Int):∃ N,NmOk N ∧ runFn o namesFd [.int c] = .ok (true,.lst (N.map .str)):=by
 rw [nsFd_eq]
 have l2:Nat.log2 2 < 9000:=by decide
 have l46:Nat.log2 46 < 9000:=by decide
 have l368:Nat.log2 368 < 9000:=by decide
 have i23:=idx_23 (c.fdiv 2)
 generalize hq:[lt23 (c.fdiv 2)] = q at i23
 have hql:q.length = 1:=by rw [← hq]; rfl
 obtain ⟨w,d',hw,hf⟩:=ns_for o c none none [0,1,2,3,4,5] q none (by simp) (by simp [hql])
 have hw7:w.length = 7:=by rw [hw,hql]; rfl
 have s0:evS o (S.set 1 (T.cst (D.str L23))) [some (.sh,.int c),none,none,none,none,none] = .nx [some (.sh,.int c),some (.sh,.str L23),none,none,none,none]:=rfl
 have s1:evS o (S.set 2 (T.idx (T.var 1) (T.op2 .mod (T.op2 .fdiv (T.var 0) (T.cst (D.int 2))) (T.cst (D.int 23))))) [some (.sh,.int c),some (.sh,.str L23),none,none,none,none] = .nx [some (.sh,.int c),some (.sh,.str L23),some (.sh,.str q),none,none,none]:=by
  simp [evS,evF,ev,R.bind,o2,arith,R.chk,l2,i23,SO.of,setSlot,orStuck]
 have s2:evS o (S.for_ [3] false (TI.rng1 (T.cst (D.int 6))) nsB) [some (.sh,.int c),some (.sh,.str L23),some (.sh,.str q),none,none,none] = .nx [some (.sh,.int c),some (.sh,.str L23),some (.sh,.str w),d',none,none]:=by
  rw [evS]
  simp only [shareIt]
  rw [show evI o [some (.sh,.int c),some (.sh,.str L23),some (.sh,.str q),none,none,none] false (TI.rng1 (T.cst (D.int 6))) = .ok ([0,1,2,3,4,5].map fun (k:Nat) =>D.int (k:Int)) from rfl]
  exact hf
 by_cases hc:c.fmod 2 = 1
 ·obtain ⟨N,hN,δ,h3⟩:=ns_odd o c w hw7 hc d' none
  refine ⟨N,hN,runFn_at rfl (δ0:=[some (.sh,.int c),none,none,none,none,none]) rfl ?_⟩
  exact stp _ s0 (stp _ s1 (stp _ s2 (stpR h3)))
 ·have r8:=fmod_range (c.fdiv 46) 8 (by omega)
  generalize hj:(c.fdiv 46).fmod 8 = j at r8
  have cj:clip w.length j = min j.toNat 7:=by unfold clip; rw [if_pos r8.1,hw7]
  generalize hw2:w.take (min j.toNat 7) = w2
  have hl2:w2.length ≤ 7:=by rw [← hw2]; simp; omega
  have rp:=fmod_range (c.fdiv 368) (w2.length + 1) (by omega)
  generalize hp:(c.fdiv 368).fmod (w2.length + 1) = p at rp
  obtain ⟨N,hN,h6⟩:=ns_even o c w2 hl2 p ⟨rp.1,by omega⟩ d' none
  refine ⟨N,hN,runFn_at rfl (δ0:=[some (.sh,.int c),none,none,none,none,none]) rfl ?_⟩
  refine stp _ s0 (stp _ s1 (stp _ s2 (stp [some (.sh,.int c),some (.sh,.str L23),some (.sh,.str w),d',none,none] ?_ (stp [some (.sh,.int c),some (.sh,.str L23),some (.sh,.str w2),d',none,none] ?_ (stp [some (.sh,.int c),some (.sh,.str L23),some (.sh,.str w2),d',none,some (.sh,.int p)] ?_ (stpR (δ':=[some (.sh,.int c),some (.sh,.str L23),some (.sh,.str w2),d',none,some (.sh,.int p)]) ?_))))))
  ·simp [evS,evSs,ev,R.bind,o2,arith,R.chk,eqA,eqS,R.of,truth,SO.of,hc]
  ·simp [evS,evF,ev,R.bind,o2,arith,R.chk,l46,hj,bnd,slcD,lowOf,highOf,cut,cj,hw2,R.of,SO.of,setSlot,orStuck]
  ·have nz:¬ ((w2.length:Int) + 1 = 0):=by omega
   simp [evS,evF,ev,R.bind,o2,arith,R.chk,l368,b1D,nz,hp,SO.of,setSlot,orStuck]
  ·simp only [evS,evF,h6,SO.of]
noncomputable def numbV (c:Int):Int:=if c.fmod 3 = 0 then (c.fdiv 3).fmod 15 - 7 else (c.fdiv 3).fmod 2000000000000000000000000000000000000000000000000000000000001 - 1000000000000000000000000000000000000000000000000000000000000
theorem numb_run (o:Orc) (c:Int):runFn o numbFd [.int c] = .ok (false,.int (numbV c)):=by
 unfold numbV
 have l3:Nat.log2 3 < 9000:=by decide
 by_cases h:c.fmod 3 = 0
 ·rw [if_pos h]
  simp [runFn,numbFd,evSs,evS,evF,ev,R.bind,o2,arith,R.chk,eqA,eqS,R.of,truth,SO.of,h,l3]
 ·rw [if_neg h]
  have p60:arith .pow 10 60 = .ok (false,.int 1000000000000000000000000000000000000000000000000000000000000):=by rfl
  have mu:arith .mul 2 1000000000000000000000000000000000000000000000000000000000000 = .ok (false,.int 2000000000000000000000000000000000000000000000000000000000000):=by rfl
  have ad:arith .add 2000000000000000000000000000000000000000000000000000000000000 1 = .ok (false,.int 2000000000000000000000000000000000000000000000000000000000001):=by rfl
  have md:∀ x,arith .mod x 2000000000000000000000000000000000000000000000000000000000001 = .ok (false,.int (x.fmod 2000000000000000000000000000000000000000000000000000000000001)):=fun x =>by simp [arith,R.chk]
  have sb:∀ x y,arith .sub x y = .ok (false,.int (x - y)):=fun x y =>rfl
  have d3:arith .fdiv c 3 = .ok (false,.int (c.fdiv 3)):=by simp [arith,R.chk,l3]
  have m3:arith .mod c 3 = .ok (false,.int (c.fmod 3)):=by simp [arith,R.chk]
  generalize (2000000000000000000000000000000000000000000000000000000000001:Int) = A at *
  generalize (2000000000000000000000000000000000000000000000000000000000000:Int) = A' at *
  generalize (1000000000000000000000000000000000000000000000000000000000000:Int) = B at *
  simp [runFn,numbFd,evSs,evS,evF,ev,R.bind,o2,p60,mu,ad,md,sb,d3,m3,eqA,eqS,R.of,truth,SO.of,h]
noncomputable def Bq (x:Int):Prop:=x.natAbs < 2 ^ 1000
theorem bits_bq {x:Int} (h:Bq x):bits x ≤ 1000:=by
 unfold bits
 split
 ·omega
 ·rename_i hb
  have:x.natAbs.log2 < 1000:=(Nat.log2_lt (by omega)).mpr h
  omega
theorem mul_bq {x y:Int} (hx:Bq x) (hy:Bq y):mulOk x y = true:=by
 have h1:=bits_bq hx
 have h2:=bits_bq hy
 unfold mulOk
 simp only [Bool.or_eq_true,decide_eq_true_eq]
 omega
set_option exponentiation.threshold 400 in
theorem bq_of {x:Int} (h:x.natAbs ≤ 2 ^ 300):Bq x:=Nat.lt_of_le_of_lt h (Nat.pow_lt_pow_right (by omega) (by omega))
set_option exponentiation.threshold 400 in
theorem numbV_bq (c:Int):Bq (numbV c):=by
 refine bq_of ?_
 unfold numbV
 have r1:=fmod_range (c.fdiv 3) 15 (by omega)
 have r2:=fmod_range (c.fdiv 3) 2000000000000000000000000000000000000000000000000000000000001 (by decide)
 have e:(2:Nat) ^ 300 = 2037035976334486086268445688409378161051468393665936250636140449354381299763336706183397376:=by decide +kernel
 rw [e]
 split <;> omega
theorem look_none (m:List Pair) (n:List Nat) (h:n ∉ m.map (·.1)):putKs (ksD m) (.s n) = ksD m ++ [.s n] ∧ ∀ v,putV (ksD m) (vsD m) (.s n) v = vsD m ++ [v]:=by
 induction m with
 | nil =>exact ⟨rfl,fun v =>rfl⟩
 | cons p m ih =>
   simp only [List.map_cons,List.mem_cons,not_or] at h
   obtain ⟨i1,i2⟩:=ih h.2
   have ne:¬ (DK.s p.1 = DK.s n):=fun e =>h.1 (by cases e; rfl)
   refine ⟨?_,fun v =>?_⟩
   ·show (if DK.s p.1 = DK.s n then _ else _) = _
    rw [if_neg ne]
    show DK.s p.1 :: putKs (ksD m) (.s n) = _
    rw [i1]; rfl
   ·show (if DK.s p.1 = DK.s n then _ else _) = _
    rw [if_neg ne]
    show D.int p.2 :: putV (ksD m) (vsD m) (.s n) v = _
    rw [i2 v]; rfl
theorem put_new (m:List Pair) (n:List Nat) (v:Int) (h:n ∉ m.map (·.1)) (hm:m.length ≤ 100000):putItem (dctP m) (.str n) (.int v) = some (dctP (m ++ [(n,v)])):=by
 obtain ⟨h1,h2⟩:=look_none m n h
 have hl:(ksD m).length ≤ 100000:=by simpa [ksD] using hm
 show (if (ksD m).length ≤ 100000 then some (D.dct (putKs (ksD m) (.s n)) (putV (ksD m) (vsD m) (.s n) (.int v))) else none) = _
 rw [if_pos hl,h1,h2]
 simp [dctP,ksD,vsD]
noncomputable def ptB (inumber icell_at:Nat):SL:=(SL.cons (S.seti 2 (T.var 4) (T.call inumber (TL.cons (T.call icell_at (TL.cons (T.var 0) (TL.cons (T.op2 .add (T.cst (D.int 1)) (T.var 3)) TL.nil))) TL.nil))) SL.nil)
theorem ptFd_eq (inumber icell_at:Nat):pointFd inumber icell_at = ⟨2,5,(SL.cons (S.set 2 (T.dnew [] TL.nil)) (SL.cons (S.for_ [3,4] true (TI.enum (T.var 1)) (ptB inumber icell_at)) (SL.cons (S.ret (T.var 2)) SL.nil)))⟩:=rfl
section
variable {o:Orc} {inum icell:Nat} {ns:List Int} (hc:∀ k:Nat,o.fn icell [.lst (ns.map .int),.int (k:Int)] = .ok (false,.int (ns.getD k 0))) (hn:∀ c,o.fn inum [.int c] = .ok (false,.int (numbV c)))
include hc hn
theorem pt_body (b:Option Slot) (m:List Pair) (i:Nat) (n:List Nat) (h:n ∉ m.map (·.1)) (hm:m.length ≤ 100000) :
 evSs o (ptB inum icell) [some (.sh,.lst (ns.map .int)),b,some (.ow,dctP m),some (.sh,.int (i:Int)),some (.sh,.str n)] = .nx [some (.sh,.lst (ns.map .int)),b,some (.ow,dctP (m ++ [(n,numbV (ns.getD (1 + i) 0))])),some (.sh,.int (i:Int)),some (.sh,.str n)]:=by
 have hp:=put_new m n (numbV (ns.getD (1 + i) 0)) h hm
 have h1:=hc (1 + i)
 rw [show ((1 + i:Nat):Int) = 1 + (i:Int) from by omega] at h1
 generalize hL:D.lst (ns.map .int) = L at *
 have h2:=hn (ns.getD (1 + i) 0)
 generalize ns.getD (1 + i) 0 = y at *
 generalize numbV y = v at *
 have e:ev o [some (.sh,L),b,some (.ow,dctP m),some (.sh,.int (i:Int)),some (.sh,.str n)] false (T.call inum (TL.cons (T.call icell (TL.cons (T.var 0) (TL.cons (T.op2 .add (T.cst (D.int 1)) (T.var 3)) TL.nil))) TL.nil)) = .ok (false,.int v):=by
  simp [ev,evL,R.bind,o2,arith,lkOwn,isOwn,h1,h2,lent]
 simp only [ptB,evSs,evS,evF,e,SO.of]
 simp [ev,SO.of,ownD,hp,orStuck]
theorem pt_for (b:Option Slot):∀ (l:List (List Nat)) (i:Nat) (m:List Pair) (c d:Option Slot),(∀ n ∈ l,n ∉ m.map (·.1)) → l.Nodup → m.length + l.length ≤ 1000 → (∀ p ∈ m,Bq p.2) →
 ∃ m' c' d',m'.map (·.1) = m.map (·.1) ++ l ∧ (∀ p ∈ m',Bq p.2) ∧ forGo (evSs o (ptB inum icell)) [3,4] true (enumD i (l.map .str)) [some (.sh,.lst (ns.map .int)),b,some (.ow,dctP m),c,d] = .nx [some (.sh,.lst (ns.map .int)),b,some (.ow,dctP m'),c',d']
 | [],i,m,c,d,_,_,_,hb =>⟨m,c,d,by simp,hb,rfl⟩
 | n :: l,i,m,c,d,h,hnd,hl,hb =>by
   simp only [List.length_cons] at hl
   have hn0:n ∉ m.map (·.1):=h n List.mem_cons_self
   have hbd:=pt_body hc hn b m i n hn0 (by omega)
   generalize numbV_bq (ns.getD (1 + i) 0) = hvb at *
   generalize numbV (ns.getD (1 + i) 0) = v at *
   obtain ⟨m',c',d',e1,e2,e3⟩:=pt_for b l (i + 1) (m ++ [(n,v)]) (some (.sh,.int (i:Int))) (some (.sh,.str n)) (fun x hx =>by
    simp only [List.map_append,List.map_cons,List.map_nil,List.mem_append,List.mem_singleton,not_or]
    refine ⟨h x (List.mem_cons_of_mem _ hx),fun e =>?_⟩
    subst e
    exact (List.nodup_cons.mp hnd).1 hx) (List.nodup_cons.mp hnd).2 (by simp; omega) (fun p hp =>by
     rcases List.mem_append.mp hp with hp | hp
     ·exact hb p hp
     ·simp only [List.mem_singleton] at hp; subst hp; exact hvb)
   refine ⟨m',c',d',by rw [e1]; simp,e2,?_⟩
   simp only [List.map_cons,enumD,forGo,takes,if_true,List.length_cons,List.length_nil]
   rw [show setSlots [some (.sh,.lst (ns.map .int)),b,some (.ow,dctP m),c,d] [3,4] [.int (i:Int),.str n] = some [some (.sh,.lst (ns.map .int)),b,some (.ow,dctP m),some (.sh,.int (i:Int)),some (.sh,.str n)] from by simp [setSlots,setSlot]]
   simp only [hbd]
   exact e3
theorem point_run (N:List (List Nat)) (hN:NmOk N):∃ m:List Pair,m.map (·.1) = N ∧ (∀ p ∈ m,Bq p.2) ∧ runFn o (pointFd inum icell) [.lst (ns.map .int),.lst (N.map .str)] = .ok (true,dctP m):=by
 obtain ⟨m,c',d',e1,e2,e3⟩:=pt_for hc hn (some (.sh,.lst (N.map .str))) N 0 [] none none (by simp) hN.2.1 (by simp [hN.1]) (by simp)
 refine ⟨m,by simpa using e1,e2,?_⟩
 rw [ptFd_eq]
 refine runFn_at rfl (δ0:=[some (.sh,.lst (ns.map .int)),some (.sh,.lst (N.map .str)),none,none,none]) rfl ?_
 refine stp [some (.sh,.lst (ns.map .int)),some (.sh,.lst (N.map .str)),some (.ow,dctP []),none,none] ?_ (stp [some (.sh,.lst (ns.map .int)),some (.sh,.lst (N.map .str)),some (.ow,dctP m),c',d'] ?_ (stpR (δ':=[some (.sh,.lst (ns.map .int)),some (.sh,.lst (N.map .str)),some (.ow,dctP m),c',d']) ?_))
 ·simp [evS,evF,ev,evL,R.bind,R.chk,SO.of,setSlot,orStuck,dctP,ksD,vsD]
 ·rw [evS]
  rw [show shareIt [some (.sh,.lst (ns.map .int)),some (.sh,.lst (N.map .str)),some (.ow,dctP []),none,none] (TI.enum (T.var 1)) = [some (.sh,.lst (ns.map .int)),some (.sh,.lst (N.map .str)),some (.ow,dctP []),none,none] from rfl]
  show SO.of _ (evI o _ false (TI.enum (T.var 1))) _ = _
  rw [show evI o [some (.sh,.lst (ns.map .int)),some (.sh,.lst (N.map .str)),some (.ow,dctP []),none,none] false (TI.enum (T.var 1)) = .ok (enumD 0 (N.map .str)) from rfl]
  exact e3
 ·rfl
end
noncomputable def manyV (x key:Int):Int:=if x.fmod 5 = 1 then (key + 1) * (1 - 2 * (x.fdiv 5).fmod 2) else ((x.fdiv 5).fmod 7 - 3) * (1 + (x.fdiv 35).fmod 4)
theorem many_run (o:Orc) (x key:Int):runFn o manyFd [.int x,.int key] = .ok (false,.int (manyV x key)):=by
 unfold manyV
 have r2:=fmod_range (x.fdiv 5) 2 (by decide)
 have r4:=fmod_range (x.fdiv 35) 4 (by decide)
 have f5:o2 .fdiv (.int x) (.int 5) = .ok (false,.int (x.fdiv 5)):=fdivOk x 5 (by decide) (by decide)
 have f35:o2 .fdiv (.int x) (.int 35) = .ok (false,.int (x.fdiv 35)):=fdivOk x 35 (by decide) (by decide)
 have ec:ev o [some (.sh,.int x),some (.sh,.int key)] true (T.op2 .eq (T.op2 .mod (T.var 0) (T.cst (D.int 5))) (T.cst (D.int 1))) = .ok (false,.bl (decide (x.fmod 5 = 1))):=eqi ((op2_ev rfl rfl).trans (modE x 5 (by decide)))
 by_cases h:x.fmod 5 = 1
 ·rw [if_pos h]
  exact runFn_at rfl (δ0:=[some (.sh,.int x),some (.sh,.int key)]) rfl (stpR (ifR (ec.trans (by rw [decide_eq_true h])) (retR ((op2_ev ((op2_ev (ev_var rfl) ev_cst).trans rfl) ((op2_ev ev_cst ((op2_ev ev_cst ((op2_ev ((op2_ev (ev_var rfl) ev_cst).trans f5) ev_cst).trans (modE _ 2 (by decide)))).trans (mulE (mul64 (by omega))))).trans rfl)).trans (mulE (mul64 (by omega)))) rfl)))
 ·rw [if_neg h]
  exact runFn_at rfl (δ0:=[some (.sh,.int x),some (.sh,.int key)]) rfl (stp _ (ifN (ec.trans (by rw [decide_eq_false h]))) (stpR (retR ((op2_ev ((op2_ev ((op2_ev ((op2_ev (ev_var rfl) ev_cst).trans f5) ev_cst).trans (modE _ 7 (by decide))) ev_cst).trans rfl) ((op2_ev ev_cst ((op2_ev ((op2_ev (ev_var rfl) ev_cst).trans f35) ev_cst).trans (modE _ 4 (by decide)))).trans rfl)).trans (mulE (mul64 (by omega)))) rfl)))
theorem manyV_bd (x key:Int) (h0:0 ≤ key):(manyV x key).natAbs ≤ key.natAbs + 100:=by
 unfold manyV
 split
 ·have r2:=fmod_range (x.fdiv 5) 2 (by decide)
  rw [Int.natAbs_mul]
  exact Nat.le_trans (Nat.mul_le_mul (Int.natAbs_add_le key 1) (show _ ≤ 1 by omega)) (by rw [Nat.mul_one]; exact Nat.add_le_add_left (by decide) _)
 ·have r7:=fmod_range (x.fdiv 5) 7 (by decide)
  have r4:=fmod_range (x.fdiv 35) 4 (by decide)
  rw [Int.natAbs_mul]
  exact Nat.le_trans (Nat.mul_le_mul (show _ ≤ 3 by omega) (show _ ≤ 4 by omega)) (Nat.le_trans (by decide) (Nat.le_add_left 100 _))
theorem near_run (o:Orc) (c:Int):∃ v,runFn o nearFd [.int c] = .ok (false,.int v):=by
 have l4:Nat.log2 4 < 9000:=by decide
 by_cases h:c.fmod 4 = 3
 ·have p20:arith .pow 10 20 = .ok (false,.int 100000000000000000000):=by rfl
  have mu:arith .mul 2 100000000000000000000 = .ok (false,.int 200000000000000000000):=by rfl
  have ad:arith .add 200000000000000000000 1 = .ok (false,.int 200000000000000000001):=by rfl
  have md:∀ x,arith .mod x 200000000000000000001 = .ok (false,.int (x.fmod 200000000000000000001)):=fun x =>by simp [arith,R.chk]
  have sb:∀ x y,arith .sub x y = .ok (false,.int (x - y)):=fun x y =>rfl
  have d3:arith .fdiv c 4 = .ok (false,.int (c.fdiv 4)):=by simp [arith,R.chk,l4]
  have m3:arith .mod c 4 = .ok (false,.int (c.fmod 4)):=by simp [arith,R.chk]
  generalize (200000000000000000001:Int) = A at *
  generalize (200000000000000000000:Int) = A' at *
  generalize (100000000000000000000:Int) = B at *
  exact ⟨_,by simp [runFn,nearFd,evSs,evS,evF,ev,R.bind,o2,p20,mu,ad,md,sb,d3,m3,eqA,eqS,R.of,truth,SO.of,h]; rfl⟩
 ·exact ⟨_,by simp [runFn,nearFd,evSs,evS,evF,ev,R.bind,o2,arith,R.chk,eqA,eqS,R.of,truth,SO.of,h,l4]; rfl⟩
noncomputable def LEAST:List Nat:=[108,101,97,115,116]
noncomputable def REST:List Nat:=[114,101,115,116]
noncomputable def NOT:List Nat:=[110,111,116]
noncomputable def AND:List Nat:=[97,110,100]
noncomputable def OR:List Nat:=[111,114]
noncomputable def SOME:List Nat:=[115,111,109,101]
noncomputable def ALL:List Nat:=[97,108,108]
noncomputable def SumD (N:List (List Nat)) (s:D):Prop:=∃ (c:Int) (L:List Pair),s = .tup [.int c,.tup (L.map prD)] ∧ Srt (L.map (·.1)) ∧ (L.map (·.1)).Nodup ∧ (∀ p ∈ L,p.2 ≠ 0 ∧ Bq p.2 ∧ p.1 ∈ N) ∧ L.length ≤ 4
noncomputable def AtmD (N:List (List Nat)) (d:D):Prop:=∃ s,SumD N s ∧ (d = .tup [.str LEAST,s] ∨ ∃ m:Int,1 ≤ m ∧ Bq m ∧ d = .tup [.str REST,.int m,s])
structure PtOk (N:List (List Nat)) (m:List Pair):Prop where
 keys:m.map (·.1) = N
 nd:N.Nodup
 le:N.length ≤ 4
 bd:∀ p ∈ m,Bq p.2
theorem PtOk.len {N:List (List Nat)} {m:List Pair} (P:PtOk N m):m.length ≤ 4:=by
 have:=congrArg List.length P.keys
 have h:=P.le
 simp at this
 omega
theorem look_mem:∀ (m:List Pair) (n:List Nat),n ∈ m.map (·.1) → ∃ v,(n,v) ∈ m ∧ look (ksD m) (vsD m) (.s n) = some (.int v)
 | [],_,h =>by simp at h
 | p :: m,n,h =>by
   by_cases e:p.1 = n
   ·exact ⟨p.2,by subst e; simp,by simp [ksD,vsD,look,e]⟩
   ·obtain ⟨v,h1,h2⟩:=look_mem m n (by simpa [Ne.symm e] using h)
    exact ⟨v,List.mem_cons_of_mem _ h1,by simp only [ksD,vsD,List.map_cons,look,DK.s.injEq,e,if_false]; exact h2⟩
theorem PtOk.get {N:List (List Nat)} {m:List Pair} (P:PtOk N m) {n:List Nat} (h:n ∈ N):∃ v,Bq v ∧ idxD (dctP m) (.str n) = .ok (false,.int v):=by
 obtain ⟨v,h1,h2⟩:=look_mem m n (by rw [P.keys]; exact h)
 exact ⟨v,P.bd _ h1,by simp [idxD,dctP,keyOf,h2,R.of]⟩
theorem PtOk.sorted {N:List (List Nat)} {m:List Pair} (P:PtOk N m):b1D .sorted (dctP m) = .ok (true,.lst ((sortS N).map .str)):=by
 rw [← P.keys]
 exact sorted_P m (by have:=P.len; omega)
theorem sm_x {o:Orc} {δ:Dst} {cell sp:Int} {i:Nat} (h0:δ[0]? = some (some (.sh,.int cell))) (h2:δ[2]? = some (some (.sh,.int sp))) (h5:δ[5]? = some (some (.sh,.int (i:Int)))) (spn:¬ sp = 0) (m0:mulOk 2 (i:Int) = true) (m1:mulOk (cell.fmod sp + (i:Int)) (2 * (i:Int) + 3) = true) :
 ev o δ false (T.op2 .mod (T.op2 .mul (T.op2 .mul (T.op2 .add (T.op2 .mod (T.var 0) (T.var 2)) (T.var 5)) (T.op2 .add (T.op2 .mul (T.cst (D.int 2)) (T.var 5)) (T.cst (D.int 3)))) (T.cst (D.int 48271))) (T.cst (D.int 1000003))) = .ok (false,.int (((cell.fmod sp + i) * (2 * i + 3) * 48271).fmod 1000003)) :=
 (op2_ev ((op2_ev ((op2_ev ((op2_ev ((op2_ev (ev_var h0) (ev_var h2)).trans (modE cell sp spn)) (ev_var h5)).trans rfl) ((op2_ev ((op2_ev ev_cst (ev_var h5)).trans (mulE m0)) ev_cst).trans rfl)).trans (mulE m1)) ev_cst).trans (mulE (mul64 (by decide)))) ev_cst).trans (modE _ 1000003 (by decide))
theorem sm_k {o:Orc} {δ:Dst} {imany:Nat} {cell sp x y:Int} (h0:δ[0]? = some (some (.sh,.int cell))) (h2:δ[2]? = some (some (.sh,.int sp))) (h7:δ[7]? = some (some (.sh,.int x))) (spn:¬ sp = 0) (hm:o.fn imany [.int x,.int (cell.fmod sp)] = .ok (false,.int y)) (m3:mulOk 2 ((cell.fdiv 48).fmod 2) = true) (m4:mulOk y (1 - 2 * (cell.fdiv 48).fmod 2) = true) :
 ev o δ false (T.op2 .mul (T.call imany (TL.cons (T.var 7) (TL.cons (T.op2 .mod (T.var 0) (T.var 2)) TL.nil))) (T.op2 .sub (T.cst (D.int 1)) (T.op2 .mul (T.cst (D.int 2)) (T.op2 .mod (T.op2 .fdiv (T.var 0) (T.cst (D.int 48))) (T.cst (D.int 2)))))) = .ok (false,.int (y * (1 - 2 * (cell.fdiv 48).fmod 2))):=by
 have e1:ev o δ true (T.call imany (TL.cons (T.var 7) (TL.cons (T.op2 .mod (T.var 0) (T.var 2)) TL.nil))) = .ok (false,.int y):=by
  have e7:lkOwn δ (T.var 7) = false:=by simp only [lkOwn,isOwn,h7]
  have em:ev o δ false (T.op2 .mod (T.var 0) (T.var 2)) = .ok (false,.int (cell.fmod sp)):=(op2_ev (ev_var h0) (ev_var h2)).trans (modE cell sp spn)
  have e8:lkOwn δ (T.op2 .mod (T.var 0) (T.var 2)) = false:=rfl
  rw [ev]; simp only [evL,e7,e8,ev_var h7,em,R.bind,Bool.or_false,hm,lent,Bool.false_eq_true,if_false]
 exact (op2_ev e1 ((op2_ev ev_cst ((op2_ev ev_cst ((op2_ev ((op2_ev (ev_var h0) ev_cst).trans (fdE48 cell)) ev_cst).trans (modE _ 2 (by decide)))).trans (mulE m3))).trans rfl)).trans (mulE m4)
noncomputable def smB (imany:Nat):SL:=(SL.cons (S.set 7 (T.op2 .mod (T.op2 .mul (T.op2 .mul (T.op2 .add (T.op2 .mod (T.var 0) (T.var 2)) (T.var 5)) (T.op2 .add (T.op2 .mul (T.cst (D.int 2)) (T.var 5)) (T.cst (D.int 3)))) (T.cst (D.int 48271))) (T.cst (D.int 1000003)))) (SL.cons (S.set 8 (T.op2 .mul (T.call imany (TL.cons (T.var 7) (TL.cons (T.op2 .mod (T.var 0) (T.var 2)) TL.nil))) (T.op2 .sub (T.cst (D.int 1)) (T.op2 .mul (T.cst (D.int 2)) (T.op2 .mod (T.op2 .fdiv (T.var 0) (T.cst (D.int 48))) (T.cst (D.int 2))))))) (SL.cons (S.ifs (T.op2 .ne (T.var 8) (T.cst (D.int 0))) (SL.cons (S.append 3 (T.tup (TL.cons (T.var 6) (TL.cons (T.var 8) TL.nil)))) (SL.cons (S.set 4 (T.op2 .sub (T.var 4) (T.op2 .mul (T.var 8) (T.idx (T.var 1) (T.var 6))))) SL.nil)) SL.nil) SL.nil)))
theorem smFd_eq (inear imany:Nat):lsumFd inear imany = ⟨3,9,(SL.cons (S.set 3 (T.lst TL.nil)) (SL.cons (S.set 4 (T.call inear (TL.cons (T.op2 .fdiv (T.var 0) (T.cst (D.int 16))) TL.nil))) (SL.cons (S.for_ [5,6] true (TI.enum (T.b1 .sorted (T.var 1))) (smB imany)) (SL.cons (S.ret (T.tup (TL.cons (T.var 4) (TL.cons (T.b1 .tuple (T.var 3)) TL.nil)))) SL.nil))))⟩:=rfl
section
variable {o:Orc} {imany inear:Nat} (hm:∀ x k:Int,o.fn imany [.int x,.int k] = .ok (false,.int (manyV x k))) (hnr:∀ c:Int,∃ v,o.fn inear [.int c] = .ok (false,.int v))
variable {N:List (List Nat)} {m:List Pair} (P:PtOk N m) {sp:Int} (hsp:0 < sp ∧ sp ≤ 100000000000000000000)
include hm P hsp
theorem sm_body (cell c:Int) (L:List Pair) (i:Nat) (hi:i < 1000) (n:List Nat) (hn:n ∈ N) (g h:Option Slot) (hL:L.length ≤ 1000):∃ (k c':Int) (g' h':Option Slot) ,Bq k ∧
 evSs o (smB imany) [some (.sh,.int cell),some (.sh,dctP m),some (.sh,.int sp),some (.ow,.lst (L.map prD)),some (.sh,.int c),some (.sh,.int (i:Int)),some (.sh,.str n),g,h] =
  .nx [some (.sh,.int cell),some (.sh,dctP m),some (.sh,.int sp),some (.ow,.lst ((if k = 0 then L else L ++ [(n,k)]).map prD)),some (.sh,.int c'),some (.sh,.int (i:Int)),some (.sh,.str n),g',h']:=by
 obtain ⟨v,hv,hg⟩:=P.get hn
 have rk:=fmod_range cell sp hsp.1
 have l48:Nat.log2 48 < 9000:=by decide
 have r2:=fmod_range (cell.fdiv 48) 2 (by omega)
 have spn:¬ (sp = 0):=by omega
 generalize hx:((cell.fmod sp + i) * (2 * i + 3) * 48271).fmod 1000003 = x
 have hk:=manyV_bd x (cell.fmod sp) rk.1
 have hmx:=hm x (cell.fmod sp)
 generalize manyV x (cell.fmod sp) = y at hk hmx
 generalize hk2:y * (1 - 2 * (cell.fdiv 48).fmod 2) = k
 have kb:Bq k:=by
  refine bq_of (Nat.le_trans ?_ (Nat.pow_le_pow_right (by omega) (show 80 ≤ 300 by omega)))
  rw [← hk2]
  rw [Int.natAbs_mul]
  exact Nat.le_trans (Nat.mul_le_mul hk (show _ ≤ 1 by omega)) (by rw [Nat.mul_one]; omega)
 have mv:mulOk k v = true:=mul_bq kb hv
 have m1:mulOk (cell.fmod sp + (i:Int)) (2 * (i:Int) + 3) = true:=mul64 (by omega)
 have m0:mulOk 2 (i:Int) = true:=mul64 (by omega)
 have m3:mulOk 2 ((cell.fdiv 48).fmod 2) = true:=mul64 (by omega)
 have m4:mulOk y (1 - 2 * (cell.fdiv 48).fmod 2) = true:=mul64 (by omega)
 have s1:=set_of (i:=7) (δ':=[some (.sh,.int cell),some (.sh,dctP m),some (.sh,.int sp),some (.ow,.lst (L.map prD)),some (.sh,.int c),some (.sh,.int (i:Int)),some (.sh,.str n),some (.sh,.int x),h]) (hx ▸ sm_x (o:=o) (δ:=[some (.sh,.int cell),some (.sh,dctP m),some (.sh,.int sp),some (.ow,.lst (L.map prD)),some (.sh,.int c),some (.sh,.int (i:Int)),some (.sh,.str n),g,h]) rfl rfl rfl spn m0 m1) rfl
 have s2:=set_of (i:=8) (δ':=[some (.sh,.int cell),some (.sh,dctP m),some (.sh,.int sp),some (.ow,.lst (L.map prD)),some (.sh,.int c),some (.sh,.int (i:Int)),some (.sh,.str n),some (.sh,.int x),some (.sh,.int k)]) (hk2 ▸ sm_k (δ:=[some (.sh,.int cell),some (.sh,dctP m),some (.sh,.int sp),some (.ow,.lst (L.map prD)),some (.sh,.int c),some (.sh,.int (i:Int)),some (.sh,.str n),some (.sh,.int x),h]) rfl rfl rfl spn hmx m3 m4) rfl
 rw [smB,evSs_nx s1,evSs_nx s2]
 by_cases k0:k = 0
 ·refine ⟨k,c,some (.sh,.int x),some (.sh,.int k),kb,?_⟩
  simp [evSs,evS,ev,R.bind,o2,eqA,eqS,R.of,truth,SO.of,k0]
 ·refine ⟨k,c - k * v,some (.sh,.int x),some (.sh,.int k),kb,?_⟩
  have hs:size ((L.map prD).length + 1) = true:=by simp [size]; omega
  have hs2:size 2 = true:=by decide
  generalize hM:dctP m = M at *
  have a1:evS o (S.append 3 (T.tup (TL.cons (T.var 6) (TL.cons (T.var 8) TL.nil)))) [some (.sh,.int cell),some (.sh,M),some (.sh,.int sp),some (.ow,.lst (L.map prD)),some (.sh,.int c),some (.sh,.int (i:Int)),some (.sh,.str n),some (.sh,.int x),some (.sh,.int k)] = .nx [some (.sh,.int cell),some (.sh,M),some (.sh,.int sp),some (.ow,.lst (L.map prD ++ [.tup [.str n,.int k]])),some (.sh,.int c),some (.sh,.int (i:Int)),some (.sh,.str n),some (.sh,.int x),some (.sh,.int k)]:=by
   generalize L.map prD = L' at *
   simp [evS,evF,ev,evL,R.bind,R.chk,lkOwn,isOwn,SO.of,ownD,orStuck,hs,hs2]
  have a2:evS o (S.set 4 (T.op2 .sub (T.var 4) (T.op2 .mul (T.var 8) (T.idx (T.var 1) (T.var 6))))) [some (.sh,.int cell),some (.sh,M),some (.sh,.int sp),some (.ow,.lst (L.map prD ++ [.tup [.str n,.int k]])),some (.sh,.int c),some (.sh,.int (i:Int)),some (.sh,.str n),some (.sh,.int x),some (.sh,.int k)] = .nx [some (.sh,.int cell),some (.sh,M),some (.sh,.int sp),some (.ow,.lst (L.map prD ++ [.tup [.str n,.int k]])),some (.sh,.int (c - k * v)),some (.sh,.int (i:Int)),some (.sh,.str n),some (.sh,.int x),some (.sh,.int k)]:=by
   simp [evS,evF,ev,R.bind,hg,o2,arith,R.chk,mv,SO.of,setSlot,orStuck]
  have ht:((ev o [some (.sh,.int cell),some (.sh,M),some (.sh,.int sp),some (.ow,.lst (L.map prD)),some (.sh,.int c),some (.sh,.int (i:Int)),some (.sh,.str n),some (.sh,.int x),some (.sh,.int k)] true (T.op2 .ne (T.var 8) (T.cst (D.int 0)))).bind fun x =>R.of (truth x.2)) = .ok true:=by
   simp [ev,R.bind,o2,eqA,eqS,R.of,truth,k0]
  have hth:=(evSs_nx (l:=SL.cons (S.set 4 (T.op2 .sub (T.var 4) (T.op2 .mul (T.var 8) (T.idx (T.var 1) (T.var 6))))) SL.nil) a1).trans (evSs_nx (l:=SL.nil) a2)
  rw [evSs_nx (δ':=[some (.sh,.int cell),some (.sh,M),some (.sh,.int sp),some (.ow,.lst (L.map prD ++ [.tup [.str n,.int k]])),some (.sh,.int (c - k * v)),some (.sh,.int (i:Int)),some (.sh,.str n),some (.sh,.int x),some (.sh,.int k)])]
  ·simp [evSs,k0,prD]
  ·rw [evS,ht]
   simp only [SO.of,if_true]
   rw [hth]
   rfl
theorem sm_for (cell:Int):∀ (l:List (List Nat)) (i:Nat) (L:List Pair) (c:Int) (e f g h:Option Slot),(∀ n ∈ l,n ∈ N) → i + l.length ≤ 500 → L.length + l.length ≤ 500 → ∃ (L':List Pair) (c':Int) (e' f' g' h':Option Slot),(L'.map (·.1)).Sublist l ∧ (∀ p ∈ L',p.2 ≠ 0 ∧ Bq p.2) ∧
 forGo (evSs o (smB imany)) [5,6] true (enumD i (l.map .str)) [some (.sh,.int cell),some (.sh,dctP m),some (.sh,.int sp),some (.ow,.lst (L.map prD)),some (.sh,.int c),e,f,g,h] =
  .nx [some (.sh,.int cell),some (.sh,dctP m),some (.sh,.int sp),some (.ow,.lst ((L ++ L').map prD)),some (.sh,.int c'),e',f',g',h']
 | [],i,L,c,e,f,g,h,_,_,_ =>⟨[],c,e,f,g,h,by simp,by simp,by simp [enumD,forGo]⟩
 | n :: l,i,L,c,e,f,g,h,hn,hi,hL =>by
   simp only [List.length_cons] at hi hL
   obtain ⟨k,c1,g1,h1,kb,hb⟩:=sm_body hm P hsp cell c L i (by omega) n (hn n List.mem_cons_self) g h (by omega)
   have hl2:(if k = 0 then L else L ++ [(n,k)]).length ≤ L.length + 1:=by split <;> simp
   obtain ⟨L',c',e',f',g',h',q1,q2,q3⟩:=sm_for cell l (i + 1) (if k = 0 then L else L ++ [(n,k)]) c1 (some (.sh,.int (i:Int))) (some (.sh,.str n)) g1 h1 (fun x hx =>hn x (List.mem_cons_of_mem _ hx)) (by omega) (by omega)
   have hrun:forGo (evSs o (smB imany)) [5,6] true (enumD i ((n :: l).map .str)) [some (.sh,.int cell),some (.sh,dctP m),some (.sh,.int sp),some (.ow,.lst (L.map prD)),some (.sh,.int c),e,f,g,h] = .nx [some (.sh,.int cell),some (.sh,dctP m),some (.sh,.int sp),some (.ow,.lst (((if k = 0 then L else L ++ [(n,k)]) ++ L').map prD)),some (.sh,.int c'),e',f',g',h']:=by
    simp only [List.map_cons,enumD,forGo,takes,if_true,List.length_cons,List.length_nil]
    rw [show setSlots [some (.sh,.int cell),some (.sh,dctP m),some (.sh,.int sp),some (.ow,.lst (L.map prD)),some (.sh,.int c),e,f,g,h] [5,6] [.int (i:Int),.str n] = some [some (.sh,.int cell),some (.sh,dctP m),some (.sh,.int sp),some (.ow,.lst (L.map prD)),some (.sh,.int c),some (.sh,.int (i:Int)),some (.sh,.str n),g,h] from by simp [setSlots,setSlot]]
    simp only [hb]
    exact q3
   by_cases k0:k = 0
   ·rw [if_pos k0] at hrun
    exact ⟨L',c',e',f',g',h',q1.trans (List.sublist_cons_self n l),q2,hrun⟩
   ·rw [if_neg k0] at hrun
    refine ⟨(n,k) :: L',c',e',f',g',h',?_,?_,by rw [hrun]; simp⟩
    ·simp only [List.map_cons]; exact q1.cons₂ n
    ·intro p hp
     rcases List.mem_cons.mp hp with rfl | hp
     ·exact ⟨k0,kb⟩
     ·exact q2 p hp
include hnr
theorem lsum_run (cell:Int):∃ s,SumD N s ∧ runFn o (lsumFd inear imany) [.int cell,dctP m,.int sp] = .ok (false,s):=by
 obtain ⟨c0,hc0⟩:=hnr (cell.fdiv 16)
 have hperm:=sortS_perm N
 have hlen:(sortS N).length ≤ 4:=by rw [hperm.length_eq]; exact P.le
 obtain ⟨L,c,e',f',g',h',q1,q2,q3⟩:=sm_for hm P hsp cell (sortS N) 0 [] c0 none none none none (fun n hn =>hperm.mem_iff.mp hn) (by omega) (by simp; omega)
 have l16:Nat.log2 16 < 9000:=by decide
 have hll:L.length ≤ 4:=by have:=q1.length_le; simp at this; omega
 refine ⟨.tup [.int c,.tup (L.map prD)],⟨c,L,rfl,(sortS_srt N).sublist q1,(hperm.nodup_iff.mpr P.nd).sublist q1,fun p hp =>⟨(q2 p hp).1,(q2 p hp).2,hperm.mem_iff.mp (q1.subset (List.mem_map_of_mem hp))⟩,hll⟩,?_⟩
 rw [smFd_eq]
 have hso:=P.sorted
 generalize hM:dctP m = M at *
 refine runFn_at rfl (δ0:=[some (.sh,.int cell),some (.sh,M),some (.sh,.int sp),none,none,none,none,none,none]) rfl ?_
 refine stp [some (.sh,.int cell),some (.sh,M),some (.sh,.int sp),some (.ow,.lst []),none,none,none,none,none] ?_ (stp [some (.sh,.int cell),some (.sh,M),some (.sh,.int sp),some (.ow,.lst []),some (.sh,.int c0),none,none,none,none] ?_ (stp [some (.sh,.int cell),some (.sh,M),some (.sh,.int sp),some (.ow,.lst (L.map prD)),some (.sh,.int c),e',f',g',h'] ?_ (stpR (δ':=[some (.sh,.int cell),some (.sh,M),some (.sh,.int sp),some (.ow,.lst (L.map prD)),some (.sh,.int c),e',f',g',h']) ?_)))
 ·simp [evS,evF,ev,evL,R.bind,R.chk,size,SO.of,setSlot,orStuck]
 ·simp [evS,evF,ev,evL,R.bind,o2,arith,R.chk,l16,lkOwn,hc0,lent,SO.of,setSlot,orStuck]
 ·rw [evS]
  simp only [shareIt]
  rw [show evI o [some (.sh,.int cell),some (.sh,M),some (.sh,.int sp),some (.ow,.lst []),some (.sh,.int c0),none,none,none,none] false (TI.enum (T.b1 .sorted (T.var 1))) = .ok (enumD 0 ((sortS N).map .str)) from by simp [evI,ev,R.bind,hso]]
  simpa [SO.of] using q3
 ·have hs:size 2 = true:=by decide
  simp [evS,evF,ev,evL,R.bind,R.chk,b1D,lkOwn,isOwn,hs,SO.of]
end
set_option exponentiation.threshold 400 in
theorem Bq_small {x:Int} (h:x.natAbs ≤ 1000000000000000000000):Bq x:=by
 refine bq_of (Nat.le_trans h (Nat.le_trans (show (1000000000000000000000:Nat) ≤ 2 ^ 100 by decide) (Nat.pow_le_pow_right (by omega) (by omega))))
theorem atom_run {o:Orc} {isum:Nat} {N:List (List Nat)} {M:D} {sp:Int} (hsp:0 < sp ∧ sp ≤ 100000000000000000000) (cell:Int) (hs:∃ s,SumD N s ∧ o.fn isum [.int cell,M,.int sp] = .ok (false,s)):∃ d,AtmD N d ∧ runFn o (atomFd isum) [.int cell,M,.int sp] = .ok (false,d):=by
 obtain ⟨s,h1,h2⟩:=hs
 have l2:Nat.log2 2 < 9000:=by decide
 have spn:¬ (sp = 0):=by omega
 have s2:size 2 = true:=by decide
 have s3:size 3 = true:=by decide
 have rk:=fmod_range cell sp hsp.1
 have r8:=fmod_range (cell.fdiv 2) 8 (by omega)
 have st1:evS o (S.set 3 (T.call isum (TL.cons (T.var 0) (TL.cons (T.var 1) (TL.cons (T.var 2) TL.nil))))) [some (.sh,.int cell),some (.sh,M),some (.sh,.int sp),none] = .nx [some (.sh,.int cell),some (.sh,M),some (.sh,.int sp),some (.sh,s)]:=by
  simp [evS,evF,ev,evL,R.bind,lkOwn,isOwn,h2,lent,SO.of,setSlot,orStuck]
 by_cases c1:cell.fmod 2 = 0
 ·refine ⟨_,⟨s,h1,.inl rfl⟩,?_⟩
  refine runFn_at rfl (δ0:=[some (.sh,.int cell),some (.sh,M),some (.sh,.int sp),none]) rfl (stp _ st1 (stpR (δ':=[some (.sh,.int cell),some (.sh,M),some (.sh,.int sp),some (.sh,s)]) ?_))
  simp [evS,evSs,evF,ev,evL,R.bind,o2,arith,R.chk,eqA,eqS,R.of,truth,SO.of,c1,lkOwn,isOwn,s2,LEAST]
 ·by_cases c2:(cell.fdiv 2).fmod 8 = 7
  ·refine ⟨_,⟨s,h1,.inr ⟨cell.fmod sp + 1,by omega,Bq_small (by omega),rfl⟩⟩,?_⟩
   refine runFn_at rfl (δ0:=[some (.sh,.int cell),some (.sh,M),some (.sh,.int sp),none]) rfl (stp _ st1 (stp [some (.sh,.int cell),some (.sh,M),some (.sh,.int sp),some (.sh,s)] ?_ (stpR (δ':=[some (.sh,.int cell),some (.sh,M),some (.sh,.int sp),some (.sh,s)]) ?_)))
   ·simp [evS,evSs,ev,R.bind,o2,arith,R.chk,eqA,eqS,R.of,truth,SO.of,c1]
   ·simp [evS,evSs,evF,ev,evL,R.bind,o2,arith,R.chk,eqA,eqS,R.of,truth,SO.of,c2,l2,spn,lkOwn,isOwn,s3,REST]
  ·refine ⟨_,⟨s,h1,.inr ⟨(cell.fdiv 2).fmod 8 + 1,by omega,Bq_small (by omega),rfl⟩⟩,?_⟩
   refine runFn_at rfl (δ0:=[some (.sh,.int cell),some (.sh,M),some (.sh,.int sp),none]) rfl (stp _ st1 (stp [some (.sh,.int cell),some (.sh,M),some (.sh,.int sp),some (.sh,s)] ?_ (stp [some (.sh,.int cell),some (.sh,M),some (.sh,.int sp),some (.sh,s)] ?_ (stpR (δ':=[some (.sh,.int cell),some (.sh,M),some (.sh,.int sp),some (.sh,s)]) ?_))))
   ·simp [evS,evSs,ev,R.bind,o2,arith,R.chk,eqA,eqS,R.of,truth,SO.of,c1]
   ·simp [evS,evSs,ev,R.bind,o2,arith,R.chk,eqA,eqS,R.of,truth,SO.of,c2,l2]
   ·simp [evS,evSs,evF,ev,evL,R.bind,o2,arith,R.chk,SO.of,l2,lkOwn,isOwn,s3,REST]
end KG

namespace KG
open Z
noncomputable def Stm (qb:Bool) (N:List (List Nat)):Nat → D → Prop
 | 0,d =>AtmD N d
 | n + 1,d =>AtmD N d ∨ (∃ p,Stm qb N n p ∧ d = .tup [.str NOT,p]) ∨ (∃ (w:List Nat) (l:List D),(w = AND ∨ w = OR) ∧ l.length ≤ 1000 ∧ (∀ p ∈ l,Stm qb N n p) ∧ d = .tup [.str w,.tup l]) ∨ (∃ (w x:List Nat) (p:D),qb = true ∧ (w = SOME ∨ w = ALL) ∧ x ∈ N ∧ Stm qb N n p ∧ d = .tup [.str w,.str x,p])
theorem Stm.atom {qb:Bool} {N:List (List Nat)} {d:D} (h:AtmD N d):∀ n,Stm qb N n d
 | 0 =>h
 | _ + 1 =>.inl h
theorem Stm.up {qb:Bool} {N:List (List Nat)}:∀ {n:Nat} {d:D},Stm qb N n d → Stm qb N (n + 1) d
 | 0,d,h =>.inl h
 | n + 1,d,h =>by
   rcases h with h | ⟨p,h,e⟩ | ⟨w,l,h1,h2,h3,e⟩ | ⟨w,x,p,h0,h1,h2,h3,e⟩
   ·exact .inl h
   ·exact .inr (.inl ⟨p,h.up,e⟩)
   ·exact .inr (.inr (.inl ⟨w,l,h1,h2,fun p hp =>(h3 p hp).up,e⟩))
   ·exact .inr (.inr (.inr ⟨w,x,p,h0,h1,h2,h3.up,e⟩))
theorem Stm.mono {qb:Bool} {N:List (List Nat)} {n m:Nat} {d:D} (h:Stm qb N n d) (hm:n ≤ m):Stm qb N m d:=by
 induction m with
 | zero =>have:n = 0:=by omega
          subst this; exact h
 | succ m ih =>
   by_cases e:n = m + 1
   ·subst e; exact h
   ·exact (ih (by omega)).up
noncomputable def stk (l:List (D × Nat)):List D:=l.map fun q =>.tup [q.1,.int (q.2:Int)]
noncomputable def StkOk (qb:Bool) (N:List (List Nat)) (l:List (D × Nat)):Prop:=∀ p ∈ l,Stm qb N p.2 p.1 ∧ p.2 ≤ 17
theorem stk_len (l:List (D × Nat)):(stk l).length = l.length:=by simp [stk]
theorem ints_stk:∀ l:List (D × Nat),intsOf (l.map fun q =>D.int (q.2:Int)) = some (l.map fun q =>(q.2:Int))
 | [] =>rfl
 | q :: l =>by simp [intsOf,ints_stk l]
theorem fold_max:∀ (l:List Nat) (a:Nat),∃ v:Nat,(l.map fun (q:Nat) =>(q:Int)).foldl (fun m z =>if z > m then z else m) (a:Int) = (v:Int) ∧ a ≤ v ∧ ∀ q ∈ l,q ≤ v
 | [],a =>⟨a,rfl,Nat.le_refl _,by simp⟩
 | q :: l,a =>by
   simp only [List.map_cons,List.foldl_cons]
   by_cases h:(q:Int) > (a:Int)
   ·rw [if_pos h]
    obtain ⟨v,h1,h2,h3⟩:=fold_max l q
    exact ⟨v,h1,by omega,fun x hx =>by rcases List.mem_cons.mp hx with rfl | hx; exact h2; exact h3 x hx⟩
   ·rw [if_neg h]
    obtain ⟨v,h1,h2,h3⟩:=fold_max l a
    exact ⟨v,h1,h2,fun x hx =>by rcases List.mem_cons.mp hx with rfl | hx; omega; exact h3 x hx⟩
theorem maxd_stk (l:List (D × Nat)):∃ v:Nat,b2D .maxd (.lst (l.map fun q =>D.int (q.2:Int))) (.int 0) = .ok (false,.int (v:Int)) ∧ ∀ q ∈ l,q.2 ≤ v:=by
 cases l with
 | nil =>exact ⟨0,rfl,by simp⟩
 | cons q l =>
   obtain ⟨v,h1,h2,h3⟩:=fold_max (l.map (·.2)) q.2
   refine ⟨v,?_,fun x hx =>by rcases List.mem_cons.mp hx with rfl | hx; exact h2; exact h3 _ (List.mem_map_of_mem hx)⟩
   simp only [b2D]
   rw [ints_stk]
   simp only [Option.map_some,R.of,List.map_cons]
   have:(l.map fun q =>(q.2:Int)) = (l.map (·.2)).map fun (q:Nat) =>(q:Int):=by simp [List.map_map,Function.comp_def]
   rw [this,h1]
theorem tup_idx0 (x y:D):idxD (.tup [x,y]) (.int 0) = .ok (false,x):=rfl
theorem tup_idx1 (x y:D):idxD (.tup [x,y]) (.int 1) = .ok (false,y):=rfl
theorem comp_deep (o:Orc) (l:List (D × Nat)):compGo (fun x =>ev o ((x ++ []).map fun d =>some (Own.sh,d)) false (T.idx (T.var 0) (T.cst (D.int 1)))) (fun x =>ev o ((x ++ []).map fun d =>some (Own.sh,d)) true (T.cst (D.bl true))) 1 false (stk l) = .ok (l.map fun q =>D.int (q.2:Int)):=by
 rw [comp_map (g:=fun d =>match d with | .tup [_,y] =>y | _ =>.non)]
 ·simp [stk,List.map_map,Function.comp_def]
 ·intro d _; simp [ev]
 ·intro d hd
  obtain ⟨q,_,rfl⟩:=List.mem_map.mp hd
  exact ⟨false,by simp [ev,R.bind,tup_idx1]⟩
theorem comp_part (o:Orc) (l:List (D × Nat)):compGo (fun x =>ev o ((x ++ []).map fun d =>some (Own.sh,d)) false (T.idx (T.var 0) (T.cst (D.int 0)))) (fun x =>ev o ((x ++ []).map fun d =>some (Own.sh,d)) true (T.cst (D.bl true))) 1 false (stk l) = .ok (l.map (·.1)):=by
 rw [comp_map (g:=fun d =>match d with | .tup [x,_] =>x | _ =>.non)]
 ·simp [stk,List.map_map,Function.comp_def]
 ·intro d _; simp [ev]
 ·intro d hd
  obtain ⟨q,_,rfl⟩:=List.mem_map.mp hd
  exact ⟨false,by simp [ev,R.bind,tup_idx0]⟩
theorem ev_comp0 (o:Orc) (δ:Dst) (lk:Bool) (i:Nat) (w:Own) (l r:List D) (e:T) (hi:δ[i]? = some (some (w,.lst l))) (hr:r.length ≤ 1000) (hc:compGo (fun x =>ev o ((x ++ []).map fun d =>some (Own.sh,d)) false e) (fun x =>ev o ((x ++ []).map fun d =>some (Own.sh,d)) true (T.cst (D.bl true))) 1 false l = .ok r) :
 ev o δ lk (T.comp [] 1 false (TI.val (T.var i)) (T.cst (D.bl true)) e) = .ok (true,.lst r):=by
 rw [ev]
 have h1:evI o δ true (TI.val (T.var i)) = .ok l:=by
  cases w <;> simp [evI,ev,hi,R.bind,itemsK,R.of]
 rw [h1]
 simp only [slotsD,R.bind,R.of]
 rw [hc]
 have hs:size r.length = true:=by simp [size]; omega
 simp [R.chk,hs]
theorem slc_from (l:List D) (t:Nat) (h:t ≤ l.length):slcD (.lst l) (some (t:Int)) none = some (true,.lst (l.drop t)):=by
 have:clip l.length (t:Int) = t:=by unfold clip; rw [if_pos (by omega)]; omega
 simp [slcD,lowOf,highOf,cut,this]
theorem slc_to (l:List D) (t:Nat) (h:t ≤ l.length):slcD (.lst l) none (some (t:Int)) = some (true,.lst (l.take t)):=by
 have:clip l.length (t:Int) = t:=by unfold clip; rw [if_pos (by omega)]; omega
 simp [slcD,lowOf,highOf,cut,this]
theorem grp_run (o:Orc) {qb:Bool} {N:List (List Nat)} (w:List Nat) (hw:w = AND ∨ w = OR) (l:List (D × Nat)) (hl:StkOk qb N l) (hn:l.length ≤ 200) (many:Int) (hm:0 ≤ many ∧ many < 4) (sp:D) (hsp:AtmD N sp) :
 ∃ l',StkOk qb N l' ∧ l'.length ≤ l.length + 1 ∧ runFn o grpFd [.str w,.lst (stk l),.int many,sp] = .ok (true,.lst (stk l')):=by
 let t:Nat:=l.length - many.toNat
 have ht:t ≤ l.length:=Nat.sub_le _ _
 have hmx:(if many < ((stk l).length:Int) then ((stk l).length:Int) - many else 0) = (t:Int):=by
  rw [stk_len]; simp only [t]; split <;> omega
 have tk:(stk l).drop t = stk (l.drop t):=by simp [stk,List.map_drop]
 have tk2:(stk l).take t = stk (l.take t):=by simp [stk,List.map_take]
 have e1:=slc_from (stk l) t (by rw [stk_len]; exact ht)
 have e2:=slc_to (stk l) t (by rw [stk_len]; exact ht)
 rw [tk] at e1
 rw [tk2] at e2
 obtain ⟨v,hv1,hv2⟩:=maxd_stk (l.drop t)
 have ld:((l.drop t).map fun q =>D.int (q.2:Int)).length ≤ 1000:=by simp; omega
 have lp:((l.drop t).map (·.1)).length ≤ 1000:=by simp; omega
 have cd:=comp_deep o (l.drop t)
 have cp:=comp_part o (l.drop t)
 have s1:evS o (S.set 4 (T.slc (T.var 1) (T.b2 .max (T.cst (D.int 0)) (T.op2 .sub (T.b1 .len (T.var 1)) (T.var 2))) (T.cst D.non))) [some (.sh,.str w),some (.sh,.lst (stk l)),some (.sh,.int many),some (.sh,sp),none,none] = .nx [some (.sh,.str w),some (.sh,.lst (stk l)),some (.sh,.int many),some (.sh,sp),some (.ow,.lst (stk (l.drop t))),none]:=by
  generalize stk (l.drop t) = A at *
  generalize stk l = S at *
  simp [evS,evF,ev,R.bind,o2,arith,b1D,b2D,hmx,bnd,e1,R.of,SO.of,setSlot,orStuck]
 have s2:evS o (S.set 5 (T.op2 .add (T.cst (D.int 1)) (T.b2 .maxd (T.comp [] 1 false (TI.val (T.var 4)) (T.cst (D.bl true)) (T.idx (T.var 0) (T.cst (D.int 1)))) (T.cst (D.int 0))))) [some (.sh,.str w),some (.sh,.lst (stk l)),some (.sh,.int many),some (.sh,sp),some (.ow,.lst (stk (l.drop t))),none] = .nx [some (.sh,.str w),some (.sh,.lst (stk l)),some (.sh,.int many),some (.sh,sp),some (.ow,.lst (stk (l.drop t))),some (.sh,.int (1 + (v:Int)))]:=by
  have hc:=ev_comp0 o [some (.sh,.str w),some (.sh,.lst (stk l)),some (.sh,.int many),some (.sh,sp),some (.ow,.lst (stk (l.drop t))),none] true 4 .ow _ _ _ rfl ld cd
  generalize (T.comp [] 1 false (TI.val (T.var 4)) (T.cst (D.bl true)) (T.idx (T.var 0) (T.cst (D.int 1)))) = tt at *
  generalize (l.drop t).map (fun q =>D.int (q.2:Int)) = DL at *
  simp [evS,evF,ev,R.bind,hc,hv1,o2,arith,SO.of,setSlot,orStuck]
 by_cases hd:17 < 1 + (v:Int)
 ·refine ⟨l ++ [(sp,0)],fun q hq =>?_,by simp,?_⟩
  ·rcases List.mem_append.mp hq with hq | hq
   ·exact hl q hq
   ·simp only [List.mem_singleton] at hq; subst hq; exact ⟨hsp,by omega⟩
  ·refine runFn_at rfl (δ0:=[some (.sh,.str w),some (.sh,.lst (stk l)),some (.sh,.int many),some (.sh,sp),none,none]) rfl (stp _ s1 (stp _ s2 (stpR (δ':=[some (.sh,.str w),some (.sh,.lst (stk l)),some (.sh,.int many),some (.sh,sp),some (.ow,.lst (stk (l.drop t))),some (.sh,.int (1 + (v:Int)))]) ?_)))
   have hs:size ((stk l).length + 1) = true:=by rw [stk_len]; simp [size]; omega
   have he:stk (l ++ [(sp,0)]) = stk l ++ [.tup [sp,.int 0]]:=by simp [stk]
   rw [he]
   generalize stk (l.drop t) = A at *
   generalize stk l = S at *
   have z1:size 1 = true:=by decide
   have z2:size 2 = true:=by decide
   simp [evS,evSs,evF,ev,evL,R.bind,o2,arith,R.of,truth,SO.of,hd,R.chk,lkOwn,isOwn,hs,z1,z2]
 ·refine ⟨l.take t ++ [(.tup [.str w,.tup ((l.drop t).map (·.1))],v + 1)],fun q hq =>?_,by simp; omega,?_⟩
  ·rcases List.mem_append.mp hq with hq | hq
   ·exact hl q (List.mem_of_mem_take hq)
   ·simp only [List.mem_singleton] at hq
    subst hq
    refine ⟨.inr (.inr (.inl ⟨w,_,hw,by simp; omega,fun p hp =>?_,rfl⟩)),by show v + 1 ≤ 17; omega⟩
    obtain ⟨q,hq,rfl⟩:=List.mem_map.mp hp
    exact (hl q (List.mem_of_mem_drop hq)).1.mono (hv2 q hq)
  ·refine runFn_at rfl (δ0:=[some (.sh,.str w),some (.sh,.lst (stk l)),some (.sh,.int many),some (.sh,sp),none,none]) rfl (stp _ s1 (stp _ s2 (stp [some (.sh,.str w),some (.sh,.lst (stk l)),some (.sh,.int many),some (.sh,sp),some (.ow,.lst (stk (l.drop t))),some (.sh,.int (1 + (v:Int)))] ?_ (stpR (δ':=[some (.sh,.str w),some (.sh,.lst (stk l)),some (.sh,.int many),some (.sh,sp),some (.ow,.lst (stk (l.drop t))),some (.sh,.int (1 + (v:Int)))]) ?_))))
   ·generalize stk (l.drop t) = A at *
    generalize stk l = S at *
    simp [evS,evSs,ev,R.bind,o2,arith,R.of,truth,SO.of,hd]
   ·have hc:=ev_comp0 o [some (.sh,.str w),some (.sh,.lst (stk l)),some (.sh,.int many),some (.sh,sp),some (.ow,.lst (stk (l.drop t))),some (.sh,.int (1 + (v:Int)))] true 4 .ow _ _ _ rfl lp cp
    have hs:size ((stk (l.take t)).length + 1) = true:=by rw [stk_len]; simp [size]; omega
    have he:stk (l.take t ++ [(.tup [.str w,.tup ((l.drop t).map (·.1))],v + 1)]) = stk (l.take t) ++ [.tup [.tup [.str w,.tup ((l.drop t).map (·.1))],.int (1 + (v:Int))]]:=by
     simp [stk]; omega
    rw [he]
    generalize (l.drop t).map (·.1) = Q at *
    generalize stk (l.drop t) = A at *
    generalize stk (l.take t) = B at *
    generalize hS:stk l = S at *
    have z1:size 1 = true:=by decide
    have z2:size 2 = true:=by decide
    generalize hT:(T.comp [] 1 false (TI.val (T.var 4)) (T.cst (D.bl true)) (T.idx (T.var 0) (T.cst (D.int 0)))) = tt at *
    have lko:∀ δ,lkOwn δ (T.b1 .tuple tt) = false:=fun δ =>rfl
    simp [evS,evSs,evF,ev,evL,R.bind,o2,arith,b1D,b2D,hmx,bnd,e2,hc,R.of,SO.of,R.chk,lkOwn,isOwn,hs,z1,z2]
theorem idx_last (x:List D) (d:D):idxD (.lst (x ++ [d])) (.int (-1)) = .ok (false,d):=by
 simp [idxD,place,R.of]
 rw [if_pos (by omega)]
 simp
 rw [show ((-1:Int) + ((x.length:Int) + 1)).toNat = x.length by omega]
 simp
theorem slc_last (x:List D) (d:D):slcD (.lst (x ++ [d])) none (some (-1)) = some (true,.lst x):=by
 have:clip (x ++ [d]).length (-1) = x.length:=by unfold clip; rw [if_neg (by omega)]; simp; omega
 simp only [slcD,lowOf,highOf,this,cut,Option.some.injEq,Prod.mk.injEq,true_and,D.lst.injEq]
 simp
noncomputable def topB (l:List (D × Nat)):Bool:=match l.getLast? with
 | none =>false
 | some q =>decide (q.2 < 17)
noncomputable def inT:T:=(T.and (T.op2 .gt (T.b1 .len (T.var 0)) (T.cst (D.int 0))) (T.op2 .lt (T.idx (T.idx (T.var 0) (T.neg (T.cst (D.int 1)))) (T.cst (D.int 1))) (T.cst (D.int 17))))
theorem stk_concat (l:List (D × Nat)) (q:D × Nat):stk (l ++ [q]) = stk l ++ [.tup [q.1,.int (q.2:Int)]]:=by simp [stk]
theorem topB_concat {l:List (D × Nat)} (h:topB l = true):∃ l0 q,l = l0 ++ [q] ∧ q.2 < 17:=by
 rcases List.eq_nil_or_concat l with rfl | ⟨l0,q,rfl⟩
 ·simp [topB] at h
 ·refine ⟨l0,q,List.concat_eq_append ..,?_⟩
  simpa [topB] using h
section
variable {o:Orc} {N:List (List Nat)} {M:D} {sp:Int} {iatom igrp:Nat}
variable (ha:∀ c:Int,∃ d,AtmD N d ∧ o.fn iatom [.int c,M,.int sp] = .ok (false,d))
variable (hg:∀ (w:List Nat) (l:List (D × Nat)) (many:Int) (d:D),(w = AND ∨ w = OR) → StkOk true N l → l.length ≤ 200 → 0 ≤ many ∧ many < 4 → AtmD N d → ∃ l',StkOk true N l' ∧ l'.length ≤ l.length + 1 ∧ o.fn igrp [.str w,.lst (stk l),.int many,d] = .ok (true,.lst (stk l')))
variable (hso:b1D .sorted M = .ok (true,.lst ((sortS N).map .str))) (hN:N.length = 4)
include ha hg hso hN
end
noncomputable def trB0 (istep:Nat):SL:=(SL.cons (S.set 4 (T.call istep (TL.cons (T.var 4) (TL.cons (T.var 5) (TL.cons (T.var 1) (TL.cons (T.var 2) TL.nil)))))) SL.nil)
theorem trFd_eq (istep:Nat):treeFd istep = ⟨4,6,(SL.cons (S.set 4 (T.lst TL.nil)) (SL.cons (S.for_ [5] false (TI.val (T.var 0)) (trB0 istep)) (SL.cons (S.ifs (T.op2 .eq (T.b1 .len (T.var 4)) (T.cst (D.int 1))) (SL.cons (S.ret (T.idx (T.idx (T.var 4) (T.cst (D.int 0))) (T.cst (D.int 0)))) SL.nil) SL.nil) (SL.cons (S.ret (T.tup (TL.cons (T.var 3) (TL.cons (T.b1 .tuple (T.comp [] 1 false (TI.val (T.var 4)) (T.cst (D.bl true)) (T.idx (T.var 0) (T.cst (D.int 0))))) TL.nil)))) SL.nil))))⟩:=rfl
section
variable {o:Orc} {qb:Bool} {N:List (List Nat)} {M:D} {sp:Int} {istep:Nat}
variable (hst:∀ (l:List (D × Nat)) (cell:Int),StkOk qb N l → l.length ≤ 200 → ∃ l',StkOk qb N l' ∧ l'.length ≤ l.length + 1 ∧ o.fn istep [.lst (stk l),.int cell,M,.int sp] = .ok (true,.lst (stk l')))
include hst
theorem tr_for (a b:Option Slot):∀ (cs:List Int) (l:List (D × Nat)) (f:Option Slot),StkOk qb N l → l.length + cs.length ≤ 200 → ∃ l' f',StkOk qb N l' ∧ l'.length ≤ 200 ∧
 forGo (evSs o (trB0 istep)) [5] false (cs.map .int) [a,some (.sh,M),some (.sh,.int sp),b,some (.ow,.lst (stk l)),f] = .nx [a,some (.sh,M),some (.sh,.int sp),b,some (.ow,.lst (stk l')),f']
 | [],l,f,h,hl =>⟨l,f,h,by simpa using hl,rfl⟩
 | c :: cs,l,f,h,hl =>by
   simp only [List.length_cons] at hl
   obtain ⟨l1,h1,h2,h3⟩:=hst l c h (by omega)
   obtain ⟨l',f',q1,q2,q3⟩:=tr_for a b cs l1 (some (.sh,.int c)) h1 (by omega)
   refine ⟨l',f',q1,q2,?_⟩
   simp only [List.map_cons,forGo,takes,Bool.false_eq_true,if_false,setSlots]
   rw [show setSlot [a,some (.sh,M),some (.sh,.int sp),b,some (.ow,.lst (stk l)),f] 5 false (.int c) = some [a,some (.sh,M),some (.sh,.int sp),b,some (.ow,.lst (stk l)),some (.sh,.int c)] from by simp [setSlot]]
   simp only [Option.bind_some]
   have hb:evSs o (trB0 istep) [a,some (.sh,M),some (.sh,.int sp),b,some (.ow,.lst (stk l)),some (.sh,.int c)] = .nx [a,some (.sh,M),some (.sh,.int sp),b,some (.ow,.lst (stk l1)),some (.sh,.int c)]:=by
    generalize stk l = S at *
    generalize stk l1 = S1 at *
    simp [trB0,evSs,evS,evF,ev,evL,R.bind,lkOwn,isOwn,h3,lent,D.imm,share,share1,tvars,tvarsL,SO.of,setSlot,orStuck]
   rw [hb]
   exact q3
theorem tree_run (cs:List Int) (hc:cs.length ≤ 100) (w:List Nat) (hw:w = AND ∨ w = OR):∃ d,Stm qb N 18 d ∧ runFn o (treeFd istep) [.lst (cs.map .int),M,.int sp,.str w] = .ok (false,d):=by
 obtain ⟨l,f',h1,h2,h3⟩:=tr_for hst (some (.sh,.lst (cs.map .int))) (some (.sh,.str w)) cs [] none (fun q hq =>by simp at hq) (by simp; omega)
 rw [trFd_eq]
 have z2:size 2 = true:=by decide
 have s0:evS o (S.set 4 (T.lst TL.nil)) [some (.sh,.lst (cs.map .int)),some (.sh,M),some (.sh,.int sp),some (.sh,.str w),none,none] = .nx [some (.sh,.lst (cs.map .int)),some (.sh,M),some (.sh,.int sp),some (.sh,.str w),some (.ow,.lst (stk [])),none]:=by
  simp [evS,evF,ev,evL,R.bind,R.chk,size,SO.of,setSlot,orStuck,stk]
 have s1:evS o (S.for_ [5] false (TI.val (T.var 0)) (trB0 istep)) [some (.sh,.lst (cs.map .int)),some (.sh,M),some (.sh,.int sp),some (.sh,.str w),some (.ow,.lst (stk [])),none] = .nx [some (.sh,.lst (cs.map .int)),some (.sh,M),some (.sh,.int sp),some (.sh,.str w),some (.ow,.lst (stk l)),f']:=by
  rw [evS]
  rw [show shareIt [some (.sh,.lst (cs.map .int)),some (.sh,M),some (.sh,.int sp),some (.sh,.str w),some (.ow,.lst (stk [])),none] (TI.val (T.var 0)) = [some (.sh,.lst (cs.map .int)),some (.sh,M),some (.sh,.int sp),some (.sh,.str w),some (.ow,.lst (stk [])),none] from rfl]
  show SO.of _ (evI o _ false (TI.val (T.var 0))) _ = _
  rw [show evI o [some (.sh,.lst (cs.map .int)),some (.sh,M),some (.sh,.int sp),some (.sh,.str w),some (.ow,.lst (stk [])),none] false (TI.val (T.var 0)) = .ok (cs.map .int) from by simp [evI,ev,R.bind,itemsK,R.of]]
  exact h3
 by_cases hl:l.length = 1
 ·obtain ⟨q,rfl⟩:=List.length_eq_one_iff.mp hl
  refine ⟨q.1,(h1 q (by simp)).1.mono (by have:=(h1 q (by simp)).2; omega),runFn_at rfl (δ0:=[some (.sh,.lst (cs.map .int)),some (.sh,M),some (.sh,.int sp),some (.sh,.str w),none,none]) rfl (stp _ s0 (stp _ s1 (stpR (δ':=[some (.sh,.lst (cs.map .int)),some (.sh,M),some (.sh,.int sp),some (.sh,.str w),some (.ow,.lst (stk [q])),f']) ?_)))⟩
  have hi:idxD (.lst (stk [q])) (.int 0) = .ok (false,.tup [q.1,.int (q.2:Int)]):=rfl
  have hln:(stk [q]).length = 1:=rfl
  generalize stk [q] = S at *
  simp [evS,evSs,evF,ev,R.bind,b1D,hln,o2,eqA,eqS,R.of,truth,SO.of,hi,tup_idx0]
 ·refine ⟨.tup [.str w,.tup (l.map (·.1))],.inr (.inr (.inl ⟨w,_,hw,by simp; omega,fun p hp =>?_,rfl⟩)),runFn_at rfl (δ0:=[some (.sh,.lst (cs.map .int)),some (.sh,M),some (.sh,.int sp),some (.sh,.str w),none,none]) rfl (stp _ s0 (stp _ s1 (stp [some (.sh,.lst (cs.map .int)),some (.sh,M),some (.sh,.int sp),some (.sh,.str w),some (.ow,.lst (stk l)),f'] ?_ (stpR (δ':=[some (.sh,.lst (cs.map .int)),some (.sh,M),some (.sh,.int sp),some (.sh,.str w),some (.ow,.lst (stk l)),f']) ?_))))⟩
  ·obtain ⟨q,hq,rfl⟩:=List.mem_map.mp hp
   exact (h1 q hq).1.mono (by have:=(h1 q hq).2; omega)
  ·have hln:¬ (((stk l).length:Int) = 1):=by rw [stk_len]; omega
   have hln':¬ ((stk l).length = 1):=by rw [stk_len]; omega
   generalize stk l = S at *
   simp [evS,evSs,ev,R.bind,b1D,hln,hln',o2,eqA,eqS,R.of,truth,SO.of]
  ·have hcm:=ev_comp0 o [some (.sh,.lst (cs.map .int)),some (.sh,M),some (.sh,.int sp),some (.sh,.str w),some (.ow,.lst (stk l)),f'] true 4 .ow _ _ _ rfl (by simp; omega) (comp_part o l)
   generalize l.map (·.1) = Q at *
   generalize hT:(T.comp [] 1 false (TI.val (T.var 4)) (T.cst (D.bl true)) (T.idx (T.var 0) (T.cst (D.int 0)))) = tt at *
   simp [evS,evF,ev,evL,R.bind,hcm,b1D,R.chk,lkOwn,isOwn,z2,SO.of]
end
theorem SumD.imm {N:List (List Nat)} {s:D} (h:SumD N s):s.imm = true:=by
 obtain ⟨c,L,rfl,_⟩:=h
 simp [D.imm,immL,imm_pr]
theorem AtmD.imm {N:List (List Nat)} {d:D} (h:AtmD N d):d.imm = true:=by
 obtain ⟨s,hs,rfl | ⟨m,_,_,rfl⟩⟩:=h <;> simp [D.imm,immL,hs.imm]
theorem immL_all {l:List D} (h:∀ d ∈ l,d.imm = true):immL l = true:=by
 induction l with
 | nil =>rfl
 | cons d l ih =>simp [immL,h d List.mem_cons_self,ih fun x hx =>h x (List.mem_cons_of_mem _ hx)]
theorem Stm.imm {qb:Bool} {N:List (List Nat)}:∀ {n:Nat} {d:D},Stm qb N n d → d.imm = true:=by
 intro n
 induction n with
 | zero =>intro d h; exact AtmD.imm h
 | succ n ih =>
   intro d h
   rcases h with h | ⟨p,h,rfl⟩ | ⟨w,l,_,_,h,rfl⟩ | ⟨w,x,p,_,_,_,h,rfl⟩
   ·exact h.imm
   ·simp [D.imm,immL,ih h]
   ·simp [D.imm,immL,immL_all fun d hd =>ih (h d hd)]
   ·simp [D.imm,immL,ih h]
end KG

namespace KG
open Z
theorem zipD_self:∀ l:List D,zipD l l = (l.map fun x =>[x,x]).map .tup
 | [] =>rfl
 | x :: l =>by simp [zipD,zipD_self l]
theorem samez_int (o:Orc) (ix:Nat) (i:Int):runFn o (samezFd ix) [.int i,.int i] = .ok (false,.bl true):=by
 simp [runFn,samezFd,evSs,evS,evF,ev,R.bind,isD,R.of,truth,SO.of,o2,eqA,eqS,boolD]
theorem samez_str (o:Orc) (ix:Nat) (i:List Nat):runFn o (samezFd ix) [.str i,.str i] = .ok (false,.bl true):=by
 simp [runFn,samezFd,evSs,evS,evF,ev,R.bind,isD,R.of,truth,SO.of,o2,eqA,eqS,boolD]
noncomputable def okZ:Nat → D → Prop
 | _,.int _ =>True
 | _,.str _ =>True
 | n + 1,.tup l =>l.length ≤ 1000 ∧ ∀ d ∈ l,okZ n d
 | _,_ =>False
theorem samez_tup (o:Orc) (ix:Nat) (l:List D) (hl:l.length ≤ 1000) (h:∀ d ∈ l,o.fn ix [d,d] = .ok (false,.bl true)):runFn o (samezFd ix) [.tup l,.tup l] = .ok (false,.bl true):=by
 have hcg:compGo (fun x =>ev o ((x ++ []).map fun d =>some (Own.sh,d)) false (T.call ix (TL.cons (T.var 0) (TL.cons (T.var 1) TL.nil)))) (fun x =>ev o ((x ++ []).map fun d =>some (Own.sh,d)) true (T.cst (D.bl true))) 2 true (zipD l l) = .ok (List.replicate l.length (.bl true)):=by
  rw [zipD_self,comp_tup (g:=fun d =>.bl true)]
  ·rw [List.map_const']; simp
  ·intro x hx
   obtain ⟨d,_,rfl⟩:=List.mem_map.mp hx
   rfl
  ·intro x _
   simp [ev]
  ·intro x hx
   obtain ⟨d,hd,rfl⟩:=List.mem_map.mp hx
   exact ⟨false,by simp [ev,evL,R.bind,lkOwn,isOwn,h d hd,lent]⟩
 have he:=ev_comp o [some (.sh,.tup l),some (.sh,.tup l)] true (TI.zip (T.var 0) (T.var 1)) [] [] _ _ 2 true _ _ rfl rfl rfl (by simpa using hl) hcg
 generalize hT:T.comp [] 2 true (TI.zip (T.var 0) (T.var 1)) (T.cst (D.bl true)) (T.call ix (TL.cons (T.var 0) (TL.cons (T.var 1) TL.nil))) = tt at he
 have hf:samezFd ix = ⟨2,2,(SL.cons (S.ifs (T.isin (T.var 1) .tup) (SL.cons (S.ifs (T.or (T.not (T.isin (T.var 0) .tup)) (T.op2 .ne (T.b1 .len (T.var 0)) (T.b1 .len (T.var 1)))) (SL.cons (S.ret (T.cst (D.bl false))) SL.nil) SL.nil) (SL.cons (S.ret (T.b1 .all tt)) SL.nil)) SL.nil) (SL.cons (S.ifs (T.isin (T.var 1) .str) (SL.cons (S.ret (T.and (T.isin (T.var 0) .str) (T.op2 .eq (T.var 0) (T.var 1)))) SL.nil) SL.nil) (SL.cons (S.ret (T.and (T.isin (T.var 0) .int) (T.and (T.not (T.isin (T.var 0) .bool)) (T.op2 .eq (T.var 0) (T.var 1))))) SL.nil)))⟩:=by rw [← hT]; rfl
 rw [hf]
 simp [runFn,evSs,evS,evF,ev,R.bind,isD,R.of,truth,SO.of,o2,eqA,eqS,boolD,b1D,he,boolsOf_true]
theorem samez_refl (P:Prg) (w ix:Nat) (hP:P.fns[ix]? = some (samezFd ix)):∀ (n:Nat) (d:D) (m:Nat),okZ n d → n < m → (orc P w m).fn ix [d,d] = .ok (false,.bl true):=by
 intro n
 induction n with
 | zero =>
   intro d m h hm
   obtain ⟨m,rfl⟩:∃ k,m = k + 1:=⟨m - 1,by omega⟩
   cases d <;> simp only [okZ] at h
   ·simp only [orc,hP]; exact samez_int _ _ _
   ·simp only [orc,hP]; exact samez_str _ _ _
 | succ n ih =>
   intro d m h hm
   obtain ⟨m,rfl⟩:∃ k,m = k + 1:=⟨m - 1,by omega⟩
   cases d <;> simp only [okZ] at h
   ·simp only [orc,hP]; exact samez_int _ _ _
   ·simp only [orc,hP]; exact samez_str _ _ _
   ·simp only [orc,hP]
    exact samez_tup _ _ _ h.1 fun d hd =>ih d m (h.2 d hd) (by omega)
theorem okZ.up:∀ {n:Nat} {d:D},okZ n d → okZ (n + 1) d:=by
 intro n
 induction n with
 | zero =>intro d h; cases d <;> simp [okZ] at h ⊢
 | succ n ih =>
   intro d h
   cases d <;> simp only [okZ] at h ⊢
   exact ⟨h.1,fun d hd =>ih (h.2 d hd)⟩
theorem okZ.mono {n m:Nat} {d:D} (h:okZ n d) (hm:n ≤ m):okZ m d:=by
 induction m with
 | zero =>have:n = 0:=by omega
          subst this; exact h
 | succ m ih =>
   by_cases e:n = m + 1
   ·subst e; exact h
   ·exact (ih (by omega)).up
noncomputable def negL (L:List Pair):List Pair:=L.map fun p =>(p.1,-p.2)
theorem negL_fst (L:List Pair):(negL L).map (·.1) = L.map (·.1):=by simp [negL,List.map_map,Function.comp_def]
theorem okZ_pairs (L:List Pair):∀ d ∈ L.map prD,okZ 1 d:=by
 intro d hd
 obtain ⟨p,_,rfl⟩:=List.mem_map.mp hd
 simp [prD,okZ]
theorem okZ_sum (c:Int) (L:List Pair) (h:L.length ≤ 1000):okZ 3 (.tup [.int c,.tup (L.map prD)]):=by
 simp only [okZ,List.length_cons,List.length_nil,List.mem_cons,List.not_mem_nil,or_false]
 refine ⟨by omega,fun d hd =>?_⟩
 rcases hd with rfl | rfl
 ·simp [okZ]
 ·simp only [okZ,List.length_map]; exact ⟨h,okZ_pairs L⟩
theorem keysOf_len (L:List Pair) (h:L.length < 64):(keysOf L).length < 64:=by
 have:(keysOf L).length ≤ (L.map (·.1)).length:=nodup_len (keysOf_nodup L) fun x hx =>(mem_keysOf L x).mp hx
 simp at this; omega
theorem mul_m1 (x:Int):mulOk (-1) x = true:=by
 have:bits (-1) ≤ 64:=by decide
 simp [mulOk,this]
theorem comp_neg (o:Orc) (L:List Pair):compGo (fun x =>ev o ((x ++ [D.int (-1)]).map fun d =>some (Own.sh,d)) false (T.tup (TL.cons (T.var 0) (TL.cons (T.op2 .mul (T.var 2) (T.var 1)) TL.nil)))) (fun x =>ev o ((x ++ [D.int (-1)]).map fun d =>some (Own.sh,d)) true (T.cst (D.bl true))) 2 true (L.map prD) = .ok ((negL L).map prD):=by
 have e1:L.map prD = (L.map fun p =>[D.str p.1,D.int p.2]).map .tup:=by simp [prD,List.map_map,Function.comp_def]
 have e2:(negL L).map prD = (L.map fun p =>[D.str p.1,D.int p.2]).map fun x =>match x with | [.str n,.int k] =>prD (n,-k) | _ =>.non:=by simp [negL,List.map_map,Function.comp_def]
 rw [e1,e2]
 refine comp_tup ?_ ?_ ?_
 ·intro x hx
  obtain ⟨p,_,rfl⟩:=List.mem_map.mp hx
  rfl
 ·intro x _; simp [ev]
 ·intro x hx
  obtain ⟨p,_,rfl⟩:=List.mem_map.mp hx
  have z2:size 2 = true:=by decide
  refine ⟨false,?_⟩
  simp [ev,evL,R.bind,o2,arith,R.chk,mul_m1,lkOwn,isOwn,z2,prD]
noncomputable def timesFd (isum:Nat):Fd:=⟨2,2,(SL.cons (S.ret (T.call isum (TL.cons (T.op2 .mul (T.var 0) (T.idx (T.var 1) (T.cst (D.int 0)))) (TL.cons (T.comp [0] 2 true (TI.val (T.idx (T.var 1) (T.cst (D.int 1)))) (T.cst (D.bl true)) (T.tup (TL.cons (T.var 0) (TL.cons (T.op2 .mul (T.var 2) (T.var 1)) TL.nil)))) TL.nil)))) SL.nil)⟩
noncomputable def plusFd (isum:Nat):Fd:=⟨2,2,(SL.cons (S.ret (T.call isum (TL.cons (T.op2 .add (T.idx (T.var 0) (T.cst (D.int 0))) (T.idx (T.var 1) (T.cst (D.int 0)))) (TL.cons (T.op2 .add (T.idx (T.var 0) (T.cst (D.int 1))) (T.idx (T.var 1) (T.cst (D.int 1)))) TL.nil)))) SL.nil)⟩
theorem times_neg (o:Orc) (isum:Nat) (c:Int) (L:List Pair) (r:D) (hL:L.length ≤ 1000) (h:o.fn isum [.int (-1 * c),.lst ((negL L).map prD)] = .ok (false,r)):runFn o (timesFd isum) [.int (-1),.tup [.int c,.tup (L.map prD)]] = .ok (false,r):=by
 have he:=ev_comp o [some (.sh,.int (-1)),some (.sh,.tup [.int c,.tup (L.map prD)])] false (TI.val (T.idx (T.var 1) (T.cst (D.int 1)))) [0] [.int (-1)] _ _ 2 true _ _ rfl rfl rfl (by simpa [negL] using hL) (comp_neg o L)
 generalize (negL L).map prD = NL at *
 generalize L.map prD = L' at *
 rw [timesFd]
 have lkO:∀ δ p a b,lkOwn δ (T.op2 p a b) = false:=fun _ _ _ _ =>rfl
 generalize hT:(T.comp [0] 2 true (TI.val (T.idx (T.var 1) (T.cst (D.int 1)))) (T.cst (D.bl true)) (T.tup (TL.cons (T.var 0) (TL.cons (T.op2 .mul (T.var 2) (T.var 1)) TL.nil)))) = tt at *
 have lkt:∀ δ,lkOwn δ tt = false:=fun δ =>by rw [← hT]; rfl
 have h':o.fn isum [.int (-c),.lst NL] = .ok (false,r):=by rw [show -c = -1 * c by omega]; exact h
 simp [runFn,evSs,evS,evF,ev,evL,R.bind,tup_idx0,o2,arith,R.chk,mul_m1,lkO,lkt,he,h',lent,SO.of]
theorem plus_none (o:Orc) (isum:Nat) (a c:Int) (L':List D) (r:D) (hL:L'.length ≤ 1000) (h:o.fn isum [.int (a + c),.tup L'] = .ok (false,r)):runFn o (plusFd isum) [.tup [.int a,.tup []],.tup [.int c,.tup L']] = .ok (false,r):=by
 have hz:size L'.length = true:=by simp [size]; omega
 simp [plusFd,runFn,evSs,evS,evF,ev,evL,R.bind,tup_idx0,tup_idx1,o2,arith,R.chk,hz,lkOwn,h,lent,SO.of]
theorem sumD_id (c:Int) (L:List Pair) (h1:Srt (L.map (·.1))) (h2:(L.map (·.1)).Nodup) (h3:∀ p ∈ L,p.2 ≠ 0):sumD c L = .tup [.int c,.tup (L.map prD)]:=by
 rw [sumD,sumL_id h1 h2 h3]
end KG

namespace KG
open Z
noncomputable abbrev st5 (S M:D) (cell sp:Int) (d:Option Slot):Dst:=[some (.sh,S),some (.sh,.int cell),some (.sh,M),some (.sh,.int sp),d]
noncomputable def step14Fd (iatom igrp:Nat):Fd:=⟨4,5,(SL.cons (S.set 4 (T.call iatom (TL.cons (T.op2 .fdiv (T.var 1) (T.cst (D.int 10))) (TL.cons (T.var 2) (TL.cons (T.var 3) TL.nil))))) (SL.cons (S.ifs (T.op2 .lt (T.op2 .mod (T.var 1) (T.cst (D.int 10))) (T.cst (D.int 2))) (SL.cons (S.ret (T.call igrp (TL.cons (T.cst (D.str [97,110,100])) (TL.cons (T.var 0) (TL.cons (T.op2 .mod (T.op2 .fdiv (T.var 1) (T.cst (D.int 10))) (T.cst (D.int 4))) (TL.cons (T.var 4) TL.nil)))))) SL.nil) SL.nil) (SL.cons (S.ifs (T.op2 .lt (T.op2 .mod (T.var 1) (T.cst (D.int 10))) (T.cst (D.int 4))) (SL.cons (S.ret (T.call igrp (TL.cons (T.cst (D.str [111,114])) (TL.cons (T.var 0) (TL.cons (T.op2 .mod (T.op2 .fdiv (T.var 1) (T.cst (D.int 10))) (T.cst (D.int 4))) (TL.cons (T.var 4) TL.nil)))))) SL.nil) SL.nil) (SL.cons (S.ifs (T.and (T.op2 .eq (T.op2 .mod (T.var 1) (T.cst (D.int 10))) (T.cst (D.int 4))) (T.and (T.op2 .gt (T.b1 .len (T.var 0)) (T.cst (D.int 0))) (T.op2 .lt (T.idx (T.idx (T.var 0) (T.neg (T.cst (D.int 1)))) (T.cst (D.int 1))) (T.cst (D.int 17))))) (SL.cons (S.ret (T.op2 .add (T.slc (T.var 0) (T.cst D.non) (T.neg (T.cst (D.int 1)))) (T.lst (TL.cons (T.tup (TL.cons (T.tup (TL.cons (T.cst (D.str [110,111,116])) (TL.cons (T.idx (T.idx (T.var 0) (T.neg (T.cst (D.int 1)))) (T.cst (D.int 0))) TL.nil))) (TL.cons (T.op2 .add (T.idx (T.idx (T.var 0) (T.neg (T.cst (D.int 1)))) (T.cst (D.int 1))) (T.cst (D.int 1))) TL.nil))) TL.nil)))) SL.nil) SL.nil) (SL.cons (S.ret (T.op2 .add (T.var 0) (T.lst (TL.cons (T.tup (TL.cons (T.var 4) (TL.cons (T.cst (D.int 0)) TL.nil))) TL.nil)))) SL.nil)))))⟩
theorem in_ev5 (o:Orc) (l:List (D × Nat)) (a b c d:Option Slot):ev o [some (.sh,.lst (stk l)),a,b,c,d] true inT = .ok (false,.bl (topB l)):=by
 rcases List.eq_nil_or_concat l with rfl | ⟨l0,q,rfl⟩
 ·simp [inT,ev,R.bind,b1D,o2,arith,stk,topB]
 ·rw [List.concat_eq_append]
  have h1:0 < ((stk (l0 ++ [q])).length:Int):=by rw [stk_len]; simp
  have h2:idxD (.lst (stk (l0 ++ [q]))) (.int (-1)) = .ok (false,.tup [q.1,.int (q.2:Int)]):=by rw [stk_concat]; exact idx_last _ _
  have h3:topB (l0 ++ [q]) = decide ((q.2:Int) < 17):=by
   simp [topB]; omega
  rw [h3]
  generalize stk (l0 ++ [q]) = S at *
  have h1':0 < S.length:=by omega
  simp [inT,ev,R.bind,b1D,o2,arith,h1',h2,tup_idx1,boolD]
section
variable {o:Orc} {N:List (List Nat)} {M:D} {sp:Int} {iatom igrp:Nat}
variable (ha:∀ c:Int,∃ d,AtmD N d ∧ o.fn iatom [.int c,M,.int sp] = .ok (false,d))
variable (hg:∀ (w:List Nat) (l:List (D × Nat)) (many:Int) (d:D),(w = AND ∨ w = OR) → StkOk false N l → l.length ≤ 200 → 0 ≤ many ∧ many < 4 → AtmD N d → ∃ l',StkOk false N l' ∧ l'.length ≤ l.length + 1 ∧ o.fn igrp [.str w,.lst (stk l),.int many,d] = .ok (true,.lst (stk l')))
include ha hg
theorem step14_run (l:List (D × Nat)) (hl:StkOk false N l) (hn:l.length ≤ 200) (cell:Int):∃ l',StkOk false N l' ∧ l'.length ≤ l.length + 1 ∧ runFn o (step14Fd iatom igrp) [.lst (stk l),.int cell,M,.int sp] = .ok (true,.lst (stk l')):=by
 obtain ⟨d,hd,ed⟩:=ha (cell.fdiv 10)
 have r4:=fmod_range (cell.fdiv 10) 4 (by decide)
 have fd10:o2 .fdiv (.int cell) (.int 10) = .ok (false,.int (cell.fdiv 10)):=fdivOk cell 10 (by decide) (by decide)
 have s0:=set_of (o:=o) (i:=4) (δ:=st5 (.lst (stk l)) M cell sp none) (δ':=st5 (.lst (stk l)) M cell sp (some (.sh,d))) (call_ev (f:=iatom) (evL_cons (t:=T.op2 .fdiv (T.var 1) (T.cst (D.int 10))) rfl ((op2_ev rfl rfl).trans fd10) (evL_cons (t:=T.var 2) rfl rfl (evL_cons (t:=T.var 3) (l:=TL.nil) rfl rfl rfl))) ed) rfl
 have md:o2 .mod (.int cell) (.int 10) = .ok (false,.int (cell.fmod 10)):=modE cell 10 (by decide)
 have em:ev o (st5 (.lst (stk l)) M cell sp (some (.sh,d))) true (T.op2 .mod (T.var 1) (T.cst (D.int 10))) = .ok (false,.int (cell.fmod 10)):=(op2_ev rfl rfl).trans md
 have eq:ev o (st5 (.lst (stk l)) M cell sp (some (.sh,d))) false (T.op2 .mod (T.op2 .fdiv (T.var 1) (T.cst (D.int 10))) (T.cst (D.int 4))) = .ok (false,.int ((cell.fdiv 10).fmod 4)):=(op2_ev ((op2_ev rfl rfl).trans fd10) rfl).trans (modE _ 4 (by decide))
 have el:∀ n:Int,ev o (st5 (.lst (stk l)) M cell sp (some (.sh,d))) true (T.op2 .lt (T.op2 .mod (T.var 1) (T.cst (D.int 10))) (T.cst (D.int n))) = .ok (false,.bl (decide (cell.fmod 10 < n))):=fun n =>(op2_ev em rfl).trans rfl
 have hin:=in_ev5 o l (some (.sh,.int cell)) (some (.sh,M)) (some (.sh,.int sp)) (some (.sh,d))
 by_cases c1:cell.fmod 10 < 2
 ·obtain ⟨l',h1,h2,h3⟩:=hg AND l ((cell.fdiv 10).fmod 4) d (.inl rfl) hl hn r4 hd
  exact ⟨l',h1,h2,runFn_at rfl (δ0:=st5 (.lst (stk l)) M cell sp none) rfl (stp _ s0 (stpR (ifR ((el 2).trans (by rw [decide_eq_true c1])) (retR (call_ev (evL_cons rfl rfl (evL_cons rfl rfl (evL_cons rfl eq (evL_cons rfl rfl rfl)))) h3) rfl))))⟩
 have s1:=fun x =>ifN (x:=x) ((el 2).trans (by rw [decide_eq_false c1]))
 by_cases c2:cell.fmod 10 < 4
 ·obtain ⟨l',h1,h2,h3⟩:=hg OR l ((cell.fdiv 10).fmod 4) d (.inr rfl) hl hn r4 hd
  exact ⟨l',h1,h2,runFn_at rfl (δ0:=st5 (.lst (stk l)) M cell sp none) rfl (stp _ s0 (stp _ (s1 _) (stpR (ifR ((el 4).trans (by rw [decide_eq_true c2])) (retR (call_ev (evL_cons rfl rfl (evL_cons rfl rfl (evL_cons rfl eq (evL_cons rfl rfl rfl)))) h3) rfl)))))⟩
 have s2:=fun x =>ifN (x:=x) ((el 4).trans (by rw [decide_eq_false c2]))
 by_cases c3:cell.fmod 10 = 4 ∧ topB l = true
 ·have ec:ev o (st5 (.lst (stk l)) M cell sp (some (.sh,d))) true (T.and (T.op2 .eq (T.op2 .mod (T.var 1) (T.cst (D.int 10))) (T.cst (D.int 4))) inT) = .ok (false,.bl true):=and_tt ((eqi em).trans (by rw [decide_eq_true c3.1])) (hin.trans (by rw [c3.2]))
  obtain ⟨l0,q,rfl,hq⟩:=topB_concat c3.2
  have hqs:=hl q (List.mem_append_right _ List.mem_cons_self)
  have h2:idxD (.lst (stk (l0 ++ [q]))) (.int (-1)) = .ok (false,.tup [q.1,.int (q.2:Int)]):=by rw [stk_concat]; exact idx_last _ _
  have h3:slcD (.lst (stk (l0 ++ [q]))) none (some (-1)) = some (true,.lst (stk l0)):=by rw [stk_concat]; exact slc_last _ _
  have hl0:(stk l0).length + 1 ≤ 1000:=by rw [stk_len]; rw [List.length_append] at hn; exact Nat.le_trans hn (by decide)
  refine ⟨l0 ++ [(.tup [.str NOT,q.1],q.2 + 1)],fun p hp =>?_,by rw [List.length_append,List.length_append]; exact Nat.le_succ _,?_⟩
  ·rcases List.mem_append.mp hp with hp | hp
   ·exact hl p (List.mem_append_left _ hp)
   ·rw [List.mem_singleton.mp hp]
    exact ⟨.inr (.inl ⟨q.1,hqs.1,rfl⟩),hq⟩
  ·rw [stk_concat l0 (D.tup [D.str NOT,q.fst],q.snd + 1)]
   generalize stk (l0 ++ [q]) = S at *
   have eI:∀ lk,ev o (st5 (.lst S) M cell sp (some (.sh,d))) lk (T.idx (T.var 0) (T.neg (T.cst (D.int 1)))) = .ok (false,.tup [q.1,.int (q.2:Int)]):=fun lk =>h2
   have e0:ev o (st5 (.lst S) M cell sp (some (.sh,d))) false (T.idx (T.idx (T.var 0) (T.neg (T.cst (D.int 1)))) (T.cst (D.int 0))) = .ok (false,q.1):=congrArg (fun r:R (Bool × D) =>r.bind fun x =>idxD x.2 (.int 0)) (eI true)
   have e1:ev o (st5 (.lst S) M cell sp (some (.sh,d))) true (T.idx (T.idx (T.var 0) (T.neg (T.cst (D.int 1)))) (T.cst (D.int 1))) = .ok (false,.int (q.2:Int)):=congrArg (fun r:R (Bool × D) =>r.bind fun x =>idxD x.2 (.int 1)) (eI true)
   have eS:ev o (st5 (.lst S) M cell sp (some (.sh,d))) true (T.slc (T.var 0) (T.cst D.non) (T.neg (T.cst (D.int 1)))) = .ok (true,.lst (stk l0)):=congrArg R.of h3
   have eT:=lst_ev (lk:=true) (evL_cons (l:=TL.nil) rfl (tup_ev (lk:=false) (evL_cons rfl (tup_ev (lk:=false) (evL_cons (t:=T.cst (D.str [110,111,116])) rfl rfl (evL_cons (l:=TL.nil) rfl e0 rfl)) sz2) (evL_cons (l:=TL.nil) rfl (show ev o _ false (T.op2 .add (T.idx (T.idx (T.var 0) (T.neg (T.cst (D.int 1)))) (T.cst (D.int 1))) (T.cst (D.int 1))) = .ok (false,.int ((q.2:Int) + 1)) from op2_ev e1 ev_cst) rfl)) sz2) rfl) sz1
   exact runFn_at rfl (δ0:=st5 (.lst S) M cell sp none) rfl (stp _ s0 (stp _ (s1 _) (stp _ (s2 _) (stpR (ifR ec (retR ((op2_ev eS eT).trans (cat_lst hl0)) rfl))))))
 have ef:ev o (st5 (.lst (stk l)) M cell sp (some (.sh,d))) true (T.and (T.op2 .eq (T.op2 .mod (T.var 1) (T.cst (D.int 10))) (T.cst (D.int 4))) inT) = .ok (false,.bl false):=by
  by_cases c4:cell.fmod 10 = 4
  ·exact and_tt ((eqi em).trans (by rw [decide_eq_true c4])) (hin.trans (by rw [show topB l = false from (Bool.not_eq_true _).mp fun h =>c3 ⟨c4,h⟩]))
  ·exact and_f ((eqi em).trans (by rw [decide_eq_false c4]))
 refine ⟨l ++ [(d,0)],fun p hp =>?_,by rw [List.length_append]; exact Nat.le_refl _,?_⟩
 ·rcases List.mem_append.mp hp with hp | hp
  ·exact hl p hp
  ·rw [List.mem_singleton.mp hp]; exact ⟨hd,Nat.zero_le _⟩
 ·have hl0:(stk l).length + 1 ≤ 1000:=by rw [stk_len]; exact Nat.succ_le_succ (Nat.le_trans hn (by decide))
  rw [stk_concat l (d,0)]
  have eT:=lst_ev (o:=o) (δ:=st5 (.lst (stk l)) M cell sp (some (.sh,d))) (lk:=true) (evL_cons (l:=TL.nil) rfl (tup_ev (lk:=false) (evL_cons (t:=T.var 4) rfl rfl (evL_cons (t:=T.cst (D.int 0)) (l:=TL.nil) rfl rfl rfl)) sz2) rfl) sz1
  exact runFn_at rfl (δ0:=st5 (.lst (stk l)) M cell sp none) rfl (stp _ s0 (stp _ (s1 _) (stp _ (s2 _) (stp _ (ifN ef) (stpR (retR ((op2_ev rfl eT).trans (cat_lst hl0)) rfl))))))
end
end KG

namespace K14
open Z
noncomputable def f0:Fd:=⟨2,5,(SL.cons (S.set 2 (T.dnew [] TL.nil)) (SL.cons (S.for_ [3,4] true (TI.val (T.var 1)) (SL.cons (S.seti 2 (T.var 3) (T.op2 .add (T.get2 (T.var 2) (T.var 3) (T.cst (D.int 0))) (T.var 4))) SL.nil)) (SL.cons (S.ret (T.tup (TL.cons (T.var 0) (TL.cons (T.b1 .tuple (T.comp [2] 1 false (TI.val (T.b1 .sorted (T.var 2))) (T.op2 .ne (T.idx (T.var 1) (T.var 0)) (T.cst (D.int 0))) (T.tup (TL.cons (T.var 0) (TL.cons (T.idx (T.var 1) (T.var 0)) TL.nil))))) TL.nil)))) SL.nil)))⟩
noncomputable def f1:Fd:=⟨2,2,(SL.cons (S.ret (T.call 0 (TL.cons (T.op2 .add (T.idx (T.var 0) (T.cst (D.int 0))) (T.idx (T.var 1) (T.cst (D.int 0)))) (TL.cons (T.op2 .add (T.idx (T.var 0) (T.cst (D.int 1))) (T.idx (T.var 1) (T.cst (D.int 1)))) TL.nil)))) SL.nil)⟩
noncomputable def f2:Fd:=⟨2,2,(SL.cons (S.ret (T.call 0 (TL.cons (T.op2 .mul (T.var 0) (T.idx (T.var 1) (T.cst (D.int 0)))) (TL.cons (T.comp [0] 2 true (TI.val (T.idx (T.var 1) (T.cst (D.int 1)))) (T.cst (D.bl true)) (T.tup (TL.cons (T.var 0) (TL.cons (T.op2 .mul (T.var 2) (T.var 1)) TL.nil)))) TL.nil)))) SL.nil)⟩
noncomputable def f3:Fd:=⟨2,4,(SL.cons (S.set 2 (T.idx (T.var 0) (T.cst (D.int 0)))) (SL.cons (S.ifs (T.op2 .eq (T.var 2) (T.cst (D.str [110,111,116]))) (SL.cons (S.ret (T.call 3 (TL.cons (T.idx (T.var 0) (T.cst (D.int 1))) (TL.cons (T.not (T.var 1)) TL.nil)))) SL.nil) SL.nil) (SL.cons (S.ifs (T.op2 .eq (T.var 2) (T.cst (D.str [108,101,97,115,116]))) (SL.cons (S.ret (T.ite (T.var 1) (T.tup (TL.cons (T.cst (D.str [108,101,97,115,116])) (TL.cons (T.call 1 (TL.cons (T.tup (TL.cons (T.neg (T.cst (D.int 1))) (TL.cons (T.tup TL.nil) TL.nil))) (TL.cons (T.call 2 (TL.cons (T.neg (T.cst (D.int 1))) (TL.cons (T.idx (T.var 0) (T.cst (D.int 1))) TL.nil))) TL.nil))) TL.nil))) (T.var 0))) SL.nil) SL.nil) (SL.cons (S.ifs (T.op2 .eq (T.var 2) (T.cst (D.str [114,101,115,116]))) (SL.cons (S.ret (T.ite (T.var 1) (T.tup (TL.cons (T.cst (D.str [110,111,116])) (TL.cons (T.var 0) TL.nil))) (T.var 0))) SL.nil) SL.nil) (SL.cons (S.set 3 (T.ite (T.var 1) (T.kidx [.s [97,110,100],.s [111,114],.s [115,111,109,101],.s [97,108,108]] [(D.str [111,114]),(D.str [97,110,100]),(D.str [97,108,108]),(D.str [115,111,109,101])] (T.var 2)) (T.var 2))) (SL.cons (S.ifs (T.op2 .in (T.var 2) (T.tup (TL.cons (T.cst (D.str [97,110,100])) (TL.cons (T.cst (D.str [111,114])) TL.nil)))) (SL.cons (S.ret (T.tup (TL.cons (T.var 3) (TL.cons (T.b1 .tuple (T.comp [1] 1 false (TI.val (T.idx (T.var 0) (T.cst (D.int 1)))) (T.cst (D.bl true)) (T.call 3 (TL.cons (T.var 0) (TL.cons (T.var 1) TL.nil))))) TL.nil)))) SL.nil) SL.nil) (SL.cons (S.ret (T.tup (TL.cons (T.var 3) (TL.cons (T.idx (T.var 0) (T.cst (D.int 1))) (TL.cons (T.call 3 (TL.cons (T.idx (T.var 0) (T.cst (D.int 2))) (TL.cons (T.var 1) TL.nil))) TL.nil))))) SL.nil)))))))⟩
noncomputable def f4:Fd:=⟨1,1,(SL.cons (S.ret (T.call 3 (TL.cons (T.var 0) (TL.cons (T.cst (D.bl false)) TL.nil)))) SL.nil)⟩
noncomputable def f5:Fd:=⟨2,2,(SL.cons (S.ifs (T.op2 .lt (T.var 1) (T.b1 .len (T.var 0))) (SL.cons (S.ret (T.idx (T.var 0) (T.var 1))) SL.nil) SL.nil) (SL.cons (S.ret (T.cst (D.int 0))) SL.nil))⟩
noncomputable def f6:Fd:=⟨1,1,(SL.cons (S.ret (T.and (T.isin (T.var 0) .int) (T.not (T.isin (T.var 0) .bool)))) SL.nil)⟩
noncomputable def f7:Fd:=⟨2,2,(SL.cons (S.ifs (T.isin (T.var 1) .tup) (SL.cons (S.ifs (T.or (T.not (T.isin (T.var 0) .tup)) (T.op2 .ne (T.b1 .len (T.var 0)) (T.b1 .len (T.var 1)))) (SL.cons (S.ret (T.cst (D.bl false))) SL.nil) SL.nil) (SL.cons (S.ret (T.b1 .all (T.comp [] 2 true (TI.zip (T.var 0) (T.var 1)) (T.cst (D.bl true)) (T.call 7 (TL.cons (T.var 0) (TL.cons (T.var 1) TL.nil)))))) SL.nil)) SL.nil) (SL.cons (S.ifs (T.isin (T.var 1) .str) (SL.cons (S.ret (T.and (T.isin (T.var 0) .str) (T.op2 .eq (T.var 0) (T.var 1)))) SL.nil) SL.nil) (SL.cons (S.ret (T.and (T.isin (T.var 0) .int) (T.and (T.not (T.isin (T.var 0) .bool)) (T.op2 .eq (T.var 0) (T.var 1))))) SL.nil)))⟩
noncomputable def f8:Fd:=⟨1,6,(SL.cons (S.set 1 (T.cst (D.str [122,120,119,118,117,116,115,114,113,112,110,109,108,107,106,105,104,103,102,101,100,99,98]))) (SL.cons (S.set 2 (T.idx (T.var 1) (T.op2 .mod (T.op2 .fdiv (T.var 0) (T.cst (D.int 2))) (T.cst (D.int 23))))) (SL.cons (S.for_ [3] false (TI.rng1 (T.cst (D.int 6))) (SL.cons (S.set 2 (T.op2 .add (T.var 2) (T.idx (T.op2 .add (T.var 1) (T.cst (D.str [48,49,50,51,52,53,54,55,56,57]))) (T.op2 .mod (T.op2 .mod (T.op2 .mul (T.op2 .mul (T.op2 .add (T.op2 .mod (T.var 0) (T.op2 .pow (T.cst (D.int 10)) (T.cst (D.int 9)))) (T.var 3)) (T.op2 .add (T.var 3) (T.cst (D.int 7)))) (T.cst (D.int 48271))) (T.cst (D.int 65521))) (T.cst (D.int 33)))))) SL.nil)) (SL.cons (S.ifs (T.op2 .eq (T.op2 .mod (T.var 0) (T.cst (D.int 2))) (T.cst (D.int 1))) (SL.cons (S.set 4 (T.op2 .mod (T.op2 .fdiv (T.var 0) (T.cst (D.int 46))) (T.cst (D.int 4)))) (SL.cons (S.ret (T.comp [4,2] 1 false (TI.rng1 (T.cst (D.int 4))) (T.cst (D.bl true)) (T.slc (T.var 2) (T.cst D.non) (T.op2 .add (T.op2 .add (T.var 1) (T.var 0)) (T.cst (D.int 1)))))) SL.nil)) SL.nil) (SL.cons (S.set 2 (T.slc (T.var 2) (T.cst D.non) (T.op2 .mod (T.op2 .fdiv (T.var 0) (T.cst (D.int 46))) (T.cst (D.int 8))))) (SL.cons (S.set 5 (T.op2 .mod (T.op2 .fdiv (T.var 0) (T.cst (D.int 368))) (T.op2 .add (T.b1 .len (T.var 2)) (T.cst (D.int 1))))) (SL.cons (S.ret (T.comp [5,0,1,2] 1 false (TI.rng1 (T.cst (D.int 4))) (T.cst (D.bl true)) (T.op2 .add (T.op2 .add (T.slc (T.var 4) (T.cst D.non) (T.var 1)) (T.idx (T.var 3) (T.op2 .mod (T.op2 .add (T.op2 .fdiv (T.var 2) (T.cst (D.int 3312))) (T.op2 .mul (T.cst (D.int 5)) (T.var 0))) (T.cst (D.int 23))))) (T.slc (T.var 4) (T.var 1) (T.cst D.non))))) SL.nil)))))))⟩
noncomputable def f9:Fd:=⟨1,1,(SL.cons (S.ifs (T.op2 .eq (T.op2 .mod (T.var 0) (T.cst (D.int 3))) (T.cst (D.int 0))) (SL.cons (S.ret (T.op2 .sub (T.op2 .mod (T.op2 .fdiv (T.var 0) (T.cst (D.int 3))) (T.cst (D.int 15))) (T.cst (D.int 7)))) SL.nil) SL.nil) (SL.cons (S.ret (T.op2 .sub (T.op2 .mod (T.op2 .fdiv (T.var 0) (T.cst (D.int 3))) (T.op2 .add (T.op2 .mul (T.cst (D.int 2)) (T.op2 .pow (T.cst (D.int 10)) (T.cst (D.int 60)))) (T.cst (D.int 1)))) (T.op2 .pow (T.cst (D.int 10)) (T.cst (D.int 60))))) SL.nil))⟩
noncomputable def f10:Fd:=⟨2,5,(SL.cons (S.set 2 (T.dnew [] TL.nil)) (SL.cons (S.for_ [3,4] true (TI.enum (T.var 1)) (SL.cons (S.seti 2 (T.var 4) (T.call 9 (TL.cons (T.call 5 (TL.cons (T.var 0) (TL.cons (T.op2 .add (T.cst (D.int 1)) (T.var 3)) TL.nil))) TL.nil))) SL.nil)) (SL.cons (S.ret (T.var 2)) SL.nil)))⟩
noncomputable def f11:Fd:=⟨2,2,(SL.cons (S.ifs (T.op2 .eq (T.op2 .mod (T.var 0) (T.cst (D.int 5))) (T.cst (D.int 1))) (SL.cons (S.ret (T.op2 .mul (T.op2 .add (T.var 1) (T.cst (D.int 1))) (T.op2 .sub (T.cst (D.int 1)) (T.op2 .mul (T.cst (D.int 2)) (T.op2 .mod (T.op2 .fdiv (T.var 0) (T.cst (D.int 5))) (T.cst (D.int 2))))))) SL.nil) SL.nil) (SL.cons (S.ret (T.op2 .mul (T.op2 .sub (T.op2 .mod (T.op2 .fdiv (T.var 0) (T.cst (D.int 5))) (T.cst (D.int 7))) (T.cst (D.int 3))) (T.op2 .add (T.cst (D.int 1)) (T.op2 .mod (T.op2 .fdiv (T.var 0) (T.cst (D.int 35))) (T.cst (D.int 4)))))) SL.nil))⟩
noncomputable def f12:Fd:=⟨1,1,(SL.cons (S.ifs (T.op2 .eq (T.op2 .mod (T.var 0) (T.cst (D.int 4))) (T.cst (D.int 3))) (SL.cons (S.ret (T.op2 .sub (T.op2 .mod (T.op2 .fdiv (T.var 0) (T.cst (D.int 4))) (T.op2 .add (T.op2 .mul (T.cst (D.int 2)) (T.op2 .pow (T.cst (D.int 10)) (T.cst (D.int 20)))) (T.cst (D.int 1)))) (T.op2 .pow (T.cst (D.int 10)) (T.cst (D.int 20))))) SL.nil) SL.nil) (SL.cons (S.ret (T.op2 .sub (T.op2 .mod (T.op2 .fdiv (T.var 0) (T.cst (D.int 4))) (T.cst (D.int 5))) (T.cst (D.int 2)))) SL.nil))⟩
noncomputable def f13:Fd:=⟨3,9,(SL.cons (S.set 3 (T.lst TL.nil)) (SL.cons (S.set 4 (T.call 12 (TL.cons (T.op2 .fdiv (T.var 0) (T.cst (D.int 16))) TL.nil))) (SL.cons (S.for_ [5,6] true (TI.enum (T.b1 .sorted (T.var 1))) (SL.cons (S.set 7 (T.op2 .mod (T.op2 .mul (T.op2 .mul (T.op2 .add (T.op2 .mod (T.var 0) (T.var 2)) (T.var 5)) (T.op2 .add (T.op2 .mul (T.cst (D.int 2)) (T.var 5)) (T.cst (D.int 3)))) (T.cst (D.int 48271))) (T.cst (D.int 1000003)))) (SL.cons (S.set 8 (T.op2 .mul (T.call 11 (TL.cons (T.var 7) (TL.cons (T.op2 .mod (T.var 0) (T.var 2)) TL.nil))) (T.op2 .sub (T.cst (D.int 1)) (T.op2 .mul (T.cst (D.int 2)) (T.op2 .mod (T.op2 .fdiv (T.var 0) (T.cst (D.int 48))) (T.cst (D.int 2))))))) (SL.cons (S.ifs (T.op2 .ne (T.var 8) (T.cst (D.int 0))) (SL.cons (S.append 3 (T.tup (TL.cons (T.var 6) (TL.cons (T.var 8) TL.nil)))) (SL.cons (S.set 4 (T.op2 .sub (T.var 4) (T.op2 .mul (T.var 8) (T.idx (T.var 1) (T.var 6))))) SL.nil)) SL.nil) SL.nil)))) (SL.cons (S.ret (T.tup (TL.cons (T.var 4) (TL.cons (T.b1 .tuple (T.var 3)) TL.nil)))) SL.nil))))⟩
noncomputable def f14:Fd:=⟨3,4,(SL.cons (S.set 3 (T.call 13 (TL.cons (T.var 0) (TL.cons (T.var 1) (TL.cons (T.var 2) TL.nil))))) (SL.cons (S.ifs (T.op2 .eq (T.op2 .mod (T.var 0) (T.cst (D.int 2))) (T.cst (D.int 0))) (SL.cons (S.ret (T.tup (TL.cons (T.cst (D.str [108,101,97,115,116])) (TL.cons (T.var 3) TL.nil)))) SL.nil) SL.nil) (SL.cons (S.ifs (T.op2 .eq (T.op2 .mod (T.op2 .fdiv (T.var 0) (T.cst (D.int 2))) (T.cst (D.int 8))) (T.cst (D.int 7))) (SL.cons (S.ret (T.tup (TL.cons (T.cst (D.str [114,101,115,116])) (TL.cons (T.op2 .add (T.op2 .mod (T.var 0) (T.var 2)) (T.cst (D.int 1))) (TL.cons (T.var 3) TL.nil))))) SL.nil) SL.nil) (SL.cons (S.ret (T.tup (TL.cons (T.cst (D.str [114,101,115,116])) (TL.cons (T.op2 .add (T.op2 .mod (T.op2 .fdiv (T.var 0) (T.cst (D.int 2))) (T.cst (D.int 8))) (T.cst (D.int 1))) (TL.cons (T.var 3) TL.nil))))) SL.nil))))⟩
noncomputable def f15:Fd:=⟨4,6,(SL.cons (S.set 4 (T.slc (T.var 1) (T.b2 .max (T.cst (D.int 0)) (T.op2 .sub (T.b1 .len (T.var 1)) (T.var 2))) (T.cst D.non))) (SL.cons (S.set 5 (T.op2 .add (T.cst (D.int 1)) (T.b2 .maxd (T.comp [] 1 false (TI.val (T.var 4)) (T.cst (D.bl true)) (T.idx (T.var 0) (T.cst (D.int 1)))) (T.cst (D.int 0))))) (SL.cons (S.ifs (T.op2 .gt (T.var 5) (T.cst (D.int 17))) (SL.cons (S.ret (T.op2 .add (T.var 1) (T.lst (TL.cons (T.tup (TL.cons (T.var 3) (TL.cons (T.cst (D.int 0)) TL.nil))) TL.nil)))) SL.nil) SL.nil) (SL.cons (S.ret (T.op2 .add (T.slc (T.var 1) (T.cst D.non) (T.b2 .max (T.cst (D.int 0)) (T.op2 .sub (T.b1 .len (T.var 1)) (T.var 2)))) (T.lst (TL.cons (T.tup (TL.cons (T.tup (TL.cons (T.var 0) (TL.cons (T.b1 .tuple (T.comp [] 1 false (TI.val (T.var 4)) (T.cst (D.bl true)) (T.idx (T.var 0) (T.cst (D.int 0))))) TL.nil))) (TL.cons (T.var 5) TL.nil))) TL.nil)))) SL.nil))))⟩
noncomputable def f16:Fd:=⟨4,5,(SL.cons (S.set 4 (T.call 14 (TL.cons (T.op2 .fdiv (T.var 1) (T.cst (D.int 10))) (TL.cons (T.var 2) (TL.cons (T.var 3) TL.nil))))) (SL.cons (S.ifs (T.op2 .lt (T.op2 .mod (T.var 1) (T.cst (D.int 10))) (T.cst (D.int 2))) (SL.cons (S.ret (T.call 15 (TL.cons (T.cst (D.str [97,110,100])) (TL.cons (T.var 0) (TL.cons (T.op2 .mod (T.op2 .fdiv (T.var 1) (T.cst (D.int 10))) (T.cst (D.int 4))) (TL.cons (T.var 4) TL.nil)))))) SL.nil) SL.nil) (SL.cons (S.ifs (T.op2 .lt (T.op2 .mod (T.var 1) (T.cst (D.int 10))) (T.cst (D.int 4))) (SL.cons (S.ret (T.call 15 (TL.cons (T.cst (D.str [111,114])) (TL.cons (T.var 0) (TL.cons (T.op2 .mod (T.op2 .fdiv (T.var 1) (T.cst (D.int 10))) (T.cst (D.int 4))) (TL.cons (T.var 4) TL.nil)))))) SL.nil) SL.nil) (SL.cons (S.ifs (T.and (T.op2 .eq (T.op2 .mod (T.var 1) (T.cst (D.int 10))) (T.cst (D.int 4))) (T.and (T.op2 .gt (T.b1 .len (T.var 0)) (T.cst (D.int 0))) (T.op2 .lt (T.idx (T.idx (T.var 0) (T.neg (T.cst (D.int 1)))) (T.cst (D.int 1))) (T.cst (D.int 17))))) (SL.cons (S.ret (T.op2 .add (T.slc (T.var 0) (T.cst D.non) (T.neg (T.cst (D.int 1)))) (T.lst (TL.cons (T.tup (TL.cons (T.tup (TL.cons (T.cst (D.str [110,111,116])) (TL.cons (T.idx (T.idx (T.var 0) (T.neg (T.cst (D.int 1)))) (T.cst (D.int 0))) TL.nil))) (TL.cons (T.op2 .add (T.idx (T.idx (T.var 0) (T.neg (T.cst (D.int 1)))) (T.cst (D.int 1))) (T.cst (D.int 1))) TL.nil))) TL.nil)))) SL.nil) SL.nil) (SL.cons (S.ret (T.op2 .add (T.var 0) (T.lst (TL.cons (T.tup (TL.cons (T.var 4) (TL.cons (T.cst (D.int 0)) TL.nil))) TL.nil)))) SL.nil)))))⟩
noncomputable def f17:Fd:=⟨4,6,(SL.cons (S.set 4 (T.lst TL.nil)) (SL.cons (S.for_ [5] false (TI.val (T.var 0)) (SL.cons (S.set 4 (T.call 16 (TL.cons (T.var 4) (TL.cons (T.var 5) (TL.cons (T.var 1) (TL.cons (T.var 2) TL.nil)))))) SL.nil)) (SL.cons (S.ifs (T.op2 .eq (T.b1 .len (T.var 4)) (T.cst (D.int 1))) (SL.cons (S.ret (T.idx (T.idx (T.var 4) (T.cst (D.int 0))) (T.cst (D.int 0)))) SL.nil) SL.nil) (SL.cons (S.ret (T.tup (TL.cons (T.var 3) (TL.cons (T.b1 .tuple (T.comp [] 1 false (TI.val (T.var 4)) (T.cst (D.bl true)) (T.idx (T.var 0) (T.cst (D.int 0))))) TL.nil)))) SL.nil))))⟩
noncomputable def f18:Fd:=⟨2,3,(SL.cons (S.set 2 (T.comp [0,1] 1 false (TI.rng3 (T.cst (D.int 0)) (T.b1 .len (T.var 0)) (T.var 1)) (T.cst (D.bl true)) (T.slc (T.var 1) (T.var 0) (T.op2 .add (T.var 0) (T.var 2))))) (SL.cons (S.ifs (T.op2 .eq (T.b1 .len (T.var 2)) (T.cst (D.int 0))) (SL.cons (S.ret (T.lst (TL.cons (T.lst TL.nil) TL.nil))) SL.nil) SL.nil) (SL.cons (S.ret (T.var 2)) SL.nil)))⟩
noncomputable def f19:Fd:=⟨2,5,(SL.cons (S.set 2 (T.idx (T.var 0) (T.cst (D.int 0)))) (SL.cons (S.for_ [3,4] true (TI.val (T.idx (T.var 0) (T.cst (D.int 1)))) (SL.cons (S.set 2 (T.op2 .add (T.var 2) (T.op2 .mul (T.var 4) (T.idx (T.var 1) (T.var 3))))) SL.nil)) (SL.cons (S.ret (T.var 2)) SL.nil)))⟩
noncomputable def f20:Fd:=⟨2,3,(SL.cons (S.ifs (T.op2 .eq (T.idx (T.var 0) (T.cst (D.int 0))) (T.cst (D.str [108,101,97,115,116]))) (SL.cons (S.ret (T.op2 .ge (T.call 19 (TL.cons (T.idx (T.var 0) (T.cst (D.int 1))) (TL.cons (T.var 1) TL.nil))) (T.cst (D.int 0)))) SL.nil) SL.nil) (SL.cons (S.ifs (T.op2 .eq (T.idx (T.var 0) (T.cst (D.int 0))) (T.cst (D.str [114,101,115,116]))) (SL.cons (S.ret (T.op2 .eq (T.op2 .mod (T.call 19 (TL.cons (T.idx (T.var 0) (T.cst (D.int 2))) (TL.cons (T.var 1) TL.nil))) (T.idx (T.var 0) (T.cst (D.int 1)))) (T.cst (D.int 0)))) SL.nil) SL.nil) (SL.cons (S.ifs (T.op2 .eq (T.idx (T.var 0) (T.cst (D.int 0))) (T.cst (D.str [110,111,116]))) (SL.cons (S.ret (T.not (T.call 20 (TL.cons (T.idx (T.var 0) (T.cst (D.int 1))) (TL.cons (T.var 1) TL.nil))))) SL.nil) SL.nil) (SL.cons (S.set 2 (T.comp [1] 1 false (TI.val (T.idx (T.var 0) (T.cst (D.int 1)))) (T.cst (D.bl true)) (T.call 20 (TL.cons (T.var 0) (TL.cons (T.var 1) TL.nil))))) (SL.cons (S.ifs (T.op2 .eq (T.idx (T.var 0) (T.cst (D.int 0))) (T.cst (D.str [97,110,100]))) (SL.cons (S.ret (T.b1 .all (T.var 2))) SL.nil) SL.nil) (SL.cons (S.ret (T.b1 .any (T.var 2))) SL.nil))))))⟩
noncomputable def f21:Fd:=⟨2,4,(SL.cons (S.ifs (T.or (T.not (T.isin (T.var 0) .tup)) (T.or (T.op2 .ne (T.b1 .len (T.var 0)) (T.cst (D.int 2))) (T.or (T.not (T.call 6 (TL.cons (T.idx (T.var 0) (T.cst (D.int 0))) TL.nil))) (T.not (T.isin (T.idx (T.var 0) (T.cst (D.int 1))) .tup))))) (SL.cons (S.ret (T.cst (D.bl false))) SL.nil) SL.nil) (SL.cons (S.set 2 (T.cst (D.str []))) (SL.cons (S.for_ [3] false (TI.val (T.idx (T.var 0) (T.cst (D.int 1)))) (SL.cons (S.ifs (T.or (T.not (T.isin (T.var 3) .tup)) (T.or (T.op2 .ne (T.b1 .len (T.var 3)) (T.cst (D.int 2))) (T.not (T.isin (T.idx (T.var 3) (T.cst (D.int 0))) .str)))) (SL.cons (S.ret (T.cst (D.bl false))) SL.nil) SL.nil) (SL.cons (S.ifs (T.or (T.not (T.call 6 (TL.cons (T.idx (T.var 3) (T.cst (D.int 1))) TL.nil))) (T.or (T.op2 .eq (T.idx (T.var 3) (T.cst (D.int 1))) (T.cst (D.int 0))) (T.or (T.op2 .notin (T.idx (T.var 3) (T.cst (D.int 0))) (T.var 1)) (T.op2 .le (T.idx (T.var 3) (T.cst (D.int 0))) (T.var 2))))) (SL.cons (S.ret (T.cst (D.bl false))) SL.nil) SL.nil) (SL.cons (S.set 2 (T.idx (T.var 3) (T.cst (D.int 0)))) SL.nil)))) (SL.cons (S.ret (T.cst (D.bl true))) SL.nil))))⟩
noncomputable def f22:Fd:=⟨2,2,(SL.cons (S.ifs (T.or (T.not (T.isin (T.var 0) .tup)) (T.or (T.op2 .lt (T.b1 .len (T.var 0)) (T.cst (D.int 2))) (T.not (T.isin (T.idx (T.var 0) (T.cst (D.int 0))) .str)))) (SL.cons (S.ret (T.cst (D.bl false))) SL.nil) SL.nil) (SL.cons (S.ifs (T.op2 .eq (T.idx (T.var 0) (T.cst (D.int 0))) (T.cst (D.str [108,101,97,115,116]))) (SL.cons (S.ret (T.and (T.op2 .eq (T.b1 .len (T.var 0)) (T.cst (D.int 2))) (T.call 21 (TL.cons (T.idx (T.var 0) (T.cst (D.int 1))) (TL.cons (T.var 1) TL.nil))))) SL.nil) SL.nil) (SL.cons (S.ifs (T.op2 .eq (T.idx (T.var 0) (T.cst (D.int 0))) (T.cst (D.str [114,101,115,116]))) (SL.cons (S.ret (T.and (T.op2 .eq (T.b1 .len (T.var 0)) (T.cst (D.int 3))) (T.and (T.call 6 (TL.cons (T.idx (T.var 0) (T.cst (D.int 1))) TL.nil)) (T.and (T.op2 .gt (T.idx (T.var 0) (T.cst (D.int 1))) (T.cst (D.int 0))) (T.call 21 (TL.cons (T.idx (T.var 0) (T.cst (D.int 2))) (TL.cons (T.var 1) TL.nil))))))) SL.nil) SL.nil) (SL.cons (S.ifs (T.op2 .ne (T.b1 .len (T.var 0)) (T.cst (D.int 2))) (SL.cons (S.ret (T.cst (D.bl false))) SL.nil) SL.nil) (SL.cons (S.ifs (T.op2 .eq (T.idx (T.var 0) (T.cst (D.int 0))) (T.cst (D.str [110,111,116]))) (SL.cons (S.ret (T.call 22 (TL.cons (T.idx (T.var 0) (T.cst (D.int 1))) (TL.cons (T.var 1) TL.nil)))) SL.nil) SL.nil) (SL.cons (S.ifs (T.or (T.and (T.op2 .ne (T.idx (T.var 0) (T.cst (D.int 0))) (T.cst (D.str [97,110,100]))) (T.op2 .ne (T.idx (T.var 0) (T.cst (D.int 0))) (T.cst (D.str [111,114])))) (T.not (T.isin (T.idx (T.var 0) (T.cst (D.int 1))) .tup))) (SL.cons (S.ret (T.cst (D.bl false))) SL.nil) SL.nil) (SL.cons (S.ret (T.b1 .all (T.comp [1] 1 false (TI.val (T.idx (T.var 0) (T.cst (D.int 1)))) (T.cst (D.bl true)) (T.call 22 (TL.cons (T.var 0) (TL.cons (T.var 1) TL.nil)))))) SL.nil)))))))⟩
noncomputable def f23:Fd:=⟨1,1,(SL.cons (S.ifs (T.or (T.op2 .eq (T.idx (T.var 0) (T.cst (D.int 0))) (T.cst (D.str [108,101,97,115,116]))) (T.op2 .eq (T.idx (T.var 0) (T.cst (D.int 0))) (T.cst (D.str [114,101,115,116])))) (SL.cons (S.ret (T.cst (D.int 1))) SL.nil) SL.nil) (SL.cons (S.ifs (T.op2 .eq (T.idx (T.var 0) (T.cst (D.int 0))) (T.cst (D.str [110,111,116]))) (SL.cons (S.ret (T.call 23 (TL.cons (T.idx (T.var 0) (T.cst (D.int 1))) TL.nil))) SL.nil) SL.nil) (SL.cons (S.ret (T.b1 .sum (T.comp [] 1 false (TI.val (T.idx (T.var 0) (T.cst (D.int 1)))) (T.cst (D.bl true)) (T.call 23 (TL.cons (T.var 0) TL.nil))))) SL.nil)))⟩
noncomputable def f24:Fd:=⟨1,1,(SL.cons (S.ifs (T.op2 .eq (T.idx (T.var 0) (T.cst (D.int 0))) (T.cst (D.str [110,111,116]))) (SL.cons (S.ret (T.op2 .eq (T.idx (T.idx (T.var 0) (T.cst (D.int 1))) (T.cst (D.int 0))) (T.cst (D.str [114,101,115,116])))) SL.nil) SL.nil) (SL.cons (S.ifs (T.or (T.op2 .eq (T.idx (T.var 0) (T.cst (D.int 0))) (T.cst (D.str [108,101,97,115,116]))) (T.op2 .eq (T.idx (T.var 0) (T.cst (D.int 0))) (T.cst (D.str [114,101,115,116])))) (SL.cons (S.ret (T.cst (D.bl true))) SL.nil) SL.nil) (SL.cons (S.ret (T.b1 .all (T.comp [] 1 false (TI.val (T.idx (T.var 0) (T.cst (D.int 1)))) (T.cst (D.bl true)) (T.call 24 (TL.cons (T.var 0) TL.nil))))) SL.nil)))⟩
noncomputable def f25:Fd:=⟨4,5,(SL.cons (S.ifs (T.or (T.not (T.call 22 (TL.cons (T.var 0) (TL.cons (T.idx (T.var 2) (T.cst (D.int 0))) TL.nil)))) (T.or (T.not (T.call 24 (TL.cons (T.var 0) TL.nil))) (T.op2 .ne (T.call 23 (TL.cons (T.var 0) TL.nil)) (T.call 23 (TL.cons (T.var 1) TL.nil))))) (SL.cons (S.ret (T.cst (D.bl false))) SL.nil) SL.nil) (SL.cons (S.for_ [4] false (TI.val (T.var 2)) (SL.cons (S.ifs (T.op2 .ne (T.call 20 (TL.cons (T.var 0) (TL.cons (T.var 4) TL.nil))) (T.op2 .eq (T.call 20 (TL.cons (T.var 1) (TL.cons (T.var 4) TL.nil))) (T.var 3))) (SL.cons (S.ret (T.cst (D.bl false))) SL.nil) SL.nil) SL.nil)) (SL.cons (S.ret (T.cst (D.bl true))) SL.nil)))⟩
noncomputable def f26:Fd:=⟨1,9,(SL.cons (S.set 1 (T.call 5 (TL.cons (T.var 0) (TL.cons (T.cst (D.int 0)) TL.nil)))) (SL.cons (S.set 2 (T.call 10 (TL.cons (T.var 0) (TL.cons (T.call 8 (TL.cons (T.op2 .fdiv (T.var 1) (T.cst (D.int 24))) TL.nil)) TL.nil)))) (SL.cons (S.set 3 (T.dnew [] TL.nil)) (SL.cons (S.for_ [4,5] true (TI.enum (T.var 2)) (SL.cons (S.seti 3 (T.var 5) (T.op2 .sub (T.op2 .add (T.idx (T.var 2) (T.var 5)) (T.op2 .mod (T.op2 .fdiv (T.var 1) (T.op2 .add (T.var 4) (T.cst (D.int 1)))) (T.cst (D.int 5)))) (T.cst (D.int 2)))) SL.nil)) (SL.cons (S.for_ [6] false (TI.val (T.call 18 (TL.cons (T.slc (T.var 0) (T.cst (D.int 5)) (T.cst (D.int 68))) (TL.cons (T.idx (T.lst (TL.cons (T.cst (D.int 2)) (TL.cons (T.cst (D.int 4)) (TL.cons (T.cst (D.int 7)) (TL.cons (T.cst (D.int 63)) TL.nil))))) (T.op2 .mod (T.op2 .fdiv (T.var 1) (T.cst (D.int 3))) (T.cst (D.int 4)))) TL.nil)))) (SL.cons (S.set 7 (T.call 17 (TL.cons (T.var 6) (TL.cons (T.var 2) (TL.cons (T.idx (T.lst (TL.cons (T.cst (D.int 1)) (TL.cons (T.cst (D.int 3)) (TL.cons (T.op2 .pow (T.cst (D.int 10)) (T.cst (D.int 20))) TL.nil)))) (T.op2 .mod (T.var 1) (T.cst (D.int 3)))) (TL.cons (T.idx (T.lst (TL.cons (T.cst (D.str [97,110,100])) (TL.cons (T.cst (D.str [111,114])) TL.nil))) (T.op2 .mod (T.op2 .fdiv (T.var 1) (T.cst (D.int 12))) (T.cst (D.int 2)))) TL.nil)))))) (SL.cons (S.set 8 (T.call 4 (TL.cons (T.var 7) TL.nil))) (SL.cons (S.ifq (T.not (T.call 25 (TL.cons (T.var 8) (TL.cons (T.var 7) (TL.cons (T.lst (TL.cons (T.var 2) (TL.cons (T.var 3) TL.nil))) (TL.cons (T.cst (D.bl true)) TL.nil)))))) (SL.cons (S.ret (T.cst (D.bl false))) SL.nil) SL.nil) (SL.cons (S.ifq (T.not (T.call 25 (TL.cons (T.call 4 (TL.cons (T.tup (TL.cons (T.cst (D.str [110,111,116])) (TL.cons (T.var 7) TL.nil))) TL.nil)) (TL.cons (T.var 7) (TL.cons (T.lst (TL.cons (T.var 2) (TL.cons (T.var 3) TL.nil))) (TL.cons (T.cst (D.bl false)) TL.nil)))))) (SL.cons (S.ret (T.cst (D.bl false))) SL.nil) SL.nil) (SL.cons (S.ifs (T.not (T.call 7 (TL.cons (T.call 4 (TL.cons (T.var 8) TL.nil)) (TL.cons (T.var 8) TL.nil)))) (SL.cons (S.ret (T.cst (D.bl false))) SL.nil) SL.nil) SL.nil)))))) (SL.cons (S.ret (T.cst (D.bl true))) SL.nil))))))⟩
noncomputable def meth:Nat → List Nat → Option Nat
 | _,_ =>none
noncomputable def init:Nat → Option Nat
 | _ =>none
noncomputable def sub:Nat → Nat → Bool
 | _,_ =>false
noncomputable def prg:Prg:=⟨[f0,f1,f2,f3,f4,f5,f6,f7,f8,f9,f10,f11,f12,f13,f14,f15,f16,f17,f18,f19,f20,f21,f22,f23,f24,f25,f26],meth,init,sub⟩
noncomputable def lawIx:Nat:=26
end K14

namespace K14
open Z KG
theorem e0:f0 = soFd:=rfl
theorem e1:f1 = plusFd 0:=rfl
theorem e2:f2 = timesFd 0:=rfl
theorem e5:f5 = cellFd:=rfl
theorem e7:f7 = samezFd 7:=rfl
theorem e8:f8 = namesFd:=rfl
theorem e9:f9 = numbFd:=rfl
theorem e10:f10 = pointFd 9 5:=rfl
theorem e11:f11 = manyFd:=rfl
theorem e12:f12 = nearFd:=rfl
theorem e13:f13 = lsumFd 12 11:=rfl
theorem e14:f14 = atomFd 13:=rfl
theorem e15:f15 = grpFd:=rfl
theorem e16:f16 = step14Fd 14 15:=rfl
theorem e17:f17 = treeFd 16:=rfl
theorem z2:size 2 = true:=by decide
theorem z3:size 3 = true:=by decide
theorem z0:size 0 = true:=by decide
noncomputable def turn (a:Bool) (w:List Nat):List Nat:=if a then (if w = AND then OR else AND) else w
variable {o:Orc}
noncomputable def on1 (r:R (Bool × D)):R (Bool × D):=r.bind (lent false)
theorem on1_ok {r:R (Bool × D)} {x:D} (h:r = .ok (false,x)):on1 r = .ok (false,x):=by rw [h]; rfl
theorem p3_not {p r:D} {a:Bool} (h:o.fn 3 [p,.bl (!a)] = .ok (false,r)):runFn o f3 [.tup [.str NOT,p],.bl a] = .ok (false,r) :=
 runFn_at rfl rfl (stp _ rfl (stpR (ifR (b:=false) rfl (retR (on1_ok h) rfl))))
theorem p3_leastT {s s1 s2:D} (h1:o.fn 2 [.int (-1),s] = .ok (false,s1)) (h2:o.fn 1 [.tup [.int (-1),.tup []],s1] = .ok (false,s2)):runFn o f3 [.tup [.str LEAST,s],.bl true] = .ok (false,.tup [.str LEAST,s2]):=by
 simp [f3,runFn,evSs,evS,evF,ev,evL,R.bind,tup_idx0,tup_idx1,o2,eqA,eqS,R.of,truth,SO.of,setSlot,orStuck,LEAST,lkOwn,isOwn,h1,h2,lent,R.chk,z2,z0]
theorem p3_leastF {s:D}:runFn o f3 [.tup [.str LEAST,s],.bl false] = .ok (false,.tup [.str LEAST,s]):=rfl
theorem p3_restT {m s:D}:runFn o f3 [.tup [.str REST,m,s],.bl true] = .ok (false,.tup [.str NOT,.tup [.str REST,m,s]]):=rfl
theorem p3_restF {m s:D}:runFn o f3 [.tup [.str REST,m,s],.bl false] = .ok (false,.tup [.str REST,m,s]):=rfl
theorem comp_c1 (ix:Nat) {α:Type} {l:List α} {a g:α → D} (h:∀ p ∈ l,o.fn ix [a p] = .ok (false,g p)):compGo (fun x =>ev o ((x ++ []).map fun d =>some (Own.sh,d)) false (T.call ix (TL.cons (T.var 0) TL.nil))) (fun x =>ev o ((x ++ []).map fun d =>some (Own.sh,d)) true (T.cst (D.bl true))) 1 false (l.map a) = .ok (l.map g) :=
 comp_ofN (fun x _ =>by simp [ev]) fun x hx =>⟨false,by simp [ev,evL,R.bind,lkOwn,isOwn,h x hx,lent]⟩
theorem comp_c2 (ix:Nat) {α:Type} {l:List α} {a g:α → D} {y:D} (h:∀ p ∈ l,o.fn ix [a p,y] = .ok (false,g p)):compGo (fun x =>ev o ((x ++ [y]).map fun d =>some (Own.sh,d)) false (T.call ix (TL.cons (T.var 0) (TL.cons (T.var 1) TL.nil)))) (fun x =>ev o ((x ++ [y]).map fun d =>some (Own.sh,d)) true (T.cst (D.bl true))) 1 false (l.map a) = .ok (l.map g) :=
 comp_ofN (fun x _ =>by simp [ev]) fun x hx =>⟨false,by simp [ev,evL,R.bind,lkOwn,isOwn,h x hx,lent]⟩
theorem eq_ne {w x:List Nat} (h:w ≠ x):o2 .eq (.str w) (.str x) = .ok (false,.bl false):=by simp [o2,eqA,eqS,R.of,h]
theorem in_ao {w:List Nat} (h:w = AND ∨ w = OR):o2 .in (.str w) (.tup [.str [97,110,100],.str [111,114]]) = .ok (false,.bl true):=by rcases h with rfl | rfl <;> rfl
noncomputable def tTurn:T:=(T.ite (T.var 1) (T.kidx [.s [97,110,100],.s [111,114],.s [115,111,109,101],.s [97,108,108]] [(D.str [111,114]),(D.str [97,110,100]),(D.str [97,108,108]),(D.str [115,111,109,101])] (T.var 2)) (T.var 2))
theorem ev_turn {w:List Nat} (hw:w = AND ∨ w = OR) {a:Bool} {x y:Option Slot}:ev o [x,some (.sh,.bl a),some (.sh,.str w),y] false tTurn = .ok (false,.str (turn a w)):=by
 rcases hw with rfl | rfl <;> cases a <;> rfl
theorem p3_grp {w:List Nat} (hw:w = AND ∨ w = OR) {α:Type} {l:List α} (hl:l.length ≤ 1000) {f g:α → D} {a:Bool} (h:∀ p ∈ l,o.fn 3 [f p,.bl a] = .ok (false,g p)):runFn o f3 [.tup [.str w,.tup (l.map f)],.bl a] = .ok (false,.tup [.str (turn a w),.tup (l.map g)]):=by
 have he:=ev_comp o [some (.sh,.tup [.str w,.tup (l.map f)]),some (.sh,.bl a),some (.sh,.str w),some (.sh,.str (turn a w))] true (TI.val (T.idx (T.var 0) (T.cst (D.int 1)))) [1] [.bl a] _ _ 1 false _ _ rfl rfl rfl (by simpa using hl) (comp_c2 3 h)
 generalize l.map g = L' at *
 generalize l.map f = L at *
 have h1:o2 .eq (.str w) (.str [110,111,116]) = .ok (false,.bl false):=eq_ne (by rcases hw with rfl | rfl <;> decide)
 have h2:o2 .eq (.str w) (.str [108,101,97,115,116]) = .ok (false,.bl false):=eq_ne (by rcases hw with rfl | rfl <;> decide)
 have h3:o2 .eq (.str w) (.str [114,101,115,116]) = .ok (false,.bl false):=eq_ne (by rcases hw with rfl | rfl <;> decide)
 have h4:=in_ao hw
 have h5:=ev_turn (o:=o) (a:=a) (x:=some (.sh,.tup [.str w,.tup L])) (y:=none) hw
 rw [f3]
 rw [tTurn] at h5
 generalize (T.ite (T.var 1) (T.kidx [.s [97,110,100],.s [111,114],.s [115,111,109,101],.s [97,108,108]] [(D.str [111,114]),(D.str [97,110,100]),(D.str [97,108,108]),(D.str [115,111,109,101])] (T.var 2)) (T.var 2)) = tq at *
 generalize (T.comp [1] 1 false (TI.val (T.idx (T.var 0) (T.cst (D.int 1)))) (T.cst (D.bl true)) (T.call 3 (TL.cons (T.var 0) (TL.cons (T.var 1) TL.nil)))) = tt at *
 generalize turn a w = v at *
 refine runFn_at rfl (δ0:=[some (.sh,.tup [.str w,.tup L]),some (.sh,.bl a),none,none]) rfl (stp [some (.sh,.tup [.str w,.tup L]),some (.sh,.bl a),some (.sh,.str w),none] ?_ (stp [some (.sh,.tup [.str w,.tup L]),some (.sh,.bl a),some (.sh,.str w),none] ?_ (stp [some (.sh,.tup [.str w,.tup L]),some (.sh,.bl a),some (.sh,.str w),none] ?_ (stp [some (.sh,.tup [.str w,.tup L]),some (.sh,.bl a),some (.sh,.str w),none] ?_ (stp [some (.sh,.tup [.str w,.tup L]),some (.sh,.bl a),some (.sh,.str w),some (.sh,.str v)] ?_ (stpR (δ':=[some (.sh,.tup [.str w,.tup L]),some (.sh,.bl a),some (.sh,.str w),some (.sh,.str v)]) ?_))))))
 ·simp [evS,evF,ev,R.bind,tup_idx0,SO.of,setSlot,orStuck]
 ·simp [evS,evSs,ev,R.bind,h1,R.of,truth,SO.of]
 ·simp [evS,evSs,ev,R.bind,h2,R.of,truth,SO.of]
 ·simp [evS,evSs,ev,R.bind,h3,R.of,truth,SO.of]
 ·simp [evS,evF,h5,SO.of,setSlot,orStuck]
 ·simp [evS,evSs,evF,ev,evL,R.bind,lkOwn,R.chk,z2,h4,R.of,truth,SO.of,he,b1D,isOwn]
noncomputable def V (m:List Pair) (c:Int) (L:List Pair):Int:=L.foldl (fun t p =>t + p.2 * (lookP m p.1).getD 0) c
theorem V_neg (m:List Pair):∀ (L:List Pair) (c:Int),V m (-1 - c) (negL L) = -1 - V m c L
 | [],c =>rfl
 | p :: L,c =>by
   have ih:=V_neg m L (c + p.2 * (lookP m p.1).getD 0)
   simp only [V,negL,List.map_cons,List.foldl_cons] at ih ⊢
   rw [← ih]
   congr 1
   rw [Int.neg_mul]; omega
noncomputable def Bw (x:Int):Prop:=x.natAbs < 2 ^ 1001
theorem mul_bw {x y:Int} (hx:Bq x) (hy:Bw y):mulOk x y = true:=by
 have h1:=bits_bq hx
 have h2:bits y ≤ 1001:=by
  unfold bits
  split
  ·omega
  ·have:y.natAbs.log2 < 1001:=(Nat.log2_lt (by omega)).mpr hy
   omega
 unfold mulOk
 simp only [Bool.or_eq_true,decide_eq_true_eq]
 omega
theorem bw_add {x e:Int} (hx:Bq x) (h:e.natAbs ≤ 4):Bw (x + e):=by
 unfold Bw; unfold Bq at hx
 have h1:(2:Nat) ^ 1001 = 2 ^ 1000 * 2:=Nat.pow_succ ..
 have h2:(2:Nat) ^ 2 ≤ 2 ^ 1000:=Nat.pow_le_pow_right (by omega) (by omega)
 rw [h1]
 generalize (2:Nat) ^ 1000 = B at *
 omega
theorem bq_bw {x:Int} (h:Bq x):Bw x:=by have:=bw_add h (e:=0) (by decide); simpa using this
noncomputable def Vs (N:List (List Nat)) (m:List Pair):Prop:=∀ n ∈ N,∃ v,lookP m n = some v ∧ Bw v
noncomputable def vB:SL:=(SL.cons (S.set 2 (T.op2 .add (T.var 2) (T.op2 .mul (T.var 4) (T.idx (T.var 1) (T.var 3))))) SL.nil)
theorem e19:f19 = ⟨2,5,(SL.cons (S.set 2 (T.idx (T.var 0) (T.cst (D.int 0)))) (SL.cons (S.for_ [3,4] true (TI.val (T.idx (T.var 0) (T.cst (D.int 1)))) vB) (SL.cons (S.ret (T.var 2)) SL.nil)))⟩:=rfl
theorem idx_P {m:List Pair} {n:List Nat} {v:Int} (h:lookP m n = some v):idxD (dctP m) (.str n) = .ok (false,.int v):=by
 simp [idxD,dctP,keyOf,look_P,h,R.of]
theorem v_for {N:List (List Nat)} {m:List Pair} (hm:Vs N m) (a:Option Slot):∀ (L:List Pair) (t:Int) (x y:Option Slot),(∀ p ∈ L,Bq p.2 ∧ p.1 ∈ N) → ∃ x' y',forGo (evSs o vB) [3,4] true (L.map prD) [a,some (.sh,dctP m),some (.sh,.int t),x,y] = .nx [a,some (.sh,dctP m),some (.sh,.int (V m t L)),x',y']
 | [],t,x,y,_ =>⟨x,y,rfl⟩
 | p :: L,t,x,y,h =>by
   obtain ⟨v,hv,bv⟩:=hm p.1 (h p List.mem_cons_self).2
   have hx:=idx_P hv
   have hmul:=mul_bw (h p List.mem_cons_self).1 bv
   obtain ⟨x',y',ih⟩:=v_for hm a L (t + p.2 * v) (some (.sh,.str p.1)) (some (.sh,.int p.2)) fun q hq =>h q (List.mem_cons_of_mem _ hq)
   refine ⟨x',y',?_⟩
   have hV:V m t (p :: L) = V m (t + p.2 * v) L:=by simp [V,hv]
   rw [hV,← ih]
   generalize dctP m = M at *
   simp only [List.map_cons,forGo,prD,takes,if_true,List.length_cons,List.length_nil,setSlots]
   simp [setSlot,vB,evSs,evS,evF,ev,R.bind,hx,o2,arith,hmul,R.chk,SO.of,orStuck]
theorem val_run {N:List (List Nat)} {m:List Pair} (hm:Vs N m) (c:Int) (L:List Pair) (h:∀ p ∈ L,Bq p.2 ∧ p.1 ∈ N):runFn o f19 [.tup [.int c,.tup (L.map prD)],dctP m] = .ok (false,.int (V m c L)):=by
 rw [e19]
 obtain ⟨x',y',hf⟩:=v_for (o:=o) hm (some (.sh,.tup [.int c,.tup (L.map prD)])) L c none none h
 generalize dctP m = M at *
 generalize V m c L = v at *
 generalize L.map prD = L' at *
 refine runFn_at rfl (δ0:=[some (.sh,.tup [.int c,.tup L']),some (.sh,M),none,none,none]) rfl (stp [some (.sh,.tup [.int c,.tup L']),some (.sh,M),some (.sh,.int c),none,none] ?_ (stp [some (.sh,.tup [.int c,.tup L']),some (.sh,M),some (.sh,.int v),x',y'] ?_ (stpR (δ':=[some (.sh,.tup [.int c,.tup L']),some (.sh,M),some (.sh,.int v),x',y']) ?_)))
 ·simp [evS,evF,ev,R.bind,tup_idx0,SO.of,setSlot,orStuck]
 ·rw [evS]
  show SO.of _ (evI o [some (.sh,.tup [.int c,.tup L']),some (.sh,M),some (.sh,.int c),none,none] false _) _ = _
  rw [show evI o [some (.sh,.tup [.int c,.tup L']),some (.sh,M),some (.sh,.int c),none,none] false (TI.val (T.idx (T.var 0) (T.cst (D.int 1)))) = .ok L' from by simp [evI,ev,R.bind,tup_idx1,itemsK,R.of]]
  exact hf
 ·simp [evS]
theorem p20_least {s M:D} {v:Int} (h:o.fn 19 [s,M] = .ok (false,.int v)):runFn o f20 [.tup [.str LEAST,s],M] = .ok (false,.bl (decide (0 ≤ v))) :=
 runFn_at rfl rfl (stpR (ifR (b:=false) rfl (retR (congrArg (fun r =>(on1 r).bind fun x =>o2 .ge x.2 (.int 0)) h) rfl)))
theorem p20_rest {s M:D} {m v:Int} (hm:1 ≤ m) (h:o.fn 19 [s,M] = .ok (false,.int v)):runFn o f20 [.tup [.str REST,.int m,s],M] = .ok (false,.bl (decide (v.fmod m = 0))) :=
 runFn_at rfl rfl (stp _ rfl (stpR (ifR (b:=false) rfl (retR ((congrArg (fun r =>((on1 r).bind fun x =>o2 .mod x.2 (.int m)).bind fun y =>o2 .eq y.2 (.int 0)) h).trans (by
  show (o2 .mod (.int v) (.int m)).bind _ = _
  rw [show o2 .mod (.int v) (.int m) = .ok (false,.int (v.fmod m)) from modOk v m (by omega)]; rfl)) rfl))))
theorem p20_not {p M:D} {b:Bool} (h:o.fn 20 [p,M] = .ok (false,.bl b)):runFn o f20 [.tup [.str NOT,p],M] = .ok (false,.bl (!b)) :=
 runFn_at rfl rfl (stp _ rfl (stp _ rfl (stpR (ifR (b:=false) rfl (retR (congrArg (fun r =>(on1 r).bind fun x =>(R.of (truth x.2)).bind fun b =>R.ok (false,D.bl !b)) h) rfl)))))
noncomputable def Wh (v:List Nat) (bs:List Bool):Bool:=if v = AND then bs.all id else bs.any id
theorem bools_map {α:Type} (f:α → Bool):∀ l:List α,boolsOf (l.map fun p =>D.bl (f p)) = some (l.map f)
 | [] =>rfl
 | p :: l =>by simp [boolsOf,bools_map f l]
theorem ints_map {α:Type} (f:α → Int):∀ l:List α,intsOf (l.map fun p =>D.int (f p)) = some (l.map f)
 | [] =>rfl
 | p :: l =>by simp [intsOf,ints_map f l]
theorem all_ev {α:Type} {b:α → Bool} {l:List α} {r:R (Bool × D)} (h:r = .ok (true,.lst (l.map fun p =>.bl (b p)))):(r.bind fun x =>b1D .all x.2) = .ok (false,.bl ((l.map b).all id)):=by
 rw [h]; simp only [R.bind,b1D,bools_map,Option.map_some,R.of]
theorem any_b1 {α:Type} {b:α → Bool} {l:List α}:b1D .any (.lst (l.map fun p =>.bl (b p))) = .ok (false,.bl ((l.map b).any id)):=by
 simp only [b1D,bools_map,Option.map_some,R.of]
theorem all_b1 {α:Type} {b:α → Bool} {l:List α}:b1D .all (.lst (l.map fun p =>.bl (b p))) = .ok (false,.bl ((l.map b).all id)):=by
 simp only [b1D,bools_map,Option.map_some,R.of]
theorem p20_grp {w:List Nat} (hw:w = AND ∨ w = OR) {α:Type} {l:List α} (hl:l.length ≤ 1000) {f:α → D} {b:α → Bool} {M:D} (h:∀ p ∈ l,o.fn 20 [f p,M] = .ok (false,.bl (b p))):runFn o f20 [.tup [.str w,.tup (l.map f)],M] = .ok (false,.bl (Wh w (l.map b))):=by
 have he:=ev_comp o [some (.sh,.tup [.str w,.tup (l.map f)]),some (.sh,M),none] false (TI.val (T.idx (T.var 0) (T.cst (D.int 1)))) [1] [M] _ _ 1 false _ _ rfl rfl rfl (by simpa using hl) (comp_c2 20 h)
 rcases hw with rfl | rfl
 ·exact runFn_at rfl rfl (stp _ rfl (stp _ rfl (stp _ rfl (stp _ (set_of he rfl) (stpR (ifR (b:=false) rfl (retR all_b1 rfl)))))))
 ·exact runFn_at rfl rfl (stp _ rfl (stp _ rfl (stp _ rfl (stp _ (set_of he rfl) (stp _ rfl (stpR (retR any_b1 rfl)))))))
theorem Wh_turn {w:List Nat} (hw:w = AND ∨ w = OR) {α:Type} (a:Bool) (b:α → Bool) (l:List α):Wh (turn a w) (l.map fun p =>a ^^ b p) = (a ^^ Wh w (l.map b)):=by
 have h1:AND ≠ OR:=by decide
 have h2:OR ≠ AND:=by decide
 rcases hw with rfl | rfl <;> cases a <;> simp only [turn,Wh,h1,h2,if_true,if_false,Bool.false_eq_true,Bool.false_xor,Bool.true_xor]
 ·induction l with
  | nil =>rfl
  | cons x l ih =>simp only [List.map_cons,List.any_cons,List.all_cons,ih,id,Bool.not_and]
 ·induction l with
  | nil =>rfl
  | cons x l ih =>simp only [List.map_cons,List.any_cons,List.all_cons,ih,id,Bool.not_or]
theorem p23_least {s:D}:runFn o f23 [.tup [.str LEAST,s]] = .ok (false,.int 1):=rfl
theorem p23_rest {m s:D}:runFn o f23 [.tup [.str REST,m,s]] = .ok (false,.int 1):=rfl
theorem p23_not {p:D} {c:Int} (h:o.fn 23 [p] = .ok (false,.int c)):runFn o f23 [.tup [.str NOT,p]] = .ok (false,.int c) :=
 runFn_at rfl rfl (stp _ rfl (stpR (ifR (b:=false) rfl (retR (on1_ok h) rfl))))
theorem sum_ev {α:Type} {c:α → Int} {l:List α} {r:R (Bool × D)} (h:r = .ok (true,.lst (l.map fun p =>.int (c p)))):(r.bind fun x =>b1D .sum x.2) = .ok (false,.int (l.map c).sum):=by
 rw [h]; simp only [R.bind,b1D,ints_map,Option.map_some,R.of]
theorem p23_grp {w:List Nat} (hw:w = AND ∨ w = OR) {α:Type} {l:List α} (hl:l.length ≤ 1000) {f:α → D} {c:α → Int} (h:∀ p ∈ l,o.fn 23 [f p] = .ok (false,.int (c p))):runFn o f23 [.tup [.str w,.tup (l.map f)]] = .ok (false,.int (l.map c).sum):=by
 have he:=ev_comp o [some (.sh,.tup [.str w,.tup (l.map f)])] true (TI.val (T.idx (T.var 0) (T.cst (D.int 1)))) [] [] _ _ 1 false _ _ rfl rfl rfl (by simpa using hl) (comp_c1 23 h)
 rcases hw with rfl | rfl <;> exact runFn_at rfl rfl (stp _ rfl (stp _ rfl (stpR (retR (sum_ev he) rfl))))
theorem p24_least {s:D}:runFn o f24 [.tup [.str LEAST,s]] = .ok (false,.bl true):=rfl
theorem p24_rest {m s:D}:runFn o f24 [.tup [.str REST,m,s]] = .ok (false,.bl true):=rfl
theorem p24_nrest {m s:D}:runFn o f24 [.tup [.str NOT,.tup [.str REST,m,s]]] = .ok (false,.bl true):=rfl
theorem all_true {α:Type}:∀ l:List α,(l.map fun _ =>true).all id = true
 | [] =>rfl
 | _ :: l =>by simp
theorem p24_grp {w:List Nat} (hw:w = AND ∨ w = OR) {α:Type} {l:List α} (hl:l.length ≤ 1000) {f:α → D} (h:∀ p ∈ l,o.fn 24 [f p] = .ok (false,.bl true)):runFn o f24 [.tup [.str w,.tup (l.map f)]] = .ok (false,.bl true):=by
 have he:=ev_comp o [some (.sh,.tup [.str w,.tup (l.map f)])] true (TI.val (T.idx (T.var 0) (T.cst (D.int 1)))) [] [] _ _ 1 false _ _ rfl rfl rfl (by simpa using hl) (comp_c1 24 (g:=fun _ =>.bl true) h)
 have hr:=all_ev (b:=fun _ =>true) he
 rw [all_true] at hr
 rcases hw with rfl | rfl <;> exact runFn_at rfl rfl (stp _ rfl (stp _ rfl (stpR (retR hr rfl))))
theorem p6_int (i:Int):runFn o f6 [.int i] = .ok (false,.bl true):=rfl
noncomputable def sB0:S:=(S.ifs (T.or (T.not (T.isin (T.var 3) .tup)) (T.or (T.op2 .ne (T.b1 .len (T.var 3)) (T.cst (D.int 2))) (T.not (T.isin (T.idx (T.var 3) (T.cst (D.int 0))) .str)))) (SL.cons (S.ret (T.cst (D.bl false))) SL.nil) SL.nil)
noncomputable def sB1:S:=(S.ifs (T.or (T.not (T.call 6 (TL.cons (T.idx (T.var 3) (T.cst (D.int 1))) TL.nil))) (T.or (T.op2 .eq (T.idx (T.var 3) (T.cst (D.int 1))) (T.cst (D.int 0))) (T.or (T.op2 .notin (T.idx (T.var 3) (T.cst (D.int 0))) (T.var 1)) (T.op2 .le (T.idx (T.var 3) (T.cst (D.int 0))) (T.var 2))))) (SL.cons (S.ret (T.cst (D.bl false))) SL.nil) SL.nil)
noncomputable def sB:SL:=(SL.cons sB0 (SL.cons sB1 (SL.cons (S.set 2 (T.idx (T.var 3) (T.cst (D.int 0)))) SL.nil)))
noncomputable def sS0:S:=(S.ifs (T.or (T.not (T.isin (T.var 0) .tup)) (T.or (T.op2 .ne (T.b1 .len (T.var 0)) (T.cst (D.int 2))) (T.or (T.not (T.call 6 (TL.cons (T.idx (T.var 0) (T.cst (D.int 0))) TL.nil))) (T.not (T.isin (T.idx (T.var 0) (T.cst (D.int 1))) .tup))))) (SL.cons (S.ret (T.cst (D.bl false))) SL.nil) SL.nil)
theorem e21:f21 = ⟨2,4,(SL.cons sS0 (SL.cons (S.set 2 (T.cst (D.str []))) (SL.cons (S.for_ [3] false (TI.val (T.idx (T.var 0) (T.cst (D.int 1)))) sB) (SL.cons (S.ret (T.cst (D.bl true))) SL.nil))))⟩:=rfl
theorem sf_for {N:List (List Nat)} {M:D} (h6:∀ i:Int,o.fn 6 [.int i] = .ok (false,.bl true)) (hM:∀ n ∈ N,isIn (.str n) M = some true) (a:Option Slot):∀ (L:List Pair) (t:List Nat) (x:Option Slot),(∀ p ∈ L,p.2 ≠ 0 ∧ p.1 ∈ N) → (∀ p ∈ L,ltS t p.1 = true) → Srt (L.map (·.1)) → (L.map (·.1)).Nodup → ∃ t' x',forGo (evSs o sB) [3] false (L.map prD) [a,some (.sh,M),some (.sh,.str t),x] = .nx [a,some (.sh,M),some (.sh,.str t'),x']
 | [],t,x,_,_,_,_ =>⟨t,x,rfl⟩
 | p :: L,t,x,h1,h2,h3,h4 =>by
   simp only [List.map_cons,List.pairwise_cons,List.nodup_cons] at h3 h4
   have hs:∀ q ∈ L,ltS p.1 q.1 = true:=fun q hq =>by
    have hq':q.1 ∈ L.map (·.1):=List.mem_map_of_mem hq
    cases e:ltS p.1 q.1 with
    | true =>rfl
    | false =>exact absurd (ltS_total p.1 q.1 e (h3.1 _ hq') ▸ hq') h4.1
   obtain ⟨t',x',ih⟩:=sf_for h6 hM a L p.1 (some (.sh,prD p)) (fun q hq =>h1 q (List.mem_cons_of_mem _ hq)) hs h3.2 h4.2
   refine ⟨t',x',?_⟩
   rw [← ih]
   have i1:=hM p.1 (h1 p List.mem_cons_self).2
   have i2:=h2 p List.mem_cons_self
   have i3:=(h1 p List.mem_cons_self).1
   have b0:evS o sB0 [a,some (.sh,M),some (.sh,.str t),some (.sh,prD p)] = .nx [a,some (.sh,M),some (.sh,.str t),some (.sh,prD p)]:=by
    rfl
   have b1:evS o sB1 [a,some (.sh,M),some (.sh,.str t),some (.sh,prD p)] = .nx [a,some (.sh,M),some (.sh,.str t),some (.sh,prD p)]:=by
    simp [sB1,prD,evS,evSs,ev,evL,R.bind,tup_idx0,tup_idx1,o2,eqA,eqS,R.of,truth,SO.of,boolD,lkOwn,h6,lent,i1,i2,i3]
   simp only [List.map_cons,forGo,takes,Bool.false_eq_true,if_false,setSlots]
   rw [show setSlot [a,some (.sh,M),some (.sh,.str t),x] 3 false (prD p) = some [a,some (.sh,M),some (.sh,.str t),some (.sh,prD p)] from by simp [setSlot]]
   simp only [Option.bind_some,sB,evSs,b0,b1]
   simp [prD,evS,evF,ev,R.bind,tup_idx0,SO.of,setSlot,orStuck]
theorem sf_run {N:List (List Nat)} {M:D} (h6:∀ i:Int,o.fn 6 [.int i] = .ok (false,.bl true)) (hM:∀ n ∈ N,isIn (.str n) M = some true) (hN:∀ n ∈ N,ltS [] n = true) (c:Int) (L:List Pair) (h1:∀ p ∈ L,p.2 ≠ 0 ∧ p.1 ∈ N) (h3:Srt (L.map (·.1))) (h4:(L.map (·.1)).Nodup):runFn o f21 [.tup [.int c,.tup (L.map prD)],M] = .ok (false,.bl true):=by
 rw [e21]
 obtain ⟨t',x',hf⟩:=sf_for (o:=o) h6 hM (some (.sh,.tup [.int c,.tup (L.map prD)])) L [] none h1 (fun p hp =>hN _ (h1 p hp).2) h3 h4
 generalize L.map prD = L' at *
 refine runFn_at rfl (δ0:=[some (.sh,.tup [.int c,.tup L']),some (.sh,M),none,none]) rfl (stp [some (.sh,.tup [.int c,.tup L']),some (.sh,M),none,none] ?_ (stp [some (.sh,.tup [.int c,.tup L']),some (.sh,M),some (.sh,.str []),none] ?_ (stp [some (.sh,.tup [.int c,.tup L']),some (.sh,M),some (.sh,.str t'),x'] ?_ (stpR (δ':=[some (.sh,.tup [.int c,.tup L']),some (.sh,M),some (.sh,.str t'),x']) ?_))))
 ·simp [sS0,evS,evSs,ev,evL,R.bind,isD,tup_idx0,tup_idx1,b1D,o2,eqA,eqS,R.of,truth,SO.of,boolD,lkOwn,h6,lent]
 ·simp [evS,evF,ev,SO.of,setSlot,orStuck]
 ·rw [evS]
  show SO.of _ (evI o [some (.sh,.tup [.int c,.tup L']),some (.sh,M),some (.sh,.str []),none] false _) _ = _
  rw [show evI o [some (.sh,.tup [.int c,.tup L']),some (.sh,M),some (.sh,.str []),none] false (TI.val (T.idx (T.var 0) (T.cst (D.int 1)))) = .ok L' from by simp [evI,ev,R.bind,tup_idx1,itemsK,R.of]]
  exact hf
 ·simp [evS,evF,ev,SO.of]
theorem p22_least {s M:D} (h:o.fn 21 [s,M] = .ok (false,.bl true)):runFn o f22 [.tup [.str LEAST,s],M] = .ok (false,.bl true) :=
 runFn_at rfl rfl (stp _ rfl (stpR (ifR (b:=false) rfl (retR (congrArg (fun r =>(on1 r).bind fun x =>boolD x.2) h) rfl))))
theorem p22_rest {s M:D} {m:Int} (hm:1 ≤ m) (h6:o.fn 6 [.int m] = .ok (false,.bl true)) (h:o.fn 21 [s,M] = .ok (false,.bl true)):runFn o f22 [.tup [.str REST,.int m,s],M] = .ok (false,.bl true) :=
 runFn_at rfl (δ0:=[some (.sh,.tup [.str REST,.int m,s]),some (.sh,M)]) rfl (stp _ rfl (stp _ rfl (stpR (ifR (b:=false) rfl (retR (by
  have e1:ev o [some (.sh,.tup [.str REST,.int m,s]),some (.sh,M)] true (T.call 6 (TL.cons (T.idx (T.var 0) (T.cst (D.int 1))) TL.nil)) = .ok (false,.bl true):=on1_ok h6
  have e2:ev o [some (.sh,.tup [.str REST,.int m,s]),some (.sh,M)] true (T.call 21 (TL.cons (T.idx (T.var 0) (T.cst (D.int 2))) (TL.cons (T.var 1) TL.nil))) = .ok (false,.bl true):=on1_ok h
  have e3:ev o [some (.sh,.tup [.str REST,.int m,s]),some (.sh,M)] true (T.op2 .gt (T.idx (T.var 0) (T.cst (D.int 1))) (T.cst (D.int 0))) = .ok (false,.bl true):=congrArg (fun b =>R.ok (false,D.bl b)) (decide_eq_true (show 0 < m by omega))
  rw [ev,show ev o [some (.sh,.tup [.str REST,.int m,s]),some (.sh,M)] true (T.op2 .eq (T.b1 .len (T.var 0)) (T.cst (D.int 3))) = .ok (false,.bl true) from rfl]
  simp only [R.bind]
  rw [ev,e1]; simp only [R.bind]; rw [ev,e3]; simp only [R.bind]; rw [e2]; rfl) rfl)))))
theorem p22_not {p M:D} (h:o.fn 22 [p,M] = .ok (false,.bl true)):runFn o f22 [.tup [.str NOT,p],M] = .ok (false,.bl true) :=
 runFn_at rfl rfl (stp _ rfl (stp _ rfl (stp _ rfl (stp _ rfl (stpR (ifR (b:=false) rfl (retR (on1_ok h) rfl)))))))
theorem p22_grp {w:List Nat} (hw:w = AND ∨ w = OR) {α:Type} {l:List α} (hl:l.length ≤ 1000) {f:α → D} {M:D} (h:∀ p ∈ l,o.fn 22 [f p,M] = .ok (false,.bl true)):runFn o f22 [.tup [.str w,.tup (l.map f)],M] = .ok (false,.bl true):=by
 have he:=ev_comp o [some (.sh,.tup [.str w,.tup (l.map f)]),some (.sh,M)] true (TI.val (T.idx (T.var 0) (T.cst (D.int 1)))) [1] [M] _ _ 1 false _ _ rfl rfl rfl (by simpa using hl) (comp_c2 22 (g:=fun _ =>.bl true) h)
 have hr:=all_ev (b:=fun _ =>true) he
 rw [all_true] at hr
 rcases hw with rfl | rfl <;> exact runFn_at rfl rfl (stp _ rfl (stp _ rfl (stp _ rfl (stp _ rfl (stp _ rfl (stp _ rfl (stpR (retR hr rfl))))))))
end K14
namespace K14
open Z KG
theorem F (P:Prg) (w n f:Nat) (d:Fd) (a:List D) (r:R (Bool × D)) (h:P.fns[f]? = some d) (hr:runFn (orc P w n) d a = r):(orc P w (n + 1)).fn f a = r:=by rw [orc_fn h]; exact hr
theorem sumF (w n:Nat) (c:Int) (L:List Pair) (x:D) (hx:itemsK x = some (L.map prD)) (hl:L.length ≤ 4) (h1:Srt (L.map (·.1))) (h2:(L.map (·.1)).Nodup) (h3:∀ p ∈ L,p.2 ≠ 0):(orc prg w (n + 1)).fn 0 [.int c,x] = .ok (false,.tup [.int c,.tup (L.map prD)]):=by
 refine F prg w n 0 f0 _ _ rfl ?_
 rw [e0,← sumD_id c L h1 h2 h3]
 exact sum_run _ c L x hx (by omega) (keysOf_len L (by omega))
structure Fc (w:Nat) (M1 M2:D) (n:Nat) (d:D) (a:Bool) (r:D) (c:Int) (b1 b2:Bool):Prop where
 z:okZ (2 * n + 6) r
 pu:∀ m,n + 6 ≤ m → (orc prg w m).fn 3 [d,.bl a] = .ok (false,r)
 ag:∀ m,n + 6 ≤ m → (orc prg w m).fn 3 [r,.bl false] = .ok (false,r)
 fo:∀ m,n + 6 ≤ m → (orc prg w m).fn 22 [r,M1] = .ok (false,.bl true)
 lo:∀ m,n + 6 ≤ m → (orc prg w m).fn 24 [r] = .ok (false,.bl true)
 cd:∀ m,n + 6 ≤ m → (orc prg w m).fn 23 [d] = .ok (false,.int c)
 cr:∀ m,n + 6 ≤ m → (orc prg w m).fn 23 [r] = .ok (false,.int c)
 w1:∀ m,n + 6 ≤ m → (orc prg w m).fn 20 [d,M1] = .ok (false,.bl b1)
 v1:∀ m,n + 6 ≤ m → (orc prg w m).fn 20 [r,M1] = .ok (false,.bl (a ^^ b1))
 w2:∀ m,n + 6 ≤ m → (orc prg w m).fn 20 [d,M2] = .ok (false,.bl b2)
 v2:∀ m,n + 6 ≤ m → (orc prg w m).fn 20 [r,M2] = .ok (false,.bl (a ^^ b2))
theorem okZ_least (n:Nat) (c:Int) (L:List Pair) (h:L.length ≤ 4):okZ (n + 4) (.tup [.str LEAST,.tup [.int c,.tup (L.map prD)]]):=by
 have:=(okZ_sum c L (by omega)).mono (show 3 ≤ n + 3 by omega)
 simp only [okZ,List.length_cons,List.length_nil,List.mem_cons,List.not_mem_nil,or_false]
 refine ⟨by omega,fun d hd =>?_⟩
 rcases hd with rfl | rfl
 ·simp [okZ]
 ·exact this
theorem okZ_rest (n:Nat) (m c:Int) (L:List Pair) (h:L.length ≤ 4):okZ (n + 4) (.tup [.str REST,.int m,.tup [.int c,.tup (L.map prD)]]):=by
 have:=(okZ_sum c L (by omega)).mono (show 3 ≤ n + 3 by omega)
 simp only [okZ,List.length_cons,List.length_nil,List.mem_cons,List.not_mem_nil,or_false]
 refine ⟨by omega,fun d hd =>?_⟩
 rcases hd with rfl | rfl | rfl
 ·simp [okZ]
 ·simp [okZ]
 ·exact this
theorem okZ_two (n:Nat) (x:List Nat) (d:D) (h:okZ n d):okZ (n + 1) (.tup [.str x,d]):=by
 simp only [okZ,List.length_cons,List.length_nil,List.mem_cons,List.not_mem_nil,or_false]
 refine ⟨by omega,fun y hd =>?_⟩
 rcases hd with rfl | rfl
 ·cases n <;> simp [okZ]
 ·exact h
section
variable {N:List (List Nat)} {w:Nat} {m1 m2:List Pair} (hv1:Vs N m1) (hv2:Vs N m2) (hM:∀ n ∈ N,isIn (.str n) (dctP m1) = some true) (hN:∀ n ∈ N,ltS [] n = true)
include hv1 hv2 hM hN
theorem fc_atom (n:Nat) (d:D) (a:Bool) (h:AtmD N d):∃ r c b1 b2,Fc w (dctP m1) (dctP m2) n d a r c b1 b2:=by
 obtain ⟨s,⟨c,L,rfl,q1,q2,q3,q4⟩,h⟩:=h
 have n1:Srt ((negL L).map (·.1)):=by rw [negL_fst]; exact q1
 have n2:((negL L).map (·.1)).Nodup:=by rw [negL_fst]; exact q2
 have n3:∀ p ∈ negL L,p.2 ≠ 0 ∧ Bq p.2 ∧ p.1 ∈ N:=fun p hp =>by
  obtain ⟨q,hq,rfl⟩:=List.mem_map.mp hp
  have:=q3 q hq
  refine ⟨by show -q.2 ≠ 0; omega,?_,this.2.2⟩
  have hb:=this.2.1
  unfold Bq at hb ⊢
  show (-q.2).natAbs < _
  rw [Int.natAbs_neg]; exact hb
 have n4:(negL L).length ≤ 4:=by simpa [negL] using q4
 have six:∀ k (i:Int),(orc prg w (k + 1)).fn 6 [.int i] = .ok (false,.bl true):=fun k i =>F prg w k 6 f6 _ _ rfl (p6_int i)
 have sf:∀ k (c:Int) (L:List Pair),Srt (L.map (·.1)) → (L.map (·.1)).Nodup → (∀ p ∈ L,p.2 ≠ 0 ∧ Bq p.2 ∧ p.1 ∈ N) → (orc prg w (k + 2)).fn 21 [.tup [.int c,.tup (L.map prD)],dctP m1] = .ok (false,.bl true):=fun k c L a1 a2 a3 =>
  F prg w (k + 1) 21 f21 _ _ rfl (sf_run (six k) hM hN c L (fun p hp =>⟨(a3 p hp).1,(a3 p hp).2.2⟩) a1 a2)
 have vf:∀ {m:List Pair} (hm:Vs N m) k (c:Int) (L:List Pair),(∀ p ∈ L,p.2 ≠ 0 ∧ Bq p.2 ∧ p.1 ∈ N) → (orc prg w (k + 1)).fn 19 [.tup [.int c,.tup (L.map prD)],dctP m] = .ok (false,.int (V m c L)):=fun hm k c L a3 =>
  F prg w k 19 f19 _ _ rfl (val_run hm c L fun p hp =>(a3 p hp).2)
 have hD:∀ x:Int,decide (0 ≤ -1 - x) = !decide (0 ≤ x):=fun x =>by
  rw [Bool.eq_iff_iff]; simp only [decide_eq_true_eq,Bool.not_eq_true',decide_eq_false_iff_not]; omega
 rcases h with rfl | ⟨m,hm1,hm2,rfl⟩
 ·cases a with
  | true =>
    refine ⟨.tup [.str LEAST,.tup [.int (-1 - c),.tup ((negL L).map prD)]],1,decide (0 ≤ V m1 c L),decide (0 ≤ V m2 c L),?_,?_,?_,?_,?_,?_,?_,?_,?_,?_,?_⟩
    ·rw [show 2 * n + 6 = (2 * n + 2) + 4 by omega]; exact okZ_least _ _ _ n4
    all_goals intro k hk; obtain ⟨k,rfl⟩:∃ j,k = j + 4:=⟨k - 4,by omega⟩
    ·refine F prg w (k + 3) 3 f3 _ _ rfl (p3_leastT (s1:=.tup [.int (-1 * c),.tup ((negL L).map prD)]) ?_ ?_)
     ·refine F prg w (k + 2) 2 f2 _ _ rfl ?_
      rw [e2]
      exact times_neg _ 0 c L _ (by omega) (sumF w (k + 1) _ _ _ rfl n4 n1 n2 fun p hp =>(n3 p hp).1)
     ·refine F prg w (k + 2) 1 f1 _ _ rfl ?_
      rw [e1]
      refine plus_none _ 0 (-1) (-1 * c) _ _ (by simp; omega) ?_
      rw [show -1 + -1 * c = -1 - c by omega]
      exact sumF w (k + 1) _ _ _ rfl n4 n1 n2 fun p hp =>(n3 p hp).1
    ·exact F prg w _ 3 f3 _ _ rfl p3_leastF
    ·exact F prg w _ 22 f22 _ _ rfl (p22_least (sf _ _ _ n1 n2 n3))
    ·exact F prg w _ 24 f24 _ _ rfl p24_least
    ·exact F prg w _ 23 f23 _ _ rfl p23_least
    ·exact F prg w _ 23 f23 _ _ rfl p23_least
    ·exact F prg w _ 20 f20 _ _ rfl (p20_least (vf hv1 _ _ _ q3))
    ·have:=F prg w (k + 3) 20 f20 _ _ rfl (p20_least (vf hv1 (k + 2) (-1 - c) _ n3))
     rw [V_neg,hD] at this
     rw [Bool.true_xor]; exact this
    ·exact F prg w _ 20 f20 _ _ rfl (p20_least (vf hv2 _ _ _ q3))
    ·have:=F prg w (k + 3) 20 f20 _ _ rfl (p20_least (vf hv2 (k + 2) (-1 - c) _ n3))
     rw [V_neg,hD] at this
     rw [Bool.true_xor]; exact this
  | false =>
    refine ⟨.tup [.str LEAST,.tup [.int c,.tup (L.map prD)]],1,decide (0 ≤ V m1 c L),decide (0 ≤ V m2 c L),?_,?_,?_,?_,?_,?_,?_,?_,?_,?_,?_⟩
    ·rw [show 2 * n + 6 = (2 * n + 2) + 4 by omega]; exact okZ_least _ _ _ q4
    all_goals intro k hk; obtain ⟨k,rfl⟩:∃ j,k = j + 4:=⟨k - 4,by omega⟩
    ·exact F prg w _ 3 f3 _ _ rfl p3_leastF
    ·exact F prg w _ 3 f3 _ _ rfl p3_leastF
    ·exact F prg w _ 22 f22 _ _ rfl (p22_least (sf _ _ _ q1 q2 q3))
    ·exact F prg w _ 24 f24 _ _ rfl p24_least
    ·exact F prg w _ 23 f23 _ _ rfl p23_least
    ·exact F prg w _ 23 f23 _ _ rfl p23_least
    ·exact F prg w _ 20 f20 _ _ rfl (p20_least (vf hv1 _ _ _ q3))
    ·rw [Bool.false_xor]; exact F prg w _ 20 f20 _ _ rfl (p20_least (vf hv1 _ _ _ q3))
    ·exact F prg w _ 20 f20 _ _ rfl (p20_least (vf hv2 _ _ _ q3))
    ·rw [Bool.false_xor]; exact F prg w _ 20 f20 _ _ rfl (p20_least (vf hv2 _ _ _ q3))
 ·cases a with
  | true =>
    refine ⟨.tup [.str NOT,.tup [.str REST,.int m,.tup [.int c,.tup (L.map prD)]]],1,decide ((V m1 c L).fmod m = 0),decide ((V m2 c L).fmod m = 0),?_,?_,?_,?_,?_,?_,?_,?_,?_,?_,?_⟩
    ·rw [show 2 * n + 6 = (2 * n + 1) + 4 + 1 by omega]; exact okZ_two _ _ _ (okZ_rest _ _ _ _ q4)
    all_goals intro k hk; obtain ⟨k,rfl⟩:∃ j,k = j + 5:=⟨k - 5,by omega⟩
    ·exact F prg w _ 3 f3 _ _ rfl p3_restT
    ·exact F prg w (k + 4) 3 f3 _ _ rfl (p3_not (F prg w (k + 3) 3 f3 _ _ rfl p3_restT))
    ·exact F prg w (k + 4) 22 f22 _ _ rfl (p22_not (F prg w (k + 3) 22 f22 _ _ rfl (p22_rest hm1 (six _ m) (sf (k + 1) _ _ q1 q2 q3))))
    ·exact F prg w _ 24 f24 _ _ rfl p24_nrest
    ·exact F prg w _ 23 f23 _ _ rfl p23_rest
    ·exact F prg w (k + 4) 23 f23 _ _ rfl (p23_not (F prg w (k + 3) 23 f23 _ _ rfl p23_rest))
    ·exact F prg w _ 20 f20 _ _ rfl (p20_rest hm1 (vf hv1 _ _ _ q3))
    ·rw [Bool.true_xor]; exact F prg w (k + 4) 20 f20 _ _ rfl (p20_not (F prg w (k + 3) 20 f20 _ _ rfl (p20_rest hm1 (vf hv1 (k + 2) _ _ q3))))
    ·exact F prg w _ 20 f20 _ _ rfl (p20_rest hm1 (vf hv2 _ _ _ q3))
    ·rw [Bool.true_xor]; exact F prg w (k + 4) 20 f20 _ _ rfl (p20_not (F prg w (k + 3) 20 f20 _ _ rfl (p20_rest hm1 (vf hv2 (k + 2) _ _ q3))))
  | false =>
    refine ⟨.tup [.str REST,.int m,.tup [.int c,.tup (L.map prD)]],1,decide ((V m1 c L).fmod m = 0),decide ((V m2 c L).fmod m = 0),?_,?_,?_,?_,?_,?_,?_,?_,?_,?_,?_⟩
    ·rw [show 2 * n + 6 = (2 * n + 2) + 4 by omega]; exact okZ_rest _ _ _ _ q4
    all_goals intro k hk; obtain ⟨k,rfl⟩:∃ j,k = j + 4:=⟨k - 4,by omega⟩
    ·exact F prg w _ 3 f3 _ _ rfl p3_restF
    ·exact F prg w _ 3 f3 _ _ rfl p3_restF
    ·exact F prg w _ 22 f22 _ _ rfl (p22_rest hm1 (six _ m) (sf _ _ _ q1 q2 q3))
    ·exact F prg w _ 24 f24 _ _ rfl p24_rest
    ·exact F prg w _ 23 f23 _ _ rfl p23_rest
    ·exact F prg w _ 23 f23 _ _ rfl p23_rest
    ·exact F prg w _ 20 f20 _ _ rfl (p20_rest hm1 (vf hv1 _ _ _ q3))
    ·rw [Bool.false_xor]; exact F prg w _ 20 f20 _ _ rfl (p20_rest hm1 (vf hv1 _ _ _ q3))
    ·exact F prg w _ 20 f20 _ _ rfl (p20_rest hm1 (vf hv2 _ _ _ q3))
    ·rw [Bool.false_xor]; exact F prg w _ 20 f20 _ _ rfl (p20_rest hm1 (vf hv2 _ _ _ q3))
end
theorem choose_in {α β:Type} [Inhabited β] {l:List α} {Q:α → β → Prop} (h:∀ p ∈ l,∃ r,Q p r):∃ g:α → β,∀ p ∈ l,Q p (g p):=by
 classical
 refine ⟨fun p =>if hp:∃ r,Q p r then hp.choose else default,fun p hp =>?_⟩
 have:=h p hp
 simp only [dif_pos this]
 exact this.choose_spec
noncomputable instance:Inhabited (D × Int × Bool × Bool):=⟨(.non,0,false,false)⟩
theorem turn_grp {a:Bool} {w:List Nat} (h:w = AND ∨ w = OR):turn a w = AND ∨ turn a w = OR:=by
 rcases h with rfl | rfl <;> cases a <;> decide
section
variable {N:List (List Nat)} {w:Nat} {m1 m2:List Pair} (hv1:Vs N m1) (hv2:Vs N m2) (hM:∀ n ∈ N,isIn (.str n) (dctP m1) = some true) (hN:∀ n ∈ N,ltS [] n = true)
include hv1 hv2 hM hN
theorem fc:∀ (n:Nat) (d:D) (a:Bool),Stm false N n d → ∃ r c b1 b2,Fc w (dctP m1) (dctP m2) n d a r c b1 b2:=by
 intro n
 induction n with
 | zero =>intro d a h; exact fc_atom hv1 hv2 hM hN 0 d a h
 | succ n ih =>
   intro d a h
   rcases h with h | ⟨p,h,rfl⟩ | ⟨v,l,h1,h2,h3,rfl⟩ | ⟨v,x,p,h0,_⟩
   ·exact fc_atom hv1 hv2 hM hN (n + 1) d a h
   ·obtain ⟨r,c,b1,b2,f⟩:=ih p (!a) h
    have ex:∀ b:Bool,(!a ^^ b) = (a ^^ !b):=fun b =>by cases a <;> cases b <;> rfl
    refine ⟨r,c,!b1,!b2,⟨f.z.mono (by omega),?_,?_,?_,?_,?_,?_,?_,?_,?_,?_⟩⟩
    all_goals intro k hk; obtain ⟨k,rfl⟩:∃ j,k = j + 1:=⟨k - 1,by omega⟩
    ·exact F prg w k 3 f3 _ _ rfl (p3_not (f.pu k (by omega)))
    ·exact f.ag _ (by omega)
    ·exact f.fo _ (by omega)
    ·exact f.lo _ (by omega)
    ·exact F prg w k 23 f23 _ _ rfl (p23_not (f.cd k (by omega)))
    ·exact f.cr _ (by omega)
    ·exact F prg w k 20 f20 _ _ rfl (p20_not (f.w1 k (by omega)))
    ·rw [← ex]; exact f.v1 _ (by omega)
    ·exact F prg w k 20 f20 _ _ rfl (p20_not (f.w2 k (by omega)))
    ·rw [← ex]; exact f.v2 _ (by omega)
   ·obtain ⟨g,hg⟩:=choose_in (β:=D × Int × Bool × Bool) (l:=l) (Q:=fun p q =>Fc w (dctP m1) (dctP m2) n p a q.1 q.2.1 q.2.2.1 q.2.2.2) (fun p hp =>by
     obtain ⟨r,c,b1,b2,f⟩:=ih p a (h3 p hp)
     exact ⟨(r,c,b1,b2),f⟩)
    have hl:l = l.map fun p =>p:=by simp
    have ht:=turn_grp (a:=a) h1
    refine ⟨.tup [.str (turn a v),.tup (l.map fun p =>(g p).1)],(l.map fun p =>(g p).2.1).sum,Wh v (l.map fun p =>(g p).2.2.1),Wh v (l.map fun p =>(g p).2.2.2),⟨?_,?_,?_,?_,?_,?_,?_,?_,?_,?_,?_⟩⟩
    ·rw [show 2 * (n + 1) + 6 = (2 * n + 6) + 1 + 1 by omega]
     refine okZ_two _ _ _ ?_
     simp only [okZ,List.length_map]
     refine ⟨h2,fun d hd =>?_⟩
     obtain ⟨p,hp,rfl⟩:=List.mem_map.mp hd
     exact (hg p hp).z
    all_goals intro k hk; obtain ⟨k,rfl⟩:∃ j,k = j + 1:=⟨k - 1,by omega⟩
    ·have:=p3_grp (o:=orc prg w k) (l:=l) (f:=fun p =>p) h1 h2 fun p hp =>(hg p hp).pu k (by omega)
     rw [← hl] at this
     exact F prg w k 3 f3 _ _ rfl this
    ·have:=p3_grp (o:=orc prg w k) (l:=l) (f:=fun p =>(g p).1) (g:=fun p =>(g p).1) (a:=false) ht h2 fun p hp =>(hg p hp).ag k (by omega)
     exact F prg w k 3 f3 _ _ rfl this
    ·exact F prg w k 22 f22 _ _ rfl (p22_grp ht h2 fun p hp =>(hg p hp).fo k (by omega))
    ·exact F prg w k 24 f24 _ _ rfl (p24_grp ht h2 fun p hp =>(hg p hp).lo k (by omega))
    ·have:=p23_grp (o:=orc prg w k) (l:=l) (f:=fun p =>p) h1 h2 fun p hp =>(hg p hp).cd k (by omega)
     rw [← hl] at this
     exact F prg w k 23 f23 _ _ rfl this
    ·exact F prg w k 23 f23 _ _ rfl (p23_grp ht h2 fun p hp =>(hg p hp).cr k (by omega))
    ·have:=p20_grp (o:=orc prg w k) (l:=l) (f:=fun p =>p) h1 h2 fun p hp =>(hg p hp).w1 k (by omega)
     rw [← hl] at this
     exact F prg w k 20 f20 _ _ rfl this
    ·rw [← Wh_turn h1]
     exact F prg w k 20 f20 _ _ rfl (p20_grp ht h2 fun p hp =>(hg p hp).v1 k (by omega))
    ·have:=p20_grp (o:=orc prg w k) (l:=l) (f:=fun p =>p) h1 h2 fun p hp =>(hg p hp).w2 k (by omega)
     rw [← hl] at this
     exact F prg w k 20 f20 _ _ rfl this
    ·rw [← Wh_turn h1]
     exact F prg w k 20 f20 _ _ rfl (p20_grp ht h2 fun p hp =>(hg p hp).v2 k (by omega))
   ·cases h0
end
end K14
namespace K14
open Z KG
variable {o:Orc}
noncomputable def kS0:S:=(S.ifs (T.or (T.not (T.call 22 (TL.cons (T.var 0) (TL.cons (T.idx (T.var 2) (T.cst (D.int 0))) TL.nil)))) (T.or (T.not (T.call 24 (TL.cons (T.var 0) TL.nil))) (T.op2 .ne (T.call 23 (TL.cons (T.var 0) TL.nil)) (T.call 23 (TL.cons (T.var 1) TL.nil))))) (SL.cons (S.ret (T.cst (D.bl false))) SL.nil) SL.nil)
noncomputable def kB:SL:=(SL.cons (S.ifs (T.op2 .ne (T.call 20 (TL.cons (T.var 0) (TL.cons (T.var 4) TL.nil))) (T.op2 .eq (T.call 20 (TL.cons (T.var 1) (TL.cons (T.var 4) TL.nil))) (T.var 3))) (SL.cons (S.ret (T.cst (D.bl false))) SL.nil) SL.nil) SL.nil)
theorem e25:f25 = ⟨4,5,(SL.cons kS0 (SL.cons (S.for_ [4] false (TI.val (T.var 2)) kB) (SL.cons (S.ret (T.cst (D.bl true))) SL.nil)))⟩:=rfl
theorem k_one {r d M X:D} {a b:Bool} {x:Option Slot} (w1:o.fn 20 [d,M] = .ok (false,.bl b)) (v1:o.fn 20 [r,M] = .ok (false,.bl (a ^^ b))):evSs o kB [some (.sh,r),some (.sh,d),some (.sh,X),some (.sh,.bl (!a)),some (.sh,M)] = .nx [some (.sh,r),some (.sh,d),some (.sh,X),some (.sh,.bl (!a)),some (.sh,M)]:=by
 have e:(a ^^ b) = decide (b = !a):=by cases a <;> cases b <;> rfl
 rw [e] at v1
 simp [kB,evSs,evS,ev,evL,R.bind,lkOwn,isOwn,w1,v1,lent,o2,eqA,eqS,R.of,truth,SO.of]
theorem kept_run {r d M1 M2:D} {a b1 b2:Bool} {c:Int} (h22:o.fn 22 [r,M1] = .ok (false,.bl true)) (h24:o.fn 24 [r] = .ok (false,.bl true)) (hr:o.fn 23 [r] = .ok (false,.int c)) (hd:o.fn 23 [d] = .ok (false,.int c))
 (w1:o.fn 20 [d,M1] = .ok (false,.bl b1)) (v1:o.fn 20 [r,M1] = .ok (false,.bl (a ^^ b1))) (w2:o.fn 20 [d,M2] = .ok (false,.bl b2)) (v2:o.fn 20 [r,M2] = .ok (false,.bl (a ^^ b2))):runFn o f25 [r,d,.lst [M1,M2],.bl (!a)] = .ok (false,.bl true):=by
 rw [e25]
 have hi:idxD (.lst [M1,M2]) (.int 0) = .ok (false,M1):=rfl
 have k1:=k_one (X:=.lst [M1,M2]) (x:=none) w1 v1
 have k2:=k_one (X:=.lst [M1,M2]) (x:=none) w2 v2
 refine runFn_at rfl (δ0:=[some (.sh,r),some (.sh,d),some (.sh,.lst [M1,M2]),some (.sh,.bl (!a)),none]) rfl (stp [some (.sh,r),some (.sh,d),some (.sh,.lst [M1,M2]),some (.sh,.bl (!a)),none] ?_ (stp [some (.sh,r),some (.sh,d),some (.sh,.lst [M1,M2]),some (.sh,.bl (!a)),some (.sh,M2)] ?_ (stpR (δ':=[some (.sh,r),some (.sh,d),some (.sh,.lst [M1,M2]),some (.sh,.bl (!a)),some (.sh,M2)]) ?_)))
 ·simp [kS0,evSs,evS,ev,evL,R.bind,lkOwn,isOwn,hi,h22,h24,hr,hd,lent,o2,eqA,eqS,R.of,truth,SO.of,boolD]
 ·generalize (!a) = na at *
  rw [evS]
  show SO.of _ (evI o [some (.sh,r),some (.sh,d),some (.sh,.lst [M1,M2]),some (.sh,.bl na),none] false _) _ = _
  rw [show evI o [some (.sh,r),some (.sh,d),some (.sh,.lst [M1,M2]),some (.sh,.bl na),none] false (TI.val (T.var 2)) = .ok [M1,M2] from by simp [evI,ev,R.bind,itemsK,R.of]]
  simp only [SO.of,forGo,takes,Bool.false_eq_true,if_false,setSlots]
  simp [setSlot,k1,k2,shareIt,share1]
 ·simp [evS,evF,ev,SO.of]
theorem slc_ints (cs:List Int) (a b:Int):slcD (.lst (cs.map .int)) (some a) (some b) = some (true,.lst ((cut cs (clip cs.length a) (clip cs.length b)).map .int)):=by
 simp [slcD,lowOf,highOf,cut,List.map_drop,List.map_take]
theorem rows_run (cs:List Int) (hc:cs.length ≤ 63) (sz:Int) (h0:1 ≤ sz ∧ sz ≤ 100):∃ rows:List (List Int),(∀ r ∈ rows,r.length ≤ 63) ∧ runFn o f18 [.lst (cs.map .int),.int sz] = .ok (true,.lst (rows.map fun r =>.lst (r.map .int))):=by
 have hcl:∀ a b,(cut cs a b).length ≤ 63:=fun a b =>by simp [cut]; omega
 let q:=(if (0:Int) < (cs.length:Int) then ((cs.length:Int) - 0 - 1) / sz + 1 else 0).toNat
 have hq:q ≤ 1000:=by
  show (if (0:Int) < (cs.length:Int) then ((cs.length:Int) - 0 - 1) / sz + 1 else 0).toNat ≤ 1000
  split
  ·have:((cs.length:Int) - 0 - 1) / sz ≤ (cs.length:Int) - 0 - 1:=Int.ediv_le_self _ (by omega)
   omega
  ·decide
 let row:Nat → List Int:=fun k =>cut cs (clip cs.length (0 + (k:Int) * sz)) (clip cs.length (0 + (k:Int) * sz + sz))
 have hcg:compGo (fun x =>ev o ((x ++ [D.lst (cs.map .int),D.int sz]).map fun d =>some (Own.sh,d)) false (T.slc (T.var 1) (T.var 0) (T.op2 .add (T.var 0) (T.var 2)))) (fun x =>ev o ((x ++ [D.lst (cs.map .int),D.int sz]).map fun d =>some (Own.sh,d)) true (T.cst (D.bl true))) 1 false ((List.range q).map fun (k:Nat) =>D.int (0 + (k:Int) * sz)) = .ok ((List.range q).map fun k =>.lst ((row k).map .int)):=by
  refine comp_ofN (fun x _ =>by simp [ev]) fun x hx =>⟨true,?_⟩
  have hs:=slc_ints cs (0 + (x:Int) * sz) (0 + (x:Int) * sz + sz)
  change _ = R.ok (true,D.lst ((cut cs (clip cs.length (0 + (x:Int) * sz)) (clip cs.length (0 + (x:Int) * sz + sz))).map D.int))
  generalize (0 + (x:Int) * sz) = y at *
  generalize hL:D.lst (cs.map .int) = L at *
  simp only [List.cons_append,List.nil_append,List.map_cons,List.map_nil]
  simp only [ev,List.getElem?_cons_zero,List.getElem?_cons_succ,R.bind,o2,arith,bnd]
  rw [show (Option.bind (some (some y)) fun l =>(some (some (y + sz))).bind fun h =>slcD L l h) = slcD L (some y) (some (y + sz)) from rfl,hs]
  rfl
 have hlen:((List.range q).map fun k =>D.lst ((row k).map .int)).length ≤ 1000:=by simpa using hq
 have he:=ev_comp o [some (.sh,.lst (cs.map .int)),some (.sh,.int sz),none] false (TI.rng3 (T.cst (D.int 0)) (T.b1 .len (T.var 0)) (T.var 1)) [0,1] [.lst (cs.map .int),.int sz] _ _ 1 false _ _ (by
  have r1:inR (cs.length:Int) = true:=by simp [inR]; omega
  have r2:inR sz = true:=by simp [inR]; omega
  have r3:decide (0 < sz) = true:=by simp; omega
  have r0:inR 0 = true:=rfl
  simp only [evI,ev,R.bind,List.getElem?_cons_zero,List.getElem?_cons_succ,b1D,List.length_map,rng3R,r0,r1,r2,r3,Bool.and_self,R.chk,if_true]
  rfl) rfl rfl hlen hcg
 have hf:f18 = ⟨2,3,(SL.cons (S.set 2 (T.comp [0,1] 1 false (TI.rng3 (T.cst (D.int 0)) (T.b1 .len (T.var 0)) (T.var 1)) (T.cst (D.bl true)) (T.slc (T.var 1) (T.var 0) (T.op2 .add (T.var 0) (T.var 2))))) (SL.cons (S.ifs (T.op2 .eq (T.b1 .len (T.var 2)) (T.cst (D.int 0))) (SL.cons (S.ret (T.lst (TL.cons (T.lst TL.nil) TL.nil))) SL.nil) SL.nil) (SL.cons (S.ret (T.var 2)) SL.nil)))⟩:=rfl
 rw [hf]
 generalize (T.comp [0,1] 1 false (TI.rng3 (T.cst (D.int 0)) (T.b1 .len (T.var 0)) (T.var 1)) (T.cst (D.bl true)) (T.slc (T.var 1) (T.var 0) (T.op2 .add (T.var 0) (T.var 2)))) = tt at *
 have hmm:((List.range q).map row).map (fun r =>D.lst (r.map .int)) = (List.range q).map fun k =>.lst ((row k).map .int):=by simp [List.map_map,Function.comp_def]
 rw [← hmm] at he
 by_cases hz:q = 0
 ·refine ⟨[[]],by simp,?_⟩
  rw [hz] at he
  simp only [List.range_zero,List.map_nil] at he
  have z1:size 1 = true:=by decide
  have z0:size 0 = true:=by decide
  generalize D.lst (cs.map .int) = L at *
  simp [runFn,evSs,evS,evF,he,SO.of,setSlot,orStuck,ev,evL,R.bind,b1D,o2,eqA,eqS,R.of,truth,R.chk,z1,z0,lkOwn]
 ·refine ⟨(List.range q).map row,fun r hr =>?_,?_⟩
  ·obtain ⟨k,_,rfl⟩:=List.mem_map.mp hr
   exact hcl _ _
  ·have hl:¬ ((((List.range q).map row).map (fun r =>D.lst (r.map .int))).length = 0):=by simpa using hz
   generalize ((List.range q).map row).map (fun r =>D.lst (r.map .int)) = RR at *
   generalize D.lst (cs.map .int) = L at *
   have hl2:¬ RR = []:=fun e =>hl (by simp [e])
   simp [runFn,evSs,evS,evF,he,SO.of,setSlot,orStuck,ev,R.bind,b1D,o2,eqA,eqS,R.of,truth,hl,hl2]
noncomputable def mB:SL:=(SL.cons (S.seti 3 (T.var 5) (T.op2 .sub (T.op2 .add (T.idx (T.var 2) (T.var 5)) (T.op2 .mod (T.op2 .fdiv (T.var 1) (T.op2 .add (T.var 4) (T.cst (D.int 1)))) (T.cst (D.int 5)))) (T.cst (D.int 2)))) SL.nil)
theorem mv_for {N:List (List Nat)} {m:List Pair} (P:PtOk N m) (L c6 c7 c8:Option Slot) (c0:Int):∀ (l:List (List Nat)) (i:Nat) (q:List Pair) (x y:Option Slot),(∀ n ∈ l,n ∈ N ∧ n ∉ q.map (·.1)) → l.Nodup → i + l.length ≤ 500 → q.length + l.length ≤ 500 → (∀ p ∈ q,Bw p.2) →
 ∃ q' x' y',q'.map (·.1) = q.map (·.1) ++ l ∧ (∀ p ∈ q',Bw p.2) ∧ forGo (evSs o mB) [4,5] true (enumD i (l.map .str)) [L,some (.sh,.int c0),some (.sh,dctP m),some (.ow,dctP q),x,y,c6,c7,c8] = .nx [L,some (.sh,.int c0),some (.sh,dctP m),some (.ow,dctP q'),x',y',c6,c7,c8]
 | [],i,q,x,y,_,_,_,_,hb =>⟨q,x,y,by simp,hb,rfl⟩
 | n :: l,i,q,x,y,h,hnd,hi,hl,hb =>by
   simp only [List.length_cons] at hi hl
   obtain ⟨v,bv,hx⟩:=P.get (h n List.mem_cons_self).1
   have r5:=fmod_range (c0.fdiv ((i + 1:Nat):Int)) 5 (by omega)
   have hd:=fdivOk c0 (i + 1) (by omega) (by have:(i + 1).log2 < 10:=(Nat.log2_lt (by omega)).mpr (by omega); omega)
   rw [show ((i + 1:Nat):Int) = (i:Int) + 1 by omega] at hd r5
   have hp:=put_new q n (v + (c0.fdiv ((i:Int) + 1)).fmod 5 - 2) (h n List.mem_cons_self).2 (by omega)
   have hbw:Bw (v + (c0.fdiv ((i:Int) + 1)).fmod 5 - 2):=by
    rw [show v + (c0.fdiv ((i:Int) + 1)).fmod 5 - 2 = v + ((c0.fdiv ((i:Int) + 1)).fmod 5 - 2) by omega]
    exact bw_add bv (by omega)
   have hm5:=modOk (c0.fdiv ((i:Int) + 1)) 5 (by decide)
   generalize c0.fdiv ((i:Int) + 1) = e at *
   generalize hu:v + e.fmod 5 - 2 = u at *
   obtain ⟨q',x',y',g1,g2,g3⟩:=mv_for P L c6 c7 c8 c0 l (i + 1) (q ++ [(n,u)]) (some (.sh,.int (i:Int))) (some (.sh,.str n)) (fun z hz =>by
    refine ⟨(h z (List.mem_cons_of_mem _ hz)).1,?_⟩
    simp only [List.map_append,List.map_cons,List.map_nil,List.mem_append,List.mem_singleton,not_or]
    refine ⟨(h z (List.mem_cons_of_mem _ hz)).2,fun e =>?_⟩
    subst e
    exact (List.nodup_cons.mp hnd).1 hz) (List.nodup_cons.mp hnd).2 (by omega) (by simp; omega) (fun p hp =>by
     rcases List.mem_append.mp hp with hp | hp
     ·exact hb p hp
     ·simp only [List.mem_singleton] at hp; subst hp; exact hbw)
   refine ⟨q',x',y',by rw [g1]; simp,g2,?_⟩
   simp only [List.map_cons,enumD,forGo,takes,if_true,List.length_cons,List.length_nil]
   rw [show setSlots [L,some (.sh,.int c0),some (.sh,dctP m),some (.ow,dctP q),x,y,c6,c7,c8] [4,5] [.int (i:Int),.str n] = some [L,some (.sh,.int c0),some (.sh,dctP m),some (.ow,dctP q),some (.sh,.int (i:Int)),some (.sh,.str n),c6,c7,c8] from by simp [setSlots,setSlot]]
   have hbd:evSs o mB [L,some (.sh,.int c0),some (.sh,dctP m),some (.ow,dctP q),some (.sh,.int (i:Int)),some (.sh,.str n),c6,c7,c8] = .nx [L,some (.sh,.int c0),some (.sh,dctP m),some (.ow,dctP (q ++ [(n,u)])),some (.sh,.int (i:Int)),some (.sh,.str n),c6,c7,c8]:=by
    have ee:ev o [L,some (.sh,.int c0),some (.sh,dctP m),some (.ow,dctP q),some (.sh,.int (i:Int)),some (.sh,.str n),c6,c7,c8] false (T.op2 .sub (T.op2 .add (T.idx (T.var 2) (T.var 5)) (T.op2 .mod (T.op2 .fdiv (T.var 1) (T.op2 .add (T.var 4) (T.cst (D.int 1)))) (T.cst (D.int 5)))) (T.cst (D.int 2))) = .ok (false,.int u):=by
     rw [← hu]
     generalize dctP m = M at *
     generalize dctP q = Q at *
     have oi:∀ p (a b:Int),(p = .add ∨ p = .sub ∨ p = .mod ∨ p = .fdiv) → o2 p (.int a) (.int b) = arith p a b:=by
      intro p a b h; rcases h with rfl | rfl | rfl | rfl <;> rfl
     have ad:∀ a b,arith .add a b = .ok (false,.int (a + b)):=fun _ _ =>rfl
     have sb:∀ a b,arith .sub a b = .ok (false,.int (a - b)):=fun _ _ =>rfl
     simp [ev,R.bind,hx,oi,ad,sb,hd,hm5]
    simp only [mB,evSs,evS,evF,ee,SO.of]
    simp [ev,SO.of,ownD,hp,orStuck]
   simp only [hbd]
   exact g3
theorem lookP_in:∀ (m:List Pair) (n:List Nat) (v:Int),lookP m n = some v → (n,v) ∈ m
 | [],_,_,h =>by simp [lookP] at h
 | p :: m,n,v,h =>by
   by_cases e:p.1 = n
   ·simp only [lookP,e,if_true,Option.some.injEq] at h
    subst h; subst e; exact List.mem_cons_self
   ·simp only [lookP,e,if_false] at h
    exact List.mem_cons_of_mem _ (lookP_in m n v h)
theorem vs_of {N:List (List Nat)} {m:List Pair} (hk:m.map (·.1) = N) (hb:∀ p ∈ m,Bw p.2):Vs N m:=fun n hn =>by
 obtain ⟨v,hv⟩:=lookP_mem n m (by rw [hk]; exact hn)
 exact ⟨v,hv,hb _ (lookP_in m n v hv)⟩
theorem in_of {N:List (List Nat)} {m:List Pair} (hk:m.map (·.1) = N):∀ n ∈ N,isIn (.str n) (dctP m) = some true:=fun n hn =>by
 have:DK.s n ∈ ksD m:=by
  rw [← hk] at hn
  obtain ⟨p,hp,rfl⟩:=List.mem_map.mp hn
  exact List.mem_map.mpr ⟨p,hp,rfl⟩
 simp [isIn,dctP,keyOf,this]
end K14
namespace K14
open Z KG
variable {o:Orc}
noncomputable def tSp:T:=(T.idx (T.lst (TL.cons (T.cst (D.int 1)) (TL.cons (T.cst (D.int 3)) (TL.cons (T.op2 .pow (T.cst (D.int 10)) (T.cst (D.int 20))) TL.nil)))) (T.op2 .mod (T.var 1) (T.cst (D.int 3))))
noncomputable def tWd:T:=(T.idx (T.lst (TL.cons (T.cst (D.str [97,110,100])) (TL.cons (T.cst (D.str [111,114])) TL.nil))) (T.op2 .mod (T.op2 .fdiv (T.var 1) (T.cst (D.int 12))) (T.cst (D.int 2))))
noncomputable def l0:S:=(S.set 7 (T.call 17 (TL.cons (T.var 6) (TL.cons (T.var 2) (TL.cons tSp (TL.cons tWd TL.nil))))))
noncomputable def l1:S:=(S.set 8 (T.call 4 (TL.cons (T.var 7) TL.nil)))
noncomputable def l2:S:=(S.ifq (T.not (T.call 25 (TL.cons (T.var 8) (TL.cons (T.var 7) (TL.cons (T.lst (TL.cons (T.var 2) (TL.cons (T.var 3) TL.nil))) (TL.cons (T.cst (D.bl true)) TL.nil)))))) (SL.cons (S.ret (T.cst (D.bl false))) SL.nil) SL.nil)
noncomputable def l3:S:=(S.ifq (T.not (T.call 25 (TL.cons (T.call 4 (TL.cons (T.tup (TL.cons (T.cst (D.str [110,111,116])) (TL.cons (T.var 7) TL.nil))) TL.nil)) (TL.cons (T.var 7) (TL.cons (T.lst (TL.cons (T.var 2) (TL.cons (T.var 3) TL.nil))) (TL.cons (T.cst (D.bl false)) TL.nil)))))) (SL.cons (S.ret (T.cst (D.bl false))) SL.nil) SL.nil)
noncomputable def l4:S:=(S.ifs (T.not (T.call 7 (TL.cons (T.call 4 (TL.cons (T.var 8) TL.nil)) (TL.cons (T.var 8) TL.nil)))) (SL.cons (S.ret (T.cst (D.bl false))) SL.nil) SL.nil)
noncomputable def lB:SL:=(SL.cons l0 (SL.cons l1 (SL.cons l2 (SL.cons l3 (SL.cons l4 SL.nil)))))
noncomputable def tRows:T:=(T.call 18 (TL.cons (T.slc (T.var 0) (T.cst (D.int 5)) (T.cst (D.int 68))) (TL.cons (T.idx (T.lst (TL.cons (T.cst (D.int 2)) (TL.cons (T.cst (D.int 4)) (TL.cons (T.cst (D.int 7)) (TL.cons (T.cst (D.int 63)) TL.nil))))) (T.op2 .mod (T.op2 .fdiv (T.var 1) (T.cst (D.int 3))) (T.cst (D.int 4)))) TL.nil)))
theorem e26:f26 = ⟨1,9,(SL.cons (S.set 1 (T.call 5 (TL.cons (T.var 0) (TL.cons (T.cst (D.int 0)) TL.nil)))) (SL.cons (S.set 2 (T.call 10 (TL.cons (T.var 0) (TL.cons (T.call 8 (TL.cons (T.op2 .fdiv (T.var 1) (T.cst (D.int 24))) TL.nil)) TL.nil)))) (SL.cons (S.set 3 (T.dnew [] TL.nil)) (SL.cons (S.for_ [4,5] true (TI.enum (T.var 2)) mB) (SL.cons (S.for_ [6] false (TI.val tRows) lB) (SL.cons (S.ret (T.cst (D.bl true))) SL.nil))))))⟩:=rfl
theorem pick3 (c:Int):∃ sp:Int,(0 < sp ∧ sp ≤ 100000000000000000000) ∧ idxD (.lst [.int 1,.int 3,.int 100000000000000000000]) (.int (c.fmod 3)) = .ok (false,.int sp):=by
 have r:=fmod_range c 3 (by omega)
 have:c.fmod 3 = 0 ∨ c.fmod 3 = 1 ∨ c.fmod 3 = 2:=by omega
 rcases this with e | e | e <;> rw [e]
 ·exact ⟨1,by omega,rfl⟩
 ·exact ⟨3,by omega,rfl⟩
 ·exact ⟨100000000000000000000,by omega,rfl⟩
theorem pick2 (c:Int):∃ wd:List Nat,(wd = AND ∨ wd = OR) ∧ idxD (.lst [.str [97,110,100],.str [111,114]]) (.int (c.fmod 2)) = .ok (false,.str wd):=by
 have r:=fmod_range c 2 (by omega)
 have:c.fmod 2 = 0 ∨ c.fmod 2 = 1:=by omega
 rcases this with e | e <;> rw [e]
 ·exact ⟨AND,.inl rfl,rfl⟩
 ·exact ⟨OR,.inr rfl,rfl⟩
theorem pick4 (c:Int):∃ z:Int,(1 ≤ z ∧ z ≤ 100) ∧ idxD (.lst [.int 2,.int 4,.int 7,.int 63]) (.int (c.fmod 4)) = .ok (false,.int z):=by
 have r:=fmod_range c 4 (by omega)
 have:c.fmod 4 = 0 ∨ c.fmod 4 = 1 ∨ c.fmod 4 = 2 ∨ c.fmod 4 = 3:=by omega
 rcases this with e | e | e | e <;> rw [e]
 ·exact ⟨2,by omega,rfl⟩
 ·exact ⟨4,by omega,rfl⟩
 ·exact ⟨7,by omega,rfl⟩
 ·exact ⟨63,by omega,rfl⟩
theorem md (c m:Int) (h:m ≠ 0):o2 .mod (.int c) (.int m) = .ok (false,.int (c.fmod m)):=modOk c m h
theorem fd (c:Int) (n:Nat) (h0:n ≠ 0) (h:n.log2 < 9000):o2 .fdiv (.int c) (.int (n:Int)) = .ok (false,.int (c.fdiv n)):=fdivOk c n h0 h
theorem z1:size 1 = true:=by decide
theorem z4:size 4 = true:=by decide
section
variable {L M1 M2 row d r t:D} {c0 sp:Int} {wd:List Nat} {x4 x5 x7 x8:Option Slot}
theorem ev_sp (lk:Bool) {a b c x4 x5 x6 x7 x8:Option Slot} (h:idxD (.lst [.int 1,.int 3,.int 100000000000000000000]) (.int (c0.fmod 3)) = .ok (false,.int sp)):ev o [a,some (.sh,.int c0),b,c,x4,x5,x6,x7,x8] lk tSp = .ok (false,.int sp):=by
 have hp:o2 .pow (.int 10) (.int 20) = .ok (false,.int 100000000000000000000):=rfl
 have hm:=md c0 3 (by decide)
 generalize (100000000000000000000:Int) = B at *
 simp [tSp,ev,evL,R.bind,lkOwn,hp,R.chk,z3,hm,h]
theorem ev_wd (lk:Bool) {a b c x4 x5 x6 x7 x8:Option Slot} (h:idxD (.lst [.str [97,110,100],.str [111,114]]) (.int ((c0.fdiv 12).fmod 2)) = .ok (false,.str wd)):ev o [a,some (.sh,.int c0),b,c,x4,x5,x6,x7,x8] lk tWd = .ok (false,.str wd):=by
 have hf:o2 .fdiv (.int c0) (.int 12) = .ok (false,.int (c0.fdiv 12)):=fd c0 12 (by decide) (by decide)
 have hm:=md (c0.fdiv 12) 2 (by decide)
 simp [tWd,ev,evL,R.bind,lkOwn,R.chk,z2,hf,hm,h]
theorem lk_sp (δ:Dst):lkOwn δ tSp = false:=rfl
theorem lk_wd (δ:Dst):lkOwn δ tWd = false:=rfl
theorem b_l0 {w3:Own} (hs:∀ (δx:Option Slot) ,ev o [some (.sh,L),some (.sh,.int c0),some (.sh,M1),some (w3,M2),x4,x5,some (.sh,row),x7,x8] false tSp = .ok (false,.int sp)) (hw:ev o [some (.sh,L),some (.sh,.int c0),some (.sh,M1),some (w3,M2),x4,x5,some (.sh,row),x7,x8] false tWd = .ok (false,.str wd)) (h:o.fn 17 [row,M1,.int sp,.str wd] = .ok (false,d)) :
 evS o l0 [some (.sh,L),some (.sh,.int c0),some (.sh,M1),some (w3,M2),x4,x5,some (.sh,row),x7,x8] = .nx [some (.sh,L),some (.sh,.int c0),some (.sh,M1),some (w3,M2),x4,x5,some (.sh,row),some (.sh,d),x8]:=by
 have hs:=hs none
 have l1:=lk_sp [some (.sh,L),some (.sh,.int c0),some (.sh,M1),some (w3,M2),x4,x5,some (.sh,row),x7,x8]
 have l2:=lk_wd [some (.sh,L),some (.sh,.int c0),some (.sh,M1),some (w3,M2),x4,x5,some (.sh,row),x7,x8]
 rw [l0]
 generalize tSp = t1 at *
 generalize tWd = t2 at *
 have e:ev o [some (.sh,L),some (.sh,.int c0),some (.sh,M1),some (w3,M2),x4,x5,some (.sh,row),x7,x8] false (T.call 17 (TL.cons (T.var 6) (TL.cons (T.var 2) (TL.cons t1 (TL.cons t2 TL.nil))))) = .ok (false,d):=by
  simp only [ev,evL,l1,l2,hs,hw,R.bind]
  simp [lkOwn,isOwn,h,lent]
 simp only [evS,evF,e]
 simp [SO.of,setSlot,orStuck]
theorem b_l1 {w3:Own} (h:o.fn 4 [d] = .ok (false,r)):evS o l1 [some (.sh,L),some (.sh,.int c0),some (.sh,M1),some (w3,M2),x4,x5,some (.sh,row),some (.sh,d),x8] = .nx [some (.sh,L),some (.sh,.int c0),some (.sh,M1),some (w3,M2),x4,x5,some (.sh,row),some (.sh,d),some (.sh,r)]:=by
 simp [l1,evS,evF,ev,evL,R.bind,lkOwn,isOwn,h,lent,SO.of,setSlot,orStuck]
theorem b_l2 {w3:Own} (hw:w3 = .ow ∨ w3 = .sh) (h:o.fn 25 [r,d,.lst [M1,M2],.bl true] = .ok (false,.bl true)):evS o l2 [some (.sh,L),some (.sh,.int c0),some (.sh,M1),some (w3,M2),x4,x5,some (.sh,row),some (.sh,d),some (.sh,r)] = .nx [some (.sh,L),some (.sh,.int c0),some (.sh,M1),some (.sh,M2),x4,x5,some (.sh,row),some (.sh,d),some (.sh,r)]:=by
 rcases hw with rfl | rfl <;> simp [l2,evS,evSs,share,share1,tvars,tvarsL,ev,evL,R.bind,lkOwn,isOwn,R.chk,z2,h,lent,R.of,truth,SO.of]
theorem b_l3 (h4:o.fn 4 [.tup [.str NOT,d]] = .ok (false,t)) (h:o.fn 25 [t,d,.lst [M1,M2],.bl false] = .ok (false,.bl true)):evS o l3 [some (.sh,L),some (.sh,.int c0),some (.sh,M1),some (.sh,M2),x4,x5,some (.sh,row),some (.sh,d),some (.sh,r)] = .nx [some (.sh,L),some (.sh,.int c0),some (.sh,M1),some (.sh,M2),x4,x5,some (.sh,row),some (.sh,d),some (.sh,r)]:=by
 simp only [NOT] at h4
 simp [l3,evS,evSs,share,share1,tvars,tvarsL,ev,evL,R.bind,lkOwn,isOwn,R.chk,z2,h4,h,lent,R.of,truth,SO.of]
theorem b_l4 (h4:o.fn 4 [r] = .ok (false,r)) (h:o.fn 7 [r,r] = .ok (false,.bl true)):evS o l4 [some (.sh,L),some (.sh,.int c0),some (.sh,M1),some (.sh,M2),x4,x5,some (.sh,row),some (.sh,d),some (.sh,r)] = .nx [some (.sh,L),some (.sh,.int c0),some (.sh,M1),some (.sh,M2),x4,x5,some (.sh,row),some (.sh,d),some (.sh,r)]:=by
 simp [l4,evS,evSs,ev,evL,R.bind,lkOwn,isOwn,h4,h,lent,R.of,truth,SO.of]
end
noncomputable def RowOk (o:Orc) (M1 M2:D) (sp:Int) (wd:List Nat) (row:D):Prop:=∃ d r t,o.fn 17 [row,M1,.int sp,.str wd] = .ok (false,d) ∧ o.fn 4 [d] = .ok (false,r) ∧ o.fn 25 [r,d,.lst [M1,M2],.bl true] = .ok (false,.bl true) ∧ o.fn 4 [.tup [.str NOT,d]] = .ok (false,t) ∧ o.fn 25 [t,d,.lst [M1,M2],.bl false] = .ok (false,.bl true) ∧ o.fn 4 [r] = .ok (false,r) ∧ o.fn 7 [r,r] = .ok (false,.bl true)
theorem l_for {L M1 M2:D} {c0 sp:Int} {wd:List Nat} (hsp:idxD (.lst [.int 1,.int 3,.int 100000000000000000000]) (.int (c0.fmod 3)) = .ok (false,.int sp)) (hwd:idxD (.lst [.str [97,110,100],.str [111,114]]) (.int ((c0.fdiv 12).fmod 2)) = .ok (false,.str wd)) (x4 x5:Option Slot):∀ (rows:List D) (w3:Own) (x6 x7 x8:Option Slot),(w3 = .ow ∨ w3 = .sh) → (∀ row ∈ rows,RowOk o M1 M2 sp wd row) → ∃ δ,forGo (evSs o lB) [6] false rows [some (.sh,L),some (.sh,.int c0),some (.sh,M1),some (w3,M2),x4,x5,x6,x7,x8] = .nx δ
 | [],w3,x6,x7,x8,_,_ =>⟨_,rfl⟩
 | row :: rows,w3,x6,x7,x8,hw,h =>by
   obtain ⟨d,r,t,a1,a2,a3,a4,a5,a6,a7⟩:=h row List.mem_cons_self
   obtain ⟨δ,ih⟩:=l_for (L:=L) hsp hwd x4 x5 rows .sh (some (.sh,row)) (some (.sh,d)) (some (.sh,r)) (.inr rfl) fun q hq =>h q (List.mem_cons_of_mem _ hq)
   refine ⟨δ,?_⟩
   rw [← ih]
   have s0:=b_l0 (x4:=x4) (x5:=x5) (x7:=x7) (x8:=x8) (L:=L) (M2:=M2) (w3:=w3) (fun _ =>ev_sp false hsp) (ev_wd false hwd) a1
   have s1:=b_l1 (x4:=x4) (x5:=x5) (x8:=x8) (L:=L) (M1:=M1) (M2:=M2) (w3:=w3) (row:=row) (c0:=c0) a2
   have s2:=b_l2 (x4:=x4) (x5:=x5) (L:=L) (row:=row) (c0:=c0) hw a3
   have s3:=b_l3 (x4:=x4) (x5:=x5) (L:=L) (row:=row) (c0:=c0) (r:=r) a4 a5
   have s4:=b_l4 (x4:=x4) (x5:=x5) (L:=L) (row:=row) (c0:=c0) (d:=d) (M1:=M1) (M2:=M2) a6 a7
   have hb:evSs o lB [some (.sh,L),some (.sh,.int c0),some (.sh,M1),some (w3,M2),x4,x5,some (.sh,row),x7,x8] = .nx [some (.sh,L),some (.sh,.int c0),some (.sh,M1),some (.sh,M2),x4,x5,some (.sh,row),some (.sh,d),some (.sh,r)]:=by
    simp only [lB,evSs,s0,s1,s2,s3,s4]
   simp only [forGo,takes,Bool.false_eq_true,if_false,setSlots]
   rw [show setSlot [some (.sh,L),some (.sh,.int c0),some (.sh,M1),some (w3,M2),x4,x5,x6,x7,x8] 6 false row = some [some (.sh,L),some (.sh,.int c0),some (.sh,M1),some (w3,M2),x4,x5,some (.sh,row),x7,x8] from by simp [setSlot]]
   simp only [Option.bind_some,hb]
theorem cutI (ns:List Int):slcD (.lst (ns.map .int)) (some 5) (some 68) = some (true,.lst ((cut ns (min 5 ns.length) (min 68 ns.length)).map .int)):=by
 simp [slcD,lowOf,highOf,clip,cut,List.map_drop,List.map_take]
theorem ev_rows {L CS RR a b c x4 x5 x6 x7:D} {c0 z:Int} {s2 s3 s4 s5 s6 s7 s8:Option Slot} (hc:slcD L (some 5) (some 68) = some (true,CS)) (hz:idxD (.lst [.int 2,.int 4,.int 7,.int 63]) (.int ((c0.fdiv 3).fmod 4)) = .ok (false,.int z)) (h:o.fn 18 [CS,.int z] = .ok (true,RR)):ev o [some (.sh,L),some (.sh,.int c0),s2,s3,s4,s5,s6,s7,s8] false tRows = .ok (true,RR):=by
 have hf:o2 .fdiv (.int c0) (.int 3) = .ok (false,.int (c0.fdiv 3)):=fd c0 3 (by decide) (by decide)
 have hm:=md (c0.fdiv 3) 4 (by decide)
 have e1:ev o [some (.sh,L),some (.sh,.int c0),s2,s3,s4,s5,s6,s7,s8] false (T.slc (T.var 0) (T.cst (D.int 5)) (T.cst (D.int 68))) = .ok (true,CS):=by
  simp [ev,R.bind,bnd,hc,R.of]
 have e2:ev o [some (.sh,L),some (.sh,.int c0),s2,s3,s4,s5,s6,s7,s8] false (T.idx (T.lst (TL.cons (T.cst (D.int 2)) (TL.cons (T.cst (D.int 4)) (TL.cons (T.cst (D.int 7)) (TL.cons (T.cst (D.int 63)) TL.nil))))) (T.op2 .mod (T.op2 .fdiv (T.var 1) (T.cst (D.int 3))) (T.cst (D.int 4)))) = .ok (false,.int z):=by
  simp [ev,evL,R.bind,lkOwn,R.chk,z4,hf,hm,hz]
 rw [tRows,ev]
 simp only [evL,lkOwn,e1,e2,R.bind,Bool.or_false,h,lent,Bool.false_eq_true,if_false]
theorem law_run (w n:Nat) (hn:44 ≤ n) (ns:List Int):runFn (orc prg w n) f26 [.lst (ns.map .int)] = .ok (false,.bl true):=by
 obtain ⟨k,rfl⟩:∃ k,n = k + 8:=⟨n - 8,by omega⟩
 have F5:∀ (m j:Nat),(orc prg w (m + 1)).fn 5 [.lst (ns.map .int),.int (j:Int)] = .ok (false,.int (ns.getD j 0)):=fun m j =>F prg w m 5 f5 _ _ rfl (by rw [e5]; exact cell_run _ ns j)
 have F9:∀ (m:Nat) (c:Int),(orc prg w (m + 1)).fn 9 [.int c] = .ok (false,.int (numbV c)):=fun m c =>F prg w m 9 f9 _ _ rfl (by rw [e9]; exact numb_run _ c)
 have F11:∀ (m:Nat) (x y:Int),(orc prg w (m + 1)).fn 11 [.int x,.int y] = .ok (false,.int (manyV x y)):=fun m x y =>F prg w m 11 f11 _ _ rfl (by rw [e11]; exact many_run _ x y)
 have F12:∀ (m:Nat) (c:Int),∃ v,(orc prg w (m + 1)).fn 12 [.int c] = .ok (false,.int v):=fun m c =>by
  obtain ⟨v,h⟩:=near_run (orc prg w m) c
  exact ⟨v,F prg w m 12 f12 _ _ rfl (by rw [e12]; exact h)⟩
 generalize hc0:ns.getD 0 0 = c0
 have h0:(orc prg w (k + 8)).fn 5 [.lst (ns.map .int),.int 0] = .ok (false,.int c0):=by rw [← hc0]; exact F5 (k + 7) 0
 obtain ⟨N,hN,hNr⟩:=names_run (orc prg w (k + 7)) (c0.fdiv 24)
 have h8:(orc prg w (k + 8)).fn 8 [.int (c0.fdiv 24)] = .ok (true,.lst (N.map .str)):=F prg w (k + 7) 8 f8 _ _ rfl (by rw [e8]; exact hNr)
 obtain ⟨M,hM1,hM2,hM3⟩:=point_run (o:=orc prg w (k + 7)) (inum:=9) (icell:=5) (ns:=ns) (fun j =>F5 (k + 6) j) (fun c =>F9 (k + 6) c) N hN
 have h10:(orc prg w (k + 8)).fn 10 [.lst (ns.map .int),.lst (N.map .str)] = .ok (true,dctP M):=F prg w (k + 7) 10 f10 _ _ rfl (by rw [e10]; exact hM3)
 have P:PtOk N M:=⟨hM1,hN.2.1,by rw [hN.1]; omega,hM2⟩
 obtain ⟨sp,hsp,hspe⟩:=pick3 c0
 obtain ⟨wd,hwd,hwde⟩:=pick2 (c0.fdiv 12)
 obtain ⟨z,hz,hze⟩:=pick4 (c0.fdiv 3)
 have F13:∀ (m:Nat) (c:Int),∃ s,SumD N s ∧ (orc prg w (m + 2)).fn 13 [.int c,dctP M,.int sp] = .ok (false,s):=fun m c =>by
  obtain ⟨s,q1,q2⟩:=lsum_run (o:=orc prg w (m + 1)) (imany:=11) (inear:=12) (F11 m) (F12 m) P hsp c
  exact ⟨s,q1,F prg w (m + 1) 13 f13 _ _ rfl (by rw [e13]; exact q2)⟩
 have F14:∀ (m:Nat) (c:Int),∃ s,AtmD N s ∧ (orc prg w (m + 3)).fn 14 [.int c,dctP M,.int sp] = .ok (false,s):=fun m c =>by
  obtain ⟨s,q1,q2⟩:=atom_run (o:=orc prg w (m + 2)) (isum:=13) (N:=N) hsp c (F13 m c)
  exact ⟨s,q1,F prg w (m + 2) 14 f14 _ _ rfl (by rw [e14]; exact q2)⟩
 have F15:∀ (m:Nat) (v:List Nat) (l:List (D × Nat)) (many:Int) (d:D),(v = AND ∨ v = OR) → StkOk false N l → l.length ≤ 200 → 0 ≤ many ∧ many < 4 → AtmD N d → ∃ l',StkOk false N l' ∧ l'.length ≤ l.length + 1 ∧ (orc prg w (m + 1)).fn 15 [.str v,.lst (stk l),.int many,d] = .ok (true,.lst (stk l')):=fun m v l many d a1 a2 a3 a4 a5 =>by
  obtain ⟨l',q1,q2,q3⟩:=grp_run (orc prg w m) v a1 l a2 a3 many a4 d a5
  exact ⟨l',q1,q2,F prg w m 15 f15 _ _ rfl (by rw [e15]; exact q3)⟩
 have F16:∀ (m:Nat) (l:List (D × Nat)) (cell:Int),StkOk false N l → l.length ≤ 200 → ∃ l',StkOk false N l' ∧ l'.length ≤ l.length + 1 ∧ (orc prg w (m + 4)).fn 16 [.lst (stk l),.int cell,dctP M,.int sp] = .ok (true,.lst (stk l')):=fun m l cell a1 a2 =>by
  obtain ⟨l',q1,q2,q3⟩:=step14_run (o:=orc prg w (m + 3)) (iatom:=14) (igrp:=15) (F14 m) (F15 (m + 2)) l a1 a2 cell
  exact ⟨l',q1,q2,F prg w (m + 3) 16 f16 _ _ rfl (by rw [e16]; exact q3)⟩
 obtain ⟨q,x4,x5,hq1,hq2,hq3⟩:=mv_for (o:=orc prg w (k + 8)) P (some (.sh,.lst (ns.map .int))) none none none c0 N 0 [] none none (fun n hn =>⟨hn,by simp⟩) hN.2.1 (by rw [hN.1]; omega) (by rw [hN.1]; simp) (by simp)
 have hqN:q.map (·.1) = N:=by simpa using hq1
 have V1:Vs N M:=vs_of hM1 fun p hp =>bq_bw (hM2 p hp)
 have V2:Vs N q:=vs_of hqN hq2
 have hne:∀ n ∈ N,ltS [] n = true:=fun n hn =>by
  have:=(hN.2.2 n hn).1
  cases n with
  | nil =>simp at this
  | cons a b =>rfl
 obtain ⟨rows,hr1,hr2⟩:=rows_run (o:=orc prg w (k + 7)) (cut ns (min 5 ns.length) (min 68 ns.length)) (by simp [cut]; omega) z hz
 have h18:(orc prg w (k + 8)).fn 18 [.lst ((cut ns (min 5 ns.length) (min 68 ns.length)).map .int),.int z] = .ok (true,.lst (rows.map fun r =>.lst (r.map .int))):=F prg w (k + 7) 18 f18 _ _ rfl hr2
 have hrow:∀ row ∈ rows.map (fun r =>D.lst (r.map .int)),RowOk (orc prg w (k + 8)) (dctP M) (dctP q) sp wd row:=fun row hrw =>by
  obtain ⟨cs,hcs,rfl⟩:=List.mem_map.mp hrw
  obtain ⟨d,hd,hdr⟩:=tree_run (o:=orc prg w (k + 7)) (istep:=16) (F16 (k + 3)) cs (by have:=hr1 cs hcs; omega) wd hwd
  obtain ⟨r,c,b1,b2,f⟩:=fc (w:=w) V1 V2 (in_of hM1) hne 18 d false hd
  obtain ⟨t,c',b1',b2',g⟩:=fc (w:=w) V1 V2 (in_of hM1) hne 18 d true hd
  have in4:∀ {x y:D},(orc prg w (k + 7)).fn 3 [x,.bl false] = .ok (false,y) → (orc prg w (k + 8)).fn 4 [x] = .ok (false,y):=fun {x y} h =>by
   refine F prg w (k + 7) 4 f4 _ _ rfl ?_
   simp [f4,runFn,evSs,evS,evF,ev,evL,R.bind,lkOwn,isOwn,h,lent,SO.of]
  refine ⟨d,r,t,F prg w (k + 7) 17 f17 _ _ rfl (by rw [e17]; exact hdr),in4 (f.pu _ (by omega)),?_,in4 ?_,?_,in4 (f.ag _ (by omega)),?_⟩
  ·exact F prg w (k + 7) 25 f25 _ _ rfl (kept_run (a:=false) (f.fo _ (by omega)) (f.lo _ (by omega)) (f.cr _ (by omega)) (f.cd _ (by omega)) (f.w1 _ (by omega)) (f.v1 _ (by omega)) (f.w2 _ (by omega)) (f.v2 _ (by omega)))
  ·exact F prg w (k + 6) 3 f3 _ _ rfl (p3_not (a:=false) (g.pu _ (by omega)))
  ·exact F prg w (k + 7) 25 f25 _ _ rfl (kept_run (a:=true) (g.fo _ (by omega)) (g.lo _ (by omega)) (g.cr _ (by omega)) (g.cd _ (by omega)) (g.w1 _ (by omega)) (g.v1 _ (by omega)) (g.w2 _ (by omega)) (g.v2 _ (by omega)))
  ·exact samez_refl prg w 7 rfl 42 r (k + 8) f.z (by omega)
 have hcut:=cutI ns
 generalize hRR:rows.map (fun r =>D.lst (r.map .int)) = RR at *
 generalize D.lst ((cut ns (min 5 ns.length) (min 68 ns.length)).map D.int) = CS at *
 obtain ⟨δ,hl⟩:=l_for (o:=orc prg w (k + 8)) (L:=.lst (ns.map .int)) (M1:=dctP M) (M2:=dctP q) hspe hwde x4 x5 RR .ow none none none (.inl rfl) hrow
 have her:=ev_rows (o:=orc prg w (k + 8)) (L:=.lst (ns.map .int)) (a:=.non) (b:=.non) (c:=.non) (x4:=.non) (x5:=.non) (x6:=.non) (x7:=.non) (s2:=some (.sh,dctP M)) (s3:=some (.ow,dctP q)) (s4:=x4) (s5:=x5) (s6:=none) (s7:=none) (s8:=none) hcut hze h18
 have hks:(ksD M).map keyD = N.map .str:=by rw [← hM1]; simp [ksD,keyD,List.map_map,Function.comp_def]
 have hd0:dctP [] = D.dct [] []:=rfl
 rw [e26]
 generalize D.lst (ns.map .int) = L at *
 generalize D.lst (N.map .str) = NL at *
 have hen:∀ (δ:Dst),δ[2]? = some (some (.sh,dctP M)) → evI (orc prg w (k + 8)) δ false (TI.enum (T.var 2)) = .ok (enumD 0 (N.map .str)):=fun δ h =>by
  simp only [evI,ev,h,R.bind,dctP,hks]
 have hf24:o2 .fdiv (.int c0) (.int 24) = .ok (false,.int (c0.fdiv 24)):=fd c0 24 (by decide) (by decide)
 generalize dctP q = Q at *
 generalize dctP M = MM at *
 generalize orc prg w (k + 8) = o at *
 generalize hmB:mB = mb at *
 generalize hlB:lB = lb at *
 generalize hR:tRows = tr at *
 refine runFn_at rfl (δ0:=[some (.sh,L),none,none,none,none,none,none,none,none]) rfl (stp [some (.sh,L),some (.sh,.int c0),none,none,none,none,none,none,none] ?_ (stp [some (.sh,L),some (.sh,.int c0),some (.ow,MM),none,none,none,none,none,none] ?_ (stp [some (.sh,L),some (.sh,.int c0),some (.ow,MM),some (.ow,dctP []),none,none,none,none,none] ?_ (stp [some (.sh,L),some (.sh,.int c0),some (.sh,MM),some (.ow,Q),x4,x5,none,none,none] ?_ (stp δ ?_ (stpR (δ':=δ) ?_))))))
 ·simp [evS,evF,ev,evL,R.bind,lkOwn,isOwn,h0,lent,SO.of,setSlot,orStuck]
 ·simp [evS,evF,ev,evL,R.bind,lkOwn,isOwn,hf24,h8,h10,lent,SO.of,setSlot,orStuck]
 ·simp [evS,evF,ev,evL,R.bind,R.chk,SO.of,setSlot,orStuck,hd0]
 ·rw [evS]
  rw [show shareIt [some (.sh,L),some (.sh,.int c0),some (.ow,MM),some (.ow,dctP []),none,none,none,none,none] (TI.enum (T.var 2)) = [some (.sh,L),some (.sh,.int c0),some (.sh,MM),some (.ow,dctP []),none,none,none,none,none] from rfl]
  show SO.of _ (evI o _ false (TI.enum (T.var 2))) _ = _
  rw [hen _ rfl]
  exact hq3
 ·rw [evS]
  have hI:evI o [some (.sh,L),some (.sh,.int c0),some (.sh,MM),some (.ow,Q),x4,x5,none,none,none] false (TI.val tr) = .ok RR:=by
   simp only [evI,her,R.bind,itemsK,R.of]
  have hsI:shareIt [some (.sh,L),some (.sh,.int c0),some (.sh,MM),some (.ow,Q),x4,x5,none,none,none] (TI.val tr) = [some (.sh,L),some (.sh,.int c0),some (.sh,MM),some (.ow,Q),x4,x5,none,none,none]:=by rw [← hR]; rfl
  rw [hsI]
  show SO.of _ (evI o _ false (TI.val tr)) _ = _
  rw [hI]
  exact hl
 ·simp [evS,evF,ev,SO.of]
theorem pure (ns:List Int) (_:ns.length ≤ 63):∃ w0,(orc prg w0 (44 + 1)).fn 26 [.lst (ns.map .int)] = .ok (false,.bl true) :=
 ⟨0,F prg 0 44 26 f26 _ _ rfl (law_run 0 44 (by omega) ns)⟩
end K14

namespace K14
open PySem L2 Z
noncomputable def top (i:Nat):Stmt:=PySem.Challenge.pw_sumlaw_k14_pushed_worth.main.body.getD i (.Pass ⟨0,0,0,0⟩)
noncomputable def d0:Df:=⟨"sum_of","sum_of",top 1,["c","pairs","totals","name","k"],["c","pairs"],f0⟩
noncomputable def d1:Df:=⟨"plus","plus",top 2,["one","other"],["one","other"],f1⟩
noncomputable def d2:Df:=⟨"times","times",top 3,["k","one"],["k","one"],f2⟩
noncomputable def d3:Df:=⟨"pushed","pushed",top 6,["told","against","word","turned"],["told","against"],f3⟩
noncomputable def d4:Df:=⟨"inward","inward",top 7,["told"],["told"],f4⟩
noncomputable def d5:Df:=⟨"_law_cell_at","_law_cell_at",top 9,["_law_script","_law_k"],["_law_script","_law_k"],f5⟩
noncomputable def d6:Df:=⟨"_law_whole","_law_whole",top 10,["_law_answer_told"],["_law_answer_told"],f6⟩
noncomputable def d7:Df:=⟨"_law_same","_law_same",top 11,["_law_made","_law_due"],["_law_made","_law_due"],f7⟩
noncomputable def d8:Df:=⟨"_law_names","_law_names",top 12,["_law_cell","_law_letters","_law_word","_law_k","_law_start","_law_at"],["_law_cell"],f8⟩
noncomputable def d9:Df:=⟨"_law_number","_law_number",top 13,["_law_cell"],["_law_cell"],f9⟩
noncomputable def d10:Df:=⟨"_law_point","_law_point",top 14,["_law_script","_law_names_here","_law_point_here","_law_k","_law_name"],["_law_script","_law_names_here"],f10⟩
noncomputable def d11:Df:=⟨"_law_many","_law_many",top 15,["_law_mixed","_law_key"],["_law_mixed","_law_key"],f11⟩
noncomputable def d12:Df:=⟨"_law_near","_law_near",top 16,["_law_cell"],["_law_cell"],f12⟩
noncomputable def d13:Df:=⟨"_law_sum","_law_sum",top 17,["_law_cell","_law_point_here","_law_spread","_law_pairs","_law_c","_law_k","_law_name","_law_mixed","_law_many_here"],["_law_cell","_law_point_here","_law_spread"],f13⟩
noncomputable def d14:Df:=⟨"_law_atom","_law_atom",top 18,["_law_cell","_law_point_here","_law_spread","_law_made"],["_law_cell","_law_point_here","_law_spread"],f14⟩
noncomputable def d15:Df:=⟨"_law_grouped","_law_grouped",top 19,["_law_word","_law_stack","_law_many_here","_law_spare","_law_took","_law_deep"],["_law_word","_law_stack","_law_many_here","_law_spare"],f15⟩
noncomputable def d16:Df:=⟨"_law_step","_law_step",top 20,["_law_stack","_law_cell","_law_point_here","_law_spread","_law_atom_here"],["_law_stack","_law_cell","_law_point_here","_law_spread"],f16⟩
noncomputable def d17:Df:=⟨"_law_tree","_law_tree",top 21,["_law_cells","_law_point_here","_law_spread","_law_word","_law_stack","_law_cell"],["_law_cells","_law_point_here","_law_spread","_law_word"],f17⟩
noncomputable def d18:Df:=⟨"_law_rows","_law_rows",top 22,["_law_cells","_law_size","_law_rows_here"],["_law_cells","_law_size"],f18⟩
noncomputable def d19:Df:=⟨"_law_value","_law_value",top 23,["_law_one","_law_values","_law_total","_law_name","_law_k"],["_law_one","_law_values"],f19⟩
noncomputable def d20:Df:=⟨"_law_worth","_law_worth",top 24,["_law_told","_law_values","_law_worths"],["_law_told","_law_values"],f20⟩
noncomputable def d21:Df:=⟨"_law_sum_form","_law_sum_form",top 25,["_law_one","_law_names_here","_law_last","_law_pair"],["_law_one","_law_names_here"],f21⟩
noncomputable def d22:Df:=⟨"_law_form","_law_form",top 26,["_law_told","_law_names_here"],["_law_told","_law_names_here"],f22⟩
noncomputable def d23:Df:=⟨"_law_count","_law_count",top 27,["_law_told"],["_law_told"],f23⟩
noncomputable def d24:Df:=⟨"_law_low_nots","_law_low_nots",top 28,["_law_told"],["_law_told"],f24⟩
noncomputable def d25:Df:=⟨"_law_kept","_law_kept",top 29,["_law_made","_law_told","_law_points","_law_right","_law_values"],["_law_made","_law_told","_law_points","_law_right"],f25⟩
noncomputable def d26:Df:=⟨"law","law",top 30,["_law_script","_law_first","_law_point_here","_law_moved","_law_k","_law_name","_law_cells","_law_told","_law_made"],["_law_script"],f26⟩
noncomputable def cs:List (Str × Gk):=[("TURNED",.dct [.s [97,110,100],.s [111,114],.s [115,111,109,101],.s [97,108,108]] [(D.str [111,114]),(D.str [97,110,100]),(D.str [97,108,108]),(D.str [115,111,109,101])])]
noncomputable def ds:List Df:=[d0,d1,d2,d3,d4,d5,d6,d7,d8,d9,d10,d11,d12,d13,d14,d15,d16,d17,d18,d19,d20,d21,d22,d23,d24,d25,d26]
theorem sc0:FnScope d0.N d0.ps (defScope d0.st):=⟨rfl,rfl,rfl,by decide +kernel,rfl,by decide +kernel,by decide +kernel⟩
theorem ok0:DfOk (glOf 0 ds ++ cs) d0:=⟨sc0,rfl,rfl,(by kernel_rfl)⟩
theorem sc1:FnScope d1.N d1.ps (defScope d1.st):=⟨rfl,rfl,rfl,by decide +kernel,rfl,by decide +kernel,by decide +kernel⟩
theorem ok1:DfOk (glOf 0 ds ++ cs) d1:=⟨sc1,rfl,rfl,(by kernel_rfl)⟩
theorem sc2:FnScope d2.N d2.ps (defScope d2.st):=⟨rfl,rfl,rfl,by decide +kernel,rfl,by decide +kernel,by decide +kernel⟩
theorem ok2:DfOk (glOf 0 ds ++ cs) d2:=⟨sc2,rfl,rfl,(by kernel_rfl)⟩
theorem sc3:FnScope d3.N d3.ps (defScope d3.st):=⟨rfl,rfl,rfl,by decide +kernel,rfl,by decide +kernel,by decide +kernel⟩
theorem ok3:DfOk (glOf 0 ds ++ cs) d3:=⟨sc3,rfl,rfl,(by kernel_rfl)⟩
theorem sc4:FnScope d4.N d4.ps (defScope d4.st):=⟨rfl,rfl,rfl,by decide +kernel,rfl,by decide +kernel,by decide +kernel⟩
theorem ok4:DfOk (glOf 0 ds ++ cs) d4:=⟨sc4,rfl,rfl,(by kernel_rfl)⟩
theorem sc5:FnScope d5.N d5.ps (defScope d5.st):=⟨rfl,rfl,rfl,by decide +kernel,rfl,by decide +kernel,by decide +kernel⟩
theorem ok5:DfOk (glOf 0 ds ++ cs) d5:=⟨sc5,rfl,rfl,(by kernel_rfl)⟩
theorem sc6:FnScope d6.N d6.ps (defScope d6.st):=⟨rfl,rfl,rfl,by decide +kernel,rfl,by decide +kernel,by decide +kernel⟩
theorem ok6:DfOk (glOf 0 ds ++ cs) d6:=⟨sc6,rfl,rfl,(by kernel_rfl)⟩
theorem sc7:FnScope d7.N d7.ps (defScope d7.st):=⟨rfl,rfl,rfl,by decide +kernel,rfl,by decide +kernel,by decide +kernel⟩
theorem ok7:DfOk (glOf 0 ds ++ cs) d7:=⟨sc7,rfl,rfl,(by kernel_rfl)⟩
theorem sc8:FnScope d8.N d8.ps (defScope d8.st):=⟨rfl,rfl,rfl,by decide +kernel,rfl,by decide +kernel,by decide +kernel⟩
theorem ok8:DfOk (glOf 0 ds ++ cs) d8:=⟨sc8,rfl,rfl,(by kernel_rfl)⟩
theorem sc9:FnScope d9.N d9.ps (defScope d9.st):=⟨rfl,rfl,rfl,by decide +kernel,rfl,by decide +kernel,by decide +kernel⟩
theorem ok9:DfOk (glOf 0 ds ++ cs) d9:=⟨sc9,rfl,rfl,(by kernel_rfl)⟩
theorem sc10:FnScope d10.N d10.ps (defScope d10.st):=⟨rfl,rfl,rfl,by decide +kernel,rfl,by decide +kernel,by decide +kernel⟩
theorem ok10:DfOk (glOf 0 ds ++ cs) d10:=⟨sc10,rfl,rfl,(by kernel_rfl)⟩
theorem sc11:FnScope d11.N d11.ps (defScope d11.st):=⟨rfl,rfl,rfl,by decide +kernel,rfl,by decide +kernel,by decide +kernel⟩
theorem ok11:DfOk (glOf 0 ds ++ cs) d11:=⟨sc11,rfl,rfl,(by kernel_rfl)⟩
theorem sc12:FnScope d12.N d12.ps (defScope d12.st):=⟨rfl,rfl,rfl,by decide +kernel,rfl,by decide +kernel,by decide +kernel⟩
theorem ok12:DfOk (glOf 0 ds ++ cs) d12:=⟨sc12,rfl,rfl,(by kernel_rfl)⟩
theorem sc13:FnScope d13.N d13.ps (defScope d13.st):=⟨rfl,rfl,rfl,by decide +kernel,rfl,by decide +kernel,by decide +kernel⟩
theorem ok13:DfOk (glOf 0 ds ++ cs) d13:=⟨sc13,rfl,rfl,(by kernel_rfl)⟩
theorem sc14:FnScope d14.N d14.ps (defScope d14.st):=⟨rfl,rfl,rfl,by decide +kernel,rfl,by decide +kernel,by decide +kernel⟩
theorem ok14:DfOk (glOf 0 ds ++ cs) d14:=⟨sc14,rfl,rfl,(by kernel_rfl)⟩
theorem sc15:FnScope d15.N d15.ps (defScope d15.st):=⟨rfl,rfl,rfl,by decide +kernel,rfl,by decide +kernel,by decide +kernel⟩
theorem ok15:DfOk (glOf 0 ds ++ cs) d15:=⟨sc15,rfl,rfl,(by kernel_rfl)⟩
theorem sc16:FnScope d16.N d16.ps (defScope d16.st):=⟨rfl,rfl,rfl,by decide +kernel,rfl,by decide +kernel,by decide +kernel⟩
theorem ok16:DfOk (glOf 0 ds ++ cs) d16:=⟨sc16,rfl,rfl,(by kernel_rfl)⟩
theorem sc17:FnScope d17.N d17.ps (defScope d17.st):=⟨rfl,rfl,rfl,by decide +kernel,rfl,by decide +kernel,by decide +kernel⟩
theorem ok17:DfOk (glOf 0 ds ++ cs) d17:=⟨sc17,rfl,rfl,(by kernel_rfl)⟩
theorem sc18:FnScope d18.N d18.ps (defScope d18.st):=⟨rfl,rfl,rfl,by decide +kernel,rfl,by decide +kernel,by decide +kernel⟩
theorem ok18:DfOk (glOf 0 ds ++ cs) d18:=⟨sc18,rfl,rfl,(by kernel_rfl)⟩
theorem sc19:FnScope d19.N d19.ps (defScope d19.st):=⟨rfl,rfl,rfl,by decide +kernel,rfl,by decide +kernel,by decide +kernel⟩
theorem ok19:DfOk (glOf 0 ds ++ cs) d19:=⟨sc19,rfl,rfl,(by kernel_rfl)⟩
theorem sc20:FnScope d20.N d20.ps (defScope d20.st):=⟨rfl,rfl,rfl,by decide +kernel,rfl,by decide +kernel,by decide +kernel⟩
theorem ok20:DfOk (glOf 0 ds ++ cs) d20:=⟨sc20,rfl,rfl,(by kernel_rfl)⟩
theorem sc21:FnScope d21.N d21.ps (defScope d21.st):=⟨rfl,rfl,rfl,by decide +kernel,rfl,by decide +kernel,by decide +kernel⟩
theorem ok21:DfOk (glOf 0 ds ++ cs) d21:=⟨sc21,rfl,rfl,(by kernel_rfl)⟩
theorem sc22:FnScope d22.N d22.ps (defScope d22.st):=⟨rfl,rfl,rfl,by decide +kernel,rfl,by decide +kernel,by decide +kernel⟩
theorem ok22:DfOk (glOf 0 ds ++ cs) d22:=⟨sc22,rfl,rfl,(by kernel_rfl)⟩
theorem sc23:FnScope d23.N d23.ps (defScope d23.st):=⟨rfl,rfl,rfl,by decide +kernel,rfl,by decide +kernel,by decide +kernel⟩
theorem ok23:DfOk (glOf 0 ds ++ cs) d23:=⟨sc23,rfl,rfl,(by kernel_rfl)⟩
theorem sc24:FnScope d24.N d24.ps (defScope d24.st):=⟨rfl,rfl,rfl,by decide +kernel,rfl,by decide +kernel,by decide +kernel⟩
theorem ok24:DfOk (glOf 0 ds ++ cs) d24:=⟨sc24,rfl,rfl,(by kernel_rfl)⟩
theorem sc25:FnScope d25.N d25.ps (defScope d25.st):=⟨rfl,rfl,rfl,by decide +kernel,rfl,by decide +kernel,by decide +kernel⟩
theorem ok25:DfOk (glOf 0 ds ++ cs) d25:=⟨sc25,rfl,rfl,(by kernel_rfl)⟩
theorem sc26:FnScope d26.N d26.ps (defScope d26.st):=⟨rfl,rfl,rfl,by decide +kernel,rfl,by decide +kernel,by decide +kernel⟩
theorem ok26:DfOk (glOf 0 ds ++ cs) d26:=⟨sc26,rfl,rfl,(by kernel_rfl)⟩
theorem oks:∀ d ∈ ds,DfOk (glOf 0 ds ++ cs) d:=by
 intro d hd
 simp only [ds,List.mem_cons,List.not_mem_nil,or_false] at hd
 rcases hd with rfl | rfl | rfl | rfl | rfl | rfl | rfl | rfl | rfl | rfl | rfl | rfl | rfl | rfl | rfl | rfl | rfl | rfl | rfl | rfl | rfl | rfl | rfl | rfl | rfl | rfl | rfl
 ·exact ok0
 ·exact ok1
 ·exact ok2
 ·exact ok3
 ·exact ok4
 ·exact ok5
 ·exact ok6
 ·exact ok7
 ·exact ok8
 ·exact ok9
 ·exact ok10
 ·exact ok11
 ·exact ok12
 ·exact ok13
 ·exact ok14
 ·exact ok15
 ·exact ok16
 ·exact ok17
 ·exact ok18
 ·exact ok19
 ·exact ok20
 ·exact ok21
 ·exact ok22
 ·exact ok23
 ·exact ok24
 ·exact ok25
 ·exact ok26
theorem b0:BindP d0:=bindP2 rfl fun _ _ _ _ _ _ _ _ =>rfl
theorem b1:BindP d1:=bindP2 rfl fun _ _ _ _ _ _ _ _ =>rfl
theorem b2:BindP d2:=bindP2 rfl fun _ _ _ _ _ _ _ _ =>rfl
theorem b3:BindP d3:=bindP2 rfl fun _ _ _ _ _ _ _ _ =>rfl
theorem b4:BindP d4:=bindP1 rfl fun _ _ _ _ _ _ _ =>rfl
theorem b5:BindP d5:=bindP2 rfl fun _ _ _ _ _ _ _ _ =>rfl
theorem b6:BindP d6:=bindP1 rfl fun _ _ _ _ _ _ _ =>rfl
theorem b7:BindP d7:=bindP2 rfl fun _ _ _ _ _ _ _ _ =>rfl
theorem b8:BindP d8:=bindP1 rfl fun _ _ _ _ _ _ _ =>rfl
theorem b9:BindP d9:=bindP1 rfl fun _ _ _ _ _ _ _ =>rfl
theorem b10:BindP d10:=bindP2 rfl fun _ _ _ _ _ _ _ _ =>rfl
theorem b11:BindP d11:=bindP2 rfl fun _ _ _ _ _ _ _ _ =>rfl
theorem b12:BindP d12:=bindP1 rfl fun _ _ _ _ _ _ _ =>rfl
theorem b13:BindP d13:=bindP3 rfl fun _ _ _ _ _ _ _ _ _ =>rfl
theorem b14:BindP d14:=bindP3 rfl fun _ _ _ _ _ _ _ _ _ =>rfl
theorem b15:BindP d15:=bindP4 rfl fun _ _ _ _ _ _ _ _ _ _ =>rfl
theorem b16:BindP d16:=bindP4 rfl fun _ _ _ _ _ _ _ _ _ _ =>rfl
theorem b17:BindP d17:=bindP4 rfl fun _ _ _ _ _ _ _ _ _ _ =>rfl
theorem b18:BindP d18:=bindP2 rfl fun _ _ _ _ _ _ _ _ =>rfl
theorem b19:BindP d19:=bindP2 rfl fun _ _ _ _ _ _ _ _ =>rfl
theorem b20:BindP d20:=bindP2 rfl fun _ _ _ _ _ _ _ _ =>rfl
theorem b21:BindP d21:=bindP2 rfl fun _ _ _ _ _ _ _ _ =>rfl
theorem b22:BindP d22:=bindP2 rfl fun _ _ _ _ _ _ _ _ =>rfl
theorem b23:BindP d23:=bindP1 rfl fun _ _ _ _ _ _ _ =>rfl
theorem b24:BindP d24:=bindP1 rfl fun _ _ _ _ _ _ _ =>rfl
theorem b25:BindP d25:=bindP4 rfl fun _ _ _ _ _ _ _ _ _ _ =>rfl
theorem b26:BindP d26:=bindP1 rfl fun _ _ _ _ _ _ _ =>rfl
theorem all_mk {lw:PySem.W.OpenLaw} {w:World} {K:PySem.W.Frag} {h:Heap} {mg:Str → Option Value} {fa:Addr} (X:K.In h) (G:h.Ns mainGlobals mg) (hfa:mg "law" = some (.ref fa))
 {a0:Addr} {od0 an0:Option Addr} {sl0:Array (Option Value)} {oc0 kV0 dc0 pm0 cd0 ct0:Value}
 {a1:Addr} {od1 an1:Option Addr} {sl1:Array (Option Value)} {oc1 kV1 dc1 pm1 cd1 ct1:Value}
 {a2:Addr} {od2 an2:Option Addr} {sl2:Array (Option Value)} {oc2 kV2 dc2 pm2 cd2 ct2:Value}
 {a3:Addr} {od3 an3:Option Addr} {sl3:Array (Option Value)} {oc3 kV3 dc3 pm3 cd3 ct3:Value}
 {a4:Addr} {od4 an4:Option Addr} {sl4:Array (Option Value)} {oc4 kV4 dc4 pm4 cd4 ct4:Value}
 {a5:Addr} {od5 an5:Option Addr} {sl5:Array (Option Value)} {oc5 kV5 dc5 pm5 cd5 ct5:Value}
 {a6:Addr} {od6 an6:Option Addr} {sl6:Array (Option Value)} {oc6 kV6 dc6 pm6 cd6 ct6:Value}
 {a7:Addr} {od7 an7:Option Addr} {sl7:Array (Option Value)} {oc7 kV7 dc7 pm7 cd7 ct7:Value}
 {a8:Addr} {od8 an8:Option Addr} {sl8:Array (Option Value)} {oc8 kV8 dc8 pm8 cd8 ct8:Value}
 {a9:Addr} {od9 an9:Option Addr} {sl9:Array (Option Value)} {oc9 kV9 dc9 pm9 cd9 ct9:Value}
 {a10:Addr} {od10 an10:Option Addr} {sl10:Array (Option Value)} {oc10 kV10 dc10 pm10 cd10 ct10:Value}
 {a11:Addr} {od11 an11:Option Addr} {sl11:Array (Option Value)} {oc11 kV11 dc11 pm11 cd11 ct11:Value}
 {a12:Addr} {od12 an12:Option Addr} {sl12:Array (Option Value)} {oc12 kV12 dc12 pm12 cd12 ct12:Value}
 {a13:Addr} {od13 an13:Option Addr} {sl13:Array (Option Value)} {oc13 kV13 dc13 pm13 cd13 ct13:Value}
 {a14:Addr} {od14 an14:Option Addr} {sl14:Array (Option Value)} {oc14 kV14 dc14 pm14 cd14 ct14:Value}
 {a15:Addr} {od15 an15:Option Addr} {sl15:Array (Option Value)} {oc15 kV15 dc15 pm15 cd15 ct15:Value}
 {a16:Addr} {od16 an16:Option Addr} {sl16:Array (Option Value)} {oc16 kV16 dc16 pm16 cd16 ct16:Value}
 {a17:Addr} {od17 an17:Option Addr} {sl17:Array (Option Value)} {oc17 kV17 dc17 pm17 cd17 ct17:Value}
 {a18:Addr} {od18 an18:Option Addr} {sl18:Array (Option Value)} {oc18 kV18 dc18 pm18 cd18 ct18:Value}
 {a19:Addr} {od19 an19:Option Addr} {sl19:Array (Option Value)} {oc19 kV19 dc19 pm19 cd19 ct19:Value}
 {a20:Addr} {od20 an20:Option Addr} {sl20:Array (Option Value)} {oc20 kV20 dc20 pm20 cd20 ct20:Value}
 {a21:Addr} {od21 an21:Option Addr} {sl21:Array (Option Value)} {oc21 kV21 dc21 pm21 cd21 ct21:Value}
 {a22:Addr} {od22 an22:Option Addr} {sl22:Array (Option Value)} {oc22 kV22 dc22 pm22 cd22 ct22:Value}
 {a23:Addr} {od23 an23:Option Addr} {sl23:Array (Option Value)} {oc23 kV23 dc23 pm23 cd23 ct23:Value}
 {a24:Addr} {od24 an24:Option Addr} {sl24:Array (Option Value)} {oc24 kV24 dc24 pm24 cd24 ct24:Value}
 {a25:Addr} {od25 an25:Option Addr} {sl25:Array (Option Value)} {oc25 kV25 dc25 pm25 cd25 ct25:Value}
 {a26:Addr} {od26 an26:Option Addr} {sl26:Array (Option Value)} {oc26 kV26 dc26 pm26 cd26 ct26:Value}
 {a_TURNED e_TURNED:Nat} {t_TURNED_0 u_TURNED_0:Tok} {t_TURNED_1 u_TURNED_1:Tok} {t_TURNED_2 u_TURNED_2:Tok} {t_TURNED_3 u_TURNED_3:Tok}
 (n0:PySem.W.nsIn K mainGlobals "sum_of" = some (some (.ref a0))) (l0:K.lookup a0 = some ⟨oc0,od0,.func (PySem.W.fnOf "sum_of" "sum_of" (defArgs (top 1)) (defBody (top 1)) (defScope (top 1)) .none kV0 dc0 pm0 an0 cd0 ct0),sl0⟩) (c0:PySem.W.codeIn K cd0 "sum_of" = true) (k0:PySem.W.keepIn K (.ref a0) = true)
 (n1:PySem.W.nsIn K mainGlobals "plus" = some (some (.ref a1))) (l1:K.lookup a1 = some ⟨oc1,od1,.func (PySem.W.fnOf "plus" "plus" (defArgs (top 2)) (defBody (top 2)) (defScope (top 2)) .none kV1 dc1 pm1 an1 cd1 ct1),sl1⟩) (c1:PySem.W.codeIn K cd1 "plus" = true) (k1:PySem.W.keepIn K (.ref a1) = true)
 (n2:PySem.W.nsIn K mainGlobals "times" = some (some (.ref a2))) (l2:K.lookup a2 = some ⟨oc2,od2,.func (PySem.W.fnOf "times" "times" (defArgs (top 3)) (defBody (top 3)) (defScope (top 3)) .none kV2 dc2 pm2 an2 cd2 ct2),sl2⟩) (c2:PySem.W.codeIn K cd2 "times" = true) (k2:PySem.W.keepIn K (.ref a2) = true)
 (n3:PySem.W.nsIn K mainGlobals "pushed" = some (some (.ref a3))) (l3:K.lookup a3 = some ⟨oc3,od3,.func (PySem.W.fnOf "pushed" "pushed" (defArgs (top 6)) (defBody (top 6)) (defScope (top 6)) .none kV3 dc3 pm3 an3 cd3 ct3),sl3⟩) (c3:PySem.W.codeIn K cd3 "pushed" = true) (k3:PySem.W.keepIn K (.ref a3) = true)
 (n4:PySem.W.nsIn K mainGlobals "inward" = some (some (.ref a4))) (l4:K.lookup a4 = some ⟨oc4,od4,.func (PySem.W.fnOf "inward" "inward" (defArgs (top 7)) (defBody (top 7)) (defScope (top 7)) .none kV4 dc4 pm4 an4 cd4 ct4),sl4⟩) (c4:PySem.W.codeIn K cd4 "inward" = true) (k4:PySem.W.keepIn K (.ref a4) = true)
 (n5:PySem.W.nsIn K mainGlobals "_law_cell_at" = some (some (.ref a5))) (l5:K.lookup a5 = some ⟨oc5,od5,.func (PySem.W.fnOf "_law_cell_at" "_law_cell_at" (defArgs (top 9)) (defBody (top 9)) (defScope (top 9)) .none kV5 dc5 pm5 an5 cd5 ct5),sl5⟩) (c5:PySem.W.codeIn K cd5 "_law_cell_at" = true) (k5:PySem.W.keepIn K (.ref a5) = true)
 (n6:PySem.W.nsIn K mainGlobals "_law_whole" = some (some (.ref a6))) (l6:K.lookup a6 = some ⟨oc6,od6,.func (PySem.W.fnOf "_law_whole" "_law_whole" (defArgs (top 10)) (defBody (top 10)) (defScope (top 10)) .none kV6 dc6 pm6 an6 cd6 ct6),sl6⟩) (c6:PySem.W.codeIn K cd6 "_law_whole" = true) (k6:PySem.W.keepIn K (.ref a6) = true)
 (n7:PySem.W.nsIn K mainGlobals "_law_same" = some (some (.ref a7))) (l7:K.lookup a7 = some ⟨oc7,od7,.func (PySem.W.fnOf "_law_same" "_law_same" (defArgs (top 11)) (defBody (top 11)) (defScope (top 11)) .none kV7 dc7 pm7 an7 cd7 ct7),sl7⟩) (c7:PySem.W.codeIn K cd7 "_law_same" = true) (k7:PySem.W.keepIn K (.ref a7) = true)
 (n8:PySem.W.nsIn K mainGlobals "_law_names" = some (some (.ref a8))) (l8:K.lookup a8 = some ⟨oc8,od8,.func (PySem.W.fnOf "_law_names" "_law_names" (defArgs (top 12)) (defBody (top 12)) (defScope (top 12)) .none kV8 dc8 pm8 an8 cd8 ct8),sl8⟩) (c8:PySem.W.codeIn K cd8 "_law_names" = true) (k8:PySem.W.keepIn K (.ref a8) = true)
 (n9:PySem.W.nsIn K mainGlobals "_law_number" = some (some (.ref a9))) (l9:K.lookup a9 = some ⟨oc9,od9,.func (PySem.W.fnOf "_law_number" "_law_number" (defArgs (top 13)) (defBody (top 13)) (defScope (top 13)) .none kV9 dc9 pm9 an9 cd9 ct9),sl9⟩) (c9:PySem.W.codeIn K cd9 "_law_number" = true) (k9:PySem.W.keepIn K (.ref a9) = true)
 (n10:PySem.W.nsIn K mainGlobals "_law_point" = some (some (.ref a10))) (l10:K.lookup a10 = some ⟨oc10,od10,.func (PySem.W.fnOf "_law_point" "_law_point" (defArgs (top 14)) (defBody (top 14)) (defScope (top 14)) .none kV10 dc10 pm10 an10 cd10 ct10),sl10⟩) (c10:PySem.W.codeIn K cd10 "_law_point" = true) (k10:PySem.W.keepIn K (.ref a10) = true)
 (n11:PySem.W.nsIn K mainGlobals "_law_many" = some (some (.ref a11))) (l11:K.lookup a11 = some ⟨oc11,od11,.func (PySem.W.fnOf "_law_many" "_law_many" (defArgs (top 15)) (defBody (top 15)) (defScope (top 15)) .none kV11 dc11 pm11 an11 cd11 ct11),sl11⟩) (c11:PySem.W.codeIn K cd11 "_law_many" = true) (k11:PySem.W.keepIn K (.ref a11) = true)
 (n12:PySem.W.nsIn K mainGlobals "_law_near" = some (some (.ref a12))) (l12:K.lookup a12 = some ⟨oc12,od12,.func (PySem.W.fnOf "_law_near" "_law_near" (defArgs (top 16)) (defBody (top 16)) (defScope (top 16)) .none kV12 dc12 pm12 an12 cd12 ct12),sl12⟩) (c12:PySem.W.codeIn K cd12 "_law_near" = true) (k12:PySem.W.keepIn K (.ref a12) = true)
 (n13:PySem.W.nsIn K mainGlobals "_law_sum" = some (some (.ref a13))) (l13:K.lookup a13 = some ⟨oc13,od13,.func (PySem.W.fnOf "_law_sum" "_law_sum" (defArgs (top 17)) (defBody (top 17)) (defScope (top 17)) .none kV13 dc13 pm13 an13 cd13 ct13),sl13⟩) (c13:PySem.W.codeIn K cd13 "_law_sum" = true) (k13:PySem.W.keepIn K (.ref a13) = true)
 (n14:PySem.W.nsIn K mainGlobals "_law_atom" = some (some (.ref a14))) (l14:K.lookup a14 = some ⟨oc14,od14,.func (PySem.W.fnOf "_law_atom" "_law_atom" (defArgs (top 18)) (defBody (top 18)) (defScope (top 18)) .none kV14 dc14 pm14 an14 cd14 ct14),sl14⟩) (c14:PySem.W.codeIn K cd14 "_law_atom" = true) (k14:PySem.W.keepIn K (.ref a14) = true)
 (n15:PySem.W.nsIn K mainGlobals "_law_grouped" = some (some (.ref a15))) (l15:K.lookup a15 = some ⟨oc15,od15,.func (PySem.W.fnOf "_law_grouped" "_law_grouped" (defArgs (top 19)) (defBody (top 19)) (defScope (top 19)) .none kV15 dc15 pm15 an15 cd15 ct15),sl15⟩) (c15:PySem.W.codeIn K cd15 "_law_grouped" = true) (k15:PySem.W.keepIn K (.ref a15) = true)
 (n16:PySem.W.nsIn K mainGlobals "_law_step" = some (some (.ref a16))) (l16:K.lookup a16 = some ⟨oc16,od16,.func (PySem.W.fnOf "_law_step" "_law_step" (defArgs (top 20)) (defBody (top 20)) (defScope (top 20)) .none kV16 dc16 pm16 an16 cd16 ct16),sl16⟩) (c16:PySem.W.codeIn K cd16 "_law_step" = true) (k16:PySem.W.keepIn K (.ref a16) = true)
 (n17:PySem.W.nsIn K mainGlobals "_law_tree" = some (some (.ref a17))) (l17:K.lookup a17 = some ⟨oc17,od17,.func (PySem.W.fnOf "_law_tree" "_law_tree" (defArgs (top 21)) (defBody (top 21)) (defScope (top 21)) .none kV17 dc17 pm17 an17 cd17 ct17),sl17⟩) (c17:PySem.W.codeIn K cd17 "_law_tree" = true) (k17:PySem.W.keepIn K (.ref a17) = true)
 (n18:PySem.W.nsIn K mainGlobals "_law_rows" = some (some (.ref a18))) (l18:K.lookup a18 = some ⟨oc18,od18,.func (PySem.W.fnOf "_law_rows" "_law_rows" (defArgs (top 22)) (defBody (top 22)) (defScope (top 22)) .none kV18 dc18 pm18 an18 cd18 ct18),sl18⟩) (c18:PySem.W.codeIn K cd18 "_law_rows" = true) (k18:PySem.W.keepIn K (.ref a18) = true)
 (n19:PySem.W.nsIn K mainGlobals "_law_value" = some (some (.ref a19))) (l19:K.lookup a19 = some ⟨oc19,od19,.func (PySem.W.fnOf "_law_value" "_law_value" (defArgs (top 23)) (defBody (top 23)) (defScope (top 23)) .none kV19 dc19 pm19 an19 cd19 ct19),sl19⟩) (c19:PySem.W.codeIn K cd19 "_law_value" = true) (k19:PySem.W.keepIn K (.ref a19) = true)
 (n20:PySem.W.nsIn K mainGlobals "_law_worth" = some (some (.ref a20))) (l20:K.lookup a20 = some ⟨oc20,od20,.func (PySem.W.fnOf "_law_worth" "_law_worth" (defArgs (top 24)) (defBody (top 24)) (defScope (top 24)) .none kV20 dc20 pm20 an20 cd20 ct20),sl20⟩) (c20:PySem.W.codeIn K cd20 "_law_worth" = true) (k20:PySem.W.keepIn K (.ref a20) = true)
 (n21:PySem.W.nsIn K mainGlobals "_law_sum_form" = some (some (.ref a21))) (l21:K.lookup a21 = some ⟨oc21,od21,.func (PySem.W.fnOf "_law_sum_form" "_law_sum_form" (defArgs (top 25)) (defBody (top 25)) (defScope (top 25)) .none kV21 dc21 pm21 an21 cd21 ct21),sl21⟩) (c21:PySem.W.codeIn K cd21 "_law_sum_form" = true) (k21:PySem.W.keepIn K (.ref a21) = true)
 (n22:PySem.W.nsIn K mainGlobals "_law_form" = some (some (.ref a22))) (l22:K.lookup a22 = some ⟨oc22,od22,.func (PySem.W.fnOf "_law_form" "_law_form" (defArgs (top 26)) (defBody (top 26)) (defScope (top 26)) .none kV22 dc22 pm22 an22 cd22 ct22),sl22⟩) (c22:PySem.W.codeIn K cd22 "_law_form" = true) (k22:PySem.W.keepIn K (.ref a22) = true)
 (n23:PySem.W.nsIn K mainGlobals "_law_count" = some (some (.ref a23))) (l23:K.lookup a23 = some ⟨oc23,od23,.func (PySem.W.fnOf "_law_count" "_law_count" (defArgs (top 27)) (defBody (top 27)) (defScope (top 27)) .none kV23 dc23 pm23 an23 cd23 ct23),sl23⟩) (c23:PySem.W.codeIn K cd23 "_law_count" = true) (k23:PySem.W.keepIn K (.ref a23) = true)
 (n24:PySem.W.nsIn K mainGlobals "_law_low_nots" = some (some (.ref a24))) (l24:K.lookup a24 = some ⟨oc24,od24,.func (PySem.W.fnOf "_law_low_nots" "_law_low_nots" (defArgs (top 28)) (defBody (top 28)) (defScope (top 28)) .none kV24 dc24 pm24 an24 cd24 ct24),sl24⟩) (c24:PySem.W.codeIn K cd24 "_law_low_nots" = true) (k24:PySem.W.keepIn K (.ref a24) = true)
 (n25:PySem.W.nsIn K mainGlobals "_law_kept" = some (some (.ref a25))) (l25:K.lookup a25 = some ⟨oc25,od25,.func (PySem.W.fnOf "_law_kept" "_law_kept" (defArgs (top 29)) (defBody (top 29)) (defScope (top 29)) .none kV25 dc25 pm25 an25 cd25 ct25),sl25⟩) (c25:PySem.W.codeIn K cd25 "_law_kept" = true) (k25:PySem.W.keepIn K (.ref a25) = true)
 (n26:PySem.W.nsIn K mainGlobals "law" = some (some (.ref a26))) (l26:K.lookup a26 = some ⟨oc26,od26,.func (PySem.W.fnOf "law" "law" (defArgs (top 30)) (defBody (top 30)) (defScope (top 30)) .none kV26 dc26 pm26 an26 cd26 ct26),sl26⟩) (c26:PySem.W.codeIn K cd26 "law" = true) (k26:PySem.W.keepIn K (.ref a26) = true)
 (n_TURNED:PySem.W.nsIn K mainGlobals "TURNED" = some (some (.ref a_TURNED))) (l_TURNED:K.lookup a_TURNED = some { cls:=.type "dict",data:=.dict #[⟨PyData.keyHash w.params "and",.str "and" t_TURNED_0,.str "or" u_TURNED_0⟩,⟨PyData.keyHash w.params "or",.str "or" t_TURNED_1,.str "and" u_TURNED_1⟩,⟨PyData.keyHash w.params "some",.str "some" t_TURNED_2,.str "all" u_TURNED_2⟩,⟨PyData.keyHash w.params "all",.str "all" t_TURNED_3,.str "some" u_TURNED_3⟩] e_TURNED })
 (z0:PySem.W.nsIn K mainGlobals "abs" = some none)
 (z1:PySem.W.nsIn K mainGlobals "len" = some none)
 (z2:PySem.W.nsIn K mainGlobals "isinstance" = some none)
 (z3:PySem.W.nsIn K mainGlobals "int" = some none)
 (z4:PySem.W.nsIn K mainGlobals "bool" = some none)
 (z5:PySem.W.nsIn K mainGlobals "str" = some none)
 (z6:PySem.W.nsIn K mainGlobals "tuple" = some none)
 (z7:PySem.W.nsIn K mainGlobals "list" = some none)
 (z8:PySem.W.nsIn K mainGlobals "dict" = some none)
 (z9:PySem.W.nsIn K mainGlobals "all" = some none)
 (z10:PySem.W.nsIn K mainGlobals "any" = some none)
 (z11:PySem.W.nsIn K mainGlobals "sorted" = some none)
 (z12:PySem.W.nsIn K mainGlobals "range" = some none)
 (z13:PySem.W.nsIn K mainGlobals "max" = some none)
 (z14:PySem.W.nsIn K mainGlobals "zip" = some none)
 (z15:PySem.W.nsIn K mainGlobals "enumerate" = some none)
 (z16:PySem.W.nsIn K mainGlobals "sum" = some none)
 : ∃ (fd:FuncData) (CT:Nat → Addr),(∀ (s:Shared) (u:Value),BindsTo s fd ⟨[u],[]⟩ [("_law_script",u)]) ∧ ∀ (base:Heap) (w0:Nat),FnOk lw.prog w K mg base CX0 (44 + 1) fa fd ["_law_script"] (spFn ⟨K,CT⟩ ((orc prg w0 (44 + 1)).fn 26) 1):=by
 have e:=hfa.symm.trans (PySem.W.mg_of X G n26)
 cases e
 have t0:DfAt K mg d0:=df_mk (d:=d0) X G n0 l0 c0 k0 b0
 have t1:DfAt K mg d1:=df_mk (d:=d1) X G n1 l1 c1 k1 b1
 have t2:DfAt K mg d2:=df_mk (d:=d2) X G n2 l2 c2 k2 b2
 have t3:DfAt K mg d3:=df_mk (d:=d3) X G n3 l3 c3 k3 b3
 have t4:DfAt K mg d4:=df_mk (d:=d4) X G n4 l4 c4 k4 b4
 have t5:DfAt K mg d5:=df_mk (d:=d5) X G n5 l5 c5 k5 b5
 have t6:DfAt K mg d6:=df_mk (d:=d6) X G n6 l6 c6 k6 b6
 have t7:DfAt K mg d7:=df_mk (d:=d7) X G n7 l7 c7 k7 b7
 have t8:DfAt K mg d8:=df_mk (d:=d8) X G n8 l8 c8 k8 b8
 have t9:DfAt K mg d9:=df_mk (d:=d9) X G n9 l9 c9 k9 b9
 have t10:DfAt K mg d10:=df_mk (d:=d10) X G n10 l10 c10 k10 b10
 have t11:DfAt K mg d11:=df_mk (d:=d11) X G n11 l11 c11 k11 b11
 have t12:DfAt K mg d12:=df_mk (d:=d12) X G n12 l12 c12 k12 b12
 have t13:DfAt K mg d13:=df_mk (d:=d13) X G n13 l13 c13 k13 b13
 have t14:DfAt K mg d14:=df_mk (d:=d14) X G n14 l14 c14 k14 b14
 have t15:DfAt K mg d15:=df_mk (d:=d15) X G n15 l15 c15 k15 b15
 have t16:DfAt K mg d16:=df_mk (d:=d16) X G n16 l16 c16 k16 b16
 have t17:DfAt K mg d17:=df_mk (d:=d17) X G n17 l17 c17 k17 b17
 have t18:DfAt K mg d18:=df_mk (d:=d18) X G n18 l18 c18 k18 b18
 have t19:DfAt K mg d19:=df_mk (d:=d19) X G n19 l19 c19 k19 b19
 have t20:DfAt K mg d20:=df_mk (d:=d20) X G n20 l20 c20 k20 b20
 have t21:DfAt K mg d21:=df_mk (d:=d21) X G n21 l21 c21 k21 b21
 have t22:DfAt K mg d22:=df_mk (d:=d22) X G n22 l22 c22 k22 b22
 have t23:DfAt K mg d23:=df_mk (d:=d23) X G n23 l23 c23 k23 b23
 have t24:DfAt K mg d24:=df_mk (d:=d24) X G n24 l24 c24 k24 b24
 have t25:DfAt K mg d25:=df_mk (d:=d25) X G n25 l25 c25 k25 b25
 have t26:DfAt K mg d26:=df_mk (d:=d26) X G n26 l26 c26 k26 b26
 have hat:∀ d ∈ ds,DfAt K mg d:=by
  intro d hd
  simp only [ds,List.mem_cons,List.not_mem_nil,or_false] at hd
  rcases hd with rfl | rfl | rfl | rfl | rfl | rfl | rfl | rfl | rfl | rfl | rfl | rfl | rfl | rfl | rfl | rfl | rfl | rfl | rfl | rfl | rfl | rfl | rfl | rfl | rfl | rfl | rfl
  ·exact t0
  ·exact t1
  ·exact t2
  ·exact t3
  ·exact t4
  ·exact t5
  ·exact t6
  ·exact t7
  ·exact t8
  ·exact t9
  ·exact t10
  ·exact t11
  ·exact t12
  ·exact t13
  ·exact t14
  ·exact t15
  ·exact t16
  ·exact t17
  ·exact t18
  ·exact t19
  ·exact t20
  ·exact t21
  ·exact t22
  ·exact t23
  ·exact t24
  ·exact t25
  ·exact t26
 have hgb:∀ x ∈ bltNames,(glOf 0 ds ++ cs).lookup x = none → mg x = none:=by
  intro x hx _
  simp only [bltNames,List.mem_cons,List.not_mem_nil,or_false] at hx
  rcases hx with rfl | rfl | rfl | rfl | rfl | rfl | rfl | rfl | rfl | rfl | rfl | rfl | rfl | rfl | rfl | rfl | rfl
  ·exact PySem.W.mg_none_of X G z0
  ·exact PySem.W.mg_none_of X G z1
  ·exact PySem.W.mg_none_of X G z2
  ·exact PySem.W.mg_none_of X G z3
  ·exact PySem.W.mg_none_of X G z4
  ·exact PySem.W.mg_none_of X G z5
  ·exact PySem.W.mg_none_of X G z6
  ·exact PySem.W.mg_none_of X G z7
  ·exact PySem.W.mg_none_of X G z8
  ·exact PySem.W.mg_none_of X G z9
  ·exact PySem.W.mg_none_of X G z10
  ·exact PySem.W.mg_none_of X G z11
  ·exact PySem.W.mg_none_of X G z12
  ·exact PySem.W.mg_none_of X G z13
  ·exact PySem.W.mg_none_of X G z14
  ·exact PySem.W.mg_none_of X G z15
  ·exact PySem.W.mg_none_of X G z16
 have hcs:∀ q ∈ cs,CsOk lw.prog w ⟨K,fun _ =>0⟩ mg q:=by
  intro q hq
  simp only [cs,List.mem_cons,List.not_mem_nil,or_false] at hq
  rcases hq with rfl
  ·exact ⟨fun d e =>(by cases e),fun ks vs e =>(by cases e; exact ⟨a_TURNED,PySem.W.mg_of X G n_TURNED,dct_k (P:=lw.prog) (w:=w) (W:=⟨K,fun _ =>0⟩) (qs:=[([97,110,100],t_TURNED_0,[111,114],u_TURNED_0),([111,114],t_TURNED_1,[97,110,100],u_TURNED_1),([115,111,109,101],t_TURNED_2,[97,108,108],u_TURNED_2),([97,108,108],t_TURNED_3,[115,111,109,101],u_TURNED_3)]) l_TURNED (by kernel_rfl) (show ([[97,110,100],[111,114],[115,111,109,101],[97,108,108]]:List (List Nat)).Nodup from by decide) (by simp)⟩)⟩
 obtain ⟨hgv,hgd⟩:=cs_all (ds:=ds) hcs
 have hno:NoFn cs:=by
  intro q hq i np
  simp only [cs,List.mem_cons,List.not_mem_nil,or_false] at hq
  rcases hq with rfl <;> simp
 refine ⟨PySem.W.fnOf "law" "law" (defArgs (top 30)) (defBody (top 30)) (defScope (top 30)) .none kV26 dc26 pm26 an26 cd26 ct26,fun _ =>0,fun s v =>.of_eq rfl,fun base w0 =>?_⟩
 exact fn_step (d:=d26) (i:=26) (n:=44) (W:=⟨K,fun _ =>0⟩) rfl (fun_mk (st:=top 30) l26 c26 k26) ok26 rfl (fns_all (W:=⟨K,fun _ =>0⟩) (p:=prg) (ds:=ds) (cs:=cs) (K:=K) hno rfl rfl oks hat hgb hgv hgd 44) hgb hgv hgd
end K14
open PySem PySem.W PyProof.Rows
namespace K14
open PySem PySem.W L2
noncomputable def ge (P:Params) (x:Str) (t:Tok) (v:Value):DictEntry:=⟨PyData.keyHash P x,.str x t,v⟩
noncomputable def co (a:Addr) (x:Str) (t:Nat) (l n f:Int) (r:Addr) (b:Bool) (r2:Addr) (v1 v2 v3:Value) (r3:Addr) (u:Nat):Addr × Obj:=(a,⟨.type "code",none,.fields #[.str x t,.str x (t + 1),.str "/claim/cut.py" (t + 2),.int l 0,.int n 0,.int 0 0,.int 0 0,.int f 0,.ref r,.bool b,.int 181 0,.ref r2,v1,v2,v3,.ref r3,.int u 0,.int l 0,.str "/claim/cut.py" (u + 1)],#[]⟩)
noncomputable def fo (a:Addr) (x:Str) (i:Nat) (m:Str) (t:Tok) (c:Addr):Addr × Obj:=(a,⟨.type "function",none,.func (fnOf x x (defArgs (top i)) (defBody (top i)) (defScope (top i)) .none .none .none (.str m t) none (.ref c) .none),#[]⟩)
noncomputable def KK:Params → Frag:=fun P =>[(3,⟨.type "dict",none,.dict #[ge P "__name__" 165 (.str "law_sumlaw_k14_pushed_worth" 237),ge P "__doc__" 166 .none,ge P "__package__" 167 .none,ge P "__loader__" 168 (.builtin "__main__.__loader__#opaque"),ge P "__spec__" 169 .none,ge P "__annotations__" 170 (.ref 6),ge P "__builtins__" 171 (.ref 4),ge P "__file__" 173 (.str "/claim/cut.py" 172),ge P "__cached__" 174 .none,ge P "sum_of" 194 (.ref 19),ge P "plus" 202 (.ref 26),ge P "times" 208 (.ref 31),ge P "TURNED" 223 (.ref 32),ge P "pushed" 229 (.ref 37),ge P "inward" 236 (.ref 44),ge P "_law_cell_at" 246 (.ref 51),ge P "_law_whole" 253 (.ref 58),ge P "_law_same" 259 (.ref 63),ge P "_law_names" 265 (.ref 68),ge P "_law_number" 272 (.ref 75),ge P "_law_point" 283 (.ref 82),ge P "_law_many" 291 (.ref 89),ge P "_law_near" 298 (.ref 96),ge P "_law_sum" 313 (.ref 103),ge P "_law_atom" 323 (.ref 110),ge P "_law_grouped" 329 (.ref 115),ge P "_law_step" 340 (.ref 122),ge P "_law_tree" 346 (.ref 127),ge P "_law_rows" 352 (.ref 132),ge P "_law_value" 363 (.ref 139),ge P "_law_worth" 369 (.ref 144),ge P "_law_sum_form" 379 (.ref 151),ge P "_law_form" 385 (.ref 156),ge P "_law_count" 391 (.ref 161),ge P "_law_low_nots" 397 (.ref 166),ge P "_law_kept" 408 (.ref 173),ge P "law" 423 (.ref 180)] 37,#[]⟩),co 18 "sum_of" 189 2 2 3 15 true 16 .none .none .none 17 192,fo 19 "sum_of" 1 "sumlaw.sums" 187 18,co 25 "plus" 195 7 2 3 20 true 21 .none (.ref 22) (.ref 23) 24 200,fo 26 "plus" 2 "sumlaw.sums" 187 25,co 30 "times" 203 9 2 3 27 true 28 .none .none .none 29 206,fo 31 "times" 3 "sumlaw.sums" 187 30,co 36 "pushed" 224 13 2 3 33 true 34 .none .none .none 35 227,fo 37 "pushed" 6 "sumlaw.inward" 209 36,co 43 "inward" 230 25 1 3 38 true 39 .none (.ref 40) (.ref 41) 42 234,fo 44 "inward" 7 "sumlaw.inward" 209 43,co 50 "_law_cell_at" 239 28 2 3 45 true 46 .none (.ref 47) (.ref 48) 49 244,fo 51 "_law_cell_at" 9 "law_sumlaw_k14_pushed_worth" 237 50,co 57 "_law_whole" 247 32 1 3 52 true 53 .none (.ref 54) (.ref 55) 56 251,fo 58 "_law_whole" 10 "law_sumlaw_k14_pushed_worth" 237 57,co 62 "_law_same" 254 34 2 3 59 true 60 .none .none .none 61 257,fo 63 "_law_same" 11 "law_sumlaw_k14_pushed_worth" 237 62,co 67 "_law_names" 260 42 1 3 64 true 65 .none .none .none 66 263,fo 68 "_law_names" 12 "law_sumlaw_k14_pushed_worth" 237 67,co 74 "_law_number" 266 53 1 3 69 true 70 .none (.ref 71) (.ref 72) 73 270,fo 75 "_law_number" 13 "law_sumlaw_k14_pushed_worth" 237 74,co 81 "_law_point" 273 57 2 3 76 true 77 .none (.ref 78) (.ref 79) 80 281,fo 82 "_law_point" 14 "law_sumlaw_k14_pushed_worth" 237 81,co 88 "_law_many" 284 62 2 3 83 true 84 .none (.ref 85) (.ref 86) 87 289,fo 89 "_law_many" 15 "law_sumlaw_k14_pushed_worth" 237 88,co 95 "_law_near" 292 66 1 3 90 true 91 .none (.ref 92) (.ref 93) 94 296,fo 96 "_law_near" 16 "law_sumlaw_k14_pushed_worth" 237 95,co 102 "_law_sum" 299 70 3 3 97 true 98 .none (.ref 99) (.ref 100) 101 311,fo 103 "_law_sum" 17 "law_sumlaw_k14_pushed_worth" 237 102,co 109 "_law_atom" 314 80 3 3 104 true 105 .none (.ref 106) (.ref 107) 108 321,fo 110 "_law_atom" 18 "law_sumlaw_k14_pushed_worth" 237 109,co 114 "_law_grouped" 324 87 4 3 111 true 112 .none .none .none 113 327,fo 115 "_law_grouped" 19 "law_sumlaw_k14_pushed_worth" 237 114,co 121 "_law_step" 330 93 4 3 116 true 117 .none (.ref 118) (.ref 119) 120 338,fo 122 "_law_step" 20 "law_sumlaw_k14_pushed_worth" 237 121,co 126 "_law_tree" 341 102 4 3 123 true 124 .none .none .none 125 344,fo 127 "_law_tree" 21 "law_sumlaw_k14_pushed_worth" 237 126,co 131 "_law_rows" 347 109 2 3 128 true 129 .none .none .none 130 350,fo 132 "_law_rows" 22 "law_sumlaw_k14_pushed_worth" 237 131,co 138 "_law_value" 353 114 2 3 133 true 134 .none (.ref 135) (.ref 136) 137 361,fo 139 "_law_value" 23 "law_sumlaw_k14_pushed_worth" 237 138,co 143 "_law_worth" 364 119 2 3 140 true 141 .none .none .none 142 367,fo 144 "_law_worth" 24 "law_sumlaw_k14_pushed_worth" 237 143,co 150 "_law_sum_form" 370 130 2 3 145 true 146 .none (.ref 147) (.ref 148) 149 377,fo 151 "_law_sum_form" 25 "law_sumlaw_k14_pushed_worth" 237 150,co 155 "_law_form" 380 141 2 3 152 true 153 .none .none .none 154 383,fo 156 "_law_form" 26 "law_sumlaw_k14_pushed_worth" 237 155,co 160 "_law_count" 386 155 1 3 157 true 158 .none .none .none 159 389,fo 161 "_law_count" 27 "law_sumlaw_k14_pushed_worth" 237 160,co 165 "_law_low_nots" 392 161 1 3 162 true 163 .none .none .none 164 395,fo 166 "_law_low_nots" 28 "law_sumlaw_k14_pushed_worth" 237 165,co 172 "_law_kept" 398 167 4 3 167 true 168 .none (.ref 169) (.ref 170) 171 406,fo 173 "_law_kept" 29 "law_sumlaw_k14_pushed_worth" 237 172,co 179 "law" 409 174 1 3 174 true 175 .none (.ref 176) (.ref 177) 178 421,fo 180 "law" 30 "law_sumlaw_k14_pushed_worth" 237 179,(32,⟨.type "dict",none,.dict #[ge P "and" 211 (.str "or" 212),ge P "or" 213 (.str "and" 214),ge P "some" 215 (.str "all" 216),ge P "all" 217 (.str "some" 218)] 4,#[]⟩)]
noncomputable def Kas:List Addr:=[3,18,19,25,26,30,31,36,37,43,44,50,51,57,58,62,63,67,68,74,75,81,82,88,89,95,96,102,103,109,110,114,115,121,122,126,127,131,132,138,139,143,144,150,151,155,156,160,161,165,166,172,173,179,180,32]
noncomputable def Q:Program:={ PySem.Challenge.pw_sumlaw_k14_pushed_worth with main:={ PySem.Challenge.pw_sumlaw_k14_pushed_worth.main with body:=[1,2,3,6,7,8,9,10,11,12,13,14,15,16,17,18,19,20,21,22,23,24,25,26,27,28,29,30].filterMap fun i =>PySem.Challenge.pw_sumlaw_k14_pushed_worth.main.body[i]? } }
theorem Kas_eq:∀ P,Kas = (KK P).map (·.1):=fun P =>by kernel_rfl
noncomputable def HH:Hook:=kHook KK Kas Kas_eq
set_option maxHeartbeats 0 in
theorem left:LeftO PySem.Challenge.rw_sumlaw_k14_pushed_worth.row.prog Q [Str.ofString "TURNED"] (fun s =>xlAt Q [] s && recOk (RowW.records (OpenRow.toRowW PySem.Challenge.rw_sumlaw_k14_pushed_worth.row)) s) (Hook.obs HH) (Hook.val HH) 1896 :=
 fun w =>byRow2 (P:=fun w =>(openEnds treeTable PySem.Challenge.rw_sumlaw_k14_pushed_worth.row.prog w 1896).map (fun s =>(openSeen Q [Str.ofString "TURNED"] (importedModules PySem.Challenge.rw_sumlaw_k14_pushed_worth.row.prog.main.body) (fun s =>xlAt Q [] s && recOk (RowW.records (OpenRow.toRowW PySem.Challenge.rw_sumlaw_k14_pushed_worth.row)) s) true s,Hook.obs HH s)) = some (openGood Q [Str.ofString "TURNED"],Hook.val HH w)) "special-get-raises" (fun w =>by kernel_rfl) (fun w =>by kernel_rfl) w
end K14
set_option maxRecDepth 100000 in
set_option maxHeartbeats 0 in
theorem PySem.Challenge.cw_sumlaw_k14_pushed_worth_holds : PySem.Challenge.rw_sumlaw_k14_pushed_worth.Holds := by
 refine PySem.W.holds_law (by kernel_rfl) fun said =>?_
 refine PySem.W.holds_open (q:=K14.Q) (YP:=PySem.W.Hook.says K14.HH) (XP:=PySem.W.XL K14.Q []) K14.left (PySem.W.Hook.of K14.HH) (PySem.W.Hook.keeps K14.HH) (fun s e =>PySem.W.xl_of s (Bool.and_eq_true_iff.mp e).1) PySem.W.XL.keeps (by rfl) (by rfl) (by rfl) (fun s e =>PySem.W.recFacts_of (Bool.and_eq_true_iff.mp e).2) (by rfl) (by first | assumption | decide +kernel) (by decide +kernel) ⟨rfl,rfl,rfl,rfl,rfl,by decide +kernel⟩ ?hw ?hc
 case hw =>w_witness2
 case hc =>
  refine Z.walkZ (l:=PySem.Challenge.rw_sumlaw_k14_pushed_worth) (p:=K14.prg) (n:=44 + 1) (i:=26) (x:="_law_script") rfl rfl ⟨rfl,by decide,by decide⟩ (fun w h Y =>PySem.W.kIn_of Y) ?F K14.pure
  case F =>
   intro w mg fa h KX G hmg
   exact K14.all_mk (a0:=19) (od0:=none) (an0:=none) (sl0:=#[]) (oc0:=.type "function") (kV0:=.none) (dc0:=.none) (pm0:=.str "sumlaw.sums" 187) (cd0:=.ref 18) (ct0:=.none) (a1:=26) (od1:=none) (an1:=none) (sl1:=#[]) (oc1:=.type "function") (kV1:=.none) (dc1:=.none) (pm1:=.str "sumlaw.sums" 187) (cd1:=.ref 25) (ct1:=.none) (a2:=31) (od2:=none) (an2:=none) (sl2:=#[]) (oc2:=.type "function") (kV2:=.none) (dc2:=.none) (pm2:=.str "sumlaw.sums" 187) (cd2:=.ref 30) (ct2:=.none) (a3:=37) (od3:=none) (an3:=none) (sl3:=#[]) (oc3:=.type "function") (kV3:=.none) (dc3:=.none) (pm3:=.str "sumlaw.inward" 209) (cd3:=.ref 36) (ct3:=.none) (a4:=44) (od4:=none) (an4:=none) (sl4:=#[]) (oc4:=.type "function") (kV4:=.none) (dc4:=.none) (pm4:=.str "sumlaw.inward" 209) (cd4:=.ref 43) (ct4:=.none) (a5:=51) (od5:=none) (an5:=none) (sl5:=#[]) (oc5:=.type "function") (kV5:=.none) (dc5:=.none) (pm5:=.str "law_sumlaw_k14_pushed_worth" 237) (cd5:=.ref 50) (ct5:=.none) (a6:=58) (od6:=none) (an6:=none) (sl6:=#[]) (oc6:=.type "function") (kV6:=.none) (dc6:=.none) (pm6:=.str "law_sumlaw_k14_pushed_worth" 237) (cd6:=.ref 57) (ct6:=.none) (a7:=63) (od7:=none) (an7:=none) (sl7:=#[]) (oc7:=.type "function") (kV7:=.none) (dc7:=.none) (pm7:=.str "law_sumlaw_k14_pushed_worth" 237) (cd7:=.ref 62) (ct7:=.none) (a8:=68) (od8:=none) (an8:=none) (sl8:=#[]) (oc8:=.type "function") (kV8:=.none) (dc8:=.none) (pm8:=.str "law_sumlaw_k14_pushed_worth" 237) (cd8:=.ref 67) (ct8:=.none) (a9:=75) (od9:=none) (an9:=none) (sl9:=#[]) (oc9:=.type "function") (kV9:=.none) (dc9:=.none) (pm9:=.str "law_sumlaw_k14_pushed_worth" 237) (cd9:=.ref 74) (ct9:=.none) (a10:=82) (od10:=none) (an10:=none) (sl10:=#[]) (oc10:=.type "function") (kV10:=.none) (dc10:=.none) (pm10:=.str "law_sumlaw_k14_pushed_worth" 237) (cd10:=.ref 81) (ct10:=.none) (a11:=89) (od11:=none) (an11:=none) (sl11:=#[]) (oc11:=.type "function") (kV11:=.none) (dc11:=.none) (pm11:=.str "law_sumlaw_k14_pushed_worth" 237) (cd11:=.ref 88) (ct11:=.none) (a12:=96) (od12:=none) (an12:=none) (sl12:=#[]) (oc12:=.type "function") (kV12:=.none) (dc12:=.none) (pm12:=.str "law_sumlaw_k14_pushed_worth" 237) (cd12:=.ref 95) (ct12:=.none) (a13:=103) (od13:=none) (an13:=none) (sl13:=#[]) (oc13:=.type "function") (kV13:=.none) (dc13:=.none) (pm13:=.str "law_sumlaw_k14_pushed_worth" 237) (cd13:=.ref 102) (ct13:=.none) (a14:=110) (od14:=none) (an14:=none) (sl14:=#[]) (oc14:=.type "function") (kV14:=.none) (dc14:=.none) (pm14:=.str "law_sumlaw_k14_pushed_worth" 237) (cd14:=.ref 109) (ct14:=.none) (a15:=115) (od15:=none) (an15:=none) (sl15:=#[]) (oc15:=.type "function") (kV15:=.none) (dc15:=.none) (pm15:=.str "law_sumlaw_k14_pushed_worth" 237) (cd15:=.ref 114) (ct15:=.none) (a16:=122) (od16:=none) (an16:=none) (sl16:=#[]) (oc16:=.type "function") (kV16:=.none) (dc16:=.none) (pm16:=.str "law_sumlaw_k14_pushed_worth" 237) (cd16:=.ref 121) (ct16:=.none) (a17:=127) (od17:=none) (an17:=none) (sl17:=#[]) (oc17:=.type "function") (kV17:=.none) (dc17:=.none) (pm17:=.str "law_sumlaw_k14_pushed_worth" 237) (cd17:=.ref 126) (ct17:=.none) (a18:=132) (od18:=none) (an18:=none) (sl18:=#[]) (oc18:=.type "function") (kV18:=.none) (dc18:=.none) (pm18:=.str "law_sumlaw_k14_pushed_worth" 237) (cd18:=.ref 131) (ct18:=.none) (a19:=139) (od19:=none) (an19:=none) (sl19:=#[]) (oc19:=.type "function") (kV19:=.none) (dc19:=.none) (pm19:=.str "law_sumlaw_k14_pushed_worth" 237) (cd19:=.ref 138) (ct19:=.none) (a20:=144) (od20:=none) (an20:=none) (sl20:=#[]) (oc20:=.type "function") (kV20:=.none) (dc20:=.none) (pm20:=.str "law_sumlaw_k14_pushed_worth" 237) (cd20:=.ref 143) (ct20:=.none) (a21:=151) (od21:=none) (an21:=none) (sl21:=#[]) (oc21:=.type "function") (kV21:=.none) (dc21:=.none) (pm21:=.str "law_sumlaw_k14_pushed_worth" 237) (cd21:=.ref 150) (ct21:=.none) (a22:=156) (od22:=none) (an22:=none) (sl22:=#[]) (oc22:=.type "function") (kV22:=.none) (dc22:=.none) (pm22:=.str "law_sumlaw_k14_pushed_worth" 237) (cd22:=.ref 155) (ct22:=.none) (a23:=161) (od23:=none) (an23:=none) (sl23:=#[]) (oc23:=.type "function") (kV23:=.none) (dc23:=.none) (pm23:=.str "law_sumlaw_k14_pushed_worth" 237) (cd23:=.ref 160) (ct23:=.none) (a24:=166) (od24:=none) (an24:=none) (sl24:=#[]) (oc24:=.type "function") (kV24:=.none) (dc24:=.none) (pm24:=.str "law_sumlaw_k14_pushed_worth" 237) (cd24:=.ref 165) (ct24:=.none) (a25:=173) (od25:=none) (an25:=none) (sl25:=#[]) (oc25:=.type "function") (kV25:=.none) (dc25:=.none) (pm25:=.str "law_sumlaw_k14_pushed_worth" 237) (cd25:=.ref 172) (ct25:=.none) (a26:=180) (od26:=none) (an26:=none) (sl26:=#[]) (oc26:=.type "function") (kV26:=.none) (dc26:=.none) (pm26:=.str "law_sumlaw_k14_pushed_worth" 237) (cd26:=.ref 179) (ct26:=.none) (a_TURNED:=32) (e_TURNED:=4) (t_TURNED_0:=211) (u_TURNED_0:=212) (t_TURNED_1:=213) (u_TURNED_1:=214) (t_TURNED_2:=215) (u_TURNED_2:=216) (t_TURNED_3:=217) (u_TURNED_3:=218) KX G hmg (by kernel_rfl) (by kernel_rfl) (by kernel_rfl) (by kernel_rfl) (by kernel_rfl) (by kernel_rfl) (by kernel_rfl) (by kernel_rfl) (by kernel_rfl) (by kernel_rfl) (by kernel_rfl) (by kernel_rfl) (by kernel_rfl) (by kernel_rfl) (by kernel_rfl) (by kernel_rfl) (by kernel_rfl) (by kernel_rfl) (by kernel_rfl) (by kernel_rfl) (by kernel_rfl) (by kernel_rfl) (by kernel_rfl) (by kernel_rfl) (by kernel_rfl) (by kernel_rfl) (by kernel_rfl) (by kernel_rfl) (by kernel_rfl) (by kernel_rfl) (by kernel_rfl) (by kernel_rfl) (by kernel_rfl) (by kernel_rfl) (by kernel_rfl) (by kernel_rfl) (by kernel_rfl) (by kernel_rfl) (by kernel_rfl) (by kernel_rfl) (by kernel_rfl) (by kernel_rfl) (by kernel_rfl) (by kernel_rfl) (by kernel_rfl) (by kernel_rfl) (by kernel_rfl) (by kernel_rfl) (by kernel_rfl) (by kernel_rfl) (by kernel_rfl) (by kernel_rfl) (by kernel_rfl) (by kernel_rfl) (by kernel_rfl) (by kernel_rfl) (by kernel_rfl) (by kernel_rfl) (by kernel_rfl) (by kernel_rfl) (by kernel_rfl) (by kernel_rfl) (by kernel_rfl) (by kernel_rfl) (by kernel_rfl) (by kernel_rfl) (by kernel_rfl) (by kernel_rfl) (by kernel_rfl) (by kernel_rfl) (by kernel_rfl) (by kernel_rfl) (by kernel_rfl) (by kernel_rfl) (by kernel_rfl) (by kernel_rfl) (by kernel_rfl) (by kernel_rfl) (by kernel_rfl) (by kernel_rfl) (by kernel_rfl) (by kernel_rfl) (by kernel_rfl) (by kernel_rfl) (by kernel_rfl) (by kernel_rfl) (by kernel_rfl) (by kernel_rfl) (by kernel_rfl) (by kernel_rfl) (by kernel_rfl) (by kernel_rfl) (by kernel_rfl) (by kernel_rfl) (by kernel_rfl) (by kernel_rfl) (by kernel_rfl) (by kernel_rfl) (by kernel_rfl) (by kernel_rfl) (by kernel_rfl) (by kernel_rfl) (by kernel_rfl) (by kernel_rfl) (by kernel_rfl) (by kernel_rfl) (by kernel_rfl) (by kernel_rfl) (by kernel_rfl) (by kernel_rfl) (by kernel_rfl) (by kernel_rfl) (by kernel_rfl) (by kernel_rfl) (by kernel_rfl) (by kernel_rfl) (by kernel_rfl) (by kernel_rfl) (by kernel_rfl) (by kernel_rfl) (by kernel_rfl) (by kernel_rfl) (by kernel_rfl) (by kernel_rfl) (by kernel_rfl) (by kernel_rfl) (by kernel_rfl)

