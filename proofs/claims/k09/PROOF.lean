import PyProof.Rows.All
import Wide.All
import OpenK.AllK
import Wide.FinOn
import Lean
import PyProof.EqAt
import PyProof.EqKinds
import PyProof.TupleCall
import KE.KEqDict
import PyProof.Draws
import PyProof.Rows.Range3
import PyProof.Rows.SumAny
import PySem.Challenge.RW_sumlaw_k09_pieces
set_option Elab.async false
set_option linter.all false
set_option maxRecDepth 100000
namespace L2
open PySem PySem.Spec PyProof.Rows
noncomputable abbrev Key := Sum Int Str
noncomputable def keyIs : Key → Value → Bool
  | .inl k, v => Value.isInt k v
  | .inr x, v => Value.isStrOf x v
noncomputable def keyH (w : World) : Key → Int
  | .inl k => hashInt k
  | .inr x => hashStr w x
theorem keyIs_shape : ∀ {k : Key} {v : Value}, keyIs k v = true → (∃ i t, k = Sum.inl i ∧ v = Value.int i t) ∨ (∃ x t, k = Sum.inr x ∧ v = Value.str x t)
  | .inl i, v, h => by
    obtain ⟨t, e⟩ := Value.isInt_shape (k := i) (v := v) h
    exact .inl ⟨i, t, rfl, e⟩
  | .inr x, v, h => by
    obtain ⟨t, e⟩ := Value.isStrOf_shape (x := x) (v := v) h
    exact .inr ⟨x, t, rfl, e⟩
theorem keyIs_int (i : Int) (t : Tok) : keyIs (.inl i) (.int i t) = true := by simp [keyIs, Value.isInt]
theorem keyIs_str (x : Str) (t : Tok) : keyIs (.inr x) (.str x t) = true := by simp [keyIs, Value.isStrOf]
theorem key_ll (a b : Int) : decide ((Sum.inl a : Key) = Sum.inl b) = (a == b) := by
  by_cases e : a = b
  · subst e; simp
  · have h : ¬ (Sum.inl a : Key) = Sum.inl b := fun q => e (Sum.inl.inj q)
    rw [decide_eq_false h]
    exact (beq_eq_false_iff_ne.mpr e).symm
theorem key_rr (a b : Str) : decide ((Sum.inr a : Key) = Sum.inr b) = decide (a = b) := by
  by_cases e : a = b
  · subst e; simp
  · have h : ¬ (Sum.inr a : Key) = Sum.inr b := fun q => e (Sum.inr.inj q)
    rw [decide_eq_false h, decide_eq_false e]
theorem key_lr (a : Int) (b : Str) : decide ((Sum.inl a : Key) = Sum.inr b) = false := decide_eq_false (fun q => nomatch q)
theorem key_rl (a : Str) (b : Int) : decide ((Sum.inr a : Key) = Sum.inl b) = false := decide_eq_false (fun q => nomatch q)
noncomputable def mixKind (prog : Program) (w : World) : PySem.KeyKind prog w Key where
  is := keyIs
  hash := keyH w
  inj := fun v a b ha hb => by
    rcases keyIs_shape ha with ⟨i, t, rfl, rfl⟩ | ⟨x, t, rfl, rfl⟩
    · rcases keyIs_shape hb with ⟨j, u, rfl, e⟩ | ⟨y, u, rfl, e⟩
      · injection e with e1 _; rw [e1]
      · exact nomatch e
    · rcases keyIs_shape hb with ⟨j, u, rfl, e⟩ | ⟨y, u, rfl, e⟩
      · exact nomatch e
      · injection e with e1 _; rw [e1]
  byValue := fun k v h => by
    rcases keyIs_shape h with ⟨i, t, rfl, rfl⟩ | ⟨x, t, rfl, rfl⟩ <;> rfl
  pyHash := fun hv h => by
    rcases keyIs_shape hv with ⟨i, t, rfl, rfl⟩ | ⟨x, t, rfl, rfl⟩
    · exact wpAny_pyHash_int h
    · exact wpAny_pyHash_str h
  eqBool := fun hu hv h => by
    rcases keyIs_shape hu with ⟨i, t, rfl, rfl⟩ | ⟨x, t, rfl, rfl⟩
    · rcases keyIs_shape hv with ⟨j, u, rfl, rfl⟩ | ⟨y, u, rfl, rfl⟩
      · rw [key_ll] at h; exact wpAny_eqBool_int h
      · rw [key_lr] at h; exact SeqAt.EqAt.int_str i t y u _ _ _ _ h
    · rcases keyIs_shape hv with ⟨j, u, rfl, rfl⟩ | ⟨y, u, rfl, rfl⟩
      · rw [key_rl] at h; exact SeqAt.EqAt.str_int x t j u _ _ _ _ h
      · rw [key_rr] at h; exact wpAny_eqBool_str h
  «strs» := fun k x t v h => by
    rcases keyIs_shape h with ⟨i, u, rfl, e⟩ | ⟨y, u, rfl, e⟩
    · exact nomatch e
    · injection e with e1 _
      subst e1
      cases v <;> rfl
theorem mixKind_int (prog : Program) (w : World) (i : Int) (t : Tok) : (mixKind prog w).is (.inl i) (.int i t) = true := keyIs_int i t
theorem mixKind_str (prog : Program) (w : World) (x : Str) (t : Tok) : (mixKind prog w).is (.inr x) (.str x t) = true := keyIs_str x t
end L2
namespace L2
open PySem PySem.Spec PyProof.Rows
inductive V where
  | non | bl (b : Bool) | int (i : Int) | str (x : Str) | byt (b : Array UInt8) | flt (b : UInt64) | ref (a : Addr) | ty (n : String)
  deriving DecidableEq
noncomputable def RelV : V → Value → Prop
  | .non, u => u = Value.none
  | .bl b, u => u = Value.bool b
  | .int i, u => ∃ t, u = Value.int i t
  | .str x, u => ∃ t, u = Value.str x t
  | .byt b, u => ∃ t, u = Value.bytes b t
  | .flt b, u => ∃ t, u = Value.float b t
  | .ref a, u => u = Value.ref a
  | .ty n, u => u = Value.type n
noncomputable abbrev Vals : List V → List Value → Prop := Paired RelV
theorem Vals.length {xs : List V} {us : List Value} (r : Vals xs us) : xs.length = us.length := Paired.length r
theorem Vals.get : ∀ {xs : List V} {us : List Value} {i : Nat} {x : V}, Vals xs us → xs[i]? = some x → ∃ u, us[i]? = some u ∧ RelV x u
  | _, _, _, _, .nil, e => by simp at e
  | _, _, 0, _, .cons r _, e => by simp at e; subst e; exact ⟨_, rfl, r⟩
  | _, _, i + 1, x, .cons _ t, e => by
    obtain ⟨u, h1, h2⟩ := Vals.get (i := i) (x := x) t (by simpa using e)
    exact ⟨u, by simpa using h1, h2⟩
theorem Vals.set {x : V} {u : Value} (r : RelV x u) : ∀ {xs : List V} {us : List Value} (i : Nat), Vals xs us → Vals (xs.set i x) (us.set i u)
  | _, _, _, .nil => .nil
  | _, _, 0, .cons _ t => .cons r t
  | _, _, i + 1, .cons q t => .cons q (Vals.set r i t)
theorem Vals.append : ∀ {xs ys : List V} {us ws : List Value}, Vals xs us → Vals ys ws → Vals (xs ++ ys) (us ++ ws)
  | _, _, _, _, .nil, s => s
  | _, _, _, _, .cons r t, s => .cons r (Vals.append t s)
theorem Vals.take : ∀ {xs : List V} {us : List Value} (n : Nat), Vals xs us → Vals (xs.take n) (us.take n)
  | _, _, 0, _ => .nil
  | _, _, _ + 1, .nil => .nil
  | _, _, n + 1, .cons r t => .cons r (Vals.take n t)
theorem Vals.drop : ∀ {xs : List V} {us : List Value} (n : Nat), Vals xs us → Vals (xs.drop n) (us.drop n)
  | _, _, 0, r => r
  | _, _, _ + 1, .nil => .nil
  | _, _, n + 1, .cons _ t => Vals.drop n t
noncomputable def RelO : Option V → Option Value → Prop
  | some v, some u => RelV v u
  | none, none => True
  | _, _ => False
noncomputable def KV {κ : Type} : List (κ × V) → List (κ × Value) → Prop := Paired fun (p : κ × V) (q : κ × Value) => p.1 = q.1 ∧ RelV p.2 q.2
noncomputable def kV : Key → V
  | .inl i => .int i
  | .inr x => .str x
inductive HO where
    | lst (xs : List V)
    | tup (xs : List V)
    | dK (kvs : List (Key × V)) (ep : Nat) | dT (kvs : List (List Key × V))
    | set (S : Int → Bool) (n : Nat)
    | ins (C dx : Addr) (fs : List (Str × V))
    | own (x : Addr)
    | xd (fs : List (Str × V))
    | met (f x : Addr)
    | rng (lo hi : Int)
    | frz (o : Obj) (u : HO)
    | tbl (ps : Array Value)
    | ext (φ : Heap → Prop)
noncomputable abbrev Hp := Addr → Option HO
noncomputable def upd (H : Hp) (a : Addr) (o : HO) : Hp := fun b => if b = a then some o else H b
theorem upd_same {H : Hp} {a : Addr} {o : HO} : upd H a o a = some o := by unfold upd; rw [if_pos rfl]
theorem upd_ne {H : Hp} {a b : Addr} {o : HO} (h : b ≠ a) : upd H a o b = H b := by unfold upd; rw [if_neg h]
theorem ne_of {H : Hp} {a b : Addr} {o u : HO} (h : H a = some o) (h' : H b = some u) (d : o ≠ u) : a ≠ b := by
  intro e; subst e; rw [h] at h'; exact d (Option.some.inj h')
theorem ne_of_none {H : Hp} {a b : Addr} {o : HO} (h : H a = some o) (h' : H b = none) : a ≠ b := by
  intro e; subst e; rw [h] at h'; cases h'
section
variable (P : Program) (w : World)
noncomputable def ObjOk (H : Hp) (h : Heap) (a : Addr) : HO → Prop
  | .lst xs => xs.length ≤ sizeLine ∧ ∃ (its : List Value) (n : Nat), Vals xs its ∧ h.get? a = some { cls := .type "list", data := .seq its.toArray n }
  | .tup xs => xs.length ≤ sizeLine ∧ ∃ its : List Value, Vals xs its ∧ IsTup h a its.toArray
  | .dK kvs ep => kvs.length ≤ sizeLine ∧ (a == sysModules) = false ∧ ∃ vs, KV kvs vs ∧ h.DictAt (mixKind P w) a vs ep
  | .dT kvs => kvs.length ≤ sizeLine ∧ (a == sysModules) = false ∧ ∃ xs : List (List Key × Addr × Value),
      Paired (fun (p : List Key × V) (q : List Key × Addr × Value) => p.1 = q.1 ∧ H q.2.1 = some (.tup (p.1.map kV)) ∧ RelV p.2 q.2.2) kvs xs ∧
      ∃ o es ep, h.get? a = some o ∧ o.ExactDict ∧ o.data = .dict es ep ∧ es.toList = xs.map (entryOfKey (tupleKind (mixKind P w))) ∧ (xs.map (·.1)).Nodup
  | .set S n => h.SetOf (intKind P w) a S n
  | .ins C dx fs => H dx = some (.own a) ∧ fs.length ≤ 1000 ∧ dx ≠ a ∧ h.get? a = some (PySem.W.instObj C dx) ∧
      ∃ mA, h.Ns1 dx mA ∧ (∀ f, RelO (fs.lookup f) (mA f)) ∧ PySem.Within mA (fs.map (·.1))
  | .own _ => ∃ o, h.get? a = some o
  | .xd fs => ∃ mA, h.Ns1 a mA ∧ ∀ f, RelO (fs.lookup f) (mA f)
  | .rng lo hi => ∃ t u v, h.get? a = some { cls := .type "range", data := .fields #[.int lo t, .int hi u, .int 1 v] }
  | .frz o u => h.get? a = some o ∧ ObjOk H h a u
  | .tbl ps => h.get? a = some { cls := .none, data := .fields ps }
  | .met f x => h.get? a = some (PySem.W.methodObj (.ref f) (.ref x))
  | .ext φ => φ h ∧ (∃ o, h.get? a = some o) ∧ ∀ h1 h2 : Heap, φ h1 → (∀ o, h1.get? a = some o → h2.get? a = some o) → φ h2
noncomputable def HOk (H : Hp) (h : Heap) : Prop := ∀ a o, H a = some o → ObjOk P w H h a o
end
section
variable {P : Program} {w : World} {H H' : Hp} {h h' : Heap} {a : Addr} {o : HO}
theorem ObjOk.lt (x : ObjOk P w H h a o) : a < h.objs.size := by
  cases o with
  | lst xs => obtain ⟨_, _, _, _, e⟩ := x; exact Heap.lt_size e
  | tup xs => obtain ⟨_, _, _, p⟩ := x; exact p.lt
  | dK kvs ep => obtain ⟨_, _, _, _, o, _, e, _⟩ := x; exact Heap.lt_size e
  | dT kvs => obtain ⟨_, _, _, _, o, _, _, e, _⟩ := x; exact Heap.lt_size e
  | set S n => obtain ⟨o, _, _, _, e, _⟩ := x; exact Heap.lt_size e
  | ins C dx fs => obtain ⟨_, _, _, e, _⟩ := x; exact Heap.lt_size e
  | own y => obtain ⟨_, e⟩ := x; exact Heap.lt_size e
  | xd fs => obtain ⟨_, ⟨_, _, _, e, _⟩, _⟩ := x; exact Heap.lt_size e
  | rng lo hi => obtain ⟨_, _, _, e⟩ := x; exact Heap.lt_size e
  | frz ob u => obtain ⟨e, _⟩ := x; exact Heap.lt_size e
  | tbl ps => exact Heap.lt_size (show h.get? a = some _ from x)
  | met f y => exact Heap.lt_size (show h.get? a = some _ from x)
  | ext φ => obtain ⟨_, ⟨_, e⟩, _⟩ := x; exact Heap.lt_size e
theorem Paired.mapP {α β : Type} {F G : α → β → Prop} : ∀ {l₁ : List α} {l₂ : List β}, Paired F l₁ l₂ → (∀ a b, F a b → G a b) → Paired G l₁ l₂
  | _, _, .nil, _ => .nil
  | _, _, .cons r t, f => .cons (f _ _ r) (Paired.mapP t f)
theorem ObjOk.stay (x : ObjOk P w H h a o) (k : ∀ b u, (b = a ∨ H b = some (.own a)) → h.get? b = some u → h'.get? b = some u)
    (ho : ∀ b, H b = some (.own a) → H' b = some (.own a)) (ht : ∀ b xs, H b = some (.tup xs) → H' b = some (.tup xs)) : ObjOk P w H' h' a o := by
  induction o with
  | lst xs => obtain ⟨z, its, n, r, e⟩ := x; exact ⟨z, its, n, r, k _ _ (.inl rfl) e⟩
  | tup xs => obtain ⟨z, its, r, ob, e, c⟩ := x; exact ⟨z, its, r, ob, k _ _ (.inl rfl) e, c⟩
  | dK kvs ep => obtain ⟨z, y, vs, r, ob, es, e, c⟩ := x; exact ⟨z, y, vs, r, ob, es, k _ _ (.inl rfl) e, c⟩
  | dT kvs =>
    obtain ⟨z, y, xs, r, ob, es, ep, e, c⟩ := x
    exact ⟨z, y, xs, Paired.mapP r fun p q z => ⟨z.1, ht _ _ z.2.1, z.2.2⟩, ob, es, ep, k _ _ (.inl rfl) e, c⟩
  | set S n => obtain ⟨ob, es, ep, t, e, c⟩ := x; exact ⟨ob, es, ep, t, k _ _ (.inl rfl) e, c⟩
  | ins C dx fs =>
    obtain ⟨d, z, ne, e, mA, ⟨od, es, ep, e2, c⟩, r⟩ := x
    exact ⟨ho _ d, z, ne, k _ _ (.inl rfl) e, mA, ⟨od, es, ep, k _ _ (.inr d) e2, c⟩, r⟩
  | own y => obtain ⟨ob, e⟩ := x; exact ⟨ob, k _ _ (.inl rfl) e⟩
  | xd fs => obtain ⟨mA, ⟨od, es, ep, e, c⟩, r⟩ := x; exact ⟨mA, ⟨od, es, ep, k _ _ (.inl rfl) e, c⟩, r⟩
  | rng lo hi => obtain ⟨t, u, v, e⟩ := x; exact ⟨t, u, v, k _ _ (.inl rfl) e⟩
  | frz ob u ih => obtain ⟨e, q⟩ := x; exact ⟨k _ _ (.inl rfl) e, ih q⟩
  | tbl ps =>
    have e : h.get? a = some { cls := .none, data := .fields ps } := x
    show h'.get? a = some { cls := .none, data := .fields ps }
    exact k a _ (.inl rfl) e
  | met f y =>
    have e : h.get? a = some (PySem.W.methodObj (.ref f) (.ref y)) := x
    show h'.get? a = some (PySem.W.methodObj (.ref f) (.ref y))
    exact k a _ (.inl rfl) e
  | ext φ => obtain ⟨p, ⟨o, e⟩, st⟩ := x; exact ⟨st _ _ p fun o q => k _ _ (.inl rfl) q, ⟨o, k _ _ (.inl rfl) e⟩, st⟩
theorem HOk.lt (x : HOk P w H h) (e : H a = some o) : a < h.objs.size := (x a o e).lt
theorem HOk.fresh (x : HOk P w H h) (e : h.objs.size ≤ a) : H a = none := by
  cases q : H a with
  | none => rfl
  | some u => exact absurd (Nat.lt_of_lt_of_le (x.lt q) e) (Nat.lt_irrefl _)
theorem HOk.kept (x : HOk P w H h) (k : ∀ b u, h.get? b = some u → h'.get? b = some u) : HOk P w H h' := fun a o e =>
  (x a o e).stay (fun b u _ q => k b u q) (fun _ q => q) fun _ _ q => q
theorem HOk.laid (x : HOk P w H h) (k : ∀ b u, h.get? b = some u → h'.get? b = some u) (hp : h.objs.size ≤ a) (new : ObjOk P w (upd H a o) h' a o) : HOk P w (upd H a o) h' := fun b u e => by
  have hn := x.fresh hp
  by_cases hb : b = a
  · subst hb; rw [upd_same] at e; cases e; exact new
  · rw [upd_ne hb] at e
    exact (x b u e).stay (fun c v _ q => k c v q) (fun c q => by rw [upd_ne (ne_of_none q hn)]; exact q) fun c xs q => by rw [upd_ne (ne_of_none q hn)]; exact q
end
noncomputable def Rd (H : Hp) (a : Addr) (u : HO) : Prop := H a = some u ∨ ∃ o, H a = some (.frz o u)
theorem Rd.ok {P : Program} {w : World} {H : Hp} {h : Heap} {a : Addr} {u : HO} (r : Rd H a u) (x : HOk P w H h) : ObjOk P w H h a u := by
  rcases r with r | ⟨o, r⟩
  · exact x a u r
  · obtain ⟨_, q⟩ := x a _ r
    exact q
noncomputable def Mut : Option HO → Prop
  | some (.lst _) => True
  | some (.dK _ _) => True
  | some (.dT _) => True
  | some (.set _ _) => True
  | some (.ins _ _ _) => True
  | some (.ext _) => True
  | _ => False
section
variable {P : Program} {w : World} {H : Hp} {h h' : Heap} {x e : Addr} {o' : HO}
theorem HOk.write (ok : HOk P w H h) (mu : Mut (H x)) (he : e = x ∨ H e = some (.own x)) (k : ∀ b u, b ≠ e → h.get? b = some u → h'.get? b = some u) (heo : ∃ u, h'.get? e = some u)
    (new : ObjOk P w (upd H x o') h' x o') : HOk P w (upd H x o') h' := fun b u q => by
  have nown : ∀ c y, H c = some (.own y) → c ≠ x := fun c y r z => by subst z; rw [r] at mu; exact mu
  have ntup : ∀ c xs, H c = some (.tup xs) → c ≠ x := fun c xs r z => by subst z; rw [r] at mu; exact mu
  by_cases hb : b = x
  · subst hb; rw [upd_same] at q; cases q; exact new
  · rw [upd_ne hb] at q
    by_cases hbe : b = e
    · have q' : H b = some (.own x) := by
        rcases he with z | z
        · exact absurd (hbe.trans z) hb
        · rw [hbe]; exact z
      rw [q] at q'; cases q'
      obtain ⟨v, hv⟩ := heo
      exact ⟨v, by rw [hbe]; exact hv⟩
    · refine (ok b u q).stay (fun c v hc r => k c v ?_ r) (fun c r => by rw [upd_ne (nown c b r)]; exact r) fun c xs r => by rw [upd_ne (ntup c xs r)]; exact r
      rcases hc with rfl | hc
      · exact hbe
      · rintro rfl
        rcases he with z | z
        · exact nown c b hc z
        · rw [hc] at z; cases z; exact hb rfl
end
structure Un (fs ex : List Addr) (H H' : Hp) (h h' : Heap) : Prop where
  keep : ∀ b o, h.get? b = some o → H b = none → b ∉ fs → b ∉ ex → h'.get? b = some o
  slot : ∀ b o, h.get? b = some o → H b = none → b ∈ fs → b ∉ ex → ∃ sl, h'.get? b = some { o with slots := sl }
  free : ∀ b o, h.get? b = some o → H b = none → b ∉ ex → H' b = none
  there : ∀ b o, h.get? b = some o → b ∉ ex → ∃ o', h'.get? b = some o'
  tups : ∀ b xs, H b = some (.tup xs) → H' b = some (.tup xs)
  frzs : ∀ b o u, H b = some (.frz o u) → H' b = some (.frz o u)
  tbls : ∀ b ps, H b = some (.tbl ps) → ∃ more, H' b = some (.tbl (ps ++ more))
section
variable {fs fs' ex ex' : List Addr} {H H1 H2 : Hp} {h h1 h2 h' : Heap} {a x e : Addr} {o : HO}
theorem Un.any (u : Un fs ex H H1 h h1) {b : Addr} {ob : Obj} (q : h.get? b = some ob) (n : H b = none) (hx : b ∉ ex) : ∃ sl, h1.get? b = some { ob with slots := sl } := by
  by_cases hb : b ∈ fs
  · exact u.slot b ob q n hb hx
  · exact ⟨ob.slots, u.keep b ob q n hb hx⟩
theorem Un.kept (k : ∀ b u, h.get? b = some u → h'.get? b = some u) : Un fs ex H H h h' :=
  ⟨fun b ob q _ _ _ => k b ob q, fun b ob q _ _ _ => ⟨ob.slots, k b ob q⟩, fun _ _ _ n _ => n, fun b ob q _ => ⟨ob, k b ob q⟩, fun _ _ q => q, fun _ _ _ q => q, fun _ ps q => ⟨#[], by rw [q]; simp⟩⟩
theorem Un.refl : Un fs ex H H h h := Un.kept fun _ _ q => q
theorem Un.laid (k : ∀ b u, h.get? b = some u → h'.get? b = some u) (hp : h.objs.size ≤ a) (hn : H a = none) : Un fs ex H (upd H a o) h h' where
  keep := fun b u q _ _ _ => k b u q
  slot := fun b u q _ _ _ => ⟨u.slots, k b u q⟩
  free := fun b u q n _ => by rw [upd_ne (Nat.ne_of_lt (Nat.lt_of_lt_of_le (Heap.lt_size q) hp))]; exact n
  there := fun b u q _ => ⟨u, k b u q⟩
  tups := fun b xs q => by rw [upd_ne (ne_of_none q hn)]; exact q
  frzs := fun b u xs q => by rw [upd_ne (ne_of_none q hn)]; exact q
  tbls := fun b ps q => ⟨#[], by rw [upd_ne (ne_of_none q hn), q]; simp⟩
theorem Un.write (mu : Mut (H x)) (he : e = x ∨ H e = some (.own x)) (k : ∀ b u, b ≠ e → h.get? b = some u → h'.get? b = some u) (heo : ∃ u, h'.get? e = some u) : Un fs ex H (upd H x o) h h' := by
  have hx : ∀ b, H b = none → b ≠ x := fun b n z => by subst z; rw [n] at mu; exact mu
  have hb : ∀ b, H b = none → b ≠ e := fun b n z => by
    subst z
    rcases he with r | r
    · exact hx b n r
    · rw [n] at r; cases r
  have hm : ∀ b u, H b = some u → ¬ Mut (some u) → b ≠ x := fun b u q nm z => by subst z; rw [q] at mu; exact nm mu
  refine ⟨fun b u q n _ _ => k b u (hb b n) q, fun b u q n _ _ => ⟨u.slots, k b u (hb b n) q⟩, fun b u q n _ => by rw [upd_ne (hx b n)]; exact n, fun b u q _ => ?_,
    fun b xs q => by rw [upd_ne (hm b _ q fun z => z)]; exact q, fun b u xs q => by rw [upd_ne (hm b _ q fun z => z)]; exact q, fun b ps q => ⟨#[], by rw [upd_ne (hm b _ q fun z => z), q]; simp⟩⟩
  by_cases hbe : b = e
  · subst hbe; exact heo
  · exact ⟨u, k b u hbe q⟩
end
noncomputable def trk (h : Heap) (H : Hp) : List Addr := (List.range h.objs.size).filter fun a => (H a).isSome
noncomputable def hidT (h : Heap) (H : Hp) : Heap := PySem.W.hideAll h (trk h H)
theorem hidT_size (h : Heap) (H : Hp) : (hidT h H).objs.size = h.objs.size := PySem.W.hideAll_size _ _
theorem hidT_get {h : Heap} {H : Hp} {b : Addr} {o : Obj} (e : h.get? b = some o) (n : H b = none) : (hidT h H).get? b = some o :=
  PySem.W.hideAll_get _ e fun hm => by
    have q : (H b).isSome = true := (List.mem_filter.mp hm).2
    rw [n] at q; simp at q
theorem of_hidT {h : Heap} {H : Hp} {b : Addr} {o : Obj} (e : (hidT h H).get? b = some o) : h.get? b = some o ∧ H b = none := by
  have e' : h.get? b = some o := PySem.W.of_hideAll (trk h H) e
  refine ⟨e', ?_⟩
  cases q : H b with
  | none => rfl
  | some x =>
    have hm : b ∈ trk h H := List.mem_filter.mpr ⟨List.mem_range.mpr (Heap.lt_size e'), by simp [q]⟩
    have z : (hidT h H).get? b = none := PySem.W.hideAll_none (trk h H) hm
    rw [z] at e; cases e
end L2
namespace L2
open PySem PySem.Spec PyProof.Rows
structure Mod (K : PySem.W.Frag) (mg : Str → Option Value) (base : Heap) : Prop where
  kin : K.In base
  glob : base.Ns mainGlobals mg
  blt : ∃ mb, base.Ns builtinsNs mb ∧ ∀ x : Str, x ≠ "__name__" → mb x = bootBuiltins x
  nolimit : base.NoLimit
structure Cx where
  prog : Program
  w : World
  K : PySem.W.Frag
  mg : Str → Option Value
  base : Heap
  A : Around
  N : List Str
  s₀ : Shared
  H₀ : Hp
  env : Env
  outer : List Env
  stack : List Env
  ex : List Addr
  fn : Str → Bool
  calm : Bool
  pn : List (Addr × Obj)
  xe : Value → Shared → Prop
noncomputable def frs (l : List Env) : List Addr := l.filterMap (·.frame)
noncomputable abbrev Cx.fs (X : Cx) : List Addr := frs X.outer
noncomputable def Vis (sc : Scope) (x : Str) : Prop := sc.names.lookup x = some .local ∨ sc.names.lookup x = some .cell ∨ sc.names.lookup x = some .free
noncomputable def Loc (sc : Scope) (x : Str) : Prop := sc.names.lookup x = some .local ∨ sc.names.lookup x = some .cell
noncomputable def Look (env : Env) (h : Heap) (m : Str → Option Value) (x : Str) (u : Value) : Prop :=
  (env.kindOf x = some .local ∧ m x = some u) ∨ ((env.kindOf x = some .cell ∨ env.kindOf x = some .free) ∧ ∃ c, env.cells.lookup x = some c ∧ h.IsCell c (some u))
structure Cx.Ok (X : Cx) : Prop where
  mod : Mod X.K X.mg X.base
  kind : X.env.scope.kind = .function
  glob : X.env.globals = mainGlobals
  blt : X.env.builtins = builtinsNs
  above : X.s₀.heap.objs.size ≤ X.env.locals
  inj : ∀ x y c, X.env.cells.lookup x = some c → X.env.cells.lookup y = some c → x = y
  has : ∀ x, (X.env.kindOf x = some .cell ∨ X.env.kindOf x = some .free) → ∃ c, X.env.cells.lookup x = some c
  cab : ∀ x c, X.fn x = true → X.env.cells.lookup x = some c → X.s₀.heap.objs.size ≤ c
  hd : X.calm = true → X.A.handled = none
  frames : X.A.frames = some X.stack
  stk : X.stack = X.outer ∨ (X.stack = X.env :: X.outer ∧ X.env.frame = some X.env.locals)
  exf : ∀ b ∈ X.ex, b ≠ X.env.locals ∧ ∀ x c, X.env.cells.lookup x = some c → c ≠ b
  bs : ∀ b o, X.base.get? b = some o → X.s₀.heap.get? b = some o ∧ X.H₀ b = none
  bsz : X.base.objs.size ≤ X.s₀.heap.objs.size
  noex : ∀ b o, X.base.get? b = some o → b ∉ X.ex
  exfs : ∀ b ∈ X.ex, b ∉ X.fs
  funs : X.s₀.heap.FunFrames X.base X.outer
  frf : ∀ b ∈ X.fs, X.H₀ b = none
structure Inv (X : Cx) (pins : List (Addr × Obj)) (σ : List (Option V)) (H : Hp) (s : Shared) : Prop where
  ok : X.Ok
  os : s.os = X.s₀.os
  bare : AllBare s.gens
  base : Un X.fs X.ex X.H₀ H X.s₀.heap s.heap
  loc : ∃ m, s.heap.Ns X.env.locals m ∧ ∀ (i : Nat) (x : Str) (v : V), X.N[i]? = some x → σ[i]? = some (some v) → Vis X.env.scope x → ∃ u, RelV v u ∧ Look X.env s.heap m x u
  cell : ∀ x c, X.env.cells.lookup x = some c → ∃ v, s.heap.IsCell c v
  free : H X.env.locals = none
  freeC : ∀ x c, X.env.cells.lookup x = some c → H c = none
  pin : ∀ p ∈ X.pn ++ pins, s.heap.get? p.1 = some p.2 ∧ H p.1 = none ∧ p.1 ≠ X.env.locals ∧ p.1 ∉ X.fs ∧ ∀ v, p.2.data ≠ .cell v
  hok : HOk X.prog X.w H s.heap
  len : σ.length = X.N.length
section
variable {X : Cx} {pins : List (Addr × Obj)} {σ : List (Option V)} {H H' : Hp} {s : Shared} {h' : Heap}
theorem Cx.Ok.nofr (ok : X.Ok) {b : Addr} {o : Obj} (e : X.base.get? b = some o) : b ∉ X.fs := fun hb => by
  have := (ok.funs.mem hb).1
  rw [e] at this; cases this
theorem Inv.bs (I : Inv X pins σ H s) : ∀ b o, X.base.get? b = some o → s.heap.get? b = some o ∧ H b = none := fun b o e =>
  ⟨I.base.keep b o (I.ok.bs b o e).1 (I.ok.bs b o e).2 (I.ok.nofr e) (I.ok.noex b o e), I.base.free b o (I.ok.bs b o e).1 (I.ok.bs b o e).2 (I.ok.noex b o e)⟩
theorem Inv.bk (I : Inv X pins σ H s) : ∀ b o, X.base.get? b = some o → s.heap.get? b = some o := fun b o e => (I.bs b o e).1
theorem Inv.mod (I : Inv X pins σ H s) : Mod X.K X.mg X.base := I.ok.mod
theorem Inv.kIn (I : Inv X pins σ H s) : X.K.In s.heap := I.ok.mod.kin.keeps I.bk
theorem Inv.lt (I : Inv X pins σ H s) : X.env.locals < s.heap.objs.size := let ⟨_, hn, _⟩ := I.loc; hn.lt
theorem Inv.sz (I : Inv X pins σ H s) : X.s₀.heap.objs.size ≤ s.heap.objs.size := Nat.le_trans I.ok.above (Nat.le_of_lt I.lt)
theorem Inv.nofs (I : Inv X pins σ H s) {a : Addr} (h : s.heap.objs.size ≤ a) : a ∉ X.fs := fun hb => by
  obtain ⟨_, o, ho, _⟩ := I.ok.funs.mem hb
  exact absurd (Nat.lt_of_lt_of_le (Heap.lt_size ho) (Nat.le_trans I.sz h)) (Nat.lt_irrefl _)
theorem Inv.cne (I : Inv X pins σ H s) : ∀ x c, X.env.cells.lookup x = some c → c ≠ X.env.locals := fun x c e z => by
  obtain ⟨v, o, ho, hd⟩ := I.cell x c e
  obtain ⟨m, ⟨o', es, ep, ho', hd', _⟩, _⟩ := I.loc
  rw [z, ho'] at ho; cases ho; rw [hd'] at hd; cases hd
theorem Inv.funs (I : Inv X pins σ H s) : s.heap.FunFrames X.base X.outer := by
  have all : ∀ (l : List Env), (∀ b ∈ frs l, b ∈ X.fs) → X.s₀.heap.FunFrames X.base l → s.heap.FunFrames X.base l := by
    intro l
    induction l with
    | nil => intro _ _; trivial
    | cons env r ih =>
      intro hs hl
      obtain ⟨hk, ⟨L, o, hf, hn, ho, hd⟩, hr⟩ := hl
      have hL : L ∈ X.fs := hs L (by unfold frs; rw [List.filterMap_cons, hf]; exact List.mem_cons_self)
      obtain ⟨sl, e⟩ := I.base.slot L o ho (I.ok.frf L hL) hL fun z => I.ok.exfs L z hL
      exact ⟨hk, ⟨L, _, hf, hn, e, hd⟩, ih (fun b hb => hs b (by unfold frs; rw [List.filterMap_cons, hf]; exact List.mem_cons_of_mem _ hb)) hr⟩
  exact all X.outer (fun _ hb => hb) I.ok.funs
theorem Inv.stack (I : Inv X pins σ H s) : s.heap.FunFrames X.base X.stack := by
  rcases I.ok.stk with e | ⟨e, hf⟩
  · rw [e]; exact I.funs
  · rw [e]
    obtain ⟨m, hn, _⟩ := I.loc
    refine .cons (by rw [I.ok.kind]; decide) hf hn ?_ I.funs
    exact Heap.get?_none_of_le (Nat.le_trans I.ok.bsz I.ok.above)
theorem Inv.stkSub (I : Inv X pins σ H s) : ∀ b ∈ frs X.stack, b ∈ X.env.locals :: X.fs := fun b hb => by
  rcases I.ok.stk with e | ⟨e, hf⟩
  · rw [e] at hb; exact List.mem_cons_of_mem _ hb
  · rw [e] at hb
    unfold frs at hb
    rw [List.filterMap_cons, hf] at hb
    exact hb
theorem Inv.stkFree (I : Inv X pins σ H s) : ∀ b ∈ frs X.stack, H b = none := fun b hb => by
  rcases List.mem_cons.mp (I.stkSub b hb) with e | hb
  · rw [e]; exact I.free
  · obtain ⟨_, o, ho, _⟩ := I.ok.funs.mem hb
    exact I.base.free b o ho (I.ok.frf b hb) fun z => I.ok.exfs b z hb
theorem Inv.step {g' : Array GenState} {t' : Nat} {d' : Drawn} {ch : List Addr} (I : Inv X pins σ H s)
    (hch : ∀ b ∈ ch, (b ∈ X.ex ∨ X.s₀.heap.objs.size ≤ b) ∧ b ≠ X.env.locals ∧ (∀ x c, X.env.cells.lookup x = some c → c ≠ b) ∧ ∀ p ∈ X.pn ++ pins, p.1 ≠ b)
    (keep : ∀ b o, b ≠ X.env.locals → b ∉ X.fs → b ∉ ch → s.heap.get? b = some o → H b = none → h'.get? b = some o)
    (slot : ∀ b o, b ≠ X.env.locals → b ∈ X.fs → b ∉ ch → s.heap.get? b = some o → H b = none → ∃ sl, h'.get? b = some { o with slots := sl }) (free : ∀ b o, b ∉ ch → s.heap.get? b = some o → H b = none → H' b = none)
    (there : ∀ b o, b ∉ ch → s.heap.get? b = some o → ∃ o', h'.get? b = some o')
    (tups : ∀ b xs, H b = some (.tup xs) → H' b = some (.tup xs)) (frzs : ∀ b o u, H b = some (.frz o u) → H' b = some (.frz o u)) (tbls : ∀ b ps, H b = some (.tbl ps) → ∃ more, H' b = some (.tbl (ps ++ more)))
    (ns : ∀ m, s.heap.Ns X.env.locals m → h'.Ns X.env.locals m) (hok : HOk X.prog X.w H' h') (hg : AllBare g') :
    Inv X pins σ H' { s with heap := h', gens := g', drawn := d', toks := t' } := by
  have neL : ∀ b o, X.s₀.heap.get? b = some o → b ≠ X.env.locals := fun b o e => Nat.ne_of_lt (Nat.lt_of_lt_of_le (Heap.lt_size e) I.ok.above)
  have neC : ∀ b o, X.s₀.heap.get? b = some o → b ∉ X.ex → b ∉ ch := fun b o e hx hb => by
    rcases (hch b hb).1 with z | z
    · exact hx z
    · exact absurd (Nat.lt_of_lt_of_le (Heap.lt_size e) z) (Nat.lt_irrefl _)
  have cellK : ∀ x c, X.env.cells.lookup x = some c → ∀ v, s.heap.IsCell c v → h'.IsCell c v := fun x c e v ⟨o, ho, hd⟩ => by
    have nch : c ∉ ch := fun z => (hch c z).2.2.1 x c e rfl
    by_cases hc : c ∈ X.fs
    · obtain ⟨sl, q⟩ := slot c o (I.cne x c e) hc nch ho (I.freeC x c e)
      exact ⟨_, q, hd⟩
    · exact ⟨o, keep c o (I.cne x c e) hc nch ho (I.freeC x c e), hd⟩
  refine ⟨I.ok, I.os, hg, ⟨fun b o e n hb hx => ?_, fun b o e n hb hx => ?_, fun b o e n hx => ?_, fun b o e hx => ?_, fun b xs e => tups b xs (I.base.tups b xs e), fun b o xs e => frzs b o xs (I.base.frzs b o xs e), fun b ps e => ?_⟩, ?_, fun x c e => ?_, ?_, fun x c e => ?_, fun p hp => ?_, hok, I.len⟩
  · exact keep b o (neL b o e) hb (neC b o e hx) (I.base.keep b o e n hb hx) (I.base.free b o e n hx)
  · obtain ⟨sl, e1⟩ := I.base.slot b o e n hb hx
    obtain ⟨sl', e2⟩ := slot b _ (neL b o e) hb (neC b o e hx) e1 (I.base.free b o e n hx)
    exact ⟨sl', e2⟩
  · obtain ⟨o', e1⟩ := I.base.there b o e hx
    exact free b o' (neC b o e hx) e1 (I.base.free b o e n hx)
  · obtain ⟨o', e1⟩ := I.base.there b o e hx
    exact there b o' (neC b o e hx) e1
  · obtain ⟨m1, e1⟩ := I.base.tbls b ps e
    obtain ⟨m2, e2⟩ := tbls b _ e1
    exact ⟨m1 ++ m2, by rw [e2, Array.append_assoc]⟩
  · obtain ⟨m, hn, hl⟩ := I.loc
    refine ⟨m, ns m hn, fun i x v e1 e2 e3 => ?_⟩
    obtain ⟨u, r, l⟩ := hl i x v e1 e2 e3
    refine ⟨u, r, ?_⟩
    rcases l with l | ⟨k, c, e, z⟩
    · exact .inl l
    · exact .inr ⟨k, c, e, cellK x c e _ z⟩
  · obtain ⟨v, z⟩ := I.cell x c e
    exact ⟨v, cellK x c e v z⟩
  · obtain ⟨m, ⟨o, _, _, ho, _⟩, _⟩ := I.loc
    exact free _ o (fun z => (hch _ z).2.1 rfl) ho I.free
  · obtain ⟨v, o, ho, hd⟩ := I.cell x c e
    exact free c o (fun z => (hch c z).2.2.1 x c e rfl) ho (I.freeC x c e)
  · obtain ⟨e, n, ne, nf, d⟩ := I.pin p hp
    have nch : p.1 ∉ ch := fun z => (hch p.1 z).2.2.2 p hp rfl
    exact ⟨keep p.1 p.2 ne nf nch e n, free p.1 p.2 nch e n, ne, nf, d⟩
theorem Inv.un {t' : Nat} (I : Inv X pins σ H s) (u : Un X.fs [] H H' s.heap h') (hok : HOk X.prog X.w H' h') : Inv X pins σ H' { s with heap := h', toks := t' } := by
  obtain ⟨m, ⟨o, es, ep, ho, r⟩, _⟩ := id I.loc
  obtain ⟨sl, hL⟩ := u.any ho I.free (by simp)
  exact I.step (g' := s.gens) (d' := s.drawn) (ch := []) (fun _ z => nomatch z) (fun b o _ hb _ e n => u.keep b o e n hb (by simp)) (fun b o _ hb _ e n => u.slot b o e n hb (by simp)) (fun b o _ e n => u.free b o e n (by simp)) (fun b o _ e => u.there b o e (by simp)) u.tups u.frzs u.tbls (fun m' hm => by
    obtain ⟨o', es', ep', ho', r'⟩ := hm
    rw [ho] at ho'; cases ho'
    exact ⟨_, es', ep', hL, r'⟩) hok I.bare
theorem Inv.call {g' : Array GenState} {t' : Nat} {d' : Drawn} {ch : List Addr} (I : Inv X pins σ H s) (u : Un (frs X.stack) ch H H' s.heap h') (hok : HOk X.prog X.w H' h') (hg : AllBare g')
    (hch : ∀ b ∈ ch, (b ∈ X.ex ∨ X.s₀.heap.objs.size ≤ b) ∧ b ≠ X.env.locals ∧ (∀ x c, X.env.cells.lookup x = some c → c ≠ b) ∧ ∀ p ∈ X.pn ++ pins, p.1 ≠ b) :
    Inv X pins σ H' { s with heap := h', gens := g', drawn := d', toks := t' } := by
  obtain ⟨m, ⟨o, es, ep, ho, r⟩, _⟩ := id I.loc
  obtain ⟨sl, hL⟩ := u.any ho I.free fun z => (hch _ z).2.1 rfl
  exact I.step (ch := ch) hch (fun b o hL hb hc e n => u.keep b o e n (fun z => (List.mem_cons.mp (I.stkSub b z)).elim hL hb) hc) (fun b o _ _ hc e n => u.any e n hc) (fun b o hc e n => u.free b o e n hc) (fun b o hc e => u.there b o e hc) u.tups u.frzs u.tbls (fun m' hm => by
    obtain ⟨o', es', ep', ho', r'⟩ := hm
    rw [ho] at ho'; cases ho'
    exact ⟨_, es', ep', hL, r'⟩) hok hg
theorem Inv.turned {t' : Nat} {it : Addr} (I : Inv X pins σ H s) (k : ∀ b o, b ≠ it → s.heap.get? b = some o → h'.get? b = some o) (hn : H it = none) (hL : it ≠ X.env.locals)
    (h1 : it ∈ X.ex ∨ X.s₀.heap.objs.size ≤ it) (h2 : ∀ x c, X.env.cells.lookup x = some c → c ≠ it) (h3 : ∀ p ∈ X.pn ++ pins, p.1 ≠ it) : Inv X pins σ H { s with heap := h', toks := t' } := by
  have nit : ∀ b u, H b = some u → b ≠ it := fun b u e z => by rw [z, hn] at e; cases e
  refine I.step (g' := s.gens) (d' := s.drawn) (ch := [it]) (fun b hb => ?_) (fun b o _ _ hc e _ => k b o (fun z => hc (by simp [z])) e) (fun b o _ _ hc e _ => ⟨o.slots, k b o (fun z => hc (by simp [z])) e⟩) (fun _ _ _ _ n => n)
    (fun b o hc e => ⟨o, k b o (fun z => hc (by simp [z])) e⟩) (fun _ _ e => e) (fun _ _ _ e => e) (fun b ps e => ⟨#[], by rw [e]; simp⟩) (fun m hm => ?_) (fun b u e => ?_) I.bare
  · have e : b = it := by simpa using hb
    subst e
    exact ⟨h1, hL, h2, h3⟩
  · obtain ⟨o, es, ep, ho, r⟩ := hm
    exact ⟨o, es, ep, k _ o (Ne.symm hL) ho, r⟩
  · refine (I.hok b u e).stay (fun c v hc q => k c v ?_ q) (fun _ q => q) fun _ _ q => q
    rcases hc with z | z
    · rw [z]; exact nit b u e
    · exact nit c _ z
theorem Inv.tok (I : Inv X pins σ H s) (t : Nat) : Inv X pins σ H { s with toks := t } := I.un (h' := s.heap) (t' := t) Un.refl I.hok
theorem Inv.kept {t' : Nat} (I : Inv X pins σ H s) (k : ∀ b u, s.heap.get? b = some u → h'.get? b = some u) : Inv X pins σ H { s with heap := h', toks := t' } := I.un (Un.kept k) (I.hok.kept k)
theorem Inv.laid {a : Addr} {o : HO} {t' : Nat} (I : Inv X pins σ H s) (k : ∀ b u, s.heap.get? b = some u → h'.get? b = some u) (hp : s.heap.objs.size ≤ a) (new : ObjOk X.prog X.w (upd H a o) h' a o) :
    Inv X pins σ (upd H a o) { s with heap := h', toks := t' } := I.un (Un.laid k hp (I.hok.fresh hp)) (I.hok.laid k hp new)
theorem Inv.write {x e : Addr} {o : HO} {t' : Nat} (I : Inv X pins σ H s) (mu : Mut (H x)) (he : e = x ∨ H e = some (.own x)) (k : ∀ b u, b ≠ e → s.heap.get? b = some u → h'.get? b = some u) (heo : ∃ u, h'.get? e = some u)
    (new : ObjOk X.prog X.w (upd H x o) h' x o) : Inv X pins σ (upd H x o) { s with heap := h', toks := t' } := I.un (Un.write mu he k heo) (I.hok.write mu he k heo new)
theorem Inv.pins_of {pins' : List (Addr × Obj)} (I : Inv X pins σ H s) (h : ∀ p ∈ pins', s.heap.get? p.1 = some p.2 ∧ H p.1 = none ∧ p.1 ≠ X.env.locals ∧ p.1 ∉ X.fs ∧ ∀ v, p.2.data ≠ .cell v) : Inv X pins' σ H s :=
  ⟨I.ok, I.os, I.bare, I.base, I.loc, I.cell, I.free, I.freeC, fun p hp => (List.mem_append.mp hp).elim (fun z => I.pin p (List.mem_append_left _ z)) (h p), I.hok, I.len⟩
theorem nodup_ix {N : List Str} (hN : N.Nodup) {i j : Nat} {x : Str} (a : N[i]? = some x) (b : N[j]? = some x) : i = j := by
  obtain ⟨h1, e1⟩ := List.getElem?_eq_some_iff.mp a
  obtain ⟨h2, e2⟩ := List.getElem?_eq_some_iff.mp b
  exact (List.getElem_inj hN).mp (e1.trans e2.symm)
theorem store_ok2 {M : Model} {A : Around} {E : Value → Shared → Prop} {i : Nat} {x : Str} {v : V} {u : Value} {Q : Unit → Shared → Prop} (I : Inv X pins σ H s) (hN : X.N.Nodup) (hi : X.N[i]? = some x) (hx : Loc X.env.scope x) (r : RelV v u)
    (h : ∀ s', Inv X pins (σ.set i (some v)) H s' → (∃ a, Heap.SameBut a s.heap s'.heap ∧ (a = X.env.locals ∨ X.env.cells.lookup x = some a)) → Q () s') (hf : X.fn x = true ∨ X.env.scope.names.lookup x = some .local := by first | exact .inl rfl | exact .inr rfl | assumption) : wpAny M A (storeName X.env x u) Q E s := by
  obtain ⟨m, hn, hl⟩ := id I.loc
  have hcls : (X.env.scope.kind == .class || (X.env.scope.kind == .module && X.env.locals != X.env.globals)) = false := by rw [I.ok.kind]; rfl
  have hiσ : i < σ.length := by rw [I.len]; exact (List.getElem?_eq_some_iff.mp hi).1
  have cne := I.cne
  have tracked : ∀ {a : Addr} {h' : Heap}, (∃ o, s.heap.get? a = some o ∧ H a = none) → Heap.SameBut a s.heap h' → HOk X.prog X.w H h' := fun {a h'} ha hs b ob e => by
    obtain ⟨_, _, hfree⟩ := ha
    refine (I.hok b ob e).stay (fun c w' hc q => (hs.2 c ?_).trans q) (fun _ q => q) fun _ _ q => q
    rintro rfl
    rcases hc with rfl | hc
    · rw [hfree] at e; cases e
    · rw [hfree] at hc; cases hc
  rcases hx with hk | hk
  · refine wpAny_storeName_local hk hn (fun h' hn' hs => ?_) hcls
    obtain ⟨oL, _, _, hoL, _⟩ := id hn
    refine h _ ⟨I.ok, I.os, I.bare, ⟨fun b o e n hb hx => ?_, fun b o e n hb hx => ?_, I.base.free, fun b o e hx => ?_, I.base.tups, I.base.frzs, I.base.tbls⟩, ⟨_, hn', fun j y v' e1 e2 e3 => ?_⟩, fun y c e => ?_, I.free, I.freeC, fun p hp => ?_, tracked ⟨oL, hoL, I.free⟩ hs, by simpa using I.len⟩ ⟨_, hs, .inl rfl⟩
    · exact (hs.2 b (Nat.ne_of_lt (Nat.lt_of_lt_of_le (Heap.lt_size e) I.ok.above))).trans (I.base.keep b o e n hb hx)
    · obtain ⟨sl, e1⟩ := I.base.slot b o e n hb hx
      exact ⟨sl, (hs.2 b (Nat.ne_of_lt (Nat.lt_of_lt_of_le (Heap.lt_size e) I.ok.above))).trans e1⟩
    · obtain ⟨o', e1⟩ := I.base.there b o e hx
      exact ⟨o', (hs.2 b (Nat.ne_of_lt (Nat.lt_of_lt_of_le (Heap.lt_size e) I.ok.above))).trans e1⟩
    · by_cases hj : j = i
      · subst hj
        rw [hi] at e1; cases e1
        rw [List.getElem?_set_self hiσ] at e2
        cases e2
        exact ⟨u, r, .inl ⟨hk, by simp⟩⟩
      · rw [List.getElem?_set_ne (Ne.symm hj)] at e2
        obtain ⟨u', r', q⟩ := hl j y v' e1 e2 e3
        refine ⟨u', r', ?_⟩
        rcases q with ⟨k, e⟩ | ⟨k, c, e, z⟩
        · refine .inl ⟨k, ?_⟩
          have : y ≠ x := fun e => hj (nodup_ix hN e1 (e ▸ hi))
          simp [this, e]
        · exact .inr ⟨k, c, e, z.sameBut hs (cne y c e)⟩
    · obtain ⟨w', z⟩ := I.cell y c e
      exact ⟨w', z.sameBut hs (cne y c e)⟩
    · obtain ⟨e, n, ne, nf, d⟩ := I.pin p hp
      exact ⟨(hs.2 p.1 ne).trans e, n, ne, nf, d⟩
  · have hfn : X.fn x = true := by
      rcases hf with z | z
      · exact z
      · rw [z] at hk; cases hk
    obtain ⟨c, hc⟩ := I.ok.has x (.inl hk)
    obtain ⟨w', z⟩ := I.cell x c hc
    refine wpAny_storeName_cell I.ok.kind hk hc z (fun h' hc' hs => ?_)
    obtain ⟨oc, hoc, hocd⟩ := id z
    refine h { s with heap := h' } ⟨I.ok, I.os, I.bare, ⟨fun b o e n hb hx => ?_, fun b o e n hb hx => ?_, I.base.free, fun b o e hx => ?_, I.base.tups, I.base.frzs, I.base.tbls⟩, ⟨m, hn.sameBut hs (Ne.symm (cne x c hc)), fun j y v' e1 e2 e3 => ?_⟩, fun y c' e => ?_, I.free, I.freeC, fun p hp => ?_, tracked ⟨oc, hoc, I.freeC x c hc⟩ hs, by simpa using I.len⟩ ⟨c, hs, .inr hc⟩
    · exact (hs.2 b (Nat.ne_of_lt (Nat.lt_of_lt_of_le (Heap.lt_size e) (I.ok.cab x c hfn hc)))).trans (I.base.keep b o e n hb hx)
    · obtain ⟨sl, e1⟩ := I.base.slot b o e n hb hx
      exact ⟨sl, (hs.2 b (Nat.ne_of_lt (Nat.lt_of_lt_of_le (Heap.lt_size e) (I.ok.cab x c hfn hc)))).trans e1⟩
    · obtain ⟨o', e1⟩ := I.base.there b o e hx
      exact ⟨o', (hs.2 b (Nat.ne_of_lt (Nat.lt_of_lt_of_le (Heap.lt_size e) (I.ok.cab x c hfn hc)))).trans e1⟩
    · by_cases hj : j = i
      · subst hj
        rw [hi] at e1; cases e1
        rw [List.getElem?_set_self hiσ] at e2
        cases e2
        exact ⟨u, r, .inr ⟨.inl hk, c, hc, hc'⟩⟩
      · rw [List.getElem?_set_ne (Ne.symm hj)] at e2
        obtain ⟨u', r', q⟩ := hl j y v' e1 e2 e3
        refine ⟨u', r', ?_⟩
        rcases q with q | ⟨k, c', e, z'⟩
        · exact .inl q
        · refine .inr ⟨k, c', e, z'.sameBut hs ?_⟩
          rintro rfl
          exact hj (nodup_ix hN e1 (I.ok.inj _ _ _ e hc ▸ hi))
    · by_cases hcc : c' = c
      · subst hcc; exact ⟨_, hc'⟩
      · obtain ⟨w2, z2⟩ := I.cell y c' e
        exact ⟨w2, z2.sameBut hs hcc⟩
    · obtain ⟨e, n, ne, nf, d⟩ := I.pin p hp
      refine ⟨(hs.2 p.1 ?_).trans e, n, ne, nf, d⟩
      intro q
      rw [q, hoc] at e
      have q' : oc = p.2 := Option.some.inj e
      exact d w' (by rw [← q']; exact hocd)
theorem store_ok {M : Model} {A : Around} {E : Value → Shared → Prop} {i : Nat} {x : Str} {v : V} {u : Value} {Q : Unit → Shared → Prop} (I : Inv X pins σ H s) (hN : X.N.Nodup) (hi : X.N[i]? = some x) (hx : Loc X.env.scope x) (r : RelV v u)
    (h : ∀ s', Inv X pins (σ.set i (some v)) H s' → Q () s') (hf : X.fn x = true ∨ X.env.scope.names.lookup x = some .local := by first | exact .inl rfl | exact .inr rfl | assumption) : wpAny M A (storeName X.env x u) Q E s :=
  store_ok2 I hN hi hx r (fun s' I' _ => h s' I') hf
theorem Inv.call' {s' : Shared} {ch : List Addr} (I : Inv X pins σ H s) (ho : s'.os = s.os) (u : Un (frs X.stack) ch H H' s.heap s'.heap) (hok : HOk X.prog X.w H' s'.heap) (hg : AllBare s'.gens)
    (hch : ∀ b ∈ ch, (b ∈ X.ex ∨ X.s₀.heap.objs.size ≤ b) ∧ b ≠ X.env.locals ∧ (∀ x c, X.env.cells.lookup x = some c → c ≠ b) ∧ ∀ p ∈ X.pn ++ pins, p.1 ≠ b) : Inv X pins σ H' s' := by
  obtain ⟨h', g', d', t', o'⟩ := s'
  have e : o' = s.os := ho
  subst e
  exact I.call (g' := g') (t' := t') (d' := d') u hok hg hch
end
noncomputable abbrev XK := Value → Option Addr → Hp → Prop
noncomputable abbrev St := List (Option V)
noncomputable abbrev VK := V → Hp → Prop
noncomputable abbrev TE := St → Hp → VK → Prop
noncomputable abbrev TT := St → Hp → (Bool → Hp → Prop) → Prop
noncomputable abbrev TA := St → Hp → (List V → Hp → Prop) → Prop
structure Ends where
  nx : St → Hp → Prop
  rt : VK
  bk : St → Hp → Prop := fun _ _ => False
  ct : St → Hp → Prop := fun _ _ => False
noncomputable abbrev TS := Ends → St → Hp → Prop
noncomputable def EP (X : Cx) (pins : List (Addr × Obj)) (σ : St) (Q : VK) (u : Value) (s' : Shared) : Prop := ∃ v H', Inv X pins σ H' s' ∧ RelV v u ∧ Q v H'
noncomputable def TP (X : Cx) (pins : List (Addr × Obj)) (σ : St) (Q : Bool → Hp → Prop) (b : Bool) (s' : Shared) : Prop := ∃ H', Inv X pins σ H' s' ∧ Q b H'
noncomputable def AP (X : Cx) (pins : List (Addr × Obj)) (σ : St) (Q : List V → Hp → Prop) (us : List Value) (s' : Shared) : Prop := ∃ vs H', Inv X pins σ H' s' ∧ Vals vs us ∧ Q vs H'
noncomputable def SP (X : Cx) (pins : List (Addr × Obj)) (D : Ends) (f : Flow) (s' : Shared) : Prop :=
  match f with
  | .next => ∃ σ' H', Inv X pins σ' H' s' ∧ D.nx σ' H'
  | .brk => ∃ σ' H', Inv X pins σ' H' s' ∧ D.bk σ' H'
  | .cont => ∃ σ' H', Inv X pins σ' H' s' ∧ D.ct σ' H'
  | .ret u => ∃ v σ' H', Inv X pins σ' H' s' ∧ RelV v u ∧ D.rt v H'
noncomputable def PE (X : Cx) (e : Expr) (t : TE) : Prop :=
  ∀ (pins : List (Addr × Obj)) (s : Shared) (σ : St) (H : Hp) (Q : VK), Inv X pins σ H s → t σ H Q → wpAny (model X.prog X.w) X.A (eval e X.env) (EP X pins σ Q) X.xe s
noncomputable def PT (X : Cx) (e : Expr) (t : TT) : Prop :=
  ∀ (pins : List (Addr × Obj)) (s : Shared) (σ : St) (H : Hp) (Q : Bool → Hp → Prop), Inv X pins σ H s → t σ H Q → wpAny (model X.prog X.w) X.A (isTrue e X.env (eval e X.env)) (TP X pins σ Q) X.xe s
noncomputable def PW (X : Cx) (e : Expr) (t : TT) : Prop :=
  ∀ (whole : Sem Value) (pins : List (Addr × Obj)) (s : Shared) (σ : St) (H : Hp) (Q : Bool → Hp → Prop), Inv X pins σ H s → t σ H Q → wpAny (model X.prog X.w) X.A (isTrue e X.env whole) (TP X pins σ Q) X.xe s
theorem PW.pt {X : Cx} {e : Expr} {t : TT} (h : PW X e t) : PT X e t := h _
noncomputable def PA (X : Cx) (es : List Expr) (t : TA) : Prop :=
  ∀ (pos : Pos) (pins : List (Addr × Obj)) (s : Shared) (σ : St) (H : Hp) (Q : List V → Hp → Prop), Inv X pins σ H s → t σ H Q → wpAny (model X.prog X.w) X.A (spliced (backTo pos (starEach es X.env))) (AP X pins σ Q) X.xe s
noncomputable def PS (X : Cx) (st : Stmt) (t : TS) : Prop :=
  ∀ (pins : List (Addr × Obj)) (s : Shared) (σ : St) (H : Hp) (D : Ends), Inv X pins σ H s → t D σ H → wpAny (model X.prog X.w) X.A (exec st X.env) (SP X pins D) X.xe s
noncomputable def PSs (X : Cx) (st : List Stmt) (t : TS) : Prop :=
  ∀ (pins : List (Addr × Obj)) (s : Shared) (σ : St) (H : Hp) (D : Ends), Inv X pins σ H s → t D σ H → wpAny (model X.prog X.w) X.A (execs st X.env) (SP X pins D) X.xe s
theorem thn {α : Type} {t : Sem α} {Q Q' : α → Shared → Prop} {M : Model} {A : Around} {E : Value → Shared → Prop} {s : Shared} (h : wpAny M A t Q E s) (hQ : ∀ a s, Q a s → Q' a s) : wpAny M A t Q' E s := wpAny_mono h hQ fun _ _ x => x
end L2
namespace L2
open PySem PySem.Spec PyProof.Rows
section
variable {X : Cx}
noncomputable def tVar (i : Nat) : TE := fun σ H Q => ∃ v, σ[i]? = some (some v) ∧ Q v H
noncomputable def tC (v : V) : TE := fun _ H Q => Q v H
theorem pe_var {i : Nat} {x : Str} {pos : Pos} (hN : X.N[i]? = some x) (hv : Vis X.env.scope x) (hd : (x == ("__debug__" : Str)) = false := by decide) (hcd : (x == ("__classdict__" : Str)) = false := by decide) : PE X (.Name x pos) (tVar i) := by
  intro pins s σ H Q I h
  obtain ⟨v, e, h⟩ := h
  obtain ⟨m, hn, hl⟩ := I.loc
  obtain ⟨u, r, l⟩ := hl i x v hN e hv
  have fin : EP X pins σ Q u s := ⟨v, H, I, r, h⟩
  rcases l with ⟨hk, hm⟩ | ⟨hk, c, hc, hcell⟩
  · exact wpAny_Name (wpAny_loadName_local I.ok.kind hk hn hm fin) hd
  · rcases hk with hk | hk
    · exact wpAny_Name (wpAny_loadName_cell I.ok.kind hk hc hcell fin) hd
    · exact wpAny_Name (wpAny_loadName_free I.ok.kind hk hc hcell fin hcd) hd
theorem pe_int {i j pos} : PE X (.Constant (.int i) j pos) (tC (.int i)) := fun _ _ _ H _ I h => wpAny_Constant_int ⟨.int i, H, I.tok _, ⟨_, rfl⟩, h⟩
theorem pe_bl {b j pos} : PE X (.Constant (.bool b) j pos) (tC (.bl b)) := fun _ _ _ H _ I h => Constant_bool ⟨.bl b, H, I, rfl, h⟩
theorem pe_non {j pos} : PE X (.Constant .none j pos) (tC .non) := fun _ _ _ H _ I h => Constant_none ⟨.non, H, I, rfl, h⟩
theorem pe_str {x j pos} : PE X (.Constant (.str x) j pos) (tC (.str x)) := fun _ _ _ H _ I h => Calls.Constant_str ⟨.str x, H, I.tok _, ⟨_, rfl⟩, h⟩
noncomputable def Gl (X : Cx) (x : Str) : Prop := X.env.kindOf x = some .globalImplicit
theorem ld_glob {E : Value → Shared → Prop} {pins : List (Addr × Obj)} {s : Shared} {σ : St} {H : Hp} {x : Str} {u : Value} {pos : Pos} {Q : Value → Shared → Prop} (I : Inv X pins σ H s) (hg : Gl X x) (hm : X.mg x = some u) (h : Q u s)
    (hd : (x == ("__debug__" : Str)) = false := by decide) : wpAny (model X.prog X.w) X.A (eval (.Name x pos) X.env) Q E s :=
  Calls.Name_function_global I.ok.kind hg (Calls.loadGlobal_global (by rw [I.ok.glob]; exact I.mod.glob.keeps I.bk) hm h) hd
theorem ld_blt {E : Value → Shared → Prop} {pins : List (Addr × Obj)} {s : Shared} {σ : St} {H : Hp} {x : Str} {u : Value} {pos : Pos} {Q : Value → Shared → Prop} (I : Inv X pins σ H s) (hg : Gl X x) (hm : X.mg x = none) (hv : bootBuiltins x = some u) (h : Q u s)
    (hn : x ≠ "__name__" := by decide) (hd : (x == ("__debug__" : Str)) = false := by decide) : wpAny (model X.prog X.w) X.A (eval (.Name x pos) X.env) Q E s := by
  obtain ⟨mb, h1, h2⟩ := I.mod.blt
  exact Calls.Name_function_global I.ok.kind hg (Calls.loadGlobal_builtin (by rw [I.ok.glob]; exact I.mod.glob.keeps I.bk) hm (by rw [I.ok.blt]; exact h1.keeps I.bk) ((h2 x hn).trans hv) h) hd
theorem pe_glob {x : Str} {v : V} {u : Value} {pos : Pos} (hg : Gl X x) (hm : X.mg x = some u) (r : RelV v u) (hd : (x == ("__debug__" : Str)) = false := by decide) : PE X (.Name x pos) (tC v) :=
  fun _ _ _ H _ I h => ld_glob I hg hm ⟨v, H, I, r, h⟩ hd
theorem pe_bltn {x : Str} {v : V} {u : Value} {pos : Pos} (hg : Gl X x) (hm : X.mg x = none) (hv : bootBuiltins x = some u) (r : RelV v u) (hn : x ≠ "__name__" := by decide) (hd : (x == ("__debug__" : Str)) = false := by decide) : PE X (.Name x pos) (tC v) :=
  fun _ _ _ H _ I h => ld_blt I hg hm hv ⟨v, H, I, r, h⟩ hn hd
variable {a b : Expr} {ta tb : TE} {pos : Pos}
noncomputable def PC (X : Cx) (op : CmpOp) (a b : Expr) (t : TE) : Prop :=
  ∀ (pins : List (Addr × Obj)) (s : Shared) (σ : St) (H : Hp) (Q : VK), Inv X pins σ H s → t σ H Q →
    wpAny (model X.prog X.w) X.A (eval a X.env) (fun v s₁ => wpAny (model X.prog X.w) X.A (eval b X.env) (fun u s₂ => wpAny (model X.prog X.w) X.A (compareOp op v u) (EP X pins σ Q) X.xe s₂) X.xe s₁) X.xe s
noncomputable def tB (t : TE) : TT := fun σ H Q => t σ H fun x H1 => ∃ c, x = .bl c ∧ Q c H1
theorem pe_cmp {op : CmpOp} {t : TE} (h : PC X op a b t) (h1 : behindInMarks op b = false := by first | exact nobehind _ (by decide) (by decide) | rfl) : PE X (.Compare a [op] [b] pos) t := fun pins s σ H Q I hw => wpAny_Compare1 (h pins s σ H Q I hw) h1
theorem pt_cmp {op : CmpOp} {t : TE} (h : PC X op a b t) (h1 : behindInMarks op b = false := by first | exact nobehind _ (by decide) (by decide) | rfl) : PT X (.Compare a [op] [b] pos) (tB t) := by
  intro pins s σ H Q I hw
  refine wpAny_isTrue_Compare1 (thn (h pins s σ H _ I hw) fun v s1 h1 => thn h1 fun u s2 h2 => thn h2 fun c s3 ⟨x, H1, I1, r1, q1⟩ => ?_) h1
  obtain ⟨d, rfl, q⟩ := q1
  cases r1
  exact wpAny_truthy_bool ⟨H1, I1, q⟩
variable {tA tB' : TT} {rest : List Expr}
noncomputable def tAnd (t u : TT) : TT := fun σ H Q => t σ H fun c H1 => if c = true then u σ H1 Q else Q false H1
noncomputable def tOr (t u : TT) : TT := fun σ H Q => t σ H fun c H1 => if c = true then Q true H1 else u σ H1 Q
noncomputable def tNot (t : TT) : TT := fun σ H Q => t σ H fun c H1 => Q (!c) H1
theorem pw_and1 (ha : PT X a tA) : PW X (.BoolOp .And [a] pos) tA := by
  intro wh pins s σ H Q I h
  refine isTrue_and (thn (ha pins s σ H Q I h) fun c s1 e => ?_)
  cases c with
  | true => exact isTrue_and_nil e
  | false => exact e
theorem pw_or1 (ha : PT X a tA) : PW X (.BoolOp .Or [a] pos) tA := by
  intro wh pins s σ H Q I h
  refine isTrue_or (thn (ha pins s σ H Q I h) fun c s1 e => ?_)
  cases c with
  | false => exact isTrue_or_nil e
  | true => exact e
theorem pw_and (ha : PT X a tA) (hb : PW X (.BoolOp .And (b :: rest) pos) tB') : PW X (.BoolOp .And (a :: b :: rest) pos) (tAnd tA tB') := by
  intro wh pins s σ H Q I h
  refine isTrue_and (thn (ha pins s σ H _ I h) fun c s1 ⟨H1, I1, q1⟩ => ?_)
  cases c with
  | true => exact hb wh pins s1 σ H1 Q I1 q1
  | false => exact ⟨H1, I1, q1⟩
theorem pw_or (ha : PT X a tA) (hb : PW X (.BoolOp .Or (b :: rest) pos) tB') : PW X (.BoolOp .Or (a :: b :: rest) pos) (tOr tA tB') := by
  intro wh pins s σ H Q I h
  refine isTrue_or (thn (ha pins s σ H _ I h) fun c s1 ⟨H1, I1, q1⟩ => ?_)
  cases c with
  | true => exact ⟨H1, I1, q1⟩
  | false => exact hb wh pins s1 σ H1 Q I1 q1
theorem pt_not (ha : PT X a tA) : PT X (.UnaryOp .Not a pos) (tNot tA) := by
  intro pins s σ H Q I h
  exact isTrue_not (ha pins s σ H (fun c H1 => Q (!c) H1) I h)
noncomputable def tAndV (ta tb : TE) : TE := fun σ H Q => ta σ H fun x H1 => ∃ c, x = .bl c ∧ if c = true then tb σ H1 Q else Q (.bl false) H1
noncomputable def tOrV (ta tb : TE) : TE := fun σ H Q => ta σ H fun x H1 => ∃ c, x = .bl c ∧ if c = true then Q (.bl true) H1 else tb σ H1 Q
theorem pe_one {op} {t : TE} (h : PE X a t) : PE X (.BoolOp op [a] pos) t := fun pins s σ H Q I hw => BoolOp_one (h pins s σ H Q I hw)
theorem pe_and (ha : PE X a ta) (hb : PE X (.BoolOp .And (b :: rest) pos) tb) : PE X (.BoolOp .And (a :: b :: rest) pos) (tAndV ta tb) := by
  intro pins s σ H Q I h
  refine BoolOp_and (thn (ha pins s σ H _ I h) fun v s1 ⟨x, H1, I1, r1, q1⟩ => ?_)
  obtain ⟨c, rfl, q1⟩ := q1
  cases r1
  refine wpAny_truthy_bool ?_
  cases c with
  | true => exact hb pins s1 σ H1 Q I1 q1
  | false => exact ⟨.bl false, H1, I1, rfl, q1⟩
theorem pe_or (ha : PE X a ta) (hb : PE X (.BoolOp .Or (b :: rest) pos) tb) : PE X (.BoolOp .Or (a :: b :: rest) pos) (tOrV ta tb) := by
  intro pins s σ H Q I h
  refine BoolOp_or (thn (ha pins s σ H _ I h) fun v s1 ⟨x, H1, I1, r1, q1⟩ => ?_)
  obtain ⟨c, rfl, q1⟩ := q1
  cases r1
  refine wpAny_truthy_bool ?_
  cases c with
  | false => exact hb pins s1 σ H1 Q I1 q1
  | true => exact ⟨.bl true, H1, I1, rfl, q1⟩
noncomputable def tIf (t : TT) (ta tb : TE) : TE := fun σ H Q => t σ H fun c H1 => if c = true then ta σ H1 Q else tb σ H1 Q
theorem pe_ifExp {c : Expr} (hc : PT X c tA) (ha : PE X a ta) (hb : PE X b tb) : PE X (.IfExp c a b pos) (tIf tA ta tb) := by
  intro pins s σ H Q I h
  refine wpAny_IfExp (thn (hc pins s σ H _ I h) fun d s1 ⟨H1, I1, q1⟩ => ?_)
  cases d with
  | true => exact ha pins s1 σ H1 Q I1 q1
  | false => exact hb pins s1 σ H1 Q I1 q1
end
end L2
namespace L2
open PySem PySem.Spec PyProof.Rows
noncomputable def SqL (K : PySem.W.Frag) (H : Hp) (a : Addr) (xs : List V) : Prop :=
  Rd H a (.lst xs) ∨
    ∃ (o : Obj) (its : Array Value) (n : Nat), K.lookup a = some o ∧ o.cls = .type "list" ∧ o.dict = none ∧ o.data = .seq its n ∧ its.size ≤ sizeLine ∧ Vals xs its.toList
noncomputable def SqT (K : PySem.W.Frag) (H : Hp) (a : Addr) (xs : List V) : Prop :=
  Rd H a (.tup xs) ∨
    ∃ (o : Obj) (its : Array Value) (n : Nat), K.lookup a = some o ∧ o.cls = .type "tuple" ∧ o.data = .seq its n ∧ its.size ≤ sizeLine ∧ Vals xs its.toList
noncomputable def absV : Value → Option V
  | .none => some .non
  | .bool b => some (.bl b)
  | .int i _ => some (.int i)
  | .str x _ => some (.str x)
  | .bytes b _ => some (.byt b)
  | .float b _ => some (.flt b)
  | .ref a => some (.ref a)
  | .type n => some (.ty n)
  | _ => none
theorem RelV.abs {x : V} {u : Value} (r : RelV x u) : absV u = some x := by
  cases x with
  | non => cases r; rfl
  | bl _ => cases r; rfl
  | int _ => obtain ⟨t, rfl⟩ := r; rfl
  | str _ => obtain ⟨t, rfl⟩ := r; rfl
  | byt _ => obtain ⟨t, rfl⟩ := r; rfl
  | flt _ => obtain ⟨t, rfl⟩ := r; rfl
  | ref _ => cases r; rfl
  | ty _ => cases r; rfl
theorem RelV.inj {x y : V} {u : Value} (r : RelV x u) (q : RelV y u) : x = y := Option.some.inj (r.abs.symm.trans q.abs)
theorem Vals.inj : ∀ {xs ys : List V} {us : List Value}, Vals xs us → Vals ys us → xs = ys
  | _, _, _, .nil, .nil => rfl
  | _, _, _, .cons r t, .cons r' t' => by rw [r.inj r', Vals.inj t t']
section
variable {X : Cx} {pins : List (Addr × Obj)} {σ : St} {H : Hp} {s : Shared} {a : Addr} {xs ys : List V}
theorem SqL.of {K : PySem.W.Frag} (h : H a = some (.lst xs)) : SqL K H a xs := .inl (.inl h)
theorem Inv.list (I : Inv X pins σ H s) (h : SqL X.K H a xs) : ∃ its : List Value, Vals xs its ∧ PlainL s.heap a its.toArray ∧ xs.length ≤ sizeLine := by
  rcases h with h | ⟨o, its, n, hk, hc, hd, hs, hz, r⟩
  · obtain ⟨z, its, n, r, e⟩ := h.ok I.hok
    exact ⟨its, r, ⟨_, n, e, rfl, rfl, rfl⟩, z⟩
  · refine ⟨its.toList, r, ⟨o, n, I.kIn a o hk, hc, hd, by simpa using hs⟩, ?_⟩
    have e := r.length
    simp only [Array.length_toList] at e
    omega
theorem Inv.tuple (I : Inv X pins σ H s) (h : SqT X.K H a xs) : ∃ its : List Value, Vals xs its ∧ IsTup s.heap a its.toArray ∧ xs.length ≤ sizeLine := by
  rcases h with h | ⟨o, its, n, hk, hc, hs, hz, r⟩
  · obtain ⟨z, its, r, p⟩ := h.ok I.hok
    exact ⟨its, r, p, z⟩
  · refine ⟨its.toList, r, ⟨o, I.kIn a o hk, hc, n, by simpa using hs⟩, ?_⟩
    have e := r.length
    simp only [Array.length_toList] at e
    omega
theorem Inv.list_inj (I : Inv X pins σ H s) (h : SqL X.K H a xs) (h' : SqL X.K H a ys) : xs = ys := by
  obtain ⟨its, r, ⟨o, n, e, _, _, d⟩, _⟩ := I.list h
  obtain ⟨its', r', ⟨o', n', e', _, _, d'⟩, _⟩ := I.list h'
  rw [e] at e'; cases e'
  rw [d] at d'
  injection d' with d1 _
  have : its = its' := by simpa using congrArg Array.toList d1
  subst this
  exact r.inj r'
theorem Inv.tuple_inj (I : Inv X pins σ H s) (h : SqT X.K H a xs) (h' : SqT X.K H a ys) : xs = ys := by
  obtain ⟨its, r, ⟨o, e, _, n, d⟩, _⟩ := I.tuple h
  obtain ⟨its', r', ⟨o', e', _, n', d'⟩, _⟩ := I.tuple h'
  rw [e] at e'; cases e'
  rw [d] at d'
  injection d' with d1 _
  have : its = its' := by simpa using congrArg Array.toList d1
  subst this
  exact r.inj r'
end
noncomputable abbrev Cx.wish (X : Cx) (E : Value → Shared → Prop) : Cx := { X with xe := E }
noncomputable abbrev Cx.nox (X : Cx) : Cx := X.wish fun _ _ => False
theorem Cx.Ok.wish {X : Cx} (ok : X.Ok) (E : Value → Shared → Prop) : (X.wish E).Ok :=
  ⟨ok.mod, ok.kind, ok.glob, ok.blt, ok.above, ok.inj, ok.has, ok.cab, ok.hd, ok.frames, ok.stk, ok.exf, ok.bs, ok.bsz, ok.noex, ok.exfs, ok.funs, ok.frf⟩
theorem Cx.Ok.unwish {X : Cx} {E : Value → Shared → Prop} (ok : (X.wish E).Ok) : X.Ok :=
  ⟨ok.mod, ok.kind, ok.glob, ok.blt, ok.above, ok.inj, ok.has, ok.cab, ok.hd, ok.frames, ok.stk, ok.exf, ok.bs, ok.bsz, ok.noex, ok.exfs, ok.funs, ok.frf⟩
section
variable {X : Cx} {pins : List (Addr × Obj)} {σ : St} {H : Hp} {s : Shared} {E : Value → Shared → Prop}
theorem Inv.wish (I : Inv X pins σ H s) (E : Value → Shared → Prop) : Inv (X.wish E) pins σ H s := ⟨I.ok.wish E, I.os, I.bare, I.base, I.loc, I.cell, I.free, I.freeC, I.pin, I.hok, I.len⟩
theorem Inv.unwish (I : Inv (X.wish E) pins σ H s) : Inv X pins σ H s := ⟨I.ok.unwish, I.os, I.bare, I.base, I.loc, I.cell, I.free, I.freeC, I.pin, I.hok, I.len⟩
theorem SP.unwish {D : Ends} {f : Flow} {s' : Shared} (h : SP (X.wish E) pins D f s') : SP X pins D f s' := by
  cases f with
  | next => obtain ⟨σ', H', I, q⟩ := h; exact ⟨σ', H', I.unwish, q⟩
  | brk => obtain ⟨σ', H', I, q⟩ := h; exact ⟨σ', H', I.unwish, q⟩
  | cont => obtain ⟨σ', H', I, q⟩ := h; exact ⟨σ', H', I.unwish, q⟩
  | ret u => obtain ⟨v, σ', H', I, r, q⟩ := h; exact ⟨v, σ', H', I.unwish, r, q⟩
theorem PE.nox {e : Expr} {t : TE} (h : PE X.nox e t) : PE X e t := fun pins s σ H Q I hw =>
  wpAny_mono (h pins s σ H Q (I.wish _) hw) (fun _ _ ⟨v, H', I', r, q⟩ => ⟨v, H', I'.unwish, r, q⟩) fun _ _ z => False.elim z
theorem PT.nox {e : Expr} {t : TT} (h : PT X.nox e t) : PT X e t := fun pins s σ H Q I hw =>
  wpAny_mono (h pins s σ H Q (I.wish _) hw) (fun _ _ ⟨H', I', q⟩ => ⟨H', I'.unwish, q⟩) fun _ _ z => False.elim z
end
section
variable {X : Cx} {st : Stmt} {rest : List Stmt} {t u : TS} {e : Expr} {te : TE} {pos : Pos}
noncomputable def tNext : TS := fun D σ H => D.nx σ H
noncomputable def tSeq (t u : TS) : TS := fun D σ H => t { D with nx := u D } σ H
theorem pss_nil : PSs X [] tNext := fun _ _ σ H _ I h => wpAny_execs_nil ⟨σ, H, I, h⟩
theorem pss_cons (h1 : PS X st t) (h2 : PSs X rest u) : PSs X (st :: rest) (tSeq t u) := by
  intro pins s σ H D I h
  refine wpAny_execs_cons (thn (h1 pins s σ H { D with nx := u D } I h) fun f s1 q => ?_)
  cases f with
  | next =>
    obtain ⟨σ', H', I', q⟩ := q
    exact h2 pins s1 σ' H' D I' q
  | ret v => exact q
  | brk => exact q
  | cont => exact q
noncomputable def tBreak : TS := fun D σ H => D.bk σ H
noncomputable def tCont : TS := fun D σ H => D.ct σ H
theorem ps_pass : PS X (.Pass pos) tNext := fun _ _ σ H _ I h => wpAny_Pass ⟨σ, H, I, h⟩
theorem ps_break : PS X (.Break pos) tBreak := fun _ _ σ H _ I h => wpAny_Break ⟨σ, H, I, h⟩
theorem ps_continue : PS X (.Continue pos) tCont := fun _ _ σ H _ I h => wpAny_Continue ⟨σ, H, I, h⟩
theorem Inv.quiet {pins : List (Addr × Obj)} {σ : St} {H : Hp} {s : Shared} (I : Inv X pins σ H s) : interactive X.env = false := by simp [interactive, I.ok.kind]
noncomputable def tDrop (te : TE) : TS := fun D σ H => te σ H fun _ H1 => D.nx σ H1
theorem ps_expr (he : PE X e te) (hs : swapsWith e none pos.line X.env = pure false := by rfl) : PS X (.Expr e pos) (tDrop te) := by
  intro pins s σ H D I h
  exact wpAny_Expr_any (thn (he pins s σ H _ I h) fun v s1 ⟨x, H1, I1, r1, q1⟩ => ⟨σ, H1, I1, q1⟩) I.quiet hs
noncomputable def tRet (te : TE) : TS := fun D σ H => te σ H D.rt
theorem ps_ret (he : PE X e te) : PS X (.Return (some e) pos) (tRet te) := by
  intro pins s σ H D I h
  exact wpAny_Return_some (thn (he pins s σ H _ I h) fun v s1 ⟨x, H1, I1, r1, q1⟩ => ⟨x, σ, H1, I1, r1, q1⟩)
noncomputable def tRetN : TS := fun D _ H => D.rt .non H
theorem ps_retN : PS X (.Return none pos) tRetN := fun _ _ σ H _ I h => wpAny_Return_none ⟨.non, σ, H, I, rfl, h⟩
noncomputable def tIfS (c : TT) (t u : TS) : TS := fun D σ H => c σ H fun b H1 => if b = true then t D σ H1 else u D σ H1
theorem ps_if {c : Expr} {a b : List Stmt} {tc : TT} (hc : PT X c tc) (ha : PSs X a t) (hb : PSs X b u) : PS X (.If c a b pos) (tIfS tc t u) := by
  intro pins s σ H D I h
  refine wpAny_If (thn (hc pins s σ H _ I h) fun d s1 ⟨H1, I1, q1⟩ => ?_)
  cases d with
  | true => exact ha pins s1 σ H1 D I1 q1
  | false => exact hb pins s1 σ H1 D I1 q1
end
noncomputable abbrev TG := V → St → Hp → (St → Hp → Prop) → Prop
noncomputable abbrev TGs := List V → St → Hp → (St → Hp → Prop) → Prop
noncomputable def PG (X : Cx) (target : Expr) (t : TG) : Prop :=
  ∀ (pins : List (Addr × Obj)) (s : Shared) (σ : St) (H : Hp) (v : V) (u : Value) (Q : St → Hp → Prop), Inv X pins σ H s → RelV v u → t v σ H Q →
    wpAny (model X.prog X.w) X.A (assign target X.env u) (fun _ s' => ∃ σ' H', Inv X pins σ' H' s' ∧ Q σ' H') X.xe s
noncomputable def PGs (X : Cx) (ts : List Expr) (t : TGs) : Prop :=
  ∀ (pins : List (Addr × Obj)) (s : Shared) (σ : St) (H : Hp) (vs : List V) (us : List Value) (Q : St → Hp → Prop), Inv X pins σ H s → Vals vs us → t vs σ H Q →
    wpAny (model X.prog X.w) X.A (assignInOrder ((assignEach ts X.env).map (·.2)) us) (fun _ s' => ∃ σ' H', Inv X pins σ' H' s' ∧ Q σ' H') X.xe s
noncomputable abbrev TSet := V → V → V → Hp → (Hp → Prop) → Prop
noncomputable def PSet (X : Cx) (t : TSet) : Prop :=
  ∀ (pins : List (Addr × Obj)) (s : Shared) (σ : St) (H : Hp) (o i v : V) (ov iv u : Value) (Q : Hp → Prop), Inv X pins σ H s → RelV o ov → RelV i iv → RelV v u → t o i v H Q →
    wpAny (model X.prog X.w) X.A (setItem ov iv u) (fun _ s' => ∃ H', Inv X pins σ H' s' ∧ Q H') X.xe s
section
variable {X : Cx} {pos : Pos}
noncomputable def gName (i : Nat) : TG := fun v σ H Q => Q (σ.set i (some v)) H
theorem pg_name {i : Nat} {x : Str} (hN : X.N.Nodup) (hi : X.N[i]? = some x) (hx : Loc X.env.scope x) (hf : X.fn x = true ∨ X.env.scope.names.lookup x = some .local := by first | exact .inl rfl | exact .inr rfl | assumption) : PG X (.Name x pos) (gName i) := by
  intro pins s σ H v u Q I r h
  exact wpAny_assign_Name (store_ok I hN hi hx r (fun s' I' => ⟨_, H, I', h⟩) hf)
noncomputable def gNil : TGs := fun vs σ H Q => vs = [] ∧ Q σ H
noncomputable def gCons (t : TG) (u : TGs) : TGs := fun vs σ H Q => ∃ v r, vs = v :: r ∧ t v σ H fun σ' H' => u r σ' H' Q
theorem pgs_nil : PGs X [] gNil := by
  intro pins s σ H vs us Q I r h
  obtain ⟨e, h⟩ := h
  subst e
  cases r
  exact assignInOrder_nil ⟨σ, H, I, h⟩
theorem pgs_cons {e : Expr} {es : List Expr} {t : TG} {u : TGs} (h1 : PG X e t) (h2 : PGs X es u)
    (hs : (assignEach (e :: es) X.env).map (·.2) = assign e X.env :: (assignEach es X.env).map (·.2) := by rfl) : PGs X (e :: es) (gCons t u) := by
  intro pins s σ H vs us Q I r h
  obtain ⟨v, vr, e1, h⟩ := h
  subst e1
  cases r with
  | cons r rr =>
    rw [hs]
    refine assignInOrder_cons (thn (h1 pins s σ H _ _ _ I r h) fun _ s1 ⟨σ1, H1, I1, q1⟩ => ?_)
    exact h2 pins s1 σ1 H1 _ _ Q I1 rr q1
noncomputable def gTup (K : PySem.W.Frag) (n : Nat) (t : TGs) : TG := fun v σ H Q => ∃ a xs, v = .ref a ∧ SqT K H a xs ∧ xs.length = n ∧ t xs σ H Q
theorem pg_tup {es : List Expr} {k : Nat} {t : TGs} {n : Nat} (hc : X.calm = true) (h : PGs X es t)
    (hn : (assignEach es X.env).length = n := by rfl) (hst : (assignEach es X.env).findIdx? (·.1) = none := by rfl) : PG X (.Tuple es k pos) (gTup X.K n t) := by
  intro pins s σ H v u Q I r hw
  obtain ⟨a, xs, e1, hq, hl, hw⟩ := hw
  subst e1
  cases r
  obtain ⟨its, rv, ht, hz⟩ := I.tuple hq
  refine assign_Tuple_tuple (I.ok.hd hc) ht (by simp [hn, ← hl, rv.length]) hst fun h' hx => ?_
  have I1 : Inv X pins σ H { s with heap := h' } := I.kept (t' := s.toks) fun b o e => hx b o (Nat.ne_of_lt (Heap.lt_size e)) e
  exact h pins _ σ H xs _ Q I1 (by simpa using rv) hw
noncomputable def gSub (to ti : TE) (t : TSet) : TG := fun v σ H Q => to σ H fun o H1 => ti σ H1 fun i H2 => t o i v H2 fun H3 => Q σ H3
theorem pg_sub {o i : Expr} {to ti : TE} {t : TSet} (ho : PE X o to) (hi : PE X i ti) (hs : PSet X t)
    (ha : ∀ v, assign (.Subscript o i pos) X.env v = (do
      let ov ← holding [v] (eval o X.env)
      let iv ← holding [v, ov] (eval i X.env)
      standAt pos
      holding [v, ov, iv] (setItem ov iv v)
      release [v, ov, iv] []) := by intro _; rfl) : PG X (.Subscript o i pos) (gSub to ti t) := by
  intro pins s σ H v u Q I r h
  rw [ha]
  refine wpAny_bind (wpAny_holding (thn (ho pins s σ H _ I h) fun ov s1 ⟨x, H1, I1, r1, q1⟩ => ?_))
  refine wpAny_bind (wpAny_holding (thn (hi pins s1 σ H1 _ I1 q1) fun iv s2 ⟨y, H2, I2, r2, q2⟩ => ?_))
  refine wpAny_bind (wpAny_standAt (wpAny_bind (wpAny_holding (thn (hs pins s2 σ H2 x y v ov iv u _ I2 r1 r2 r q2) fun _ s3 ⟨H3, I3, q3⟩ => ?_))))
  exact wpAny_release ⟨σ, H3, I3, q3⟩
noncomputable def tAsg (te : TE) (g : TG) : TS := fun D σ H => te σ H fun x H1 => g x σ H1 D.nx
theorem ps_asg {tg e : Expr} {te : TE} {g : TG} (he : PE X e te) (hg : PG X tg g) (hs : swapsWithSole [tg] e pos.line X.env = pure false := by rfl) (hw : swappedStores [tg] e X.env = pure none := by rfl)
    (h1 : (assignEach [tg] X.env).map (·.2) = [assign tg X.env] := by rfl) : PS X (.Assign [tg] e pos) (tAsg te g) := by
  intro pins s σ H D I h
  refine wpAny_Assign_stores (thn (he pins s σ H _ I h) fun v s1 ⟨x, H1, I1, r1, q1⟩ => ?_) hs hw
  rw [h1]
  exact thn (hg pins s1 σ H1 x v _ I1 r1 q1) fun _ s2 q => q
theorem ps_set {i : Nat} {x : Str} {e : Expr} {te : TE} {pos' : Pos} (hN : X.N.Nodup) (hi : X.N[i]? = some x) (hx : Loc X.env.scope x) (he : PE X e te) (hs : swapsWith e (some (.Name x pos')) pos.line X.env = pure false := by rfl) (hf : X.fn x = true ∨ X.env.scope.names.lookup x = some .local := by first | exact .inl rfl | exact .inr rfl | assumption) :
    PS X (.Assign [.Name x pos'] e pos) (tAsg te (gName i)) := by
  intro pins s σ H D I h
  refine wpAny_Assign_Name (thn (he pins s σ H _ I h) fun v s1 ⟨y, H1, I1, r1, q1⟩ => ?_) hs
  exact store_ok I1 hN hi hx r1 (fun s2 I2 => ⟨_, H1, I2, q1⟩) hf
end
section
variable {X : Cx} {pos : Pos}
noncomputable def tWhile (c : TT) (tb : TS) : TS := fun D σ H => ∃ W : Nat → St → Hp → Prop, (∃ m, W m σ H) ∧ ∀ m σ H, W m σ H →
  c σ H fun b H1 => if b = true then ∃ N : St → Hp → Prop, (∀ σ' H', N σ' H' → ∃ m', m' < m ∧ W m' σ' H') ∧ tb { D with nx := N, ct := N, bk := D.nx } σ H1 else D.nx σ H1
theorem ps_while {c : Expr} {body : List Stmt} {tc : TT} {tb : TS} (hp : PassesOwn (model X.prog X.w) X.A X.env X.xe) (hc : PT X c tc) (hb : PSs X body tb) : PS X (.While c body [] pos) (tWhile tc tb) := by
  intro pins s σ H D I h
  obtain ⟨W, ⟨m0, w0⟩, turn⟩ := h
  refine wpAny_While (codeAny_whileLoop (fun n s' => ∃ σ' H', Inv X pins σ' H' s' ∧ W n σ' H') ?_ m0 ⟨σ, H, I, w0⟩)
  rintro n s1 ⟨σ1, H1, I1, w1⟩
  refine wpAny_passesOwn hp (thn (hc pins s1 σ1 H1 _ I1 (turn n σ1 H1 w1)) fun b s2 ⟨H2, I2, q2⟩ => ?_)
  cases b with
  | true =>
    obtain ⟨N, hN, q2⟩ := q2
    rw [if_pos rfl]
    refine wpAny_passesOwn hp (thn (hb pins s2 σ1 H2 _ I2 q2) fun f s3 q3 => ?_)
    cases f with
    | next =>
      obtain ⟨σ3, H3, I3, n3⟩ := q3
      obtain ⟨m', hm, w3⟩ := hN σ3 H3 n3
      exact ⟨m', hm, σ3, H3, I3, w3⟩
    | cont =>
      obtain ⟨σ3, H3, I3, n3⟩ := q3
      obtain ⟨m', hm, w3⟩ := hN σ3 H3 n3
      exact ⟨m', hm, σ3, H3, I3, w3⟩
    | brk => exact q3
    | ret v => exact q3
  | false =>
    rw [if_neg Bool.false_ne_true]
    exact wpAny_execs_nil ⟨σ1, H2, I2, q2⟩
end
structure It where
  go : Nat → Hp → Prop
  yld : Nat → Hp → V → Hp → Prop
  stop : Nat → Hp → Prop
noncomputable def FpOk (X : Cx) (pins : List (Addr × Obj)) (H : Hp) (b : Addr) : Prop :=
  H b = none ∧ b ≠ X.env.locals ∧ b ∉ X.fs ∧ (b ∈ X.ex ∨ X.s₀.heap.objs.size ≤ b) ∧ (∀ x c, X.env.cells.lookup x = some c → c ≠ b) ∧ ∀ p ∈ X.pn ++ pins, p.1 ≠ b
theorem Inv.fpOk {X : Cx} {pins : List (Addr × Obj)} {σ : St} {H H' : Hp} {s : Shared} {b : Addr} (I : Inv X pins σ H s) (hb : s.heap.objs.size ≤ b) (hn : H' b = none) : FpOk X pins H' b := by
  refine ⟨hn, Nat.ne_of_gt (Nat.lt_of_lt_of_le I.lt hb), I.nofs hb, .inr (Nat.le_trans I.sz hb), fun x c e z => ?_, fun p hp z => ?_⟩
  · obtain ⟨v, q⟩ := I.cell x c e
    exact absurd (Nat.lt_of_lt_of_le q.lt (by rw [z]; exact hb)) (Nat.lt_irrefl _)
  · exact absurd (Nat.lt_of_lt_of_le (Heap.lt_size (I.pin p hp).1) (by rw [z]; exact hb)) (Nat.lt_irrefl _)
structure Turn (P : Program) (w : World) (K : PySem.W.Frag) (tg : Expr) (J : It) (fp : List Addr) (it : Addr) (tn : Nat → Heap → Prop) : Prop where
  mem : it ∈ fp
  obj : ∀ i h, tn i h → ∀ b ∈ fp, ∃ o, h.get? b = some o ∧ ∀ v, o.data ≠ .cell v
  keep : ∀ i h h', tn i h → (∀ b ∈ fp, ∀ o, h.get? b = some o → h'.get? b = some o) → tn i h'
  item : ∀ (X : Cx), X.prog = P → X.w = w → X.K = K → X.calm = true → ∀ (i : Nat) (pins : List (Addr × Obj)) (s : Shared) (σ : St) (H : Hp) (E : Value → Shared → Prop), Inv X pins σ H s → (∀ b ∈ fp, FpOk X pins H b) → tn i s.heap → J.go i H →
    wpAny (model P w) X.A (pyNext (.ref it)) (fun r s1 => ∃ u, r = some u ∧
      wpAny (model P w) X.A (letOwnedTupleGo tg (.ref it) u) (fun _ s2 => ∃ x H', Inv X pins σ H' s2 ∧ RelV x u ∧ J.yld i H x H' ∧ tn (i + 1) s2.heap ∧ ∀ b ∈ fp, H' b = none) E s1) E s
  done : ∀ (X : Cx), X.prog = P → X.w = w → X.K = K → X.calm = true → ∀ (i : Nat) (pins : List (Addr × Obj)) (s : Shared) (σ : St) (H : Hp) (E : Value → Shared → Prop), Inv X pins σ H s → (∀ b ∈ fp, FpOk X pins H b) → tn i s.heap → J.stop i H →
    wpAny (model P w) X.A (pyNext (.ref it)) (fun r s1 => r = none ∧ Inv X pins σ H s1) E s
  self : ∀ (A : Around) (i : Nat) (s : Shared) (Q : Value → Shared → Prop) (E : Value → Shared → Prop), tn i s.heap → Q (.ref it) s → wpAny (model P w) A (pyIter (.ref it)) Q E s
noncomputable abbrev TI := St → Hp → (It → Hp → Prop) → Prop
noncomputable def PIE (X : Cx) (pins : List (Addr × Obj)) (σ : St) (tg : Expr) (R : It → Hp → Prop) (itv : Value) (s2 : Shared) : Prop :=
  ∃ (it : Addr) (fp : List Addr) (tn : Nat → Heap → Prop) (J : It) (H' : Hp), itv = .ref it ∧ Inv X pins σ H' s2 ∧ Turn X.prog X.w X.K tg J fp it tn ∧ tn 0 s2.heap ∧ (∀ b ∈ fp, FpOk X pins H' b) ∧ R J H'
noncomputable def PI (X : Cx) (tg iter : Expr) (wi : TI) : Prop :=
  ∀ (pins : List (Addr × Obj)) (s : Shared) (σ : St) (H : Hp) (R : It → Hp → Prop), Inv X pins σ H s → wi σ H R →
    wpAny (model X.prog X.w) X.A (eval iter X.env) (fun v s1 => wpAny (model X.prog X.w) X.A (pyIter v) (PIE X pins σ tg R) X.xe s1) X.xe s
theorem go_of {M : Model} {A : Around} {E : Value → Shared → Prop} {s : Shared} {tg : Expr} {it : Addr} {u : Value} {o : Obj} {n : String} {vs : Array Value} {Q : Unit → Shared → Prop} (ho : s.heap.get? it = some o) (hc : o.cls = .type n) (hd : o.data = .fields vs)
    (hn : ["enumerate", "zip", "dict_itemiterator", "dict_reverseitemiterator", "odict_iterator", "itertools.zip_longest", "itertools.pairwise"].contains n = false) (hQ : Q () s) : wpAny M A (letOwnedTupleGo tg (.ref it) u) Q E s := by
  unfold letOwnedTupleGo
  cases tg <;> first
    | exact wpAny_pure hQ
    | (cases u <;> first
        | exact wpAny_pure hQ
        | (refine wpAny_bind (wpAny_load ho ?_)
           rw [hc, hd]
           show wpAny M A (if (["enumerate", "zip", "dict_itemiterator", "dict_reverseitemiterator", "odict_iterator", "itertools.zip_longest", "itertools.pairwise"].contains n && vs[0]? == some (rawInt _)) = true then _ else _) Q E s
           rw [if_neg (by intro h; rw [hn, Bool.false_and] at h; cases h)]
           exact wpAny_pure hQ))
noncomputable def Itl (K : PySem.W.Frag) (a : Addr) : It :=
  ⟨fun i H => ∃ xs x, SqL K H a xs ∧ xs[i]? = some x, fun i H x H' => H' = H ∧ ∀ xs, SqL K H a xs → xs[i]? = some x, fun i H => ∃ xs, SqL K H a xs ∧ xs.length ≤ i⟩
noncomputable def Itt (K : PySem.W.Frag) (a : Addr) : It :=
  ⟨fun i H => ∃ xs x, SqT K H a xs ∧ xs[i]? = some x, fun i H x H' => H' = H ∧ ∀ xs, SqT K H a xs → xs[i]? = some x, fun i H => ∃ xs, SqT K H a xs ∧ xs.length ≤ i⟩
noncomputable def Itr (lo : Int) (n : Nat) : It := ⟨fun i _ => i < n, fun i H x H' => H' = H ∧ x = .int (lo + i), fun i _ => n ≤ i⟩
theorem turn_list {P : Program} {w : World} {K : PySem.W.Frag} {tg : Expr} (a it : Addr) : Turn P w K tg (Itl K a) [it] it (fun i h => h.IsListIter it a i) where
  mem := by simp
  obj := fun i h st b hb => by
    have e : b = it := by simpa using hb
    subst e
    obtain ⟨o, e, c, d⟩ := st
    exact ⟨o, e, fun v z => by rw [d] at z; cases z⟩
  keep := fun i h h' st k => st.at fun o e => k it (by simp) o e
  item := by
    intro X hP hw hK hc i pins s σ H E I hf st hg
    subst hP hw hK
    obtain ⟨xs, x, hq, hx⟩ := hg
    obtain ⟨its, rv, p, hz⟩ := I.list hq
    obtain ⟨u, hu, ru⟩ := rv.get hx
    obtain ⟨f0, f1, f2, f3, f4, f5⟩ := hf it (by simp)
    refine wpAny_pyNext_list_item st p.isList (x := u) (by simpa using hu) fun h' st' sb => ?_
    have I1 : Inv X pins σ H { s with heap := h' } := I.turned (t' := s.toks) (fun b o hb e => (sb.2 b hb).trans e) f0 f1 f3 f4 f5
    obtain ⟨o, e, c, d⟩ := id st'
    exact ⟨u, rfl, go_of (s := { s with heap := h' }) e c d (by decide) ⟨x, H, I1, ru, ⟨rfl, fun ys hy => by rw [I.list_inj hy hq]; exact hx⟩, st', fun b hb => (hf b hb).1⟩⟩
  done := by
    intro X hP hw hK hc i pins s σ H E I hf st hg
    subst hP hw hK
    obtain ⟨xs, hq, hx⟩ := hg
    obtain ⟨its, rv, p, hz⟩ := I.list hq
    obtain ⟨f0, f1, f2, f3, f4, f5⟩ := hf it (by simp)
    have hl := rv.length
    exact wpAny_pyNext_list_end (I.ok.hd hc) st p.isList (by simp; omega) fun h' eb => ⟨rfl, I.turned (t' := s.toks) (fun b o hb e => eb b o hb e) f0 f1 f3 f4 f5⟩
  self := fun _ _ _ _ _ st h => wpAny_pyIter_listiter st h
theorem turn_tuple {P : Program} {w : World} {K : PySem.W.Frag} {tg : Expr} (a it : Addr) : Turn P w K tg (Itt K a) [it] it (fun i h => h.IsTupleIter it a i) where
  mem := by simp
  obj := fun i h st b hb => by
    have e : b = it := by simpa using hb
    subst e
    obtain ⟨o, e, c, d⟩ := st
    exact ⟨o, e, fun v z => by rw [d] at z; cases z⟩
  keep := fun i h h' st k => st.at fun o e => k it (by simp) o e
  item := by
    intro X hP hw hK hc i pins s σ H E I hf st hg
    subst hP hw hK
    obtain ⟨xs, x, hq, hx⟩ := hg
    obtain ⟨its, rv, p, hz⟩ := I.tuple hq
    obtain ⟨u, hu, ru⟩ := rv.get hx
    obtain ⟨f0, f1, f2, f3, f4, f5⟩ := hf it (by simp)
    refine wpAny_pyNext_tuple_item st (show s.heap.IsTuple a its.toArray from p) (x := u) (by simpa using hu) fun h' st' sb => ?_
    have I1 : Inv X pins σ H { s with heap := h' } := I.turned (t' := s.toks) (fun b o hb e => (sb.2 b hb).trans e) f0 f1 f3 f4 f5
    obtain ⟨o, e, c, d⟩ := id st'
    exact ⟨u, rfl, go_of (s := { s with heap := h' }) e c d (by decide) ⟨x, H, I1, ru, ⟨rfl, fun ys hy => by rw [I.tuple_inj hy hq]; exact hx⟩, st', fun b hb => (hf b hb).1⟩⟩
  done := by
    intro X hP hw hK hc i pins s σ H E I hf st hg
    subst hP hw hK
    obtain ⟨xs, hq, hx⟩ := hg
    obtain ⟨its, rv, p, hz⟩ := I.tuple hq
    obtain ⟨f0, f1, f2, f3, f4, f5⟩ := hf it (by simp)
    have hl := rv.length
    exact wpAny_pyNext_tuple_end (I.ok.hd hc) st (show s.heap.IsTuple a its.toArray from p) (by simp; omega) fun h' eb => ⟨rfl, I.turned (t' := s.toks) (fun b o hb e => eb b o hb e) f0 f1 f3 f4 f5⟩
  self := fun _ _ _ _ _ st h => wpAny_pyIter_tupleiter st h
theorem turn_range {P : Program} {w : World} {K : PySem.W.Frag} {tg : Expr} (it : Addr) (lo : Int) (n : Nat) : Turn P w K tg (Itr lo n) [it] it (fun i h => IsRangeIter h it (lo + (i : Nat) * 1) ((n : Int) - (i : Nat)) 1) where
  mem := by simp
  obj := fun i h st b hb => by
    have e : b = it := by simpa using hb
    subst e
    exact ⟨_, st, fun v z => by
      have z' : Data.fields _ = Data.cell v := z
      cases z'⟩
  keep := fun i h h' st k => k it (by simp) _ st
  item := by
    intro X hP hw hK hc i pins s σ H E I hf st hg
    subst hP hw hK
    obtain ⟨f0, f1, f2, f3, f4, f5⟩ := hf it (by simp)
    have W := Walks.range (prog := X.prog) (w := X.w) (I.ok.hd hc) it lo 1 n
    refine W.item i s _ _ hg st fun v h' tk hv st' kk => ?_
    obtain ⟨t, rfl⟩ := hv
    have I1 : Inv X pins σ H { s with heap := h', toks := tk } := I.turned (fun b o hb e => kk b o (by simpa using hb) e) f0 f1 f3 f4 f5
    refine ⟨_, rfl, go_of (s := { s with heap := h', toks := tk }) (n := "range_iterator") st' rfl rfl (by decide) ⟨.int (lo + i), H, I1, ⟨t, ?_⟩, ⟨rfl, rfl⟩, st', fun b hb => (hf b hb).1⟩⟩
    rw [Int.mul_one]
  done := by
    intro X hP hw hK hc i pins s σ H E I hf st hg
    subst hP hw hK
    obtain ⟨f0, f1, f2, f3, f4, f5⟩ := hf it (by simp)
    exact wpAny_pyNext_range_end (I.ok.hd hc) st (by have : n ≤ i := hg; omega) fun h' eb => ⟨rfl, I.turned (t' := s.toks) (fun b o hb e => eb b o hb e) f0 f1 f3 f4 f5⟩
  self := fun _ _ _ _ _ st h => wpAny_pyIter_rangeiter st h
end L2
namespace L2
open PySem PySem.Spec PyProof.Rows
section
variable {X : Cx} {tg : Expr}
noncomputable def iList (K : PySem.W.Frag) (tl : TE) : TI := fun σ H R => tl σ H fun x H1 => ∃ a, x = .ref a ∧ (∃ xs, SqL K H1 a xs) ∧ R (Itl K a) H1
noncomputable def iTup (K : PySem.W.Frag) (tl : TE) : TI := fun σ H R => tl σ H fun x H1 => ∃ a, x = .ref a ∧ (∃ xs, SqT K H1 a xs) ∧ R (Itt K a) H1
theorem pi_list {l : Expr} {tl : TE} (hl : PE X l tl) : PI X tg l (iList X.K tl) := by
  intro pins s σ H R I h
  refine thn (hl pins s σ H _ I h) fun v s1 ⟨x, H1, I1, r1, q1⟩ => ?_
  obtain ⟨a, e, ⟨xs, hq⟩, q⟩ := q1
  subst e
  cases r1
  obtain ⟨its, rv, p, hz⟩ := I1.list hq
  refine wpAny_pyIter_list p.isList ?_
  refine ⟨s1.heap.objs.size, [s1.heap.objs.size], _, _, H1, rfl, I1.kept (t' := s1.toks) fun b o e => Heap.get?_push_of_some _ e, turn_list a _, ⟨_, Heap.get?_push_size _ rfl, rfl, rfl⟩, fun b hb => ?_, q⟩
  have e : b = s1.heap.objs.size := by simpa using hb
  subst e
  exact I1.fpOk (Nat.le_refl _) (I1.hok.fresh (Nat.le_refl _))
theorem pi_tup {l : Expr} {tl : TE} (hl : PE X l tl) : PI X tg l (iTup X.K tl) := by
  intro pins s σ H R I h
  refine thn (hl pins s σ H _ I h) fun v s1 ⟨x, H1, I1, r1, q1⟩ => ?_
  obtain ⟨a, e, ⟨xs, hq⟩, q⟩ := q1
  subst e
  cases r1
  obtain ⟨its, rv, p, hz⟩ := I1.tuple hq
  refine wpAny_pyIter_tuple (show s1.heap.IsTuple a its.toArray from p) ?_
  refine ⟨s1.heap.objs.size, [s1.heap.objs.size], _, _, H1, rfl, I1.kept (t' := s1.toks) fun b o e => Heap.get?_push_of_some _ e, turn_tuple a _, ⟨_, Heap.get?_push_size _ rfl, rfl, rfl⟩, fun b hb => ?_, q⟩
  have e : b = s1.heap.objs.size := by simpa using hb
  subst e
  exact I1.fpOk (Nat.le_refl _) (I1.hok.fresh (Nat.le_refl _))
theorem range_it {pins : List (Addr × Obj)} {σ : St} {H : Hp} {s : Shared} {R : It → Hp → Prop} {E : Value → Shared → Prop} {lo hi : Int} {t u v : Tok} {tk : Nat} (I : Inv X pins σ H s) (h1 : -(2 ^ 62) ≤ lo) (h2 : lo < 2 ^ 62) (h3 : -(2 ^ 62) ≤ hi) (h4 : hi < 2 ^ 62)
    (q : R (Itr lo (hi - lo).toNat) H) : wpAny (model X.prog X.w) X.A (pyIter (.ref s.heap.objs.size)) (PIE X pins σ tg R) E { s with heap := s.heap.push { cls := .type "range", data := .fields #[.int lo t, .int hi u, .int 1 v] }, toks := tk } := by
  refine wpAny_pyIter_range (IsRange.new ..) (small_one h1 h2 h3 h4) ?_
  have I1 : Inv X pins σ H { s with heap := s.heap.push { cls := .type "range", data := .fields #[.int lo t, .int hi u, .int 1 v] }, toks := tk } := I.kept fun b o e => Heap.get?_push_of_some _ e
  refine ⟨(s.heap.push { cls := .type "range", data := .fields #[.int lo t, .int hi u, .int 1 v] }).objs.size, [(s.heap.push { cls := .type "range", data := .fields #[.int lo t, .int hi u, .int 1 v] }).objs.size], _, _, H, rfl,
    I1.kept (t' := tk) fun b o e => Heap.get?_push_of_some _ e, turn_range _ lo (hi - lo).toNat, ?_, fun b hb => ?_, q⟩
  · have e1 : lo + ((0 : Nat) : Int) * 1 = lo := by simp
    have e2 : (((hi - lo).toNat : Nat) : Int) - ((0 : Nat) : Int) = Builtin.Range.rangeSize lo hi 1 := by rw [rangeSize_one]; split <;> omega
    show IsRangeIter _ _ (lo + ((0 : Nat) : Int) * 1) ((((hi - lo).toNat : Nat) : Int) - ((0 : Nat) : Int)) 1
    rw [e1, e2]
    exact Heap.get?_push_size _ rfl
  · have e : b = (s.heap.push { cls := .type "range", data := .fields #[.int lo t, .int hi u, .int 1 v] }).objs.size := by simpa using hb
    subst e
    exact I1.fpOk (Nat.le_refl _) (I1.hok.fresh (Nat.le_refl _))
noncomputable def iRng1 (ta : TA) : TI := fun σ H R => ta σ H fun vs H1 => ∃ j : Int, vs = [.int j] ∧ -(2 ^ 62) ≤ j ∧ j < 2 ^ 62 ∧ R (Itr 0 j.toNat) H1
theorem pi_range1 {a : Expr} {ta : TA} {p pos : Pos} (hg : Gl X "range") (hm : X.mg "range" = none) (ha : PA X [a] ta) (hs : starEach [a] X.env = [(false, eval a X.env)] := by rfl) : PI X tg (.Call (.Name "range" p) [a] [] pos) (iRng1 ta) := by
  intro pins s σ H R I h
  refine Call_ (ld_blt I hg hm boot_range (PyProof.Rows.callWith_type1 (thn (ha pos pins s σ H _ I h) fun us s1 ⟨vs, H1, I1, r1, q1⟩ => ?_) hs rfl))
  obtain ⟨j, e, q1, q2, q⟩ := q1
  subst e
  cases r1 with
  | cons r rr =>
    cases rr
    obtain ⟨t, rfl⟩ := r
    exact call_range_1 (range_it I1 (by omega) (by omega) q1 q2 (by simpa using q))
noncomputable def tFor (wi : TI) (g : TG) (tb : TS) : TS := fun D σ H => wi σ H fun J H1 => ∃ W : Nat → Nat → St → Hp → Prop, (∃ m, W 0 m σ H1) ∧ ∀ i m σ H, W i m σ H →
  (J.stop i H ∧ D.nx σ H) ∨ (J.go i H ∧ ∃ N : St → Hp → Prop, (∀ σ' H', N σ' H' → ∃ m', m' < m ∧ W (i + 1) m' σ' H') ∧ ∀ x H', J.yld i H x H' → g x σ H' fun σ2 H2 => tb { D with nx := N, ct := N, bk := D.nx } σ2 H2)
noncomputable def pinsAt (fp : List Addr) (h : Heap) : List (Addr × Obj) := fp.filterMap fun b => (h.get? b).map fun o => (b, o)
theorem mem_pinsAt {fp : List Addr} {h : Heap} {b : Addr} {o : Obj} (hb : b ∈ fp) (e : h.get? b = some o) : (b, o) ∈ pinsAt fp h := List.mem_filterMap.mpr ⟨b, hb, by rw [e]; rfl⟩
theorem of_pinsAt {fp : List Addr} {h : Heap} {p : Addr × Obj} (hp : p ∈ pinsAt fp h) : p.1 ∈ fp ∧ h.get? p.1 = some p.2 := by
  obtain ⟨b, hb, e⟩ := List.mem_filterMap.mp hp
  cases q : h.get? b with
  | none => rw [q] at e; cases e
  | some o =>
    rw [q] at e
    have e' : (b, o) = p := Option.some.inj e
    subst e'
    exact ⟨hb, q⟩
theorem Inv.pinned {pins : List (Addr × Obj)} {σ : St} {H : Hp} {s : Shared} {fp : List Addr} (I : Inv X pins σ H s) (hf : ∀ b ∈ fp, FpOk X pins H b) (ho : ∀ b ∈ fp, ∃ o, s.heap.get? b = some o ∧ ∀ v, o.data ≠ .cell v) : Inv X (pins ++ pinsAt fp s.heap) σ H s :=
  I.pins_of fun p hp => (List.mem_append.mp hp).elim (fun z => I.pin p (List.mem_append_right _ z)) fun z => by
    obtain ⟨hb, e⟩ := of_pinsAt z
    obtain ⟨f0, f1, f2, _⟩ := hf p.1 hb
    obtain ⟨o, e', d⟩ := ho p.1 hb
    rw [e] at e'; cases e'
    exact ⟨e, f0, f1, f2, d⟩
theorem Inv.unpinned {pins pl : List (Addr × Obj)} {σ : St} {H : Hp} {s : Shared} (I : Inv X (pins ++ pl) σ H s) : Inv X pins σ H s := I.pins_of fun p hp => I.pin p (List.mem_append_right _ (List.mem_append_left _ hp))
theorem ps_for {iter : Expr} {body : List Stmt} {wi : TI} {g : TG} {tb : TS} {pos : Pos} (hp : PassesOwn (model X.prog X.w) X.A X.env X.xe) (hc : X.calm = true) (hi : PI X tg iter wi) (hg : PG X tg g) (hb : PSs X body tb)
    (hs : ∀ x, foldedSetIterable iter X.env x = pure x := by intro _; rfl) : PS X (.For tg iter body [] pos) (tFor wi g tb) := by
  intro pins s σ H D I h
  refine wpAny_For (thn (hi pins s σ H _ I h) fun v s1 h1 => thn h1 fun itv s2 h2 => ?_) hs
  obtain ⟨it, fp, tn, J, H2, e, I2, T, st2, f2, W, ⟨m0, w0⟩, turn⟩ := h2
  subst e
  have stat : ∀ {H' : Hp}, (∀ b ∈ fp, H' b = none) → ∀ b ∈ fp, FpOk X pins H' b := fun hn b hb => ⟨hn b hb, (f2 b hb).2⟩
  refine codeAny_forLoop_any (fun n s' => ∃ i σ' H', Inv X pins σ' H' s' ∧ tn i s'.heap ∧ (∀ b ∈ fp, H' b = none) ∧ W i n σ' H') ?_ m0 ⟨0, σ, H2, I2, st2, fun b hb => (f2 b hb).1, w0⟩
  rintro n s3 ⟨i, σ3, H3, I3, st3, fr3, w3⟩
  rcases turn i n σ3 H3 w3 with ⟨stop, qn⟩ | ⟨go, N, hN, step⟩
  · refine wpAny_passesOwn hp (thn (T.done X rfl rfl rfl hc i pins s3 σ3 H3 X.xe I3 (stat fr3) st3 stop) fun r s4 ⟨hr, I4⟩ => ?_)
    subst hr
    exact wpAny_execs_nil ⟨σ3, H3, I4, qn⟩
  · refine wpAny_passesOwn hp (thn (T.item X rfl rfl rfl hc i pins s3 σ3 H3 X.xe I3 (stat fr3) st3 go) fun r s4 ⟨u, hr, h4⟩ => ?_)
    subst hr
    refine wpAny_passesOwn hp (thn h4 fun _ s5 ⟨x, H5, I5, r5, y5, st5, fr5⟩ => ?_)
    have I5' := I5.pinned (stat fr5) (T.obj _ _ st5)
    refine wpAny_passesOwn hp (thn (hg _ s5 σ3 H5 x u _ I5' r5 (step x H5 y5)) fun _ s6 ⟨σ6, H6, I6, q6⟩ => ?_)
    refine wpAny_passesOwn hp (thn (hb _ s6 σ6 H6 _ I6 q6) fun f s7 q7 => ?_)
    have again : ∀ {σ7 : St} {H7 : Hp}, Inv X (pins ++ pinsAt fp s5.heap) σ7 H7 s7 → N σ7 H7 → ∃ m, m < n ∧ ∃ i σ' H', Inv X pins σ' H' s7 ∧ tn i s7.heap ∧ (∀ b ∈ fp, H' b = none) ∧ W i m σ' H' := fun {σ7 H7} I7 n7 => by
      obtain ⟨m', hm, w7⟩ := hN σ7 H7 n7
      refine ⟨m', hm, i + 1, σ7, H7, I7.unpinned, T.keep _ _ _ st5 fun b hb o e => (I7.pin (b, o) (List.mem_append_right _ (List.mem_append_right _ (mem_pinsAt hb e)))).1, fun b hb => ?_, w7⟩
      obtain ⟨o, e, d⟩ := T.obj _ _ st5 b hb
      exact (I7.pin (b, o) (List.mem_append_right _ (List.mem_append_right _ (mem_pinsAt hb e)))).2.1
    cases f with
    | next => obtain ⟨σ7, H7, I7, n7⟩ := q7; exact again I7 n7
    | cont => obtain ⟨σ7, H7, I7, n7⟩ := q7; exact again I7 n7
    | brk => obtain ⟨σ7, H7, I7, q7⟩ := q7; exact ⟨σ7, H7, I7.unpinned, q7⟩
    | ret v => obtain ⟨x7, σ7, H7, I7, r7, q7⟩ := q7; exact ⟨x7, σ7, H7, I7.unpinned, r7, q7⟩
end
end L2
namespace L2
open PySem PySem.Spec PyProof.Rows
noncomputable abbrev R2 := V → V → Hp → VK → Prop
noncomputable def OpR (X : Cx) (f : Value → Value → Sem Value) (r : R2) : Prop :=
  ∀ (pins : List (Addr × Obj)) (s : Shared) (σ : St) (H : Hp) (x y : V) (v u : Value) (Q : VK), Inv X pins σ H s → RelV x v → RelV y u → r x y H Q →
    wpAny (model X.prog X.w) X.A (f v u) (EP X pins σ Q) X.xe s
noncomputable def UnR (X : Cx) (f : Value → Sem Value) (r : V → Hp → VK → Prop) : Prop :=
  ∀ (pins : List (Addr × Obj)) (s : Shared) (σ : St) (H : Hp) (x : V) (v : Value) (Q : VK), Inv X pins σ H s → RelV x v → r x H Q →
    wpAny (model X.prog X.w) X.A (f v) (EP X pins σ Q) X.xe s
noncomputable def CallR (X : Cx) (f : Value) (r : List V → Hp → VK → Prop) : Prop :=
  ∀ (pins : List (Addr × Obj)) (s : Shared) (σ : St) (H : Hp) (xs : List V) (us : List Value) (Q : VK), Inv X pins σ H s → Vals xs us → r xs H Q →
    wpAny (model X.prog X.w) X.A (call f us) (EP X pins σ Q) X.xe s
noncomputable def TruR (X : Cx) (r : V → Hp → (Bool → Hp → Prop) → Prop) : Prop :=
  ∀ (pins : List (Addr × Obj)) (s : Shared) (σ : St) (H : Hp) (x : V) (v : Value) (Q : Bool → Hp → Prop), Inv X pins σ H s → RelV x v → r x H Q →
    wpAny (model X.prog X.w) X.A (truthy v) (TP X pins σ Q) X.xe s
noncomputable def tOp (r : R2) (ta tb : TE) : TE := fun σ H Q => ta σ H fun x H1 => tb σ H1 fun y H2 => r x y H2 Q
noncomputable def tUn (r : V → Hp → VK → Prop) (ta : TE) : TE := fun σ H Q => ta σ H fun x H1 => r x H1 Q
noncomputable def rI (C : Int → Int → Prop) (g : Int → Int → V) : R2 := fun x y H Q => ∃ i j, x = .int i ∧ y = .int j ∧ C i j ∧ Q (g i j) H
noncomputable def rI0 (g : Int → Int → V) : R2 := fun x y H Q => ∃ i j, x = .int i ∧ y = .int j ∧ Q (g i j) H
noncomputable def rU (g : Int → V) : V → Hp → VK → Prop := fun x H Q => ∃ i, x = .int i ∧ Q (g i) H
section
variable {X : Cx} {a b c : Expr} {ta tb tc : TE} {pos : Pos}
theorem binT (ha : PE X a ta) (hb : PE X b tb) {pins : List (Addr × Obj)} {s : Shared} {σ : St} {H : Hp} {R : V → V → Hp → Prop} (I : Inv X pins σ H s)
    (h : ta σ H fun x H1 => tb σ H1 fun y H2 => R x y H2) {Q : Value → Shared → Prop} {f : Value → Value → Sem Value}
    (hf : ∀ v u s2 x y H2, Inv X pins σ H2 s2 → RelV x v → RelV y u → R x y H2 → wpAny (model X.prog X.w) X.A (f v u) Q X.xe s2) :
    wpAny (model X.prog X.w) X.A (eval a X.env) (fun v s₁ => wpAny (model X.prog X.w) X.A (eval b X.env) (fun u s₂ => wpAny (model X.prog X.w) X.A (f v u) Q X.xe s₂) X.xe s₁) X.xe s := by
  refine thn (ha pins s σ H _ I h) fun v s1 ⟨x, H1, I1, r1, q1⟩ => ?_
  refine thn (hb pins s1 σ H1 _ I1 q1) fun u s2 ⟨y, H2, I2, r2, q2⟩ => ?_
  exact hf v u s2 x y H2 I2 r1 r2 q2
theorem pe_op {op : Operator} {r : R2} (ho : OpR X (binaryOp op) r) (ha : PE X a ta) (hb : PE X b tb) : PE X (.BinOp a op b pos) (tOp r ta tb) := by
  intro pins s σ H Q I h
  exact wpAny_BinOp (binT ha hb I h fun v u s2 x y H2 I2 rx ry q => ho pins s2 σ H2 x y v u Q I2 rx ry q)
theorem pe_un {op : UnaryOp} {r : V → Hp → VK → Prop} (ho : UnR X (unaryOp op) r) (ha : PE X a ta) : PE X (.UnaryOp op a pos) (tUn r ta) := by
  intro pins s σ H Q I h
  exact UnaryOp_ (thn (ha pins s σ H _ I h) fun v s1 ⟨x, H1, I1, r1, q1⟩ => ho pins s1 σ H1 x v Q I1 r1 q1)
theorem opI {f : Value → Value → Sem Value} {C : Int → Int → Prop} {g : Int → Int → Int}
    (rule : ∀ (i j : Int) (t u : Tok) (s : Shared) (Q : Value → Shared → Prop) (E : Value → Shared → Prop), C i j → Q (.int (g i j) s.toks) { s with toks := s.toks + 1 } → wpAny (model X.prog X.w) X.A (f (.int i t) (.int j u)) Q E s) :
    OpR X f (rI C fun i j => .int (g i j)) := by
  intro pins s σ H x y v u Q I rx ry h
  obtain ⟨i, j, rfl, rfl, hc, q⟩ := h
  obtain ⟨t, rfl⟩ := rx
  obtain ⟨t', rfl⟩ := ry
  exact rule i j t t' s _ _ hc ⟨.int (g i j), H, I.tok _, ⟨_, rfl⟩, q⟩
theorem opI0 {f : Value → Value → Sem Value} {g : Int → Int → Int}
    (rule : ∀ (i j : Int) (t u : Tok) (s : Shared) (Q : Value → Shared → Prop) (E : Value → Shared → Prop), Q (.int (g i j) s.toks) { s with toks := s.toks + 1 } → wpAny (model X.prog X.w) X.A (f (.int i t) (.int j u)) Q E s) :
    OpR X f (rI0 fun i j => .int (g i j)) := by
  intro pins s σ H x y v u Q I rx ry h
  obtain ⟨i, j, rfl, rfl, q⟩ := h
  obtain ⟨t, rfl⟩ := rx
  obtain ⟨t', rfl⟩ := ry
  exact rule i j t t' s _ _ ⟨.int (g i j), H, I.tok _, ⟨_, rfl⟩, q⟩
theorem opB0 {f : Value → Value → Sem Value} {g : Int → Int → Bool}
    (rule : ∀ (i j : Int) (t u : Tok) (s : Shared) (Q : Value → Shared → Prop) (E : Value → Shared → Prop), Q (.bool (g i j)) s → wpAny (model X.prog X.w) X.A (f (.int i t) (.int j u)) Q E s) :
    OpR X f (rI0 fun i j => .bl (g i j)) := by
  intro pins s σ H x y v u Q I rx ry h
  obtain ⟨i, j, rfl, rfl, q⟩ := h
  obtain ⟨t, rfl⟩ := rx
  obtain ⟨t', rfl⟩ := ry
  exact rule i j t t' s _ _ ⟨.bl (g i j), H, I, rfl, q⟩
noncomputable def CPow (i j : Int) : Prop := 0 ≤ j ∧ j ≤ 1000000 ∧ i.natAbs < 2 ^ 64
theorem op_add : OpR X (binaryOp .Add) (rI0 fun i j => .int (i + j)) := opI0 fun _ _ _ _ _ _ _ q => add_int q
theorem op_sub : OpR X (binaryOp .Sub) (rI0 fun i j => .int (i - j)) := opI0 fun _ _ _ _ _ _ _ q => sub_int q
theorem op_modN : OpR X (binaryOp .Mod) (rI (fun _ j => j ≠ 0) fun i j => .int (i.fmod j)) := opI fun _ _ _ _ _ _ _ hc q => mod_int' hc q
theorem op_pow : OpR X (binaryOp .Pow) (rI CPow fun i j => .int (i ^ j.toNat)) := opI fun _ _ _ _ _ _ _ hc q => pow_int_small hc.1 hc.2.1 hc.2.2 q
theorem unI {f : Value → Sem Value} {g : Int → Int}
    (rule : ∀ (i : Int) (t : Tok) (s : Shared) (Q : Value → Shared → Prop) (E : Value → Shared → Prop), Q (.int (g i) s.toks) { s with toks := s.toks + 1 } → wpAny (model X.prog X.w) X.A (f (.int i t)) Q E s) :
    UnR X f (rU fun i => .int (g i)) := by
  intro pins s σ H x v Q I rx h
  obtain ⟨i, rfl, q⟩ := h
  obtain ⟨t, rfl⟩ := rx
  exact rule i t s _ _ ⟨.int (g i), H, I.tok _, ⟨_, rfl⟩, q⟩
theorem un_neg : UnR X (unaryOp .USub) (rU fun i => .int (-i)) := unI fun _ _ _ _ _ q => neg_int q
end
noncomputable def scal : V → V → Bool
  | .non, .non => true | .non, .int _ => true | .int _, .non => true | .non, .bl _ => true | .bl _, .non => true | .non, .str _ => true | .str _, .non => true
  | .int _, .int _ => true | .bl _, .bl _ => true | .str _, .str _ => true | .byt _, .byt _ => true
  | .int _, .str _ => true | .str _, .int _ => true | .bl _, .str _ => true | .str _, .bl _ => true
  | _, _ => false
noncomputable def rEq : R2 := fun x y H Q => scal x y = true ∧ Q (.bl (decide (x = y))) H
noncomputable def rNe : R2 := fun x y H Q => scal x y = true ∧ Q (.bl (!decide (x = y))) H
theorem dec_int {i j : Int} : decide (V.int i = V.int j) = (i == j) := by
  rw [Bool.eq_iff_iff]
  simp
theorem dec_bl {i j : Bool} : decide (V.bl i = V.bl j) = (i == j) := by
  rw [Bool.eq_iff_iff]
  simp
theorem dec_str {i j : Str} : decide (V.str i = V.str j) = (i == j) := by
  rw [Bool.eq_iff_iff]
  simp
theorem dec_byt {i j : Array UInt8} : decide (V.byt i = V.byt j) = (i.toList == j.toList) := by
  rw [Bool.eq_iff_iff]
  cases i
  cases j
  simp
section
variable {X : Cx} {a b c : Expr} {ta tb tc : TE} {pos : Pos}
theorem fin_bl {pins : List (Addr × Obj)} {σ : St} {H : Hp} {s : Shared} {Q : VK} {k k' : Bool} (I : Inv X pins σ H s) (q : Q (.bl k) H) (e : k = k') : EP X pins σ Q (.bool k') s := by
  subst e
  exact ⟨.bl k, H, I, rfl, q⟩
theorem op_eq : OpR X (compareOp .Eq) rEq := by
  intro pins s σ H x y v u Q I rx ry h
  obtain ⟨hs, q⟩ := h
  cases x with
  | non =>
    cases rx
    cases y with
    | non => cases ry; exact PySem.EqNone.eq_none_none (fin_bl I q (by simp))
    | bl j => cases ry; exact PySem.EqNone.eq_none_bool (fin_bl I q (by simp))
    | int j => obtain ⟨t', rfl⟩ := ry; exact PySem.EqNone.eq_none_int (fin_bl I q (by simp))
    | str j => obtain ⟨t', rfl⟩ := ry; exact PySem.EqNone.eq_none_str (fin_bl I q (by simp))
    | _ => exact absurd (show false = true from hs) Bool.false_ne_true
  | bl i =>
    cases rx
    cases y with
    | non => cases ry; exact PySem.EqNone.eq_bool_none (fin_bl I q (by simp))
    | bl j => cases ry; exact eq_bool (fin_bl I q dec_bl)
    | str j => obtain ⟨t', rfl⟩ := ry; exact PySem.EqMixed.eq_bool_str (fin_bl I q (by simp))
    | _ => exact absurd (show false = true from hs) Bool.false_ne_true
  | int i =>
    obtain ⟨t, rfl⟩ := rx
    cases y with
    | non => cases ry; exact PySem.EqNone.eq_int_none (fin_bl I q (by simp))
    | int j => obtain ⟨t', rfl⟩ := ry; exact eq_int (fin_bl I q dec_int)
    | str j => obtain ⟨t', rfl⟩ := ry; exact PySem.EqMixed.eq_int_str (fin_bl I q (by simp))
    | _ => exact absurd (show false = true from hs) Bool.false_ne_true
  | str i =>
    obtain ⟨t, rfl⟩ := rx
    cases y with
    | non => cases ry; exact PySem.EqNone.eq_str_none (fin_bl I q (by simp))
    | bl j => cases ry; exact PySem.EqMixed.eq_str_bool (fin_bl I q (by simp))
    | int j => obtain ⟨t', rfl⟩ := ry; exact PySem.EqMixed.eq_str_int (fin_bl I q (by simp))
    | str j => obtain ⟨t', rfl⟩ := ry; exact eq_str (fin_bl I q dec_str)
    | _ => exact absurd (show false = true from hs) Bool.false_ne_true
  | byt i =>
    obtain ⟨t, rfl⟩ := rx
    cases y with
    | byt j => obtain ⟨t', rfl⟩ := ry; exact PySem.W.eq_bytes (fin_bl I q dec_byt)
    | _ => exact absurd (show false = true from hs) Bool.false_ne_true
  | _ => cases y <;> exact absurd (show false = true from hs) Bool.false_ne_true
theorem op_ne : OpR X (compareOp .NotEq) rNe := by
  intro pins s σ H x y v u Q I rx ry h
  obtain ⟨hs, q⟩ := h
  cases x with
  | non =>
    cases rx
    cases y with
    | non => cases ry; exact PySem.EqNone.ne_none_none (fin_bl I q (by simp))
    | bl j => cases ry; exact PySem.EqNone.ne_none_bool (fin_bl I q (by simp))
    | int j => obtain ⟨t', rfl⟩ := ry; exact PySem.EqNone.ne_none_int (fin_bl I q (by simp))
    | str j => obtain ⟨t', rfl⟩ := ry; exact PySem.EqNone.ne_none_str (fin_bl I q (by simp))
    | _ => exact absurd (show false = true from hs) Bool.false_ne_true
  | bl i =>
    cases rx
    cases y with
    | non => cases ry; exact PySem.EqNone.ne_bool_none (fin_bl I q (by simp))
    | bl j => cases ry; exact ne_bool (fin_bl I q (congrArg not dec_bl))
    | str j => obtain ⟨t', rfl⟩ := ry; exact PySem.EqMixed.ne_bool_str (fin_bl I q (by simp))
    | _ => exact absurd (show false = true from hs) Bool.false_ne_true
  | int i =>
    obtain ⟨t, rfl⟩ := rx
    cases y with
    | non => cases ry; exact PySem.EqNone.ne_int_none (fin_bl I q (by simp))
    | int j => obtain ⟨t', rfl⟩ := ry; exact ne_int (fin_bl I q (congrArg not dec_int))
    | str j => obtain ⟨t', rfl⟩ := ry; exact PySem.EqMixed.ne_int_str (fin_bl I q (by simp))
    | _ => exact absurd (show false = true from hs) Bool.false_ne_true
  | str i =>
    obtain ⟨t, rfl⟩ := rx
    cases y with
    | non => cases ry; exact PySem.EqNone.ne_str_none (fin_bl I q (by simp))
    | bl j => cases ry; exact PySem.EqMixed.ne_str_bool (fin_bl I q (by simp))
    | int j => obtain ⟨t', rfl⟩ := ry; exact PySem.EqMixed.ne_str_int (fin_bl I q (by simp))
    | str j => obtain ⟨t', rfl⟩ := ry; exact ne_str (fin_bl I q (congrArg not dec_str))
    | _ => exact absurd (show false = true from hs) Bool.false_ne_true
  | byt i =>
    obtain ⟨t, rfl⟩ := rx
    cases y with
    | byt j => obtain ⟨t', rfl⟩ := ry; exact PySem.W.ne_bytes (fin_bl I q (congrArg not dec_byt))
    | _ => exact absurd (show false = true from hs) Bool.false_ne_true
  | _ => cases y <;> exact absurd (show false = true from hs) Bool.false_ne_true
theorem op_lt : OpR X (compareOp .Lt) (rI0 fun i j => .bl (decide (i < j))) := opB0 fun _ _ _ _ _ _ _ q => lt_int q
theorem op_le : OpR X (compareOp .LtE) (rI0 fun i j => .bl (decide (i ≤ j))) := opB0 fun _ _ _ _ _ _ _ q => le_int q
theorem op_gt : OpR X (compareOp .Gt) (rI0 fun i j => .bl (decide (j < i))) := opB0 fun _ _ _ _ _ _ _ q => gt_int q
theorem op_ge : OpR X (compareOp .GtE) (rI0 fun i j => .bl (decide (j ≤ i))) := opB0 fun _ _ _ _ _ _ _ q => ge_int q
theorem op_lt_str : OpR X (compareOp .Lt) (fun x y H Q => ∃ i j, x = .str i ∧ y = .str j ∧ Q (.bl (decide (i.cps.toList < j.cps.toList))) H) := by
  intro pins s σ H x y v u Q I rx ry h
  obtain ⟨i, j, rfl, rfl, q⟩ := h
  obtain ⟨t, rfl⟩ := rx
  obtain ⟨t', rfl⟩ := ry
  exact lt_str (fin_bl I q rfl)
theorem op_in_str : OpR X (compareOp .In) (fun x y H Q => ∃ i j, x = .str i ∧ y = .str j ∧ Q (.bl (!(Builtin.Str.occurrences j i 0 j.length 1).isEmpty)) H) := by
  intro pins s σ H x y v u Q I rx ry h
  obtain ⟨i, j, rfl, rfl, q⟩ := h
  obtain ⟨t, rfl⟩ := rx
  obtain ⟨t', rfl⟩ := ry
  exact in_str (fin_bl I q rfl)
theorem op_isN : OpR X (compareOp .Is) (fun x y H Q => y = .non ∧ Q (.bl (decide (x = .non))) H) := by
  intro pins s σ H x y v u Q I rx ry h
  obtain ⟨rfl, q⟩ := h
  cases ry
  refine is_none_gen (fin_bl I q ?_)
  cases x <;> first
    | (cases rx; rfl)
    | (obtain ⟨t, rfl⟩ := rx; rfl)
theorem op_notN : OpR X (compareOp .IsNot) (fun x y H Q => y = .non ∧ Q (.bl (!decide (x = .non))) H) := by
  intro pins s σ H x y v u Q I rx ry h
  obtain ⟨rfl, q⟩ := h
  cases ry
  refine isnot_none_gen (fin_bl I q ?_)
  cases x <;> first
    | (cases rx; rfl)
    | (obtain ⟨t, rfl⟩ := rx; rfl)
theorem op_notin_str : OpR X (compareOp .NotIn) (fun x y H Q => ∃ i j, x = .str i ∧ y = .str j ∧ Q (.bl (!(!(Builtin.Str.occurrences j i 0 j.length 1).isEmpty))) H) := by
  intro pins s σ H x y v u Q I rx ry h
  obtain ⟨i, j, rfl, rfl, q⟩ := h
  obtain ⟨t, rfl⟩ := rx
  obtain ⟨t', rfl⟩ := ry
  exact notIn_str (fin_bl I q rfl)
theorem OpR.or {f : Value → Value → Sem Value} {r r' : R2} (h : OpR X f r) (h' : OpR X f r') : OpR X f (fun x y H Q => r x y H Q ∨ r' x y H Q) := by
  intro pins s σ H x y v u Q I rx ry q
  rcases q with q | q
  · exact h pins s σ H x y v u Q I rx ry q
  · exact h' pins s σ H x y v u Q I rx ry q
theorem pe_cmpR {op : CmpOp} {r : R2} (ho : OpR X (compareOp op) r) (ha : PE X a ta) (hb : PE X b tb) (hm : behindInMarks op b = false) : PE X (.Compare a [op] [b] pos) (tOp r ta tb) := by
  intro pins s σ H Q I h
  exact wpAny_Compare1 (binT ha hb I h fun v u s2 x y H2 I2 rx ry q => ho pins s2 σ H2 x y v u Q I2 rx ry q) hm
noncomputable def tTest (t : TE) : TT := fun σ H Q => t σ H fun x H' => ∃ k, x = .bl k ∧ Q k H'
theorem pt_cmpR {op : CmpOp} {r : R2} (ho : OpR X (compareOp op) r) (ha : PE X a ta) (hb : PE X b tb) (hm : behindInMarks op b = false) : PT X (.Compare a [op] [b] pos) (tTest (tOp r ta tb)) := by
  intro pins s σ H Q I h
  refine wpAny_isTrue_Compare1 (thn (ha pins s σ H _ I h) fun v s1 ⟨x, H1, I1, r1, q1⟩ => thn (hb pins s1 σ H1 _ I1 q1) fun u s2 ⟨y, H2, I2, r2, q2⟩ =>
    thn (ho pins s2 σ H2 x y v u _ I2 r1 r2 q2) fun c s3 ⟨z, H3, I3, r3, k, e, q3⟩ => ?_) hm
  subst e
  cases r3
  exact wpAny_truthy_bool ⟨H3, I3, q3⟩
noncomputable def TruV (K : PySem.W.Frag) (x : V) (H : Hp) (k : Bool) : Prop :=
  match x with
  | .non => k = false
  | .bl b => k = b
  | .int i => k = (i != 0)
  | .str y => y.length ≤ sizeLine ∧ k = ((y.length : Int) != 0)
  | .byt y => y.size ≤ sizeLine ∧ k = ((y.size : Int) != 0)
  | .ref p => (∃ xs, SqL K H p xs ∧ k = !xs.isEmpty) ∨ (∃ xs, SqT K H p xs ∧ k = !xs.isEmpty) ∨ ∃ kvs ep, H p = some (.dK kvs ep) ∧ k = !kvs.isEmpty
  | _ => False
theorem isEmpty_kv {κ : Type} {kvs : List (κ × V)} {vs : List (κ × Value)} (r : KV kvs vs) : (!vs.isEmpty) = !kvs.isEmpty := by
  cases r <;> rfl
theorem isEmpty_of {xs : List V} {its : List Value} (r : Vals xs its) : (!its.toArray.isEmpty) = !xs.isEmpty := by
  cases r <;> simp
theorem line63 : (sizeLine : Nat) < 2 ^ 63 := by rw [sizeLine_eq]; decide
theorem tru_ok : TruR X (fun x H Q => ∃ k, TruV X.K x H k ∧ Q k H) := by
  intro pins s σ H x v Q I rx h
  obtain ⟨k, e, q⟩ := h
  have hl := line63
  have hs : sizeLine = 16777216 := sizeLine_eq
  cases x with
  | non =>
    cases rx
    have e' : k = false := e
    subst e'
    exact truthy_none ⟨H, I, q⟩
  | bl b =>
    cases rx
    have e' : k = b := e
    subst e'
    exact wpAny_truthy_bool ⟨H, I, q⟩
  | int i =>
    obtain ⟨t, rfl⟩ := rx
    have e' : k = (i != 0) := e
    subst e'
    exact PySem.P.truthy_int ⟨H, I, q⟩
  | str y =>
    obtain ⟨t, rfl⟩ := rx
    obtain ⟨hy, e'⟩ : y.length ≤ sizeLine ∧ k = ((y.length : Int) != 0) := e
    subst e'
    exact PySem.P.truthy_str (by omega) ⟨H, I.tok _, q⟩
  | byt y =>
    obtain ⟨t, rfl⟩ := rx
    obtain ⟨hy, e'⟩ : y.size ≤ sizeLine ∧ k = ((y.size : Int) != 0) := e
    subst e'
    exact PySem.W.truthy_bytes (by omega) ⟨H, I.tok _, q⟩
  | ref p =>
    cases rx
    have e' : (∃ xs, SqL X.K H p xs ∧ k = !xs.isEmpty) ∨ (∃ xs, SqT X.K H p xs ∧ k = !xs.isEmpty) ∨ ∃ kvs ep, H p = some (.dK kvs ep) ∧ k = !kvs.isEmpty := e
    rcases e' with ⟨xs, hx, e'⟩ | ⟨xs, hx, e'⟩ | ⟨kvs, ep, hx, e'⟩
    · subst e'
      obtain ⟨its, r, pl, hz⟩ := I.list hx
      have hlen := r.length
      exact wpAny_truthy_list pl.isList (by simp only [List.size_toArray]; omega) ⟨H, I.tok _, by rw [isEmpty_of r]; exact q⟩
    · subst e'
      obtain ⟨its, r, pl, hz⟩ := I.tuple hx
      have hlen := r.length
      exact truthy_tuple pl (by simp only [List.size_toArray]; omega) ⟨H, I.tok _, by rw [isEmpty_of r]; exact q⟩
    · subst e'
      obtain ⟨hz, hS, vs, r, m⟩ : kvs.length ≤ sizeLine ∧ (p == sysModules) = false ∧ ∃ vs, KV kvs vs ∧ s.heap.DictAt (mixKind X.prog X.w) p vs ep := I.hok p _ hx
      have m := m.dictOf
      have hlen : kvs.length = vs.length := Paired.length r
      exact wpAny_truthy_dict hS m (by omega) ⟨H, I.tok _, by rw [isEmpty_kv r]; exact q⟩
  | _ => exact (show False from e).elim
theorem pt_truth (ha : PE X a ta) (he : ∀ whole, isTrue a X.env whole = (do let v ← whole; standAt a.pos; holding [v] (truthy v))) :
    PT X a (fun σ H Q => ta σ H fun x H' => ∃ k, TruV X.K x H' k ∧ Q k H') := by
  intro pins s σ H Q I h
  exact isTrue_plain (thn (ha pins s σ H _ I h) fun v s1 ⟨x, H1, I1, r1, q1⟩ => tru_ok pins s1 σ H1 x v Q I1 r1 q1) (he _)
theorem op_add_str : OpR X (binaryOp .Add) (fun x y H Q => ∃ i j, x = .str i ∧ y = .str j ∧ i.length + j.length ≤ sizeLine ∧ Q (.str (i ++ j)) H) := by
  intro pins s σ H x y v u Q I rx ry h
  obtain ⟨i, j, rfl, rfl, hz, q⟩ := h
  obtain ⟨t, rfl⟩ := rx
  obtain ⟨t', rfl⟩ := ry
  exact add_str (fun t' tk => ⟨.str (i ++ j), H, I.tok _, ⟨_, rfl⟩, q⟩) hz
theorem vals1 {x : V} {us : List Value} (r : Vals [x] us) : ∃ u, us = [u] ∧ RelV x u := by
  cases r with
  | cons r1 r2 => cases r2; exact ⟨_, rfl, r1⟩
theorem vals2 {x y : V} {us : List Value} (r : Vals [x, y] us) : ∃ u w', us = [u, w'] ∧ RelV x u ∧ RelV y w' := by
  cases r with
  | cons r1 r2 =>
    cases r2 with
    | cons r3 r4 => cases r4; exact ⟨_, _, rfl, r1, r3⟩
theorem call_abs : CallR X (.builtin "abs") (fun xs H Q => ∃ i, xs = [.int i] ∧ Q (.int (if i < 0 then -i else i)) H) := by
  intro pins s σ H xs us Q I r h
  obtain ⟨i, rfl, q⟩ := h
  obtain ⟨u, rfl, t, rfl⟩ := vals1 r
  exact call_abs_int fun u tk => ⟨.int (if i < 0 then -i else i), H, I.tok _, ⟨_, rfl⟩, q⟩
theorem call_int1 : CallR X (.type "int") (fun xs H Q => (∃ i, xs = [.int i] ∧ Q (.int i) H) ∨ ∃ k, xs = [.bl k] ∧ Q (.int (if k then 1 else 0)) H) := by
  intro pins s σ H xs us Q I r h
  rcases h with ⟨i, rfl, q⟩ | ⟨k, rfl, q⟩
  · obtain ⟨u, rfl, t, rfl⟩ := vals1 r
    exact call_int_int ⟨.int i, H, I, ⟨_, rfl⟩, q⟩
  · obtain ⟨u, rfl, r1⟩ := vals1 r
    cases r1
    exact call_int_bool ⟨.int (if k then 1 else 0), H, I.tok _, ⟨_, rfl⟩, q⟩
end
end L2
namespace L2
open PySem PySem.Spec PyProof.Rows
structure ObjM (h : Heap) (x dx C : Addr) (mA : Str → Option Value) : Prop where
  obj : h.get? x = some (PySem.W.instObj C dx)
  ns : h.Ns1 dx mA
  ne : dx ≠ x
section
variable {prog : Program} {w : World} {A : Around} {E : Value → Shared → Prop} {s : Shared} {K : PySem.W.Frag} {x dx C f : Addr} {mA : Str → Option Value} {name : Str} {v : Value}
end
theorem RelO.some_of {v : V} {o : Option Value} (r : RelO (some v) o) : ∃ u, o = some u ∧ RelV v u := by
  cases o with
  | none => exact (show False from r).elim
  | some u => exact ⟨u, rfl, r⟩
theorem RelO.none_of {o : Option Value} (r : RelO none o) : o = none := by
  cases o with
  | none => rfl
  | some u => exact (show False from r).elim
section
variable {P : Program} {w : World} {H H' : Hp} {h h' : Heap} {a C dx : Addr} {fs fs' : List (Str × V)}
end
structure Cls (K : PySem.W.Frag) (C : Addr) : Prop where
  pg : PySem.W.plainGet K C Str.empty = true
  hd : PySem.W.hasDictIn K C = true
  po : PySem.W.plainOver K C = true
  sa : PySem.W.findIn K (.ref C) "__setattr__" = some (some (.builtin "object.__setattr__"))
structure Con (K : PySem.W.Frag) (C : Addr) (f : Str) (v : V) (u : Value) : Prop where
  at_ : PySem.W.findIn K (.ref C) f = some (some u)
  rel : RelV v u
  get : PySem.W.specialIn K u "__get__" = some none
  cp : PySem.W.copiedNames.contains f = false
structure Meth (K : PySem.W.Frag) (C : Addr) (m : Str) (f : Addr) : Prop where
  at_ : PySem.W.findIn K (.ref C) m = some (some (.ref f))
  fn : PySem.W.isFn K (.ref f) = true
  kp : PySem.W.keepIn K (.ref f) = true
section
variable {X : Cx} {pins : List (Addr × Obj)} {σ : St} {H : Hp} {s : Shared} {a C dx : Addr} {fs : List (Str × V)} {f : Str} {v : V} {A : Around} {E : Value → Shared → Prop}
end
section
variable {X : Cx} {o e value : Expr} {f : Str} {pos pos' tpos : Pos} {ta tv : TE}
end
section
variable {X : Cx} {pins : List (Addr × Obj)} {σ : St} {H : Hp} {s : Shared} {A : Around} {E : Value → Shared → Prop} {Q : Value → Shared → Prop} {c : Value} {b : Bool}
inductive TyOf (K : PySem.W.Frag) (H : Hp) : V → Value → Prop where
  | non : TyOf K H .non (.type "NoneType")
  | bl (x : Bool) : TyOf K H (.bl x) (.type "bool")
  | int (i : Int) : TyOf K H (.int i) (.type "int")
  | str (x : Str) : TyOf K H (.str x) (.type "str")
  | flt (x : UInt64) : TyOf K H (.flt x) (.type "float")
  | lst {a : Addr} {xs : List V} (e : H a = some (.lst xs)) : TyOf K H (.ref a) (.type "list")
  | frz {a : Addr} {o : Obj} {xs : List V} (e : H a = some (.frz o (.lst xs))) : TyOf K H (.ref a) (.type "list")
  | tup {a : Addr} {xs : List V} (e : H a = some (.tup xs)) : TyOf K H (.ref a) (.type "tuple")
  | dK {a : Addr} {kvs : List (Key × V)} {ep : Nat} (e : H a = some (.dK kvs ep)) : TyOf K H (.ref a) (.type "dict")
  | dT {a : Addr} {kvs : List (List Key × V)} (e : H a = some (.dT kvs)) : TyOf K H (.ref a) (.type "dict")
  | ins {a C dx : Addr} {fs : List (Str × V)} (e : H a = some (.ins C dx fs)) (cl : Cls K C) (ha : PySem.W.findIn K (.ref C) "__class__" = some (some (.builtin "object.__class__")))
      (hn : PySem.W.specialIn K (.builtin "object.__class__") "__get__" = some (some (.builtin "getset_descriptor.__get__"))) (htk : PySem.W.takesIn K (.builtin "object.__class__") = some true)
      (hm : PySem.W.mroIn K C (.type "object") = some true) : TyOf K H (.ref a) (.ref C)
end
end L2
namespace L2
open PySem PySem.Spec PyProof.Rows
structure Room (k : Nat) (A : Around) : Prop where
  hd : A.handled = none
  dp : A.depth + 3 * k + 5 < recursionLimit
  un : A.units + 16 * k + 200 < cLine
theorem Room.deeper {k : Nat} {A : Around} (r : Room (k + 1) A) (env : Env) : Room k (A.deeper env) :=
  ⟨r.hd, by have := r.dp; show A.depth + 1 + 3 * k + 5 < _; omega, by have := r.un; show A.units + 3 + 16 * k + 200 < _; omega⟩
theorem Room.depth {k : Nat} {A : Around} (r : Room k A) : A.depth < recursionLimit := by have := r.dp; omega
theorem Room.units {k : Nat} {A : Around} (r : Room k A) : A.units + 64 < cLine := by have := r.un; omega
noncomputable def tNil : TA := fun _ H Q => Q [] H
noncomputable def tCons (ta : TE) (tr : TA) : TA := fun σ H Q => ta σ H fun x H1 => tr σ H1 fun xs H2 => Q (x :: xs) H2
section
variable {X : Cx} {e : Expr} {es : List Expr} {te : TE} {t : TA} {pos : Pos}
theorem pa_nil : PA X [] tNil := fun _ _ _ _ H Q I h => Calls.spliced_nil ⟨[], H, I, .nil, h⟩
theorem pa_cons (ha : PE X e te) (hr : PA X es t) (hs : starEach (e :: es) X.env = (false, eval e X.env) :: starEach es X.env := by rfl) : PA X (e :: es) (tCons te t) := by
  intro pos pins s σ H Q I h
  rw [hs]
  show wpAny _ _ (spliced ((false, eval e X.env) :: backTo pos (starEach es X.env))) _ _ s
  refine Calls.spliced_cons (thn (ha pins s σ H _ I h) fun u s1 ⟨x, H1, I1, r1, q1⟩ => ?_)
  exact thn (hr pos pins s1 σ H1 _ I1 q1) fun us s2 ⟨xs, H2, I2, r2, q2⟩ => ⟨x :: xs, H2, I2, .cons r1 r2, q2⟩
noncomputable def tTup (t : TA) : TE := fun σ H Q => t σ H fun xs H1 => xs.length ≤ sizeLine ∧ ∀ p, H1 p = none → Q (.ref p) (upd H1 p (.tup xs))
noncomputable def tLst (t : TA) : TE := fun σ H Q => t σ H fun xs H1 => xs.length ≤ sizeLine ∧ ∀ p, H1 p = none → Q (.ref p) (upd H1 p (.lst xs))
theorem pe_tup {x1} (h : PA X es t) : PE X (.Tuple es x1 pos) (tTup t) := by
  intro pins s σ H Q I hq
  refine wpAny_Tuple_spliced (thn (h pos pins s σ H _ I hq) fun us s1 ⟨xs, H1, I1, r, z, q⟩ => ⟨by rw [← r.length]; exact z, ?_⟩)
  have hf : H1 s1.heap.objs.size = none := I1.hok.fresh (Nat.le_refl _)
  refine ⟨.ref s1.heap.objs.size, upd H1 s1.heap.objs.size (.tup xs), I1.laid (t' := s1.toks) (fun b u e => Heap.get?_push_of_some _ e) (Nat.le_refl _) ?_, rfl, q _ hf⟩
  exact ⟨z, us, r, ⟨_, Heap.get?_push_size _ rfl, rfl, _, rfl⟩⟩
theorem pe_lst (h : PA X es t) : PE X (.List es pos) (tLst t) := by
  intro pins s σ H Q I hq
  refine wpAny_List_spliced (thn (h pos pins s σ H _ I hq) fun us s1 ⟨xs, H1, I1, r, z, q⟩ => ⟨by rw [← r.length]; exact z, ?_⟩)
  have hf : H1 s1.heap.objs.size = none := I1.hok.fresh (Nat.le_refl _)
  refine ⟨.ref s1.heap.objs.size, upd H1 s1.heap.objs.size (.lst xs), I1.laid (t' := s1.toks) (fun b u e => Heap.get?_push_of_some _ e) (Nat.le_refl _) ?_, rfl, q _ hf⟩
  exact ⟨z, us, 0, r, Heap.get?_push_size _ rfl⟩
end
noncomputable abbrev Sp := List V → Hp → VK → XK → Prop
noncomputable abbrev CXT := List Env → Hp → Shared → XK → Value → Shared → Prop
structure Env0 (P : Program) (w : World) (K : PySem.W.Frag) (mg : Str → Option Value) (base : Heap) (A : Around) (outer : List Env) (s : Shared) (H : Hp) : Prop where
  frames : A.frames = some outer
  mod : Mod K mg base
  bs : ∀ b o, base.get? b = some o → s.heap.get? b = some o ∧ H b = none
  bsz : base.objs.size ≤ s.heap.objs.size
  funs : s.heap.FunFrames base outer
  frf : ∀ b ∈ frs outer, H b = none
  hok : HOk P w H s.heap
  bare : AllBare s.gens
noncomputable def CE (outer : List Env) (P : Program) (w : World) (H : Hp) (s : Shared) (Q : VK) (u : Value) (s' : Shared) : Prop :=
  ∃ v H', s'.os = s.os ∧ AllBare s'.gens ∧ Un (frs outer) [] H H' s.heap s'.heap ∧ HOk P w H' s'.heap ∧ RelV v u ∧ Q v H'
noncomputable def CR (CX : CXT) (outer : List Env) (P : Program) (w : World) (H : Hp) (s : Shared) (Q : VK) (E : XK) (r : Result) (s' : Shared) : Prop :=
  match r with
  | .ok (.ret u) => CE outer P w H s Q u s'
  | .ok _ => False
  | .error e => CX outer H s E e s'
structure FnOk (P : Program) (w : World) (K : PySem.W.Frag) (mg : Str → Option Value) (base : Heap) (CX : CXT) (k : Nat) (f : Addr) (fd : FuncData) (ps : List Str) (sp : Sp) : Prop where
  len : ∀ vs H Q E, sp vs H Q E → vs.length = ps.length
  run : ∀ (A : Around) (outer : List Env) (s : Shared) (H : Hp) (args : Args) (us : List Value) (vs : List V) (Q : VK) (E : XK), Room k A → Env0 P w K mg base A outer s H → BindsTo s fd args (ps.zip us) → Vals vs us → sp vs H Q E →
    codeAny (model P w) A (.call (.ref f) args) (CR CX outer P w H s Q E) s
section
variable {X : Cx} {pins : List (Addr × Obj)} {σ : St} {H : Hp} {s s' : Shared}
theorem Inv.env0 (I : Inv X pins σ H s) : Env0 X.prog X.w X.K X.mg X.base X.A X.stack s H :=
  ⟨I.ok.frames, I.ok.mod, I.bs, Nat.le_trans I.ok.bsz I.sz, I.stack, I.stkFree, I.hok, I.bare⟩
theorem Inv.after {Q : VK} {u : Value} (I : Inv X pins σ H s) (h : CE X.stack X.prog X.w H s Q u s') : EP X pins σ Q u s' := by
  obtain ⟨v, H', os, bare, un, hok, r, q⟩ := h
  obtain ⟨hh, g, d, t, os'⟩ := s'
  obtain rfl : os' = s.os := os
  exact ⟨v, H', I.call (h' := hh) (g' := g) (d' := d) (t' := t) (ch := []) un hok bare (fun b z => absurd z (by simp)), r, q⟩
end
noncomputable def tCall (sp : Sp) (dvs : List V) (E : XK) (t : TA) : TE := fun σ H Q => t σ H fun vs H1 => sp (vs ++ dvs) H1 Q E
noncomputable def Binds (K : PySem.W.Frag) (fd : FuncData) (ps : List Str) (ds : List Value) : Prop :=
  ∀ (s : Shared) (us : List Value), K.In s.heap → (us ++ ds).length = ps.length → BindsTo s fd ⟨us, []⟩ (ps.zip (us ++ ds))
theorem Binds.all {K : PySem.W.Frag} {fd : FuncData} {ps : List Str} (h : ∀ us : List Value, us.length = ps.length → bindArgs fd ⟨us, []⟩ = pure (ps.zip us)) : Binds K fd ps [] := fun s us _ hl => by
  rw [List.append_nil] at hl ⊢
  exact .of_eq (h us hl)
noncomputable def Passes (CX : CXT) (X : Cx) (E : XK) : Prop := ∀ (pins : List (Addr × Obj)) (σ : St) (H : Hp) (s : Shared) (e : Value) (s' : Shared), Inv X pins σ H s → CX X.stack H s E e s' → X.xe e s'
section
variable {X : Cx} {CX : CXT} {k : Nat} {f C : Addr} {fd : FuncData} {ps : List Str} {sp : Sp} {dvs : List V} {ds : List Value} {E : XK} {x m : Str} {p pos apos : Pos} {e o : Expr} {es : List Expr} {ta : TE} {t : TA}
theorem run_fn {pins : List (Addr × Obj)} {σ : St} {H : Hp} {s : Shared} {Q : VK} {us : List Value} {vs : List V} (F : FnOk X.prog X.w X.K X.mg X.base CX k f fd ps sp) (hr : Room k X.A) (hb : Binds X.K fd ps ds) (hd : Vals dvs ds) (hx : Passes CX X E)
    (I : Inv X pins σ H s) (r : Vals vs us) (h : sp (vs ++ dvs) H Q E) : wpAny (model X.prog X.w) X.A (call (.ref f) us) (EP X pins σ Q) X.xe s := by
  have r2 : Vals (vs ++ dvs) (us ++ ds) := r.append hd
  have hl : (us ++ ds).length = ps.length := by rw [← r2.length]; exact F.len _ _ _ _ h
  refine wpAny_call (codeAny_mono (F.run X.A X.stack s H ⟨us, []⟩ (us ++ ds) (vs ++ dvs) Q E hr I.env0 (hb s us I.kIn hl) r2 h) fun r s' hq => ?_)
  cases r with
  | error e => exact hx pins σ H s e s' I hq
  | ok fl =>
    cases fl with
    | ret u => exact I.after hq
    | next => exact False.elim hq
    | brk => exact False.elim hq
    | cont => exact False.elim hq
theorem pe_call (F : FnOk X.prog X.w X.K X.mg X.base CX k f fd ps sp) (hr : Room k X.A) (hg : Gl X x) (hm : X.mg x = some (.ref f)) (hk : PySem.W.keepIn X.K (.ref f) = true) (hb : Binds X.K fd ps ds) (hd : Vals dvs ds) (hx : Passes CX X E)
    (ha : PA X (e :: es) t) (hdb : (x == ("__debug__" : Str)) = false := by decide) (he : starEach (e :: es) X.env = (false, eval e X.env) :: starEach es X.env := by rfl) (hpl : (backTo pos (starEach es X.env)).any (·.1) = false := by rfl) :
    PE X (.Call (.Name x p) (e :: es) [] pos) (tCall sp dvs E t) := by
  intro pins s σ H Q I h
  refine wpAny_Call_Name_kw (ld_glob I hg hm ?_ hdb)
  refine PySem.W.callWith_K (h₀ := X.base) I.ok.mod.kin hk (thn (ha pos pins s σ H _ I h) fun us s1 ⟨vs, H1, I1, r, q⟩ => ⟨I1.kIn, ?_⟩) he hpl
  exact run_fn F hr hb hd hx I1 r q
structure Mk (K : PySem.W.Frag) (C f : Addr) : Prop where
  makes : PySem.W.makesIn K C = true
  init : PySem.W.findIn K (.ref C) "__init__" = some (some (.ref f))
  fn : PySem.W.isFn K (.ref f) = true
  kp : PySem.W.keepIn K (.ref C) = true
end
section
variable {X : Cx} {CX : CXT} {k : Nat} {f C : Addr} {fd : FuncData} {ps ks : List Str} {sp : Sp} {E : XK} {x m : Str} {p pos apos kpos : Pos} {e o : Expr} {es : List Expr} {kws : List Keyword} {te ta : TE} {t tk : TA} {nm : Option Str}
structure KBinds (K : PySem.W.Frag) (fd : FuncData) (ps ks : List Str) (g : List Value → List Value → List Value) (gV : List V → List V → List V) : Prop where
  to : ∀ (s : Shared) (us ws : List Value), K.In s.heap → (g us ws).length = ps.length → BindsTo s fd ⟨us, ks.zip ws⟩ (ps.zip (g us ws))
  rel : ∀ {vs : List V} {us : List Value} {zs : List V} {ws : List Value}, Vals vs us → Vals zs ws → Vals (gV vs zs) (g us ws)
variable {g : List Value → List Value → List Value} {gV : List V → List V → List V}
end
structure FnScope (N P : List Str) (sc : Scope) : Prop where
  kind : sc.kind = .function
  co : sc.isCoroutine = false
  gen : sc.isGenerator = false
  nd : N.Nodup
  pre : N.take P.length = P
  par : ∀ x ∈ P, sc.names.lookup x = some .local ∨ sc.names.lookup x = some .cell
  nofree : ∀ y ∈ sc.names, y.2 ≠ .free
theorem bindL_out {kindOf : Str → Option NameKind} {x : Str} : ∀ {binds : List (Str × Value)} {m : Str → Option Value}, (∀ v, (x, v) ∉ binds) → bindL kindOf binds m x = m x
  | [], _, _ => rfl
  | (n, v) :: r, m, h => by
    unfold bindL
    rw [bindL_out fun w hw => h w (List.mem_cons_of_mem _ hw)]
    split
    · have : x ≠ n := by rintro rfl; exact h v List.mem_cons_self
      simp [this]
    · rfl
theorem bindC_out {kindOf : Str → Option NameKind} {x : Str} : ∀ {binds : List (Str × Value)} {m : Str → Option Value}, (∀ v, (x, v) ∉ binds) → bindC kindOf binds m x = m x
  | [], _, _ => rfl
  | (n, v) :: r, m, h => by
    unfold bindC
    rw [bindC_out fun w hw => h w (List.mem_cons_of_mem _ hw)]
    split
    · rfl
    · have : x ≠ n := by rintro rfl; exact h v List.mem_cons_self
      simp [this]
theorem bindL_get {kindOf : Str → Option NameKind} {x : Str} {v : Value} : ∀ {P : List Str} {vs : List Value} {i : Nat} {m : Str → Option Value}, P.Nodup → P[i]? = some x → vs[i]? = some v → kindOf x = some .local →
    bindL kindOf (P.zip vs) m x = some v
  | [], _, _, _, _, h, _, _ => by simp at h
  | _ :: _, [], _, _, _, _, h, _ => by simp at h
  | p :: P, w :: vs, 0, m, nd, h1, h2, hk => by
    simp at h1 h2; subst h1; subst h2
    show bindL kindOf ((p, w) :: P.zip vs) m p = _
    unfold bindL
    rw [bindL_out fun v hv => (List.nodup_cons.mp nd).1 (List.of_mem_zip hv).1, if_pos hk]
    simp
  | p :: P, w :: vs, i + 1, m, nd, h1, h2, hk => by
    show bindL kindOf ((p, w) :: P.zip vs) m x = _
    unfold bindL
    exact bindL_get (i := i) (List.nodup_cons.mp nd).2 (by simpa using h1) (by simpa using h2) hk
theorem bindC_get {kindOf : Str → Option NameKind} {x : Str} {v : Value} : ∀ {P : List Str} {vs : List Value} {i : Nat} {m : Str → Option Value}, P.Nodup → P[i]? = some x → vs[i]? = some v → kindOf x ≠ some .local →
    bindC kindOf (P.zip vs) m x = some v
  | [], _, _, _, _, h, _, _ => by simp at h
  | _ :: _, [], _, _, _, _, h, _ => by simp at h
  | p :: P, w :: vs, 0, m, nd, h1, h2, hk => by
    simp at h1 h2; subst h1; subst h2
    show bindC kindOf ((p, w) :: P.zip vs) m p = _
    unfold bindC
    rw [bindC_out fun v hv => (List.nodup_cons.mp nd).1 (List.of_mem_zip hv).1, if_neg hk]
    simp
  | p :: P, w :: vs, i + 1, m, nd, h1, h2, hk => by
    show bindC kindOf ((p, w) :: P.zip vs) m x = _
    unfold bindC
    exact bindC_get (i := i) (List.nodup_cons.mp nd).2 (by simpa using h1) (by simpa using h2) hk
noncomputable def start (N : List Str) (vs : List V) : St := vs.map some ++ List.replicate (N.length - vs.length) none
noncomputable def cxOf (CX : CXT) (P : Program) (w : World) (K : PySem.W.Frag) (mg : Str → Option Value) (base : Heap) (N : List Str) (qual : Str) (scope : Scope) (f : Addr) (cd : Value) (A : Around) (outer : List Env) (s : Shared) (H : Hp) (E : XK) : Cx where
  prog := P
  w := w
  K := K
  mg := mg
  base := base
  A := A.deeper (envOfC qual scope s.heap.objs.size f cd)
  N := N
  s₀ := s
  H₀ := H
  env := envOfC qual scope s.heap.objs.size f cd
  outer := outer
  stack := envOfC qual scope s.heap.objs.size f cd :: outer
  ex := []
  calm := true
  fn := fun _ => true
  pn := []
  xe := fun e s' => wpAny (model P w) (A.deeper (envOfC qual scope s.heap.objs.size f cd)) (leaving (envOfC qual scope s.heap.objs.size f cd) e) (fun _ s'' => CX outer H s E e s'') (fun e' s'' => CX outer H s E e' s'') s'
theorem cell_has {sc : Scope} {n : Nat} {x : Str} (h : sc.names.lookup x = some .cell) : ∃ c, (cellsFrom n sc.names []).lookup x = some c := by
  have q := PySem.W.cellsFrom_some sc.names n [] (.inl h)
  exact Option.isSome_iff_exists.mp q
theorem inv_start {CX : CXT} {P : Program} {w : World} {K : PySem.W.Frag} {mg : Str → Option Value} {base : Heap} {N ps : List Str} {qual : Str} {scope : Scope} {f : Addr} {cd : Value} {A : Around} {outer : List Env} {s s1 : Shared} {H : Hp} {E : XK} {us : List Value} {vs : List V}
    (S : FnScope N ps scope) (hd : A.handled = none) (e0 : Env0 P w K mg base A outer s H) (hl : vs.length = ps.length) (r : Vals vs us)
    (x : InCallC s s.heap.objs.size (bindL (envOfC qual scope s.heap.objs.size f cd).kindOf (ps.zip us) fun _ => none) (cellsFrom (s.heap.objs.size + 1) scope.names []) (bindC (envOfC qual scope s.heap.objs.size f cd).kindOf (ps.zip us) fun _ => none) s1) :
    Inv (cxOf CX P w K mg base N qual scope f cd A outer s H E) [] (start N vs) H s1 := by
  have hpl : ps.length ≤ N.length := by have := congrArg List.length S.pre; rw [List.length_take] at this; omega
  obtain ⟨h1, tk, rfl, hk⟩ := x.done
  have noA : ∀ b : Addr, b ∉ (cxOf CX P w K mg base N qual scope f cd A outer s H E).ex := fun b z => absurd (show b ∈ ([] : List Addr) from z) (by simp)
  refine ⟨⟨e0.mod, S.kind, rfl, rfl, Nat.le_refl _, fun y z c h1 h2 => ?_, fun y hy => ?_, fun y c _ h => ?_, fun _ => hd, Around.frames_deeper e0.frames, .inr ⟨rfl, rfl⟩, fun b z => absurd z (noA b), e0.bs, e0.bsz, fun b _ _ => noA b, fun b z => absurd z (noA b), e0.funs, e0.frf⟩,
    rfl, e0.bare, Un.kept hk, ⟨_, x.toInCall.ns, fun i y v h1 h2 h3 => ?_⟩, fun y c h => ⟨_, x.cell y c h⟩, e0.hok.fresh (Nat.le_refl _), fun y c h => ?_, fun p hp => absurd (show p ∈ ([] : List (Addr × Obj)) from hp) (by simp), e0.hok.kept hk, ?_⟩
  · exact name_of_addr x.apart (PySem.mem_of_lookup h1) (PySem.mem_of_lookup h2)
  · have hy : scope.names.lookup y = some .cell ∨ scope.names.lookup y = some .free := hy
    rcases hy with hy | hy
    · exact cell_has hy
    · exact absurd rfl (S.nofree _ (PySem.mem_of_lookup hy))
  · exact Nat.le_of_lt (x.above y c (PySem.mem_of_lookup h))
  · have hi : i < vs.length := by
      unfold start at h2
      by_cases hi : i < vs.length
      · exact hi
      · rw [List.getElem?_append_right (by simpa using hi)] at h2
        rw [List.getElem?_replicate] at h2
        split at h2 <;> cases h2
    have ha : vs[i]? = some v := by
      unfold start at h2
      rw [List.getElem?_append_left (by simpa using hi), List.getElem?_map] at h2
      cases e : vs[i]? with
      | none => rw [e] at h2; cases h2
      | some a => rw [e] at h2; cases h2; rfl
    obtain ⟨u, hu, rv⟩ := r.get ha
    have hp : ps[i]? = some y := by
      rw [← S.pre, List.getElem?_take_of_lt (by omega)]; exact h1
    have ndP : ps.Nodup := by rw [← S.pre]; exact S.nd.sublist (List.take_sublist _ _)
    refine ⟨u, rv, ?_⟩
    rcases S.par y (List.mem_of_getElem? hp) with k | k
    · exact .inl ⟨k, bindL_get ndP hp hu k⟩
    · obtain ⟨c, e⟩ := cell_has (n := s.heap.objs.size + 1) k
      refine .inr ⟨.inl k, c, e, ?_⟩
      have q := x.cell y c e
      rw [bindC_get ndP hp hu (by show scope.names.lookup y ≠ _; rw [k]; decide)] at q
      exact q
  · exact e0.hok.fresh (Nat.le_of_lt (x.above y c (PySem.mem_of_lookup h)))
  · unfold start
    show _ = N.length
    rw [List.length_append, List.length_map, List.length_replicate]
    omega
theorem fn_of {CX : CXT} {P : Program} {w : World} {K : PySem.W.Frag} {mg : Str → Option Value} {base : Heap} {k : Nat} {f : Addr} {name qual : Str} {params : Arguments} {body : List Stmt} {scope : Scope} {dV kV doc pm cdv ct oc : Value} {an od : Option Addr}
    {osl : Array (Option Value)} {N ps : List Str} {sp : Sp} (lk : K.lookup f = some ⟨oc, od, .func (PySem.W.fnOf name qual params body scope dV kV doc pm an cdv ct), osl⟩) (hcd : PySem.W.codeIn K cdv qual = true) (S : FnScope N ps scope)
    (len : ∀ vs H Q E, sp vs H Q E → vs.length = ps.length)
    (hbody : ∀ (A : Around) (outer : List Env) (s : Shared) (H : Hp) (vs : List V) (Q : VK) (E : XK), Room k (A.deeper (envOfC qual scope s.heap.objs.size f cdv)) → sp vs H Q E →
      ∃ t, PSs (cxOf CX P w K mg base N qual scope f cdv A outer s H E) body t ∧ t { nx := fun _ H' => Q .non H', rt := Q } (start N vs) H) :
    FnOk P w K mg base CX (k + 1) f (PySem.W.fnOf name qual params body scope dV kV doc pm an cdv ct) ps sp := by
  refine ⟨len, fun A outer s H args us vs Q E hr e0 hb r hsp => ?_⟩
  have hl := len _ _ _ _ hsp
  have KX : K.In s.heap := e0.mod.kin.keeps fun b o e => (e0.bs b o e).1
  have lim : s.heap.NoLimit := e0.mod.nolimit.keeps fun b o e => (e0.bs b o e).1
  have hkind : ∀ y ∈ ps.zip us, scope.names.lookup y.1 = some .local ∨ (scope.names.lookup y.1 = some .cell ∧ ((cellsFrom (s.heap.objs.size + 1) scope.names []).lookup y.1).isSome = true) := fun ⟨n, v⟩ hy => by
    rcases S.par n (List.of_mem_zip hy).1 with q | q
    · exact .inl q
    · exact .inr ⟨q, PySem.W.cellsFrom_some _ _ _ (.inl q)⟩
  refine codeAny_call_function hr.depth (KX _ _ lk) rfl S.co S.gen rfl (PySem.W.codeRec_of KX hcd) (hb _ _ _ _ ?_)
  refine wpAny_newFunctionEnv_cells S.kind hkind fun env he s1 x => ?_
  subst he
  refine ⟨lim.keeps x.toInCall.keep, codeAny_func ?_⟩
  obtain ⟨t, ht, hq⟩ := hbody A outer s H vs Q E (hr.deeper _) hsp
  have I : Inv (cxOf CX P w K mg base N qual scope f cdv A outer s H E) [] (start N vs) H s1 := inv_start S hr.hd e0 hl r x
  refine wpAny_mono (ht [] s1 (start N vs) H _ I hq) (fun fl s' hs => ?_) fun e s' hs => hs
  have fin : ∀ {σ' : St} {H' : Hp} {v : V} {u : Value}, Inv (cxOf CX P w K mg base N qual scope f cdv A outer s H E) [] σ' H' s' → RelV v u → Q v H' → CE outer P w H s Q u s' :=
    fun {σ' H' v u} J rv q => ⟨v, H', J.os, J.bare, J.base, J.hok, rv, q⟩
  cases fl with
  | ret u =>
    obtain ⟨v, σ', H', J, rv, q⟩ := hs
    exact fin J rv q
  | next =>
    obtain ⟨σ', H', J, q⟩ := hs
    exact fin (v := V.non) (u := Value.none) J rfl q
  | brk =>
    obtain ⟨_, _, _, q⟩ := hs
    exact False.elim q
  | cont =>
    obtain ⟨_, _, _, q⟩ := hs
    exact False.elim q
end L2
namespace L2
open PySem PySem.Spec PyProof.Rows
section
variable {X : Cx} {x : Str} {p pos : Pos} {e : Expr} {es : List Expr} {t : TA} {id T : String} {r : List V → Hp → VK → Prop}
noncomputable def tCB (r : List V → Hp → VK → Prop) (t : TA) : TE := fun σ H Q => t σ H fun vs H1 => r vs H1 Q
theorem pe_callB (hc : CallR X (.builtin id) r) (hg : Gl X x) (hm : X.mg x = none) (hv : bootBuiltins x = some (.builtin id)) (ha : PA X (e :: es) t) (hn : x ≠ "__name__" := by decide) (hdb : (x == ("__debug__" : Str)) = false := by decide)
    (he : starEach (e :: es) X.env = (false, eval e X.env) :: starEach es X.env := by rfl) (hpl : (backTo pos (starEach es X.env)).any (·.1) = false := by rfl) : PE X (.Call (.Name x p) (e :: es) [] pos) (tCB r t) := by
  intro pins s σ H Q I h
  refine wpAny_Call_Name_kw (ld_blt I hg hm hv ?_ hn hdb)
  exact PyProof.Rows.callWith_builtin1 (thn (ha pos pins s σ H _ I h) fun us s1 ⟨vs, H1, I1, r1, q1⟩ => hc pins s1 σ H1 vs us Q I1 r1 q1) he hpl
theorem pe_callTy (hc : CallR X (.type T) r) (hg : Gl X x) (hm : X.mg x = none) (hv : bootBuiltins x = some (.type T)) (ha : PA X (e :: es) t) (hn : x ≠ "__name__" := by decide) (hdb : (x == ("__debug__" : Str)) = false := by decide)
    (he : starEach (e :: es) X.env = (false, eval e X.env) :: starEach es X.env := by rfl) (hpl : (backTo pos (starEach es X.env)).any (·.1) = false := by rfl) : PE X (.Call (.Name x p) (e :: es) [] pos) (tCB r t) := by
  intro pins s σ H Q I h
  refine wpAny_Call_Name_kw (ld_blt I hg hm hv ?_ hn hdb)
  exact PyProof.Rows.callWith_type1 (thn (ha pos pins s σ H _ I h) fun us s1 ⟨vs, H1, I1, r1, q1⟩ => hc pins s1 σ H1 vs us Q I1 r1 q1) he hpl
end
end L2
namespace L2
open PySem PySem.Spec PyProof.Rows
section
variable {κ : Type} [DecidableEq κ]
noncomputable def valV (kvs : List (κ × V)) (k : κ) : Option V := (kvs.find? fun kv => decide (kv.1 = k)).map (·.2)
noncomputable def putK (kvs : List (κ × V)) (k : κ) (v : V) : List (κ × V) :=
  if (kvs.any fun kv => decide (kv.1 = k)) = true then kvs.map (fun kv => if kv.1 = k then (kv.1, v) else kv) else kvs ++ [(k, v)]
noncomputable def dropK (kvs : List (κ × V)) (k : κ) : List (κ × V) := kvs.filter fun kv => decide (kv.1 ≠ k)
theorem valV_pos {p : κ × V} {r : List (κ × V)} {k : κ} (e : p.1 = k) : valV (p :: r) k = some p.2 := by simp [valV, List.find?_cons, e]
theorem valV_neg {p : κ × V} {r : List (κ × V)} {k : κ} (e : ¬ p.1 = k) : valV (p :: r) k = valV r k := by simp [valV, List.find?_cons, e]
theorem valV_any (k : κ) : ∀ kvs : List (κ × V), (kvs.any fun kv => decide (kv.1 = k)) = (valV kvs k).isSome
  | [] => rfl
  | p :: r => by
    rw [List.any_cons]
    by_cases e : p.1 = k
    · simp only [valV_pos e, decide_eq_true e, Bool.true_or, Option.isSome_some]
    · rw [valV_neg e, decide_eq_false e, Bool.false_or]; exact valV_any k r
theorem length_putK (kvs : List (κ × V)) (k : κ) (v : V) : (putK kvs k v).length ≤ kvs.length + 1 := by
  unfold putK
  split
  · rw [List.length_map]; omega
  · rw [List.length_append, List.length_cons, List.length_nil]; omega
theorem RelO.isSome_eq {o : Option V} {u : Option Value} (r : RelO o u) : o.isSome = u.isSome := by
  cases o with
  | none => cases u with
    | none => rfl
    | some _ => exact (show False from r).elim
  | some _ => cases u with
    | none => exact (show False from r).elim
    | some _ => rfl
theorem KV.val {kvs : List (κ × V)} {vs : List (κ × Value)} (r : KV kvs vs) (k : κ) : RelO (valV kvs k) (valueAt vs k) := by
  unfold KV at r
  induction r with
  | nil => exact True.intro
  | @cons p q ps qs h t ih =>
    obtain ⟨h1, h2⟩ := h
    by_cases e : p.1 = k
    · have e' : q.1 = k := h1.symm.trans e
      have b : valueAt (q :: qs) k = some q.2 := by simp [valueAt, List.find?_cons, e']
      rw [valV_pos e, b]; exact h2
    · have e' : ¬ q.1 = k := fun z => e (h1.trans z)
      have b : valueAt (q :: qs) k = valueAt qs k := by simp [valueAt, List.find?_cons, e']
      rw [valV_neg e, b]; exact ih
theorem KV.any {kvs : List (κ × V)} {vs : List (κ × Value)} (r : KV kvs vs) (k : κ) : (kvs.any fun kv => decide (kv.1 = k)) = vs.any fun kv => decide (kv.1 = k) := by
  unfold KV at r
  induction r with
  | nil => rfl
  | cons h t ih => rw [List.any_cons, List.any_cons, ih, h.1]
theorem KV.repl {kvs : List (κ × V)} {vs : List (κ × Value)} (r : KV kvs vs) (k : κ) {y : V} {u : Value} (ry : RelV y u) :
    KV (kvs.map fun kv => if kv.1 = k then (kv.1, y) else kv) (vs.map fun kv => if kv.1 = k then (kv.1, u) else kv) := by
  unfold KV at r ⊢
  induction r with
  | nil => exact .nil
  | @cons p q ps qs h t ih =>
    rw [List.map_cons, List.map_cons]
    refine .cons ?_ ih
    obtain ⟨h1, h2⟩ := h
    by_cases e : p.1 = k
    · rw [if_pos e, if_pos (h1.symm.trans e)]; exact ⟨h1, ry⟩
    · rw [if_neg e, if_neg (fun z => e (h1.trans z))]; exact ⟨h1, h2⟩
theorem KV.put {kvs : List (κ × V)} {vs : List (κ × Value)} (r : KV kvs vs) (k : κ) {y : V} {u : Value} (ry : RelV y u) : KV (putK kvs k y) (stored vs k u) := by
  unfold putK stored
  rw [r.any k]
  by_cases e : (vs.any fun kv => decide (kv.1 = k)) = true
  · rw [if_pos e, if_pos e]; exact r.repl k ry
  · rw [if_neg e, if_neg e]; exact Paired.snoc r ⟨rfl, ry⟩
theorem KV.drop {kvs : List (κ × V)} {vs : List (κ × Value)} (r : KV kvs vs) (k : κ) : KV (dropK kvs k) (without vs k) := by
  unfold KV at r ⊢
  unfold dropK without
  induction r with
  | nil => exact .nil
  | @cons p q ps qs h t ih =>
    obtain ⟨h1, h2⟩ := h
    rw [List.filter_cons, List.filter_cons]
    by_cases e : p.1 = k
    · have a : ¬ decide (p.1 ≠ k) = true := by simp [e]
      have b : ¬ decide (q.1 ≠ k) = true := by simp [h1.symm.trans e]
      rw [if_neg a, if_neg b]; exact ih
    · have e' : ¬ q.1 = k := fun z => e (h1.trans z)
      have a : decide (p.1 ≠ k) = true := by simp [e]
      have b : decide (q.1 ≠ k) = true := by simp [e']
      rw [if_pos a, if_pos b]; exact .cons ⟨h1, h2⟩ ih
theorem KV.keys {kvs : List (κ × V)} {vs : List (κ × Value)} (r : KV kvs vs) : kvs.map (·.1) = vs.map (·.1) := by
  unfold KV at r
  induction r with
  | nil => rfl
  | cons h t ih => rw [List.map_cons, List.map_cons, ih, h.1]
theorem KV.length {kvs : List (κ × V)} {vs : List (κ × Value)} (r : KV kvs vs) : kvs.length = vs.length := Paired.length r
theorem dropK_le (kvs : List (κ × V)) (k : κ) : (dropK kvs k).length ≤ kvs.length := List.length_filter_le _ _
end
theorem kV_is {P : Program} {w : World} {k : Key} {u : Value} (r : RelV (kV k) u) : (mixKind P w).is k u = true := by
  cases k with
  | inl i => obtain ⟨t, e⟩ := (show ∃ t, u = Value.int i t from r); subst e; exact mixKind_int P w i t
  | inr x => obtain ⟨t, e⟩ := (show ∃ t, u = Value.str x t from r); subst e; exact mixKind_str P w x t
theorem items_are {P : Program} {w : World} : ∀ {ks : List Key} {us : List Value}, Vals (ks.map kV) us → ItemsAre (mixKind P w) ks us
  | [], _, r => by rw [List.map_nil] at r; cases r; exact .nil
  | k :: ks, _, r => by
    rw [List.map_cons] at r
    cases r with
    | cons h t => exact .cons (kV_is h) (items_are t)
noncomputable abbrev KT (H : Hp) : List (List Key × V) → List (List Key × Addr × Value) → Prop := Paired fun p q => p.1 = q.1 ∧ H q.2.1 = some (.tup (p.1.map kV)) ∧ RelV p.2 q.2.2
theorem KT.val {H : Hp} {kvs : List (List Key × V)} {xs : List (List Key × Addr × Value)} (r : KT H kvs xs) (k : List Key) : RelO (valV kvs k) ((atKey xs k).map (·.2)) := by
  induction r with
  | nil => exact True.intro
  | @cons p q ps qs h t ih =>
    obtain ⟨h1, _, h2⟩ := h
    by_cases e : p.1 = k
    · have e' : q.1 = k := h1.symm.trans e
      have b : atKey (q :: qs) k = some q.2 := by simp [atKey, List.find?_cons, e']
      rw [valV_pos e, b]; exact h2
    · have e' : ¬ q.1 = k := fun z => e (h1.trans z)
      have b : atKey (q :: qs) k = atKey qs k := by simp [atKey, List.find?_cons, e']
      rw [valV_neg e, b]; exact ih
theorem KT.repl {H : Hp} {kvs : List (List Key × V)} {xs : List (List Key × Addr × Value)} (r : KT H kvs xs) (k : List Key) {y : V} {u : Value} (ry : RelV y u) :
    KT H (kvs.map fun kv => if kv.1 = k then (kv.1, y) else kv) (xs.map (putAt k u)) := by
  induction r with
  | nil => exact .nil
  | @cons p q ps qs h t ih =>
    rw [List.map_cons, List.map_cons]
    refine .cons ?_ ih
    obtain ⟨h1, h2, h3⟩ := h
    unfold putAt
    by_cases e : p.1 = k
    · rw [if_pos e, if_pos (h1.symm.trans e)]; exact ⟨h1, h2, ry⟩
    · rw [if_neg e, if_neg (fun z => e (h1.trans z))]; exact ⟨h1, h2, h3⟩
theorem KT.put {H : Hp} {kvs : List (List Key × V)} {xs : List (List Key × Addr × Value)} (r : KT H kvs xs) (k : List Key) {b : Addr} {y : V} {u : Value} (hb : H b = some (.tup (k.map kV))) (ry : RelV y u) :
    KT H (putK kvs k y) (storedH xs k b u) := by
  have e : (kvs.any fun kv => decide (kv.1 = k)) = (atKey xs k).isSome := by
    rw [valV_any, (r.val k).isSome_eq, Option.isSome_map]
  unfold putK storedH
  rw [e]
  by_cases q : (atKey xs k).isSome = true
  · rw [if_pos q, if_pos q]; exact r.repl k ry
  · rw [if_neg q, if_neg q]; exact Paired.snoc r ⟨rfl, hb, ry⟩
theorem KT.keeps {H H' : Hp} {kvs : List (List Key × V)} {xs : List (List Key × Addr × Value)} (r : KT H kvs xs) (ht : ∀ b ys, H b = some (.tup ys) → H' b = some (.tup ys)) : KT H' kvs xs :=
  Paired.mapP r fun _ _ z => ⟨z.1, ht _ _ z.2.1, z.2.2⟩
section
variable {P : Program} {w : World} {H : Hp} {h : Heap} {a : Addr}
theorem rd_of {u : HO} (ok : HOk P w H h) (e : Rd H a u) : ObjOk P w H h a u := e.ok ok
noncomputable abbrev RdK (H : Hp) (a : Addr) (kvs : List (Key × V)) : Prop := ∃ ep, Rd H a (.dK kvs ep)
theorem dk_rd {kvs : List (Key × V)} (ok : HOk P w H h) (e : RdK H a kvs) : kvs.length ≤ sizeLine ∧ (a == sysModules) = false ∧ ∃ vs, KV kvs vs ∧ h.DictOf (mixKind P w) a vs := by
  obtain ⟨ep, e⟩ := e
  obtain ⟨h1, h2, vs, h3, h4⟩ := (show ObjOk P w H h a (.dK kvs ep) from rd_of ok e)
  exact ⟨h1, h2, vs, h3, h4.dictOf⟩
theorem dk_of {kvs : List (Key × V)} {ep : Nat} (ok : HOk P w H h) (e : H a = some (.dK kvs ep)) : kvs.length ≤ sizeLine ∧ (a == sysModules) = false ∧ ∃ vs, KV kvs vs ∧ h.DictOf (mixKind P w) a vs := dk_rd ok ⟨ep, .inl e⟩
theorem key_of {ks : List Key} (ok : HOk P w H h) (e : H a = some (.tup (ks.map kV))) : (tupleKind (mixKind P w)).is h ks a := by
  obtain ⟨_, its, r, o, h1, h2, n, h3⟩ := (show ObjOk P w H h a (.tup (ks.map kV)) from ok a _ e)
  exact ⟨o, its.toArray, n, h1, h2, h3, by simpa using items_are r⟩
theorem dt_rd {kvs : List (List Key × V)} (ok : HOk P w H h) (e : Rd H a (.dT kvs)) : kvs.length ≤ sizeLine ∧ (a == sysModules) = false ∧
    ∃ xs, KT H kvs xs ∧ h.DictOfH (tupleKind (mixKind P w)) a xs := by
  obtain ⟨z, y, xs, r, o, es, ep, h1, h2, h3, h4, h5⟩ := (show ObjOk P w H h a (.dT kvs) from rd_of ok e)
  refine ⟨z, y, xs, r, o, es, ep, h1, h2, h3, h4, fun x hx => ?_, h5⟩
  have all : ∀ {l : List (List Key × V)} {m : List (List Key × Addr × Value)}, KT H l m → ∀ x ∈ m, (tupleKind (mixKind P w)).is h x.1 x.2.1 := by
    intro l m q
    induction q with
    | nil => intro x hx; exact nomatch hx
    | @cons p q ps qs hq t ih =>
      intro x hx
      rcases List.mem_cons.mp hx with e | hx
      · subst e
        exact key_of ok (by rw [← hq.1]; exact hq.2.1)
      · exact ih x hx
  exact all r x hx
theorem dt_of {kvs : List (List Key × V)} (ok : HOk P w H h) (e : H a = some (.dT kvs)) : kvs.length ≤ sizeLine ∧ (a == sysModules) = false ∧
    ∃ xs, KT H kvs xs ∧ h.DictOfH (tupleKind (mixKind P w)) a xs := dt_rd ok (.inl e)
end
noncomputable def DGet (H : Hp) (a : Addr) (y : V) (r : Option V) : Prop :=
  (∃ kvs k, RdK H a kvs ∧ y = kV k ∧ r = valV kvs k) ∨ ∃ kvs k b, Rd H a (.dT kvs) ∧ y = .ref b ∧ H b = some (.tup (k.map kV)) ∧ r = valV kvs k
noncomputable def DPut (H : Hp) (a : Addr) (y v : V) (H' : Hp) : Prop :=
  (∃ kvs k ep ep', H a = some (.dK kvs ep) ∧ y = kV k ∧ kvs.length < sizeLine ∧ H' = upd H a (.dK (putK kvs k v) ep')) ∨
  ∃ kvs k b, H a = some (.dT kvs) ∧ y = .ref b ∧ H b = some (.tup (k.map kV)) ∧ kvs.length < sizeLine ∧ H' = upd H a (.dT (putK kvs k v))
theorem DGet.k {H : Hp} {a : Addr} {kvs : List (Key × V)} {k : Key} {ep : Nat} (e : H a = some (.dK kvs ep)) : DGet H a (kV k) (valV kvs k) := .inl ⟨kvs, k, ⟨ep, .inl e⟩, rfl, rfl⟩
theorem DPut.k {H : Hp} {a : Addr} {kvs : List (Key × V)} {k : Key} {v : V} {ep ep' : Nat} (e : H a = some (.dK kvs ep)) (hl : kvs.length < sizeLine) : DPut H a (kV k) v (upd H a (.dK (putK kvs k v) ep')) := .inl ⟨kvs, k, ep, ep', e, rfl, hl, rfl⟩
section
variable {X : Cx} {pins : List (Addr × Obj)} {σ : St} {H : Hp} {s : Shared} {a : Addr} {y v : V} {u r : Value} {o : Option V} {A : Around} {E : Value → Shared → Prop}
theorem Inv.big (I : Inv X pins σ H s) : sysModules < s.heap.objs.size := by
  have h : mainGlobals < s.heap.objs.size := (I.mod.glob.keeps I.bk).lt
  exact Nat.lt_trans (by decide) h
theorem d_getItem {Q : Value → Shared → Prop} (hu : A.units + 1 < cLine) (I : Inv X pins σ H s) (g : DGet H a y (some v)) (ry : RelV y u) (h : ∀ w' s', Inv X pins σ H s' → RelV v w' → Q w' s') :
    wpAny (model X.prog X.w) A (getItem (.ref a) u) Q E s := by
  rcases g with ⟨kvs, k, e, ey, l⟩ | ⟨kvs, k, b, e, ey, eb, l⟩
  · subst ey
    obtain ⟨z, hd, vs, rel, dd⟩ := dk_rd I.hok e
    obtain ⟨w', hw, rw'⟩ := RelO.some_of (v := v) (o := valueAt vs k) (by rw [l]; exact rel.val k)
    exact wpAny_getItem_of (kV_is ry) dd.mapOf hw (h w' _ (I.tok _) rw')
  · subst ey
    cases (show u = Value.ref b from ry)
    obtain ⟨z, hd, xs, rel, dd⟩ := dt_rd I.hok e
    obtain ⟨w', hw, rw'⟩ := RelO.some_of (v := v) (o := (atKey xs k).map (·.2)) (by rw [l]; exact rel.val k)
    obtain ⟨p, hp, hp2⟩ := Option.map_eq_some_iff.mp hw
    refine wpAny_getItem_heap (tupleKind_room_in1 hu) (key_of I.hok eb) dd hp ?_
    rw [hp2]
    exact h w' _ (I.tok _) rw'
theorem d_in {Q : Value → Shared → Prop} (hu : A.units + 1 < cLine) (I : Inv X pins σ H s) (g : DGet H a y o) (ry : RelV y u) (h : ∀ s', Inv X pins σ H s' → Q (.bool o.isSome) s') :
    wpAny (model X.prog X.w) A (compareOp .In u (.ref a)) Q E s := by
  rcases g with ⟨kvs, k, e, ey, l⟩ | ⟨kvs, k, b, e, ey, eb, l⟩
  · subst ey
    obtain ⟨z, hd, vs, rel, dd⟩ := dk_rd I.hok e
    refine wpAny_in_of (kV_is ry) hd dd.mapOf ?_
    rw [← (rel.val k).isSome_eq, ← l]
    exact h _ (I.tok _)
  · subst ey
    cases (show u = Value.ref b from ry)
    obtain ⟨z, hd, xs, rel, dd⟩ := dt_rd I.hok e
    refine wpAny_in_heap (tupleKind_room_in1 hu) (key_of I.hok eb) hd dd ?_
    have q := (rel.val k).isSome_eq
    rw [Option.isSome_map] at q
    rw [← q, ← l]
    exact h _ (I.tok _)
theorem d_notIn {Q : Value → Shared → Prop} (hu : A.units + 1 < cLine) (I : Inv X pins σ H s) (g : DGet H a y o) (ry : RelV y u) (h : ∀ s', Inv X pins σ H s' → Q (.bool (!o.isSome)) s') :
    wpAny (model X.prog X.w) A (compareOp .NotIn u (.ref a)) Q E s := by
  rcases g with ⟨kvs, k, e, ey, l⟩ | ⟨kvs, k, b, e, ey, eb, l⟩
  · subst ey
    obtain ⟨z, hd, vs, rel, dd⟩ := dk_rd I.hok e
    refine wpAny_notIn_of (kV_is ry) hd dd.mapOf ?_
    rw [← (rel.val k).isSome_eq, ← l]
    exact h _ (I.tok _)
  · subst ey
    cases (show u = Value.ref b from ry)
    obtain ⟨z, hd, xs, rel, dd⟩ := dt_rd I.hok e
    refine wpAny_notIn_heap (tupleKind_room_in1 hu) (key_of I.hok eb) hd dd ?_
    have q := (rel.val k).isSome_eq
    rw [Option.isSome_map] at q
    rw [← q, ← l]
    exact h _ (I.tok _)
theorem d_write {h' : Heap} {t' : Nat} {ob : HO} (I : Inv X pins σ H s) (mu : Mut (H a)) (hs : Heap.SameBut a s.heap h') (he : ∃ q, h'.get? a = some q) (new : ObjOk X.prog X.w (upd H a ob) h' a ob) :
    Inv X pins σ (upd H a ob) { s with heap := h', toks := t' } :=
  I.write (x := a) (e := a) mu (.inl rfl) (fun b q hb z => (hs.2 b hb).trans z) he new
theorem dk_new {P : Program} {w : World} {H' : Hp} {h' : Heap} {kvs : List (Key × V)} {vs : List (Key × Value)} (z : kvs.length ≤ sizeLine) (hd : (a == sysModules) = false) (rel : KV kvs vs) {ep : Nat} (dd : h'.DictAt (mixKind P w) a vs ep) :
    ObjOk P w H' h' a (.dK kvs ep) := ⟨z, hd, vs, rel, dd⟩
theorem d_setItem {Q : Unit → Shared → Prop} (hu : A.units + 1 < cLine) (I : Inv X pins σ H s) (g : ∃ H', DPut H a y v H') (ry : RelV y u) (rv : RelV v r) (h : ∀ H' s', DPut H a y v H' → Inv X pins σ H' s' → Q () s') :
    wpAny (model X.prog X.w) A (setItem (.ref a) u r) Q E s := by
  obtain ⟨H', g⟩ := g
  have gg := g
  rcases g with ⟨kvs, k, ep, ep', e, ey, l, eH⟩ | ⟨kvs, k, b, e, ey, eb, l, eH⟩
  · subst ey eH
    obtain ⟨z, hd, vs, rel, dd⟩ := dk_of I.hok e
    have hz : vs.length ≤ sizeLine := by rw [← rel.length]; exact z
    have hl : (putK kvs k v).length ≤ sizeLine := by have := length_putK kvs k v; omega
    refine wpAny_setItem_pairs (hsz := hz) (kV_is ry) dd fun h' dd' hs => ?_
    have he : ∃ q, h'.get? a = some q := let ⟨q, _, _, hq, _⟩ := dd'; ⟨q, hq⟩
    obtain ⟨ep2, dd'⟩ := dd'.dictAt
    exact h _ _ (.inl ⟨kvs, k, ep, ep2, e, rfl, l, rfl⟩) (d_write I (by rw [e]; exact True.intro) hs he (dk_new hl hd (rel.put k rv) dd'))
  · subst ey eH
    cases (show u = Value.ref b from ry)
    obtain ⟨z, hd, xs, rel, dd⟩ := dt_of I.hok e
    have hz : xs.length ≤ sizeLine := by rw [← Paired.length rel]; exact z
    have hl : (putK kvs k v).length ≤ sizeLine := by have := length_putK kvs k v; omega
    refine wpAny_setItem_heap (hsz := hz) (tupleKind_room_in1 hu) (key_of I.hok eb) dd fun h' dd' hs => h _ _ gg ?_
    obtain ⟨q, es, ep, hq, h2, h3, h4, _, h5⟩ := dd'
    refine d_write I (by rw [e]; exact True.intro) hs ⟨q, hq⟩ ⟨hl, hd, _, (rel.put k eb rv).keeps fun c ys ec => ?_, q, es, ep, hq, h2, h3, h4, h5⟩
    rw [upd_ne (ne_of ec e (fun z => nomatch z))]
    exact ec
end
section
variable {X : Cx} {pins : List (Addr × Obj)} {σ : St} {H : Hp} {s : Shared} {a : Addr} {kvs : List (Key × V)} {k : Key} {u : Value} {A : Around} {E : Value → Shared → Prop}
theorem d_len {Q : Value → Shared → Prop} (I : Inv X pins σ H s) (e : RdK H a kvs) (h : ∀ t s', Inv X pins σ H s' → Q (.int kvs.length t) s') : wpAny (model X.prog X.w) A (call (.builtin "len") [.ref a]) Q E s := by
  obtain ⟨z, hd, vs, rel, dd⟩ := dk_rd I.hok e
  refine call_len_dict hd dd (by rw [← rel.length]; rw [sizeLine_eq] at z; omega) ?_
  rw [← rel.length]
  exact h _ _ (I.tok _)
end
noncomputable def NoSl (i : Expr) : Prop := ∀ ov iv, subscripted i false ov iv = operate [ov, iv] (getItem ov iv)
theorem subD_of {prog : Program} {w : World} {A : Around} {E : Value → Shared → Prop} {s : Shared} {env : Env} {value slice : Expr} {pos : Pos} {T id : String} {Q : Value → Shared → Prop}
    (hl : typeLookup (.type T) "__getitem__" = pure (some (.builtin id))) (hs : NoSl slice)
    (h : wpAny (model prog w) A (eval value env) (fun o s₁ => wpAny (model prog w) A (eval slice env) (fun i s₂ => s₂.TypeIs o T ∧ wpAny (model prog w) A (getItem o i) Q E s₂) E s₁) E s) :
    wpAny (model prog w) A (eval (.Subscript value slice pos) env) Q E s := by
  refine Subscript_ (wpAny_mono h (fun o s₁ h₁ => wpAny_mono h₁ (fun i s₂ h₂ => ?_) fun _ _ x => x) fun _ _ x => x)
  obtain ⟨hT, h₂⟩ := h₂
  unfold subscriptTail
  refine wpAny_bind ?_
  rw [getitemInPython_of_ne hT.not_modules]
  refine wpAny_bind (wpAny_specialOf hT hl ?_)
  have fin : wpAny (model prog w) A (subscripted slice false o i) (fun r s₃ => wpAny (model prog w) A (letTemporaryGo value o r >>= fun _ => pure r) Q E s₃) E s₂ := by
    rw [hs o i]
    exact wpAny_operating (wpAny_mono h₂ (fun r s₃ h₃ => wpAny_bind (wpAny_letTemporaryGo (wpAny_pure h₃))) fun _ _ x => x)
  first
    | exact wpAny_pure (wpAny_bind fin)
    | exact wpAny_bind (wpAny_pure (wpAny_bind fin))
    | exact wpAny_bind fin
theorem dict_typeIs {X : Cx} {pins : List (Addr × Obj)} {σ : St} {H : Hp} {s : Shared} {a : Addr} {y : V} {o : Option V} (I : Inv X pins σ H s) (g : DGet H a y o) : s.TypeIs (.ref a) "dict" := by
  rcases g with ⟨kvs, k, e, _, _⟩ | ⟨kvs, k, b, e, _, _, _⟩
  · obtain ⟨_, _, vs, _, dd⟩ := dk_rd I.hok e
    exact dd.typeIs
  · obtain ⟨_, _, xs, _, dd⟩ := dt_rd I.hok e
    exact dd.typeIs
noncomputable def tDGet (td ty : TE) : TE := fun σ H Q => td σ H fun x H1 => ty σ H1 fun y H2 => ∃ a v, x = .ref a ∧ DGet H2 a y (some v) ∧ Q v H2
noncomputable def tDIn (ty td : TE) : TE := fun σ H Q => ty σ H fun y H1 => td σ H1 fun x H2 => ∃ a o, x = .ref a ∧ DGet H2 a y o ∧ Q (.bl o.isSome) H2
noncomputable def tDNotIn (ty td : TE) : TE := fun σ H Q => ty σ H fun y H1 => td σ H1 fun x H2 => ∃ a o, x = .ref a ∧ DGet H2 a y o ∧ Q (.bl (!o.isSome)) H2
noncomputable def sDPut (td ty tv : TE) : TS := fun D σ H => tv σ H fun v H1 => td σ H1 fun x H2 => ty σ H2 fun y H3 => ∃ a, x = .ref a ∧ (∃ H4, DPut H3 a y v H4) ∧ ∀ H4, DPut H3 a y v H4 → D.nx σ H4
section
variable {X : Cx} {o i e value : Expr} {pos pos' tpos : Pos} {td ty tv : TE}
theorem pe_dget (hu : X.A.units + 1 < cLine) (ho : PE X o td) (hi : PE X i ty) (hs : NoSl i) : PE X (.Subscript o i pos) (tDGet td ty) := by
  intro pins s σ H Q I h
  refine subD_of PySem.F.slot_dict_getitem.lookup hs (thn (ho pins s σ H _ I h) fun u s1 ⟨x, H1, I1, rx, q1⟩ => thn (hi pins s1 σ H1 _ I1 q1) fun iv s2 ⟨y, H2, I2, ry, a, v, ex, g, q2⟩ => ?_)
  subst ex
  obtain rfl : u = Value.ref a := rx
  exact ⟨dict_typeIs I2 g, d_getItem hu I2 g ry fun w' s3 I3 rw' => ⟨v, H2, I3, rw', q2⟩⟩
theorem pc_din (hu : X.A.units + 1 < cLine) (hi : PE X i ty) (ho : PE X o td) : PC X .In i o (tDIn ty td) := by
  intro pins s σ H Q I h
  refine thn (hi pins s σ H _ I h) fun iv s1 ⟨y, H1, I1, ry, q1⟩ => thn (ho pins s1 σ H1 _ I1 q1) fun u s2 ⟨x, H2, I2, rx, a, ov, ex, g, q2⟩ => ?_
  subst ex
  obtain rfl : u = Value.ref a := rx
  exact d_in hu I2 g ry fun s3 I3 => ⟨.bl ov.isSome, H2, I3, rfl, q2⟩
theorem pc_dnotin (hu : X.A.units + 1 < cLine) (hi : PE X i ty) (ho : PE X o td) : PC X .NotIn i o (tDNotIn ty td) := by
  intro pins s σ H Q I h
  refine thn (hi pins s σ H _ I h) fun iv s1 ⟨y, H1, I1, ry, q1⟩ => thn (ho pins s1 σ H1 _ I1 q1) fun u s2 ⟨x, H2, I2, rx, a, ov, ex, g, q2⟩ => ?_
  subst ex
  obtain rfl : u = Value.ref a := rx
  exact d_notIn hu I2 g ry fun s3 I3 => ⟨.bl (!ov.isSome), H2, I3, rfl, q2⟩
theorem ps_dput (hu : X.A.units + 1 < cLine) (ho : PE X o td) (hi : PE X i ty) (hv : PE X value tv) (hs : swapsWith value (some (.Subscript o i pos')) pos.line X.env = pure false) :
    PS X (.Assign [.Subscript o i pos'] value pos) (sDPut td ty tv) := by
  intro pins s σ H D I h
  refine wpAny_Assign_Subscript (thn (hv pins s σ H _ I h) fun r s1 ⟨v, H1, I1, rv, q1⟩ => thn (ho pins s1 σ H1 _ I1 q1) fun u s2 ⟨x, H2, I2, rx, q2⟩ => thn (hi pins s2 σ H2 _ I2 q2) fun iv s3 ⟨y, H3, I3, ry, a, ex, g, q3⟩ => ?_) hs
  subst ex
  obtain rfl : u = Value.ref a := rx
  exact d_setItem hu I3 g ry rv fun H4 s4 g4 I4 => ⟨σ, H4, I4, q3 H4 g4⟩
end
theorem dk_empty {P : Program} {w : World} {H : Hp} (h : Heap) (hb : sysModules < h.objs.size) : ∃ ep, ObjOk P w H (h.push { cls := .type "dict", data := .dict #[] }) h.objs.size (.dK [] ep) := by
  obtain ⟨ep, x⟩ := (Heap.DictOf.new (knd := mixKind P w) h).dictAt
  exact ⟨ep, Nat.zero_le _, beq_eq_false_iff_ne.mpr (Ne.symm (Nat.ne_of_lt hb)), [], .nil, x⟩
noncomputable def tDNewK : TE := fun _ H Q => ∀ p ep, H p = none → Q (.ref p) (upd H p (.dK [] ep))
section
variable {X : Cx} {pos : Pos}
theorem pe_dnewK : PE X (.Dict [] [] pos) tDNewK := fun pins s σ H Q I h => by
  obtain ⟨ep, ok⟩ := dk_empty (P := X.prog) (w := X.w) (H := upd H s.heap.objs.size (.dK [] 0)) s.heap I.big
  have ok : ObjOk X.prog X.w (upd H s.heap.objs.size (.dK [] ep)) (s.heap.push { cls := .type "dict", data := .dict #[] }) s.heap.objs.size (.dK [] ep) := ok
  exact wpAny_Dict_empty ⟨.ref s.heap.objs.size, _, I.laid (a := s.heap.objs.size) (o := .dK [] ep) (t' := s.toks) (fun _ _ q => Heap.get?_push_of_some _ q) (Nat.le_refl _) ok, rfl, h _ _ (I.hok.fresh (Nat.le_refl _))⟩
end
structure M1 (X : Cx) (o : Expr) (m : Str) (apos : Pos) (e : Expr) (cpos : Pos) : Prop where
  base : attributeBase o m X.env (eval o X.env) = eval o X.env
  few : ((backTo cpos (starEach [e] X.env)).all (fun x => !x.1) && (backToKw cpos (keywordEach [] X.env)).all (fun x => x.1.isSome)
    && decide (([e] : List Expr).length + ([] : List Keyword).length + (if ([] : List Keyword).isEmpty then 0 else 1) < 30)) = true
  line : (apos.endLine == cpos.line) = true
  trees : backTo cpos (starEach [e] X.env) = [(false, eval e X.env)]
structure M2 (X : Cx) (o : Expr) (m : Str) (apos : Pos) (e f : Expr) (cpos : Pos) : Prop where
  base : attributeBase o m X.env (eval o X.env) = eval o X.env
  few : ((backTo cpos (starEach [e, f] X.env)).all (fun x => !x.1) && (backToKw cpos (keywordEach [] X.env)).all (fun x => x.1.isSome)
    && decide (([e, f] : List Expr).length + ([] : List Keyword).length + (if ([] : List Keyword).isEmpty then 0 else 1) < 30)) = true
  line : (apos.endLine == cpos.line) = true
  trees : backTo cpos (starEach [e, f] X.env) = [(false, eval e X.env), (false, eval f X.env)]
noncomputable def IsD (H : Hp) (a : Addr) : Prop := (∃ kvs, RdK H a kvs) ∨ ∃ kvs, Rd H a (.dT kvs)
theorem isD_at {X : Cx} {pins : List (Addr × Obj)} {σ : St} {H : Hp} {s : Shared} {a : Addr} (I : Inv X pins σ H s) (d : IsD H a) :
    s.TypeIs (.ref a) "dict" ∧ (∀ b, Value.ref a = .ref b → ∃ ob, s.heap.get? b = some ob ∧ ob.dict = none) ∧ (a == sysModules) = false := by
  rcases d with ⟨kvs, e⟩ | ⟨kvs, e⟩
  · obtain ⟨_, hd, vs, _, dd⟩ := dk_rd I.hok e
    refine ⟨dd.typeIs, fun b q => ?_, hd⟩
    cases q
    obtain ⟨ob, _, _, h1, h2, _⟩ := dd
    exact ⟨ob, h1, h2.2.1⟩
  · obtain ⟨_, hd, xs, _, dd⟩ := dt_rd I.hok e
    refine ⟨dd.typeIs, fun b q => ?_, hd⟩
    cases q
    obtain ⟨ob, _, _, h1, h2, _⟩ := dd
    exact ⟨ob, h1, h2.2.1⟩
section
variable {X : Cx} {pins : List (Addr × Obj)} {σ : St} {H : Hp} {s : Shared} {a : Addr} {y d : V} {u r : Value} {o : Option V} {A : Around} {E : Value → Shared → Prop}
end
section
variable {X : Cx} {o e f : Expr} {apos cpos : Pos} {td ty tx : TE}
end
section
variable {X : Cx} {pins : List (Addr × Obj)} {σ : St} {H : Hp} {s : Shared} {a : Addr} {kvs : List (Key × V)} {A : Around} {E : Value → Shared → Prop}
end
section
variable {X : Cx} {pins : List (Addr × Obj)} {σ : St} {H : Hp} {s : Shared} {a : Addr} {y : V} {u : Value} {A : Around} {E : Value → Shared → Prop}
end
end L2
namespace HT
open PySem PyProof.Rows
section
open PySem.SeqAt
open PySem.AutoSeq1 (wpAny_loadPart')
open PySem.MeetsSeq PySem.MeetsSeq2 PySem.MeetsSeq3
end
section
variable {prog : Program} {w : World} {A : Around} {E : Value → Shared → Prop} {s : Shared}
theorem cat_tup {t b : Addr} {vs ws : List Value} {Q : Value → Shared → Prop} (ht : IsTup s.heap t vs.toArray) (hb : IsTup s.heap b ws.toArray) (hv : vs ≠ [])
    (h1 : ws = [] → Q (.ref t) s) (h2 : ws ≠ [] → Q (.ref s.heap.objs.size) { s with heap := s.heap.push { cls := .type "tuple", data := .seq (vs ++ ws).toArray } })
    (hsz : vs.length + ws.length ≤ sizeLine) : wpAny (model prog w) A (binaryOp .Add (.ref t) (.ref b)) Q E s := by
  obtain ⟨⟨cls, dd, data, sl⟩, ho, hc, n, hd⟩ := id ht
  obtain ⟨⟨cls2, dd2, data2, sl2⟩, ho2, hc2, n2, hd2⟩ := id hb
  simp only at hc hd hc2 hd2
  subst hc hd hc2 hd2
  have e : vs.toArray ++ ws.toArray = (vs ++ ws).toArray := by simp
  by_cases hw : ws = []
  · exact concat_meets ⟨_, ho, rfl⟩ ⟨_, ho2, rfl⟩ noFill_tuple_add seq_tuple_add PySem.F.slot_tuple_add PySem.F.entry_tuple_add (PySem.F.args_tuple_add_2 _ _)
      (tuple_addW1 t b vs.toArray ws.toArray n n2 dd dd2 sl sl2 (by simpa using hv) (by simp [hw])) ⟨ho, ho2, h1 hw⟩
  · refine concat_meets ⟨_, ho, rfl⟩ ⟨_, ho2, rfl⟩ noFill_tuple_add seq_tuple_add PySem.F.slot_tuple_add PySem.F.entry_tuple_add (PySem.F.args_tuple_add_2 _ _)
      (tuple_addW2 t b vs.toArray ws.toArray n n2 dd dd2 sl sl2 (by simpa using hv) (by simpa using hw) (by rw [List.size_toArray, List.size_toArray]; exact hsz)) ⟨ho, ho2, ?_⟩
    rw [e]
    exact h2 hw
noncomputable def sIx (n d : Nat) : Option Int → Nat
  | none => d
  | some v => if v < 0 then (v + (n : Int)).toNat else min v.toNat n
theorem sIx_le (n d : Nat) (hd : d ≤ n) (o : Option Int) : sIx n d o ≤ n := by
  cases o with
  | none => exact hd
  | some v =>
    show (if v < 0 then (v + (n : Int)).toNat else min v.toNat n) ≤ n
    by_cases hv : v < 0
    · rw [if_pos hv]; omega
    · rw [if_neg hv]; exact Nat.min_le_right _ _
theorem clip_eq (v : Int) (n d : Nat) : (if v < 0 then max (v + (n : Int)) 0 else min v (n : Int)) = ((sIx n d (some v) : Nat) : Int) := by
  show (if v < 0 then max (v + (n : Int)) 0 else min v (n : Int)) = (((if v < 0 then (v + (n : Int)).toNat else min v.toNat n) : Nat) : Int)
  by_cases hv : v < 0
  · simp only [if_pos hv]; omega
  · simp only [if_neg hv]; omega
theorem adjust_gen (lo hi : Option Int) (n : Nat) : Builtin.Slice.sliceAdjust lo hi 1 (n : Int) = (((sIx n 0 lo : Nat) : Int), ((sIx n n hi : Nat) : Int)) := by
  have h1 : ¬ ((1 : Int) < 0) := by omega
  unfold Builtin.Slice.sliceAdjust
  simp only [h1, if_false]
  refine Prod.ext ?_ ?_
  · cases lo with
    | none => rfl
    | some v => exact clip_eq v n 0
  · cases hi with
    | none => rfl
    | some v => exact clip_eq v n n
theorem places_gen (i j : Nat) : Builtin.Slice.slicePlaces (i : Int) (j : Int) 1 = j - i := by
  unfold Builtin.Slice.slicePlaces
  have h1 : (1 : Int) > 0 := by omega
  simp only [h1, if_true, Int.ediv_one]
  split <;> omega
theorem slicePart_ {v : Value} {o : Option Int} {Q : Option Int → Shared → Prop} (p : IsPart v o) (h : Q o s) : wpAny (model prog w) A (Builtin.Slice.slicePartIndex v) Q E s := by
  cases p with
  | none => exact slicePart_none h
  | int i t => exact slicePart_int h
theorem sliceApplied_gen {sl : Addr} {vl vu : Value} {lo hi : Option Int} {n : Nat} {Q : Int × Int × Nat → Shared → Prop} (hs : s.heap.IsSliceOf sl vl vu .none) (pl : IsPart vl lo) (pu : IsPart vu hi)
    (h : Q (((sIx n 0 lo : Nat) : Int), 1, sIx n n hi - sIx n 0 lo) s) : wpAny (model prog w) A (Builtin.Slice.sliceApplied (.ref sl) (pure (n : Int))) Q E s := by
  obtain ⟨os, hos, hcs, hds⟩ := id hs
  unfold Builtin.Slice.sliceApplied Builtin.Slice.sliceFields
  refine wpAny_bind (wpAny_bind (wpAny_field hos hds (x := vl) rfl (wpAny_bind (wpAny_field hos hds (x := vu) rfl (wpAny_bind (wpAny_field hos hds (x := .none) rfl (wpAny_pure ?_)))))))
  refine wpAny_bind (slicePart_none ?_)
  show wpAny _ _ (if ((1 : Int) == 0) = true then _ else _) _ _ s
  rw [if_neg (by decide)]
  refine wpAny_bind (slicePart_ pl (wpAny_bind (slicePart_ pu (wpAny_bind (wpAny_pure ?_)))))
  show wpAny _ _ (match Builtin.Slice.sliceAdjust lo hi 1 (n : Int) with | (lo, hi) => pure (lo, (1 : Int), Builtin.Slice.slicePlaces lo hi 1)) _ _ s
  rw [adjust_gen lo hi n]
  show wpAny _ _ (pure (((sIx n 0 lo : Nat) : Int), (1 : Int), Builtin.Slice.slicePlaces ((sIx n 0 lo : Nat) : Int) ((sIx n n hi : Nat) : Int) 1)) _ _ s
  rw [places_gen]
  exact wpAny_pure h
theorem pick_gen (xs : Array Value) (i k : Nat) : ((List.range k).filterMap fun (m : Nat) => xs[((i : Int) + (m : Int) * 1).toNat]?).toArray = ((xs.toList.drop i).take k).toArray := by
  have e : (fun (m : Nat) => xs[((i : Int) + (m : Int) * 1).toNat]?) = fun m => xs[i + m]? := by
    funext m
    have : ((i : Int) + (m : Int) * 1).toNat = i + m := by omega
    rw [this]
  rw [e]
  have := pick_run xs i k
  rw [List.filterMap_map] at this
  have e2 : ((fun x => xs[x]?) ∘ fun x => i + x) = fun m => xs[i + m]? := rfl
  rw [e2] at this
  rw [this]
theorem getItem_tuple_cut {t sl : Addr} {items : Array Value} {vl vu : Value} {lo hi : Option Int} {Q : Value → Shared → Prop} (ht : IsTup s.heap t items) (hs : s.heap.IsSliceOf sl vl vu .none) (pl : IsPart vl lo) (pu : IsPart vu hi)
    (hw : ¬ (sIx items.size 0 lo = 0 ∧ sIx items.size items.size hi = items.size))
    (h : Q (.ref s.heap.objs.size) { s with heap := s.heap.push { cls := .type "tuple", data := .seq ((items.toList.drop (sIx items.size 0 lo)).take (sIx items.size items.size hi - sIx items.size 0 lo)).toArray } })
    (hsz : items.size ≤ sizeLine) : wpAny (model prog w) A (getItem (.ref t) (.ref sl)) Q E s := by
  have htake : sizeOk (.seq ((items.toList.drop (sIx items.size 0 lo)).take (sIx items.size items.size hi - sIx items.size 0 lo)).toArray) := by
    show ((items.toList.drop (sIx items.size 0 lo)).take (sIx items.size items.size hi - sIx items.size 0 lo)).toArray.size ≤ sizeLine
    rw [List.size_toArray, List.length_take, List.length_drop, Array.length_toList]
    omega
  have hj : sIx items.size items.size hi ≤ items.size := sIx_le _ _ (Nat.le_refl _) hi
  obtain ⟨os, hos, hcs, hds⟩ := id hs
  have hTs : s.TypeIs (.ref sl) "slice" := ⟨os, hos, hcs⟩
  unfold getItem
  try with_reducible refine wpAny_holding ?_
  first | refine wpAny_bind (wpAny_pure ?_) | skip
  refine wpAny_bind (wpAny_sequenceKey ht.typeIs (by decide) ?_)
  refine wpAny_bind (wpAny_callSpecial?_slot (name := Str.ofString "__getitem__") ht.typeIs PyProof.Rows.slot_tuple_getitem
    (wpAny_call_entry PyProof.Rows.slot_tuple_getitem ht.typeIs entry_tuple_getitem ?_ (args_tuple_getitem _ _)))
  show wpAny _ _ (Builtin.Tuple.tupleItemsOf (.ref t) >>= _) _ _ s
  refine wpAny_bind (tupleItemsOf_ ht ?_)
  refine wpAny_bind (wpAny_typeOf hTs ?_)
  rw [if_pos (by decide)]
  refine wpAny_bind (sliceApplied_gen hs pl pu ?_)
  have hno : ¬ ((((sIx items.size 0 lo : Nat) : Int) == 0 && (1 : Int) == 1 && (sIx items.size items.size hi - sIx items.size 0 lo) == items.size) = true) := by
    intro q
    rw [Bool.and_eq_true, Bool.and_eq_true] at q
    have q1 : ((sIx items.size 0 lo : Nat) : Int) = 0 := eq_of_beq q.1.1
    have q2 : sIx items.size items.size hi - sIx items.size 0 lo = items.size := eq_of_beq q.2
    exact hw ⟨by omega, by omega⟩
  show wpAny _ _ (if (((sIx items.size 0 lo : Nat) : Int) == 0 && (1 : Int) == 1 && (sIx items.size items.size hi - sIx items.size 0 lo) == items.size) = true then _ else _) _ _ s
  rw [if_neg hno, pick_gen]
  first
    | exact wpAny_bind (m := Builtin.Tuple.tupleExact _) (wpAny_newObj_type (wpAny_pure ⟨_, rfl, wpAny_pure h⟩) htake)
    | exact wpAny_bind (m := Builtin.Tuple.tupleExact _) (wpAny_newObj_type (wpAny_bind (wpAny_pure (wpAny_pure ⟨_, rfl, wpAny_pure h⟩))) htake)
    | exact wpAny_bind (wpAny_bind (m := Builtin.Tuple.tupleExact _) (wpAny_newObj_type (wpAny_pure (wpAny_pure ⟨_, rfl, wpAny_pure h⟩)) htake))
    | exact wpAny_bind (wpAny_bind (m := Builtin.Tuple.tupleExact _) (wpAny_newObj_type (wpAny_pure ⟨_, rfl, wpAny_pure h⟩) htake))
end
end HT
namespace L2
open PySem PySem.Spec PyProof.Rows
noncomputable abbrev TO := St → Hp → (Option Int → Hp → Prop) → Prop
noncomputable def PO (X : Cx) (e : Option Expr) (t : TO) : Prop :=
  ∀ (pins : List (Addr × Obj)) (s : Shared) (σ : St) (H : Hp) (Q : Option Int → Hp → Prop), Inv X pins σ H s → t σ H Q →
    wpAny (model X.prog X.w) X.A (evalPart e X.env) (fun u s' => ∃ o H', Inv X pins σ H' s' ∧ IsPart u o ∧ Q o H') X.xe s
noncomputable def tNoPart : TO := fun _ H Q => Q none H
noncomputable def tPart (t : TE) : TO := fun σ H Q => t σ H fun x H1 => ∃ i, x = .int i ∧ Q (some i) H1
section
variable {X : Cx} {e : Expr} {te : TE} {lo hi : Option Expr} {tl th : TO} {pos p2 : Pos}
theorem po_none : PO X none tNoPart := by
  intro pins s σ H Q I h
  rw [evalPart_none]
  exact wpAny_pure ⟨none, H, I, .none, h⟩
theorem po_some (h : PE X e te) : PO X (some e) (tPart te) := by
  intro pins s σ H Q I hw
  rw [evalPart_some]
  refine thn (h pins s σ H _ I hw) fun u s1 ⟨x, H1, I1, r1, q1⟩ => ?_
  obtain ⟨i, rfl, q⟩ := q1
  obtain ⟨t, rfl⟩ := r1
  exact ⟨some i, H1, I1, .int i t, q⟩
noncomputable def SlR (X : Cx) (r : V → Option Int → Option Int → Hp → VK → Prop) : Prop :=
  ∀ (pins : List (Addr × Obj)) (s : Shared) (σ : St) (H : Hp) (x : V) (v vl vu : Value) (lo hi : Option Int) (sl : Addr) (Q : VK), Inv X pins σ H s → RelV x v → s.heap.IsSliceOf sl vl vu .none → IsPart vl lo → IsPart vu hi → r x lo hi H Q →
    ∃ T id, typeLookup (.type T) "__getitem__" = pure (some (.builtin id)) ∧ s.TypeIs v T ∧ wpAny (model X.prog X.w) X.A (getItem v (.ref sl)) (EP X pins σ Q) X.xe s
theorem SlR.or {r r' : V → Option Int → Option Int → Hp → VK → Prop} (h : SlR X r) (h' : SlR X r') : SlR X (fun x lo hi H Q => r x lo hi H Q ∨ r' x lo hi H Q) := by
  intro pins s σ H x v vl vu lo hi sl Q I rx hs pl pu q
  rcases q with q | q
  · exact h pins s σ H x v vl vu lo hi sl Q I rx hs pl pu q
  · exact h' pins s σ H x v vl vu lo hi sl Q I rx hs pl pu q
noncomputable def tSl (r : V → Option Int → Option Int → Hp → VK → Prop) (te : TE) (tl th : TO) : TE := fun σ H Q => te σ H fun x H1 => tl σ H1 fun l H2 => th σ H2 fun u H3 => r x l u H3 Q
theorem pe_slice {r : V → Option Int → Option Int → Hp → VK → Prop} (hr : SlR X r) (he : PE X e te) (hl : PO X lo tl) (hu : PO X hi th) : PE X (.Subscript e (.Slice lo hi none p2) pos) (tSl r te tl th) := by
  intro pins s σ H Q I h
  refine Subscript_ (thn (he pins s σ H _ I h) fun v s1 ⟨x, H1, I1, r1, q1⟩ => ?_)
  refine wpAny_Slice (thn (hl pins s1 σ H1 _ I1 q1) fun vl s2 ⟨l, H2, I2, pl, q2⟩ => thn (hu pins s2 σ H2 _ I2 q2) fun vu s3 ⟨u, H3, I3, pu, q3⟩ => ?_)
  rw [evalPart_none]
  refine wpAny_pure ?_
  have I4 : Inv X pins σ H3 { s3 with heap := s3.heap.push { cls := .type "slice", data := .fields #[vl, vu, .none] } } := I3.kept (t' := s3.toks) fun b ob q => Heap.get?_push_of_some _ q
  obtain ⟨T, id, hT, ht, hg⟩ := hr pins { s3 with heap := s3.heap.push { cls := .type "slice", data := .fields #[vl, vu, .none] } } σ H3 x v vl vu l u s3.heap.objs.size Q I4 r1 (Heap.IsSliceOf.new ..) pl pu q3
  show wpAny (model X.prog X.w) X.A (subscriptTail e (.Slice lo hi none p2) v (.ref s3.heap.objs.size)) (EP X pins σ Q) X.xe { s3 with heap := s3.heap.push { cls := .type "slice", data := .fields #[vl, vu, .none] } }
  exact tail_any (ops := [.ref s3.heap.objs.size, v]) ht hT hg (by with_unfolding_all rfl)
noncomputable def cutV (xs : List V) (lo hi : Option Int) : List V := (xs.drop (HT.sIx xs.length 0 lo)).take (HT.sIx xs.length xs.length hi - HT.sIx xs.length 0 lo)
theorem cutV_length (xs : List V) (lo hi : Option Int) : (cutV xs lo hi).length ≤ xs.length := by
  unfold cutV
  rw [List.length_take, List.length_drop]
  omega
noncomputable def rSlT (K : PySem.W.Frag) : V → Option Int → Option Int → Hp → VK → Prop := fun x lo hi H Q => ∃ a xs, x = .ref a ∧ SqT K H a xs ∧
  ¬ (HT.sIx xs.length 0 lo = 0 ∧ HT.sIx xs.length xs.length hi = xs.length) ∧ ∀ p, H p = none → Q (.ref p) (upd H p (.tup (cutV xs lo hi)))
theorem sl_tup : SlR X (rSlT X.K) := by
  intro pins s σ H x v vl vu lo hi sl Q I rx hs pl pu h
  obtain ⟨a, xs, rfl, hx, hw, q⟩ := h
  cases rx
  obtain ⟨its, r, ht, hz⟩ := I.tuple hx
  have hlen : its.toArray.size = xs.length := by rw [List.size_toArray]; exact r.length.symm
  refine ⟨"tuple", _, PyProof.Rows.slot_tuple_getitem.lookup, ht.typeIs, ?_⟩
  refine HT.getItem_tuple_cut ht hs pl pu (by rw [hlen]; exact hw) ?_ (by rw [hlen]; exact hz)
  rw [hlen]
  refine ⟨.ref s.heap.objs.size, _, I.laid (t' := s.toks) (o := .tup (cutV xs lo hi)) (fun b ob q => Heap.get?_push_of_some _ q) (Nat.le_refl _) ?_, rfl, q _ (I.hok.fresh (Nat.le_refl _))⟩
  exact ⟨Nat.le_trans (cutV_length xs lo hi) hz, _, (r.drop (HT.sIx xs.length 0 lo)).take (HT.sIx xs.length xs.length hi - HT.sIx xs.length 0 lo), IsTup.new _ _⟩
noncomputable def rCatT (K : PySem.W.Frag) : R2 := fun x y H Q => ∃ a b xs ys, x = .ref a ∧ y = .ref b ∧ SqT K H a xs ∧ SqT K H b ys ∧ xs ≠ [] ∧ xs.length + ys.length ≤ sizeLine ∧
  (ys = [] → Q (.ref a) H) ∧ (ys ≠ [] → ∀ p, H p = none → Q (.ref p) (upd H p (.tup (xs ++ ys))))
theorem Vals.nil_iff {xs : List V} {us : List Value} (r : Vals xs us) : us = [] ↔ xs = [] := by
  cases r with
  | nil => simp
  | cons _ _ => simp
theorem op_catT : OpR X (binaryOp .Add) (rCatT X.K) := by
  intro pins s σ H x y v u Q I rx ry h
  obtain ⟨a, b, xs, ys, rfl, rfl, ha, hb, hx, hz, q1, q2⟩ := h
  cases rx
  cases ry
  obtain ⟨its, r1, p1, _⟩ := I.tuple ha
  obtain ⟨its2, r2, p2, _⟩ := I.tuple hb
  refine HT.cat_tup p1 p2 (fun z => hx (r1.nil_iff.mp z)) (fun z => ⟨.ref a, H, I, rfl, q1 (r2.nil_iff.mp z)⟩) (fun z => ?_) (by rw [← r1.length, ← r2.length]; exact hz)
  refine ⟨.ref s.heap.objs.size, _, I.laid (t' := s.toks) (o := .tup (xs ++ ys)) (fun b ob q => Heap.get?_push_of_some _ q) (Nat.le_refl _) ?_, rfl, q2 (fun w => z (r2.nil_iff.mpr w)) _ (I.hok.fresh (Nat.le_refl _))⟩
  exact ⟨by rw [List.length_append]; exact hz, _, r1.append r2, IsTup.new _ _⟩
end
end L2
namespace L2
open PySem PySem.Spec PyProof.Rows
noncomputable def ixN (n : Nat) (i : Int) : Option Nat := if 0 ≤ i then (if i < n then some i.toNat else none) else if -(n : Int) ≤ i then some (i + n).toNat else none
noncomputable def atI {α : Type} (xs : List α) (i : Int) : Option α := (ixN xs.length i).bind fun j => xs[j]?
theorem ixN_seq {n : Nat} {i : Int} {j : Nat} (h : ixN n i = some j) : seqIndex? i n = some j ∧ j < n ∧ -(n : Int) ≤ i ∧ i < n := by
  unfold ixN at h
  by_cases h0 : 0 ≤ i
  · rw [if_pos h0] at h
    by_cases h1 : i < n
    · rw [if_pos h1] at h
      have e : i.toNat = j := Option.some.inj h
      exact ⟨by rw [seqIndex_of h0 h1, e], by omega, by omega, h1⟩
    · rw [if_neg h1] at h; cases h
  · rw [if_neg h0] at h
    by_cases h1 : -(n : Int) ≤ i
    · rw [if_pos h1] at h
      have e : (i + n).toNat = j := Option.some.inj h
      exact ⟨by rw [seqIndex_neg (by omega) h1, e], by omega, h1, by omega⟩
    · rw [if_neg h1] at h; cases h
theorem atI_get {α : Type} {xs : List α} {i : Int} {v : α} (h : atI xs i = some v) : ∃ j, seqIndex? i xs.length = some j ∧ xs[j]? = some v ∧ j < xs.length ∧ -(xs.length : Int) ≤ i ∧ i < xs.length := by
  unfold atI at h
  cases e : ixN xs.length i with
  | none => rw [e] at h; cases h
  | some j =>
    rw [e] at h
    obtain ⟨h1, h2, h3, h4⟩ := ixN_seq e
    exact ⟨j, h1, h, h2, h3, h4⟩
noncomputable def PlainIx (b : Expr) : Prop := ∀ o i, subscripted b false o i = operate [o, i] (getItem o i)
noncomputable def IxR (X : Cx) (r : R2) : Prop :=
  ∀ (value slice : Expr) (pins : List (Addr × Obj)) (s : Shared) (σ : St) (H : Hp) (x y : V) (v u : Value) (Q : VK), Inv X pins σ H s → RelV x v → RelV y u → r x y H Q →
    subscripted slice false v u = operate [v, u] (getItem v u) → wpAny (model X.prog X.w) X.A (subscriptTail value slice v u) (EP X pins σ Q) X.xe s
noncomputable def MtR (X : Cx) (id : String) (r : V → List V → Hp → VK → Prop) : Prop :=
  ∀ (pins : List (Addr × Obj)) (s : Shared) (σ : St) (H : Hp) (x : V) (xs : List V) (v : Value) (us : List Value) (Q : VK), Inv X pins σ H s → RelV x v → Vals xs us → r x xs H Q →
    wpAny (model X.prog X.w) X.A (call (.builtin id) (v :: us)) (EP X pins σ Q) X.xe s
section
variable {X : Cx} {a b : Expr} {ta tb : TE} {pos : Pos}
theorem IxR.or {r r' : R2} (h : IxR X r) (h' : IxR X r') : IxR X (fun x y H Q => r x y H Q ∨ r' x y H Q) := by
  intro value slice pins s σ H x y v u Q I rx ry q hs
  rcases q with q | q
  · exact h value slice pins s σ H x y v u Q I rx ry q hs
  · exact h' value slice pins s σ H x y v u Q I rx ry q hs
theorem pe_ix {r : R2} (hr : IxR X r) (ha : PE X a ta) (hb : PE X b tb) (hs : PlainIx b) : PE X (.Subscript a b pos) (tOp r ta tb) := by
  intro pins s σ H Q I h
  exact Subscript_ (binT ha hb I h fun v u s2 x y H2 I2 rx ry q => hr a b pins s2 σ H2 x y v u Q I2 rx ry q (hs _ _))
noncomputable def rIxL (K : PySem.W.Frag) : R2 := fun x y H Q => ∃ p xs i v, x = .ref p ∧ y = .int i ∧ SqL K H p xs ∧ atI xs i = some v ∧ Q v H
noncomputable def rIxT (K : PySem.W.Frag) : R2 := fun x y H Q => ∃ p xs i v, x = .ref p ∧ y = .int i ∧ SqT K H p xs ∧ atI xs i = some v ∧ Q v H
noncomputable def rIxS : R2 := fun x y H Q => ∃ z i c, x = .str z ∧ y = .int i ∧ z.length ≤ sizeLine ∧ atI z.cps.toList i = some c ∧ Q (.str ⟨#[c]⟩) H
theorem ix_list : IxR X (rIxL X.K) := by
  intro value slice pins s σ H x y v u Q I rx ry h hs
  obtain ⟨p, xs, i, z, rfl, rfl, hq, he, q⟩ := h
  cases rx
  obtain ⟨t, rfl⟩ := ry
  obtain ⟨its, r, pl, hz⟩ := I.list hq
  obtain ⟨j, h1, h2, h3, h4, h5⟩ := atI_get he
  obtain ⟨w, ew, rw'⟩ := r.get h2
  have hl := r.length
  have hn := line63
  have fin : EP X pins σ Q w s := ⟨z, H, I, rw', q⟩
  by_cases h0 : 0 ≤ i
  · have hj : i.toNat = j := by
      rw [seqIndex_of h0 h5] at h1
      exact Option.some.inj h1
    exact item_listR pl.isList h0 (by omega) (by rw [hj]; simpa using ew) fin hs
  · have hj : (i + (its.toArray.size : Int)).toNat = j := by
      rw [seqIndex_neg (by omega) h4] at h1
      rw [List.size_toArray, ← hl]
      exact Option.some.inj h1
    exact subscriptTail_builtinR (x := w) pl.isList.typeIs slot_list_getitem.lookup
      (wpAny_getItem_list_neg (Q := fun r s' => r = w ∧ EP X pins σ Q r s') pl.isList (by omega) (by rw [List.size_toArray] <;> omega) (by omega) (by rw [hj]; simpa using ew) ⟨rfl, fin⟩) hs
theorem ix_tup : IxR X (rIxT X.K) := by
  intro value slice pins s σ H x y v u Q I rx ry h hs
  obtain ⟨p, xs, i, z, rfl, rfl, hq, he, q⟩ := h
  cases rx
  obtain ⟨t, rfl⟩ := ry
  obtain ⟨its, r, pl, hz⟩ := I.tuple hq
  obtain ⟨j, h1, h2, h3, h4, h5⟩ := atI_get he
  obtain ⟨w, ew, rw'⟩ := r.get h2
  have hl := r.length
  have hn := line63
  have fin : EP X pins σ Q w s := ⟨z, H, I, rw', q⟩
  exact subscriptTail_builtinR (x := w) pl.typeIs slot_tuple_getitem.lookup
    (getItem_tuple (j := j) (Q := fun r s' => r = w ∧ EP X pins σ Q r s') pl (by omega) (by omega) (by rw [List.size_toArray, ← hl]; exact h1) (by simpa using ew) ⟨rfl, fin⟩) hs
theorem ix_str : IxR X rIxS := by
  intro value slice pins s σ H x y v u Q I rx ry h hs
  obtain ⟨z, i, c, rfl, rfl, hz, he, q⟩ := h
  obtain ⟨t, rfl⟩ := rx
  obtain ⟨t', rfl⟩ := ry
  obtain ⟨j, h1, h2, h3, h4, h5⟩ := atI_get he
  have hl : z.cps.toList.length = z.length := by simp [Str.length]
  rw [hl] at h1 h4 h5
  have hn := line63
  exact tail_any (typeIs_str s z t) slot_str_getitem.lookup (getItem_str (c := c) (by
    have e1 : decide (i < -(2 ^ 63 : Int)) = false := decide_eq_false (by omega)
    have e2 : decide (i ≥ 2 ^ 63) = false := decide_eq_false (by omega)
    rw [e1, e2, Bool.or_false]) (by rw [h1]; simpa using h2) ⟨.str ⟨#[c]⟩, H, I.tok _, ⟨_, rfl⟩, q⟩) hs
theorem mapSeq_set (its : List Value) (n j : Nat) (u : Value) : Obj.mapSeq (·.setIfInBounds j u) { cls := .type "list", data := .seq its.toArray n } = { cls := .type "list", data := .seq (its.set j u).toArray n } := by
  simp [Obj.mapSeq]
theorem Inv.lst {pins : List (Addr × Obj)} {σ : St} {H : Hp} {s : Shared} {p : Addr} {xs : List V} (I : Inv X pins σ H s) (h : H p = some (.lst xs)) :
    ∃ (its : List Value) (n : Nat), Vals xs its ∧ s.heap.get? p = some { cls := .type "list", data := .seq its.toArray n } ∧ xs.length ≤ sizeLine := by
  obtain ⟨z, its, n, r, e⟩ := I.hok p _ h
  exact ⟨its, n, r, e, z⟩
theorem Inv.lstUpd {pins : List (Addr × Obj)} {σ : St} {H : Hp} {s : Shared} {p : Addr} {xs ys : List V} {its its' : List Value} {n n' : Nat} {f : Obj → Obj} (I : Inv X pins σ H s) (h : H p = some (.lst xs))
    (ho : s.heap.get? p = some { cls := .type "list", data := .seq its.toArray n }) (hf : f { cls := .type "list", data := .seq its.toArray n } = { cls := .type "list", data := .seq its'.toArray n' }) (r : Vals ys its') (hz : ys.length ≤ sizeLine) (t : Nat) :
    Inv X pins σ (upd H p (.lst ys)) { s with heap := s.heap.update p f, toks := t } := by
  have e : (s.heap.update p f).get? p = some { cls := .type "list", data := .seq its'.toArray n' } := by
    rw [Heap.get?_update_self f ho (by rw [hf] <;> rfl), hf]
  refine I.write (x := p) (e := p) (by rw [h]; trivial) (.inl rfl) (fun b u hb q => (Heap.get?_update_other _ _ (Ne.symm hb)).trans q) ⟨_, e⟩ ?_
  exact ⟨hz, its', n', r, e⟩
noncomputable def rSetL : V → V → V → Hp → (Hp → Prop) → Prop := fun o i v H Q => ∃ p xs k j, o = .ref p ∧ i = .int k ∧ H p = some (.lst xs) ∧ ixN xs.length k = some j ∧ Q (upd H p (.lst (xs.set j v)))
theorem set_list : PSet X rSetL := by
  intro pins s σ H o i v ov iv u Q I ro ri rv h
  obtain ⟨p, xs, k, j, rfl, rfl, hp, hj, q⟩ := h
  cases ro
  obtain ⟨t, rfl⟩ := ri
  obtain ⟨its, n, r, ho, hz⟩ := I.lst hp
  obtain ⟨h1, h2, h3, h4⟩ := ixN_seq hj
  have hl := r.length
  have hn := line63
  have I' : Inv X pins σ (upd H p (.lst (xs.set j v))) { s with heap := s.heap.update p (Obj.mapSeq (·.setIfInBounds j u)) } :=
    I.lstUpd hp ho (mapSeq_set its n j u) (r.set rv j) (by rw [List.length_set]; exact hz) s.toks
  by_cases h0 : 0 ≤ k
  · have hk : k.toNat = j := by
      rw [seqIndex_of h0 h4] at h1
      exact Option.some.inj h1
    exact PySem.W.ki_setAt ho h0 (by omega) (by rw [List.size_toArray, ← hl]; exact h4) (by rw [hk]; exact ⟨_, I', q⟩)
  · have hk : (k + (its.toArray.size : Int)).toNat = j := by
      rw [seqIndex_neg (by omega) h3] at h1
      rw [List.size_toArray, ← hl]
      exact Option.some.inj h1
    exact PySem.W.ki_setBack ho (by omega) (by rw [List.size_toArray, ← hl]; exact h3) (by omega) (by rw [hk]; exact ⟨_, I', q⟩)
theorem slice_bounds (lo hi : Option Int) (n : Nat) : (sliceBounds lo hi none n).1 = ((HT.sIx n 0 lo : Nat) : Int) ∧ (sliceBounds lo hi none n).2.1 = ((HT.sIx n n hi : Nat) : Int) ∧ (sliceBounds lo hi none n).2.2 = 1 := by
  refine ⟨?_, ?_, rfl⟩
  · cases lo with
    | none => simp [sliceBounds, HT.sIx]
    | some i =>
      simp only [sliceBounds, HT.sIx, Option.getD_none, show (1 : Int) > 0 by decide, if_true]
      by_cases h : i < 0
      · simp only [h, if_true] <;> omega
      · simp only [h, if_false] <;> omega
  · cases hi with
    | none => simp [sliceBounds, HT.sIx]
    | some i =>
      simp only [sliceBounds, HT.sIx, Option.getD_none, show (1 : Int) > 0 by decide, if_true]
      by_cases h : i < 0
      · simp only [h, if_true] <;> omega
      · simp only [h, if_false] <;> omega
theorem slicePick_cut (its : List Value) (lo hi : Option Int) : slicePick its.toArray lo hi none = ((its.drop (HT.sIx its.length 0 lo)).take (HT.sIx its.length its.length hi - HT.sIx its.length 0 lo)).toArray := by
  obtain ⟨h1, h2, h3⟩ := slice_bounds lo hi its.toArray.size
  unfold slicePick
  rw [h1, h2, h3]
  simp only [sliceRange_one, pick_run, List.size_toArray] <;> rfl
noncomputable def rSlL (K : PySem.W.Frag) : V → Option Int → Option Int → Hp → VK → Prop := fun x lo hi H Q => ∃ a xs, x = .ref a ∧ SqL K H a xs ∧ ∀ p, H p = none → Q (.ref p) (upd H p (.lst (cutV xs lo hi)))
theorem sl_list : SlR X (rSlL X.K) := by
  intro pins s σ H x v vl vu lo hi sl Q I rx hs pl pu h
  obtain ⟨a, xs, rfl, hx, q⟩ := h
  cases rx
  obtain ⟨its, r, ht, hz⟩ := I.list hx
  have hlen := r.length
  refine ⟨"list", _, slot_list_getitem.lookup, ht.isList.typeIs, ?_⟩
  refine wpAny_getItem_list_slice ht.isList hs pl pu .none (by simp) ?_ (by rw [List.size_toArray] <;> omega)
  rw [slicePick_cut, ← hlen]
  refine ⟨.ref s.heap.objs.size, _, I.laid (t' := s.toks) (o := .lst (cutV xs lo hi)) (fun b ob q => Heap.get?_push_of_some _ q) (Nat.le_refl _) ?_, rfl, q _ (I.hok.fresh (Nat.le_refl _))⟩
  exact ⟨Nat.le_trans (cutV_length xs lo hi) hz, _, 0, (r.drop (HT.sIx xs.length 0 lo)).take (HT.sIx xs.length xs.length hi - HT.sIx xs.length 0 lo), Heap.get?_push_size _ rfl⟩
noncomputable def flatV : V → Bool
  | .non => true
  | .bl _ => true
  | .int _ => true
  | .str _ => true
  | _ => false
noncomputable def eqV : V → V → Bool
  | .non, .non => true
  | .bl a, .bl b => a == b
  | .bl a, .int b => (if a then 1 else 0) == b
  | .int a, .bl b => a == (if b then 1 else 0)
  | .int a, .int b => a == b
  | .str a, .str b => a == b
  | _, _ => false
theorem eqAt_V {A : Around} {s : Shared} {y x : V} {u v : Value} (ry : RelV y u) (rx : RelV x v) (fy : flatV y = true) (fx : flatV x = true) : SeqAt.EqAt A s u v (eqV y x) := by
  cases y with
  | non =>
    cases ry
    cases x with
    | non => cases rx; exact SeqAt.EqAt.same _
    | bl b => cases rx; exact SeqAt.EqAt.none_bool b
    | int b => obtain ⟨t, rfl⟩ := rx; exact SeqAt.EqAt.none_int b t
    | str b => obtain ⟨t, rfl⟩ := rx; exact SeqAt.EqAt.none_str b t
    | _ => exact absurd (show false = true from fx) Bool.false_ne_true
  | bl a =>
    cases ry
    cases x with
    | non => cases rx; exact SeqAt.EqAt.bool_none a
    | bl b => cases rx; exact SeqAt.EqAt.bool_bool a b
    | int b => obtain ⟨t, rfl⟩ := rx; exact SeqAt.EqAt.bool_int a b t
    | str b => obtain ⟨t, rfl⟩ := rx; exact SeqAt.EqAt.bool_str a b t
    | _ => exact absurd (show false = true from fx) Bool.false_ne_true
  | int a =>
    obtain ⟨t', rfl⟩ := ry
    cases x with
    | non => cases rx; exact SeqAt.EqAt.int_none a t'
    | bl b => cases rx; exact SeqAt.EqAt.int_bool a t' b
    | int b => obtain ⟨t, rfl⟩ := rx; exact SeqAt.EqAt.int_int a t' b t
    | str b => obtain ⟨t, rfl⟩ := rx; exact SeqAt.EqAt.int_str a t' b t
    | _ => exact absurd (show false = true from fx) Bool.false_ne_true
  | str a =>
    obtain ⟨t', rfl⟩ := ry
    cases x with
    | non => cases rx; exact SeqAt.EqAt.str_none a t'
    | bl b => cases rx; exact SeqAt.EqAt.str_bool a t' b
    | int b => obtain ⟨t, rfl⟩ := rx; exact SeqAt.EqAt.str_int a t' b t
    | str b => obtain ⟨t, rfl⟩ := rx; exact SeqAt.EqAt.str_str a t' b t
    | _ => exact absurd (show false = true from fx) Bool.false_ne_true
  | _ => exact absurd (show false = true from fy) Bool.false_ne_true
noncomputable def eqU (x : V) (u : Value) : Bool := match u with
  | .none => eqV .non x
  | .bool b => eqV (.bl b) x
  | .int i _ => eqV (.int i) x
  | .str z _ => eqV (.str z) x
  | _ => false
theorem eqU_of {x y : V} {u : Value} (r : RelV y u) (f : flatV y = true) : eqU x u = eqV y x := by
  cases y with
  | non => cases r; rfl
  | bl b => cases r; rfl
  | int i => obtain ⟨t, rfl⟩ := r; rfl
  | str z => obtain ⟨t, rfl⟩ := r; rfl
  | _ => exact absurd (show false = true from f) Bool.false_ne_true
theorem any_eqU {x : V} : ∀ {xs : List V} {us : List Value}, Vals xs us → xs.all flatV = true → us.any (eqU x) = xs.any fun y => eqV y x
  | _, _, .nil, _ => rfl
  | y :: xs, u :: us, .cons r t, f => by
    rw [List.all_cons, Bool.and_eq_true] at f
    rw [List.any_cons, List.any_cons, eqU_of r f.1, any_eqU t f.2]
theorem mem_eqAt {A : Around} {s : Shared} {x : V} {v : Value} (rx : RelV x v) (fx : flatV x = true) : ∀ {xs : List V} {us : List Value}, Vals xs us → xs.all flatV = true → ∀ u ∈ us, SeqAt.EqAt A s u v (eqU x u)
  | _, _, .nil, _ => fun u hu => by cases hu
  | y :: xs, u :: us, .cons r t, f => fun u' hu => by
    rw [List.all_cons, Bool.and_eq_true] at f
    rcases List.mem_cons.mp hu with rfl | hu
    · rw [eqU_of r f.1]; exact eqAt_V r rx f.1 fx
    · exact mem_eqAt rx fx t f.2 u' hu
noncomputable def inV (x : V) (xs : List V) : Bool := xs.any fun y => eqV y x
noncomputable def rIn (K : PySem.W.Frag) (neg : Bool) : R2 := fun x y H Q => ∃ p xs, y = .ref p ∧ (SqL K H p xs ∨ SqT K H p xs) ∧ flatV x = true ∧ xs.all flatV = true ∧ Q (.bl (if neg then !inV x xs else inV x xs)) H
theorem op_in_seq : OpR X (compareOp .In) (rIn X.K false) := by
  intro pins s σ H x y v u Q I rx ry h
  obtain ⟨p, xs, rfl, hq, fx, fs, q⟩ := h
  cases ry
  rcases hq with hq | hq
  · obtain ⟨its, r, pl, hz⟩ := I.list hq
    refine SeqAt.in_listAt (eqU x) pl.isList (fun w hw => mem_eqAt rx fx r fs w (by simpa using hw)) ⟨.bl _, H, I, rfl, ?_⟩
    rw [show its.toArray.any (eqU x) = its.any (eqU x) by simp, any_eqU r fs]
    exact q
  · obtain ⟨its, r, pl, hz⟩ := I.tuple hq
    refine SeqAt.in_tupleAt (eqU x) pl (fun w hw => mem_eqAt rx fx r fs w (by simpa using hw)) ⟨.bl _, H, I, rfl, ?_⟩
    rw [show its.toArray.any (eqU x) = its.any (eqU x) by simp, any_eqU r fs]
    exact q
theorem op_notIn_seq : OpR X (compareOp .NotIn) (rIn X.K true) := by
  intro pins s σ H x y v u Q I rx ry h
  obtain ⟨p, xs, rfl, hq, fx, fs, q⟩ := h
  cases ry
  rcases hq with hq | hq
  · obtain ⟨its, r, pl, hz⟩ := I.list hq
    refine SeqAt.notIn_listAt (eqU x) pl.isList (fun w hw => mem_eqAt rx fx r fs w (by simpa using hw)) ⟨.bl _, H, I, rfl, ?_⟩
    rw [show its.toArray.any (eqU x) = its.any (eqU x) by simp, any_eqU r fs]
    exact q
  · obtain ⟨its, r, pl, hz⟩ := I.tuple hq
    refine SeqAt.notIn_tupleAt (eqU x) pl (fun w hw => mem_eqAt rx fx r fs w (by simpa using hw)) ⟨.bl _, H, I, rfl, ?_⟩
    rw [show its.toArray.any (eqU x) = its.any (eqU x) by simp, any_eqU r fs]
    exact q
theorem call_len_seq : CallR X (.builtin "len") (fun xs H Q => ∃ p ys, xs = [.ref p] ∧ (SqL X.K H p ys ∨ SqT X.K H p ys) ∧ Q (.int ys.length) H) := by
  intro pins s σ H xs us Q I r h
  obtain ⟨p, ys, rfl, hq, q⟩ := h
  obtain ⟨u, rfl, rx⟩ := vals1 r
  cases rx
  have hn := line63
  rcases hq with hq | hq
  · obtain ⟨its, r', pl, hz⟩ := I.list hq
    have hlen := r'.length
    exact Calls.call_len_list pl.isList (by simp only [List.size_toArray] <;> omega) ⟨.int ys.length, H, I.tok _, ⟨s.toks + 1, by rw [List.size_toArray, hlen]⟩, q⟩
  · obtain ⟨its, r', pl, hz⟩ := I.tuple hq
    have hlen := r'.length
    exact len_tuple pl (by simp only [List.size_toArray] <;> omega) ⟨.int ys.length, H, I.tok _, ⟨s.toks + 1, by rw [List.size_toArray, hlen]⟩, q⟩
theorem call_len_str : CallR X (.builtin "len") (fun xs H Q => ∃ z, xs = [.str z] ∧ z.length ≤ sizeLine ∧ Q (.int z.length) H) := by
  intro pins s σ H xs us Q I r h
  obtain ⟨z, rfl, hz, q⟩ := h
  obtain ⟨u, rfl, t, rfl⟩ := vals1 r
  have hn := line63
  exact len_str (by omega) ⟨.int z.length, H, I.tok _, ⟨_, rfl⟩, q⟩
theorem CallR.or {f : Value} {r r' : List V → Hp → VK → Prop} (h : CallR X f r) (h' : CallR X f r') : CallR X f (fun xs H Q => r xs H Q ∨ r' xs H Q) := by
  intro pins s σ H xs us Q I rs q
  rcases q with q | q
  · exact h pins s σ H xs us Q I rs q
  · exact h' pins s σ H xs us Q I rs q
theorem call_tuple_of : CallR X (.type "tuple") (fun xs H Q => ∃ p ys, xs = [.ref p] ∧ ((SqL X.K H p ys ∧ ∀ l, H l = none → Q (.ref l) (upd H l (.tup ys))) ∨ (SqT X.K H p ys ∧ Q (.ref p) H))) := by
  intro pins s σ H xs us Q I r h
  obtain ⟨p, ys, rfl, h⟩ := h
  obtain ⟨u, rfl, rx⟩ := vals1 r
  cases rx
  rcases h with ⟨hq, q⟩ | ⟨hq, q⟩
  · obtain ⟨its, r', pl, hz⟩ := I.list hq
    have hlen := r'.length
    refine call_tuple_list pl.isList (fun h' kp => ?_) (by simp only [List.size_toArray] <;> omega)
    have I1 : Inv X pins σ H { s with heap := h' } := I.kept (t' := s.toks) kp
    have I2 : Inv X pins σ (upd H h'.objs.size (.tup ys)) { s with heap := h'.push { cls := .type "tuple", data := .seq its.toArray } } :=
      I1.laid (t' := s.toks) (fun b o e => Heap.get?_push_of_some _ e) (Nat.le_refl _) (show ObjOk X.prog X.w _ _ _ (.tup ys) from ⟨hz, its, r', IsTup.new _ _⟩)
    exact ⟨.ref h'.objs.size, _, I2, rfl, q _ (I1.hok.fresh (Nat.le_refl _))⟩
  · obtain ⟨its, r', pl, hz⟩ := I.tuple hq
    exact call_tuple_same pl ⟨.ref p, H, I, rfl, q⟩
noncomputable def tyV (K : PySem.W.Frag) (T : String) (x : V) (H : Hp) : Prop := match x with
  | .str _ => T = "str"
  | .int _ => T = "int"
  | .ref p => (T = "list" ∧ ∃ xs, SqL K H p xs) ∨ (T = "tuple" ∧ ∃ o, K.lookup p = some o ∧ o.cls = .type "tuple" ∧ o.dict = none) ∨
      (T = "dict" ∧ ((∃ kvs ep, H p = some (.dK kvs ep)) ∨ ∃ kvs, H p = some (.dT kvs))) ∨ (T = "set" ∧ ∃ S n, H p = some (.set S n))
  | _ => False
theorem tyV_is {pins : List (Addr × Obj)} {σ : St} {H : Hp} {s : Shared} {T : String} {x : V} {v : Value} (I : Inv X pins σ H s) (r : RelV x v) (ty : tyV X.K T x H) :
    s.TypeIs v T ∧ ∀ a, v = .ref a → ∃ ob, s.heap.get? a = some ob ∧ ob.dict = none := by
  cases x with
  | str z =>
    obtain ⟨t, rfl⟩ := r
    cases (show T = "str" from ty)
    exact ⟨typeIs_str s z t, fun _ e => nomatch e⟩
  | int i =>
    obtain ⟨t, rfl⟩ := r
    cases (show T = "int" from ty)
    exact ⟨typeIs_int s i t, fun _ e => nomatch e⟩
  | ref p =>
    cases r
    rcases ty with ⟨rfl, xs, hq⟩ | ⟨rfl, o, hk, hc, hd⟩ | ⟨rfl, hk⟩ | ⟨rfl, S, n, hk⟩
    · obtain ⟨its, _, pl, _⟩ := I.list hq
      refine ⟨pl.isList.typeIs, fun a e => ?_⟩
      cases e
      obtain ⟨o, n, e, c, hd, _⟩ := pl
      exact ⟨o, e, hd⟩
    · refine ⟨⟨o, I.kIn p o hk, hc⟩, fun a e => ?_⟩
      cases e
      exact ⟨o, I.kIn _ o hk, hd⟩
    · have z : ∃ o, s.heap.get? p = some o ∧ o.ExactDict := by
        rcases hk with ⟨kvs, ep, hk⟩ | ⟨kvs, hk⟩
        · obtain ⟨_, _, _, _, o, _, e, ex, _⟩ := I.hok p _ hk
          exact ⟨o, e, ex⟩
        · obtain ⟨_, _, _, _, o, _, _, e, ex, _⟩ := I.hok p _ hk
          exact ⟨o, e, ex⟩
      obtain ⟨o, e, ex⟩ := z
      refine ⟨⟨o, e, ex.1⟩, fun a e2 => ?_⟩
      cases e2
      exact ⟨o, e, ex.2.1⟩
    · obtain ⟨o, _, _, _, e, ex, _⟩ := I.hok p _ hk
      refine ⟨⟨o, e, ex.1⟩, fun a e2 => ?_⟩
      cases e2
      exact ⟨o, e, ex.2.1⟩
  | _ => exact False.elim ty
noncomputable def tBM0 (K : PySem.W.Frag) (T : String) (r : V → List V → Hp → VK → Prop) (to : TE) : TE := fun σ H Q => to σ H fun x H1 => tyV K T x H1 ∧ r x [] H1 Q
noncomputable def tBM (K : PySem.W.Frag) (T : String) (r : V → List V → Hp → VK → Prop) (to : TE) (t : TA) : TE := fun σ H Q => to σ H fun x H1 => tyV K T x H1 ∧ t σ H1 fun xs H2 => r x xs H2 Q
variable {o e : Expr} {es : List Expr} {to : TE} {t : TA} {name : Str} {apos cpos : Pos} {T id : String} {r : V → List V → Hp → VK → Prop}
theorem pe_bm0 (pa : PlainAttrs T) (slot : Slot T name id) (hty : typeOf (.builtin id) = pure (.type "method_descriptor")) (hm : MtR X id r) (ho : PE X o to)
    (hbase : attributeBase o name X.env (eval o X.env) = eval o X.env := by rfl) (hline : (apos.endLine == cpos.line) = true := by rfl) : PE X (.Call (.Attribute o name apos) [] [] cpos) (tBM0 X.K T r to) := by
  intro pins s σ H Q I h
  refine wpAny_Call_method0_late hbase hline (thn (ho pins s σ H _ I h) fun v s1 ⟨x, H1, I1, r1, ty, q1⟩ => ?_)
  obtain ⟨h1, h2⟩ := tyV_is I1 r1 ty
  exact ⟨T, id, pa, slot, hty, h1, h2, Calls.callWith_builtin rfl (PySem.evalArgs_none (hm pins s1 σ H1 x [] v [] Q I1 r1 .nil q1))⟩
theorem pe_bm (pa : PlainAttrs T) (slot : Slot T name id) (hty : typeOf (.builtin id) = pure (.type "method_descriptor")) (hm : MtR X id r) (ho : PE X o to) (ha : PA X (e :: es) t)
    (hbase : attributeBase o name X.env (eval o X.env) = eval o X.env := by rfl)
    (hfew : ((backTo cpos (starEach (e :: es) X.env)).all (fun x => !x.1) && (backToKw cpos (keywordEach [] X.env)).all (fun x => x.1.isSome)
      && decide ((e :: es).length + ([] : List Keyword).length + (if ([] : List Keyword).isEmpty then 0 else 1) < 30)) = true := by rfl)
    (hline : (apos.endLine == cpos.line) = true := by rfl) (hs : starEach (e :: es) X.env = (false, eval e X.env) :: starEach es X.env := by rfl) (hplain : (backTo cpos (starEach es X.env)).any (·.1) = false := by rfl) :
    PE X (.Call (.Attribute o name apos) (e :: es) [] cpos) (tBM X.K T r to t) := by
  intro pins s σ H Q I h
  refine wpAny_Call_method_late hbase hfew hline rfl (thn (ho pins s σ H _ I h) fun v s1 ⟨x, H1, I1, r1, ty, q1⟩ => ?_)
  obtain ⟨h1, h2⟩ := tyV_is I1 r1 ty
  refine ⟨T, id, pa, slot, hty, h1, h2, ?_⟩
  have hA := ha cpos pins s1 σ H1 _ I1 q1
  rw [hs] at hA ⊢
  refine Calls.callWith_builtin (by show (false || (backTo cpos (starEach es X.env)).any (·.1)) = false; rw [hplain] <;> rfl) (Calls.evalArgs_plain ?_)
  exact thn hA fun us s2 ⟨vs, H2, I2, r2, q2⟩ => hm pins s2 σ H2 x vs v us Q I2 r1 r2 q2
end
end L2
namespace L2
open PySem PySem.Spec PyProof.Rows
noncomputable def MtM (X : Cx) (id : String) (r : V → List V → Hp → VK → Prop) : Prop :=
  ∀ (pins : List (Addr × Obj)) (s : Shared) (σ : St) (H : Hp) (x : V) (xs : List V) (v : Value) (us : List Value) (Q : VK), Inv X pins σ H s → RelV x v → Vals xs us → r x xs H Q →
    wpAny (model X.prog X.w) X.A (call (.builtin id) (v :: us)) (EP X pins σ Q) X.xe s
theorem Vals.one : ∀ {x : V} {us : List Value}, Vals [x] us → ∃ u, us = [u] ∧ RelV x u
  | _, _, .cons r .nil => ⟨_, rfl, r⟩
theorem Vals.zero : ∀ {us : List Value}, Vals [] us → us = []
  | _, .nil => rfl
section
variable {X : Cx} {pins : List (Addr × Obj)} {σ : St} {H : Hp} {s : Shared} {l b : Addr} {xs ys zs : List V}
theorem Inv.lset {its its' : List Value} {n : Nat} {f : Array Value → Array Value} {t' : Nat} (I : Inv X pins σ H s) (hH : H l = some (.lst xs))
    (e : s.heap.get? l = some { cls := .type "list", data := .seq its.toArray n }) (hf : f its.toArray = its'.toArray) (hv : Vals ys its') (hz : ys.length ≤ sizeLine) :
    Inv X pins σ (upd H l (.lst ys)) { s with heap := s.heap.update l (Obj.mapSeq f), toks := t' } := by
  have q := PySem.IsL.update e f
  rw [hf] at q
  refine I.write (x := l) (e := l) (by rw [hH]; exact trivial) (.inl rfl) (fun b' u hb hu => (Heap.get?_update_other s.heap (Obj.mapSeq f) (Ne.symm hb)).trans hu) ⟨_, q⟩ ?_
  exact ⟨hz, its', _, hv, q⟩
theorem Inv.lnew {its : List Value} {t' : Nat} (I : Inv X pins σ H s) (hv : Vals ys its) (hz : ys.length ≤ sizeLine) :
    Inv X pins σ (upd H s.heap.objs.size (.lst ys)) { s with heap := s.heap.push { cls := .type "list", data := .seq its.toArray }, toks := t' } :=
  I.laid (fun _ _ q => Heap.get?_push_of_some _ q) (Nat.le_refl _) ⟨hz, its, 0, hv, Heap.get?_push_size _ rfl⟩
theorem Inv.fresh (I : Inv X pins σ H s) : H s.heap.objs.size = none := I.hok.fresh (Nat.le_refl _)
theorem Inv.lstM (I : Inv X pins σ H s) (hH : H l = some (.lst xs)) : xs.length ≤ sizeLine ∧ ∃ (its : List Value) (n : Nat), Vals xs its ∧ xs.length = its.length ∧ s.heap.get? l = some { cls := .type "list", data := .seq its.toArray n } := by
  obtain ⟨z, its, n, r, e⟩ := I.hok l _ hH
  exact ⟨z, its, n, r, r.length, e⟩
end
section
variable {X : Cx}
noncomputable def rAppend : V → List V → Hp → VK → Prop := fun x vs H Q => ∃ l xs y, x = .ref l ∧ vs = [y] ∧ H l = some (.lst xs) ∧ xs.length < sizeLine ∧ Q .non (upd H l (.lst (xs ++ [y])))
theorem mt_append : MtM X "list.append" rAppend := by
  intro pins s σ H x vs v us Q I rx rv h
  obtain ⟨l, xs, y, rfl, rfl, hH, hz, q⟩ := h
  cases rx
  obtain ⟨u, rfl, ru⟩ := rv.one
  obtain ⟨z, its, n, r, hl, e⟩ := I.lstM hH
  refine call_meets F.slot_list_append ⟨_, e, rfl⟩ F.entry_list_append (F.args_list_append_2 _ _) (PySem.list_append l its.toArray n u (by rw [List.size_toArray]; omega)) ⟨e, ?_⟩
  refine ⟨.non, _, I.lset (its' := its ++ [u]) hH e (by simp) (r.append (.cons ru .nil)) ?_, rfl, q⟩
  rw [List.length_append, List.length_singleton]
  omega
noncomputable def rClear : V → List V → Hp → VK → Prop := fun x vs H Q => ∃ l xs, x = .ref l ∧ vs = [] ∧ H l = some (.lst xs) ∧ Q .non (upd H l (.lst []))
theorem mt_clear : MtM X "list.clear" rClear := by
  intro pins s σ H x vs v us Q I rx rv h
  obtain ⟨l, xs, rfl, rfl, hH, q⟩ := h
  cases rx
  have hus := rv.zero
  subst hus
  obtain ⟨z, its, n, r, hl, e⟩ := I.lstM hH
  refine call_meets F.slot_list_clear ⟨_, e, rfl⟩ F.entry_list_clear (F.args_list_clear_1 _) (AutoSeq1.list_clear_list_0 l its.toArray n (by rw [List.size_toArray]; omega)) ⟨e, ?_⟩
  exact ⟨.non, _, I.lset (its' := []) (ys := []) hH e rfl .nil (Nat.zero_le _), rfl, q⟩
end
section
variable {prog : Program} {w : World} {A : Around} {E : Value → Shared → Prop} {s : Shared}
set_option maxRecDepth 100000 in
end
section
variable {X : Cx}
end
end L2
namespace Att
open PySem PySem.W PySem.Calls PyProof.Rows
theorem ints_of_wellAll {P : Params} {h : Heap} : ∀ (ns : List Int) (vs : List Value), WellAll P h vs (ns.map WData.int) → IntsAre vs ns := by
  intro ns
  induction ns with
  | nil =>
    intro vs w
    rw [List.map_nil] at w
    cases w
    exact .nil
  | cons n ns ih =>
    intro vs w
    rw [List.map_cons] at w
    cases w with
    | cons a b =>
      cases a
      exact .cons _ _ (ih _ b)
theorem script_of {l : OpenLaw} {n : Nat} (hn : l.most = some n) {P : Params} {h : Heap} {args : List WData} {vals : List Value}
    (hpre : l.row.toRowW.claim.pre args = true) (hwl : WellAll P h vals args) :
    ∃ a vs ns, vals = [Value.ref a] ∧ args = [WData.list (ns.map WData.int)] ∧ h.get? a = some { cls := .type "list", data := .seq vs.toArray } ∧ IntsAre vs ns ∧ ns.length ≤ n := by
  have hsh : WShape.hasAll [] args [.list .int] = true := (pre_splitW hpre).1
  have hc : l.pre.holds [] { args := args } = true := (pre_splitW hpre).2
  obtain ⟨d, r, rfl, h1, h2⟩ := hasAllW_cons hsh
  obtain rfl := hasAllW_nil h2
  obtain ⟨xs, rfl, h3⟩ := hasW_list h1
  obtain ⟨ns, rfl⟩ := items_int h3
  have hlen : ns.length ≤ n := by
    unfold OpenLaw.pre at hc
    have h4 : (WTm.not (.lt (.lit (.int (n : Int))) (.len (.arg 0)))).holds [] { args := [.list (ns.map .int)] } = true := by
      have h4 := (holds_andW hc).1
      rw [hn] at h4
      exact h4
    have h5 := condW_of h4 (w_not (w_lt w_lit (w_len_list (w_arg rfl))))
    rw [List.length_map] at h5
    refine Nat.le_of_not_lt fun q => ?_
    have q' : (n : Int) < ((ns.length : Nat) : Int) := by omega
    first
      | (rw [decide_eq_true q'] at h5; exact absurd h5 (by decide))
      | (simp at h5; omega)
  cases hwl with
  | cons w1 w2 =>
    cases w2
    cases w1 with
    | list ho hall => exact ⟨_, _, ns, rfl, rfl, ho, ints_of_wellAll ns _ hall, hlen⟩
theorem post_true (l : OpenLaw) (args : List WData) : l.row.toRowW.claim.post args (.bool true) args = true :=
  postW_of (r := l.row.toRowW) (X := (true == true))
    (show WShape.has [] (.bool true) .bool = true by first | rfl | decide | simp [WShape.has, WShape.arms, WShape.armsAll])
    (show (WTm.eq .res (.lit (.bool true))).value [] { args := args, res := some (.bool true), after := args } = some (.bool (true == true)) from w_eq_bool (w_res rfl) w_lit) rfl
theorem attach_call {l : OpenLaw} {n : Nat} {q : Program} {loose : List Str} {XP : (Str → Option Value) → Heap → Prop} {YP : World → Heap → Prop} {d : DefRec}
    (hn : l.most = some n) (hdf : d.params.defaults = [])
    (call : ∀ (w : World) (s₀ s₁ : Shared) (mg mb : Str → Option Value) (fa : Addr) (o : Obj) (pm cd doc : Value) (a : Addr) (vs : List Value) (ns : List Int),
      Ground q loose [] XP w s₀ mg mb s₁.heap → YP w s₁.heap →
      s₁.heap.get? fa = some o → o.data = .func (docDef d.name d.params d.body d.scope pm cd doc) → s₁.heap.CodeRec cd d.name → mg d.name = some (.ref fa) →
      s₁.heap.get? a = some { cls := .type "list", data := .seq vs.toArray } → IntsAre vs ns → ns.length ≤ n → s₁.gens = #[] →
      codeAny (model l.prog w) callerA (.call (.ref fa) ⟨[.ref a], []⟩) (fun r s' => r = .ok (.ret (.bool true)) ∧ OldK s₁.heap s'.heap ∧ s'.os = s₁.os ∧ AllBare s'.gens) s₁) :
    WalkO q loose XP YP l.row.toRowW d [] (fun f vs => PySem.call f vs) := by
  intro w s₀ s₁ mg mb G Y fa o pm cd doc dV kV ho hd hcd hD hmg hg args vals as hpre hlay hrd hwl hlo
  obtain rfl : dV = .none := Dflts.none hD hdf
  obtain rfl : kV = .none := Dflts.noKw hD
  obtain ⟨a, vs, ns, rfl, rfl, hobj, hints, hlen⟩ := script_of hn hpre hwl
  refine enter_call (codeAny_mono (call w s₀ s₁ mg mb fa o pm cd doc a vs ns G Y ho (fd_plain hd) hcd hmg hobj hints hlen hg) fun r s' hq => ?_)
  obtain ⟨rfl, h2, h3, h4⟩ := hq
  exact ⟨.inl ⟨.bool true, .bool true, [], rfl, fun _ => rfl, .bool true, post_true l _, fun _ => ⟨List.Pairwise.nil, fun _ hm => (nomatch hm)⟩⟩, h2, h3, h4⟩
section
variable {prog : Program} {w : World} {A : Around} {E : Value → Shared → Prop} {s : Shared} {K : Frag}
end
end Att
namespace L2
open PySem PySem.Spec PyProof.Rows
theorem vals_ints : ∀ {vs : List Value} {ns : List Int}, IntsAre vs ns → Vals (ns.map V.int) vs
  | _, _, .nil => .nil
  | _, _, .cons n t h => .cons ⟨t, rfl⟩ (vals_ints h)
noncomputable def Only (H : Hp) : Prop := ∀ b, H b = none ∨ ∃ o xs, H b = some (.frz o (.lst xs))
theorem law_call {P : Program} {w : World} {K : PySem.W.Frag} {mg mb : Str → Option Value} {CX : CXT} {k : Nat} {fa a : Addr} {fd : FuncData} {x : Str} {sp : Sp} {s₁ : Shared} {vs : List Value} {ns : List Int}
    (KX : K.In s₁.heap) (hns : s₁.heap.Ns mainGlobals mg) (hb : s₁.heap.Ns builtinsNs mb) (hbb : ∀ x : Str, x ≠ "__name__" → mb x = bootBuiltins x) (hlim : s₁.heap.NoLimit) (hg : s₁.gens = #[])
    (ha : s₁.heap.get? a = some { cls := .type "list", data := .seq vs.toArray }) (hi : IntsAre vs ns) (hl : ns.length ≤ sizeLine) (hr : Room k callerA)
    (F : ∀ base : Heap, K.In base → base.Ns mainGlobals mg → FnOk P w K mg base CX k fa fd [x] sp) (hbind : ∀ (s : Shared) (u : Value), BindsTo s fd ⟨[u], []⟩ [(x, u)])
    (hsp : ∀ H : Hp, Only H → SqL K H a (ns.map V.int) → sp [.ref a] H (fun v _ => v = .bl true) fun _ _ _ => False)
    (hCX : ∀ H e s', CX [] H s₁ (fun _ _ _ => False) e s' → False) :
    codeAny (model P w) callerA (.call (.ref fa) ⟨[.ref a], []⟩) (fun r s' => r = .ok (.ret (.bool true)) ∧ OldK s₁.heap s'.heap ∧ s'.os = s₁.os ∧ AllBare s'.gens) s₁ := by
  have rv := vals_ints hi
  have lenV := hi.length
  have core : ∀ H : Hp, Only H → SqL K H a (ns.map V.int) → HOk P w H s₁.heap → (∀ b, H b ≠ none → b = a) → (H a ≠ none → K.lookup a = none) →
      codeAny (model P w) callerA (.call (.ref fa) ⟨[.ref a], []⟩) (fun r s' => r = .ok (.ret (.bool true)) ∧ OldK s₁.heap s'.heap ∧ s'.os = s₁.os ∧ AllBare s'.gens) s₁ := by
    intro H hO hS hok hA hK
    have base_of : ∀ {b : Addr} {o : Obj}, s₁.heap.get? b = some o → H b = none → (hidT s₁.heap H).get? b = some o := fun e n => hidT_get e n
    have noA : ∀ {b : Addr} {o : Obj} {es : Array DictEntry} {ep : Nat}, s₁.heap.get? b = some o → o.data = .dict es ep → H b = none := fun {b o es ep} e d => by
      cases q : H b with
      | none => rfl
      | some u =>
        have e' : b = a := hA b (by rw [q]; simp)
        subst e'
        rw [ha] at e; cases e
        have d' : Data.seq vs.toArray _ = Data.dict es ep := d
        cases d'
    have nsK : ∀ {b : Addr} {m : Str → Option Value}, s₁.heap.Ns b m → (hidT s₁.heap H).Ns b m := fun {b m} ⟨o, es, ep, e, d, r⟩ => ⟨o, es, ep, base_of e (noA e d), d, r⟩
    have hKb : K.In (hidT s₁.heap H) := fun b o e => base_of (KX b o e) (by
      cases q : H b with
      | none => rfl
      | some u =>
        have e' : b = a := hA b (by rw [q]; simp)
        subst e'
        rw [hK (by rw [q]; simp)] at e; cases e)
    have hM : Mod K mg (hidT s₁.heap H) := ⟨hKb, nsK hns, ⟨mb, nsK hb, hbb⟩, let ⟨mc, h1, h2⟩ := hlim; ⟨mc, nsK h1, h2⟩⟩
    have e0 : Env0 P w K mg (hidT s₁.heap H) callerA [] s₁ H := ⟨rfl, hM, fun b o e => of_hidT e, Nat.le_of_eq (hidT_size _ _), trivial, fun b hb => absurd (show b ∈ ([] : List Addr) from hb) (by simp), hok, .of_eq hg⟩
    refine codeAny_mono ((F _ hKb (nsK hns)).run callerA [] s₁ H ⟨[.ref a], []⟩ [.ref a] [.ref a] _ _ hr e0 (hbind s₁ (.ref a)) (.cons rfl .nil) (hsp H hO hS)) fun r s' h => ?_
    cases r with
    | error e => exact (hCX H e s' h).elim
    | ok fl =>
      cases fl with
      | next => exact False.elim h
      | brk => exact False.elim h
      | cont => exact False.elim h
      | ret u =>
        obtain ⟨v, H', os, bare, un, hok', r', q⟩ := h
        have q' : v = .bl true := q
        subst q'
        obtain rfl : u = Value.bool true := r'
        refine ⟨rfl, OldK.of_keep fun b o e => ?_, os, bare⟩
        cases q : H b with
        | none => exact un.keep b o e q (by intro z; exact absurd (show b ∈ ([] : List Addr) from z) (by simp)) (by simp)
        | some u =>
          rcases hO b with z | ⟨ob, xs, z⟩
          · rw [q] at z; cases z
          · have z2 := un.frzs b ob _ z
            obtain ⟨e1, _⟩ := hok b _ z
            obtain ⟨e2, _⟩ := hok' b _ z2
            rw [e] at e1; cases e1
            exact e2
  cases hk : K.lookup a with
  | some o =>
    have e := KX a o hk
    rw [ha] at e
    cases e
    refine core (fun _ => none) (fun _ => .inl rfl) (.inr ⟨_, vs.toArray, _, hk, rfl, rfl, rfl, by rw [List.size_toArray, lenV]; exact hl, by simpa using rv⟩) (fun b u z => by have z' : (none : Option HO) = some u := z; cases z') (fun b z => absurd rfl z) fun z => absurd rfl z
  | none =>
    refine core (fun b => if b = a then some (.frz { cls := .type "list", data := .seq vs.toArray } (.lst (ns.map V.int))) else none) (fun b => ?_) (.inl (.inr ⟨{ cls := .type "list", data := .seq vs.toArray }, if_pos rfl⟩)) (fun b u z => ?_) (fun b z => ?_) fun _ => hk
    · by_cases hb : b = a
      · exact .inr ⟨_, _, if_pos hb⟩
      · exact .inl (if_neg hb)
    · by_cases hb : b = a
      · have z' := (if_pos hb).symm.trans z
        cases z'
        subst hb
        exact ⟨ha, by rw [List.length_map]; exact hl, vs, _, rv, ha⟩
      · have z' := (if_neg hb).symm.trans z
        cases z'
    · by_cases hb : b = a
      · exact hb
      · exact absurd (if_neg hb) z
end L2
namespace L2
open PySem PySem.Spec PyProof.Rows
theorem walk_of {l : PySem.W.OpenLaw} {n k : Nat} {q : Program} {loose : List Str} {XP : (Str → Option Value) → Heap → Prop} {YP : World → Heap → Prop} {d : DefRec} {K : Params → PySem.W.Frag} {CX : World → CXT} {sp : World → Sp} {x : Str}
    (hn : l.most = some n) (hn2 : n ≤ sizeLine) (hdf : d.params.defaults = []) (hr : Room k callerA)
    (hY : ∀ (w : World) (h : Heap), YP w h → (K w.params).In h)
    (F : ∀ (w : World) (mg : Str → Option Value) (fa : Addr) (h : Heap), (K w.params).In h → h.Ns mainGlobals mg → mg d.name = some (.ref fa) →
      ∃ fd : FuncData, (∀ (s : Shared) (u : Value), BindsTo s fd ⟨[u], []⟩ [(x, u)]) ∧
        ∀ base : Heap, (K w.params).In base → base.Ns mainGlobals mg → FnOk l.prog w (K w.params) mg base (CX w) k fa fd [x] (sp w))
    (hsp : ∀ (w : World) (H : Hp) (a : Addr) (ns : List Int), ns.length ≤ n → Only H → SqL (K w.params) H a (ns.map V.int) → sp w [.ref a] H (fun v _ => v = .bl true) fun _ _ _ => False)
    (hCX : ∀ (w : World) (H : Hp) (s : Shared) (e : Value) (s' : Shared), CX w [] H s (fun _ _ _ => False) e s' → False) :
    PySem.W.WalkO q loose XP YP l.row.toRowW d [] (fun f vs => PySem.call f vs) := by
  refine Att.attach_call hn hdf fun w s₀ s₁ mg mb fa o pm cd doc a vs ns G Y ho hd hcd hmg hobj hints hlen hg => ?_
  have KX := hY w _ Y
  obtain ⟨fd, hb, hF⟩ := F w mg fa _ KX G.T.g hmg
  exact law_call KX G.T.g G.T.b G.T.builtins G.T.nolimit hg hobj hints (Nat.le_trans hlen hn2) hr hF hb (fun H hO hS => hsp w H a ns hlen hO hS) fun H e s' => hCX w H s₁ e s'
end L2
namespace L2
open PySem PySem.Spec PyProof.Rows
noncomputable def defArgs (s : Stmt) : Arguments := match s with
  | .FunctionDef _ a _ _ _ _ _ _ _ _ => a
  | _ => { posonlyargs := [], args := [], vararg := none, kwonlyargs := [], kw_defaults := [], kwarg := none, defaults := [] }
noncomputable def defBody (s : Stmt) : List Stmt := match s with
  | .FunctionDef _ _ b _ _ _ _ _ _ _ => b
  | _ => []
noncomputable def defScope (s : Stmt) : Scope := match s with
  | .FunctionDef _ _ _ _ _ _ sc _ _ _ => sc
  | _ => { kind := .function, names := [], isGenerator := false, isCoroutine := false }
noncomputable abbrev CX0 : CXT := fun _ _ _ _ _ _ => False
noncomputable abbrev E0 : XK := fun _ _ _ => False
theorem pass0 {X : Cx} : Passes CX0 X E0 := fun _ _ _ _ _ _ _ h => h.elim
structure Fun (K : PySem.W.Frag) (x qual : Str) (st : Stmt) (f : Addr) (fd : FuncData) : Prop where
  ex : ∃ (oc : Value) (od : Option Addr) (kV doc pm : Value) (an : Option Addr) (cdv ct : Value) (osl : Array (Option Value)),
    fd = PySem.W.fnOf x qual (defArgs st) (defBody st) (defScope st) .none kV doc pm an cdv ct ∧ K.lookup f = some ⟨oc, od, .func fd, osl⟩ ∧ PySem.W.codeIn K cdv qual = true
  kp : PySem.W.keepIn K (.ref f) = true
section
variable {P : Program} {w : World} {K : PySem.W.Frag} {mg : Str → Option Value} {base : Heap}
theorem Fun.binds {x qual : Str} {st : Stmt} {f : Addr} {fd : FuncData} {ps : List Str} (F : Fun K x qual st f fd)
    (h : ∀ (kV doc pm : Value) (an : Option Addr) (cdv ct : Value) (us : List Value), us.length = ps.length → bindArgs (PySem.W.fnOf x qual (defArgs st) (defBody st) (defScope st) .none kV doc pm an cdv ct) ⟨us, []⟩ = pure (ps.zip us)) : Binds K fd ps [] := by
  obtain ⟨oc, od, kV, doc, pm, an, cdv, ct, osl, rfl, lk, hcd⟩ := F.ex
  exact .all (h kV doc pm an cdv ct)
theorem fun_mk {x qual : Str} {st : Stmt} {f : Addr} {oc : Value} {od an : Option Addr} {osl : Array (Option Value)} {kV doc pm cdv ct : Value} (l : K.lookup f = some ⟨oc, od, .func (PySem.W.fnOf x qual (defArgs st) (defBody st) (defScope st) .none kV doc pm an cdv ct), osl⟩)
    (c : PySem.W.codeIn K cdv qual = true) (k : PySem.W.keepIn K (.ref f) = true) : Fun K x qual st f (PySem.W.fnOf x qual (defArgs st) (defBody st) (defScope st) .none kV doc pm an cdv ct) := ⟨⟨oc, od, kV, doc, pm, an, cdv, ct, osl, rfl, l, c⟩, k⟩
end
theorem hu_of {A : Around} {k : Nat} (hr : Room k A) : A.units + 1 < cLine := Nat.lt_of_le_of_lt (Nat.add_le_add_left (by decide : 1 ≤ 64) _) hr.units
section
variable {X : Cx}
theorem call_lenD : CallR X (.builtin "len") (fun xs H Q => ∃ a kvs ep, xs = [V.ref a] ∧ H a = some (.dK kvs ep) ∧ Q (.int kvs.length) H) := by
  intro pins s σ H xs us Q I r h
  obtain ⟨a, kvs, ep, rfl, ha, q⟩ := h
  obtain ⟨u, rfl, ru⟩ := vals1 r
  cases ru
  exact d_len I ⟨ep, .inl ha⟩ fun t s' I' => ⟨.int kvs.length, H, I', ⟨t, rfl⟩, q⟩
end
noncomputable def Same (H H' : Hp) : Prop := ∀ b o, H b = some o → H' b = some o
theorem Same.refl (H : Hp) : Same H H := fun _ _ h => h
theorem Same.trans {H H1 H2 : Hp} (a : Same H H1) (b : Same H1 H2) : Same H H2 := fun c o h => b c o (a c o h)
theorem Same.free {H H' : Hp} (e : Same H H') {l : Addr} (h : H' l = Option.none) : H l = Option.none := by
  cases q : H l with
  | none => rfl
  | some o =>
    rw [e l o q] at h
    cases h
theorem Same.seq {K : PySem.W.Frag} {H H' : Hp} {a : Addr} {xs : List V} (e : Same H H') (h : SqL K H a xs) : SqL K H' a xs := by
  rcases h with (h | ⟨o, h⟩) | h
  · exact .inl (.inl (e _ _ h))
  · exact .inl (.inr ⟨o, e _ _ h⟩)
  · exact .inr h
section
variable {κ : Type} [DecidableEq κ]
theorem dropK_pos {p : κ × V} {r : List (κ × V)} {k : κ} (e : p.1 = k) : dropK (p :: r) k = dropK r k := by
  unfold dropK
  rw [List.filter_cons, if_neg (by simp [e])]
theorem dropK_neg {p : κ × V} {r : List (κ × V)} {k : κ} (e : ¬ p.1 = k) : dropK (p :: r) k = p :: dropK r k := by
  unfold dropK
  rw [List.filter_cons, if_pos (by simp [e])]
end
end L2

namespace Z
inductive DK where
  | i (n : Int)
  | s (x : List Nat)
  deriving DecidableEq
inductive D where
  | non | bl (b : Bool) | int (i : Int) | str (s : List Nat)
  | tup (l : List D) | lst (l : List D) | dct (ks : List DK) (vs : List D) | obj (c : Nat) (ns : List (List Nat)) (vs : List D)
  | err (c : Nat)
inductive R (α : Type) where
  | ok (a : α)
  | exc (c : Nat)
  | stuck
theorem nope {α : Type} {t : α} {p : Prop} (h : (none : Option α) = some t) : p := nomatch h
theorem nopeR {α : Type} {t : α} {p : Prop} (h : (.stuck : R α) = .ok t) : p := nomatch h
namespace R
noncomputable def bind {α β : Type} (x : R α) (f : α → R β) : R β := match x with
  | .ok a => f a
  | .exc c => .exc c
  | .stuck => .stuck
noncomputable instance : Monad R where
  pure := .ok
  bind := R.bind
@[simp] theorem bind_ok {α β : Type} (a : α) (f : α → R β) : (R.ok a >>= f) = f a := rfl
@[simp] theorem bind_exc {α β : Type} (c : Nat) (f : α → R β) : ((R.exc c : R α) >>= f) = .exc c := rfl
@[simp] theorem bind_stuck {α β : Type} (f : α → R β) : ((R.stuck : R α) >>= f) = .stuck := rfl
@[simp] theorem pure_ok {α : Type} (a : α) : (pure a : R α) = .ok a := rfl
noncomputable def of {α : Type} : Option α → R α
  | some a => .ok a
  | none => .stuck
noncomputable def chk (b : Bool) {α : Type} (x : R α) : R α := if b then x else .stuck
end R
inductive Own where
  | sh | ow | me
  deriving DecidableEq
noncomputable abbrev Slot := Own × D
noncomputable abbrev Dst := List (Option Slot)
inductive O2 where
  | add | sub | mul | fdiv | mod | pow | eq | ne | lt | le | gt | ge | is | isnot | «in» | notin
  deriving DecidableEq
inductive Ty where
  | int | bool | str | tup | lst | dct | cls (c : Nat) | valueError
  deriving DecidableEq
inductive B1 where
  | len | abs | tuple | list | dict | sorted | sortedSet | lenSet | all | any | str | max | min | sum | int
  deriving DecidableEq
inductive B2 where
  | max | min | divmod | maxd | mind
  deriving DecidableEq
inductive M1 where
  | get | join | startswith | endswith | zfill | lstrip | rstrip | strip | isdigit | isalpha | index | count | find
  deriving DecidableEq
mutual
inductive T where
  | var (i : Nat)
  | cst (d : D)
  | op2 (p : O2) (a b : T)
  | neg (a : T)
  | not (a : T)
  | and (a b : T)
  | or (a b : T)
  | ite (c a b : T)
  | tup (l : TL)
  | lst (l : TL)
  | dnew (ks : List DK) (vs : TL)
  | idx (a i : T)
  | kidx (ks : List DK) (vs : List D) (i : T)
  | kin (ks : List DK) (neg : Bool) (i : T)
  | slc (a : T) (lo hi : T)
  | call (f : Nat) (l : TL)
  | mk (c : Nat) (l : TL)
  | meth (m : List Nat) (o : T) (l : TL)
  | fld (o : T) (f : List Nat)
  | b1 (b : B1) (a : T)
  | b2 (b : B2) (a c : T)
  | m0 (m : M1) (o : T)
  | m1 (m : M1) (o a : T)
  | get2 (o a c : T)
  | isin (a : T) (ty : Ty)
  | fstr (l : TL)
  | comp (caps : List Nat) (m : Nat) (tg : Bool) (it : TI) (cond : T) (elt : T)
inductive TL where
  | nil
  | cons (t : T) (l : TL)
inductive TI where
  | val (t : T)
  | rng1 (t : T)
  | rng2 (a b : T)
  | rng3 (a b c : T)
  | zip (a b : T)
  | enum (a : T)
end
mutual
inductive S where
  | set (i : Nat) (e : T)
  | sett (is : List Nat) (e : T)
  | seti (i : Nat) (k e : T)
  | setf (i : Nat) (f : List Nat) (e : T)
  | setx (i f : Nat) (l : TL)
  | append (i : Nat) (e : T)
  | clear (i : Nat)
  | extend (i : Nat) (e : T)
  | update (i : Nat) (e : T)
  | pop1 (j : Option Nat) (i : Nat) (k : T)
  | pop2 (i : Nat) (k e : T)
  | ini (f : Nat) (l : TL)
  | ifs (c : T) (a b : SL)
  | ifq (c : T) (a b : SL)
  | for_ (tg : List Nat) (tup : Bool) (it : TI) (b : SL)
  | while_ (c : T) (b : SL)
  | ret (e : T)
  | retn
  | expr (e : T)
  | raise (c : Nat) (e : T)
  | try_ (b : SL) (c : Nat) (nm : Option Nat) (h : SL)
  | brk | cont | pass
inductive SL where
  | nil
  | cons (s : S) (l : SL)
end
mutual
noncomputable def D.imm : D → Bool
  | .non => true
  | .bl _ => true
  | .int _ => true
  | .str _ => true
  | .tup l => immL l
  | .lst _ => false
  | .dct _ _ => false
  | .obj _ _ _ => false
  | .err _ => false
noncomputable def immL : List D → Bool
  | [] => true
  | d :: l => d.imm && immL l
end
noncomputable def look : List DK → List D → DK → Option D
  | k :: ks, v :: vs, x => if k = x then some v else look ks vs x
  | _, _, _ => none
noncomputable def eqS : D → D → Option Bool
  | .non, .non => some true
  | .non, .int _ => some false
  | .non, .bl _ => some false
  | .non, .str _ => some false
  | .int _, .non => some false
  | .bl _, .non => some false
  | .str _, .non => some false
  | .int i, .int j => some (decide (i = j))
  | .bl i, .bl j => some (decide (i = j))
  | .str i, .str j => some (decide (i = j))
  | .int _, .str _ => some false
  | .str _, .int _ => some false
  | .bl _, .str _ => some false
  | .str _, .bl _ => some false
  | _, _ => none
noncomputable def size (n : Nat) : Bool := decide (n ≤ 16777216)
noncomputable def place (n : Nat) (i : Int) : Option Nat := if 0 ≤ i then (if i < n then some i.toNat else none) else (if 0 ≤ i + n then some (i + n).toNat else none)
noncomputable def clip (n : Nat) (i : Int) : Nat := if 0 ≤ i then min i.toNat n else (i + n).toNat
noncomputable def lowOf (n : Nat) : Option Int → Nat
  | none => 0
  | some i => clip n i
noncomputable def highOf (n : Nat) : Option Int → Nat
  | none => n
  | some i => clip n i
noncomputable def cut {α : Type} (l : List α) (lo hi : Nat) : List α := (l.take hi).drop lo
noncomputable def keyOf : D → Option DK
  | .int i => some (.i i)
  | .str x => some (.s x)
  | _ => none
noncomputable def keyD : DK → D
  | .i n => .int n
  | .s x => .str x
noncomputable def putV : List DK → List D → DK → D → List D
  | k :: ks, v :: vs, x, y => if k = x then y :: vs else v :: putV ks vs x y
  | _, _, _, y => [y]
noncomputable def putKs : List DK → DK → List DK
  | k :: ks, x => if k = x then k :: ks else k :: putKs ks x
  | [], x => [x]
noncomputable def dropV : List DK → List D → DK → List D
  | k :: ks, v :: vs, x => if k = x then vs else v :: dropV ks vs x
  | _, vs, _ => vs
noncomputable def dropKs : List DK → DK → List DK
  | k :: ks, x => if k = x then ks else k :: dropKs ks x
  | [], _ => []
noncomputable def ltS : List Nat → List Nat → Bool
  | [], [] => false
  | [], _ :: _ => true
  | _ :: _, [] => false
  | a :: x, b :: y => if a < b then true else if b < a then false else ltS x y
noncomputable def insS (x : List Nat) : List (List Nat) → List (List Nat)
  | [] => [x]
  | y :: l => if ltS x y then x :: y :: l else y :: insS x l
noncomputable def sortS : List (List Nat) → List (List Nat)
  | [] => []
  | x :: l => insS x (sortS l)
noncomputable def strsOf : List D → Option (List (List Nat))
  | [] => some []
  | .str x :: l => (strsOf l).map (x :: ·)
  | _ :: _ => none
noncomputable def intsOf : List D → Option (List Int)
  | [] => some []
  | .int x :: l => (intsOf l).map (x :: ·)
  | _ :: _ => none
noncomputable def dedup : List (List Nat) → List (List Nat)
  | [] => []
  | x :: l => if x ∈ l then dedup l else x :: dedup l
noncomputable def truth : D → Option Bool
  | .non => some false
  | .bl b => some b
  | .int i => some (decide (i ≠ 0))
  | .str x => some (!x.isEmpty)
  | .tup l => some (!l.isEmpty)
  | .lst l => some (!l.isEmpty)
  | .dct ks _ => some (!ks.isEmpty)
  | _ => none
noncomputable def bits (i : Int) : Nat := if i = 0 then 0 else i.natAbs.log2 + 1
noncomputable def mulOk (a b : Int) : Bool := decide (bits a ≤ 64) || decide (bits b ≤ 64) || decide (bits a + bits b ≤ 134217728)
noncomputable def arith (p : O2) (a b : Int) : R (Bool × D) := match p with
  | .add => .ok (false, .int (a + b))
  | .sub => .ok (false, .int (a - b))
  | .mul => .chk (mulOk a b) (.ok (false, .int (a * b)))
  | .fdiv => .chk (decide (b ≠ 0) && decide (b.natAbs.log2 < 9000)) (.ok (false, .int (a.fdiv b)))
  | .mod => .chk (decide (b ≠ 0)) (.ok (false, .int (a.fmod b)))
  | .pow => .chk (decide (0 ≤ b) && decide (b ≤ 64) && decide (a.natAbs < 18446744073709551616)) (.ok (false, .int (a ^ b.toNat)))
  | .lt => .ok (false, .bl (decide (a < b)))
  | .le => .ok (false, .bl (decide (a ≤ b)))
  | .gt => .ok (false, .bl (decide (b < a)))
  | .ge => .ok (false, .bl (decide (b ≤ a)))
  | _ => .stuck
noncomputable def flatD : D → Bool
  | .non => true
  | .bl _ => true
  | .int _ => true
  | .str _ => true
  | _ => false
noncomputable def inS (x : D) : List D → Option Bool
  | [] => some false
  | y :: l => match eqS y x, inS x l with
    | some s, some t => some (s || t)
    | _, _ => none
noncomputable def isIn (a b : D) : Option Bool := match b with
  | .lst l => if flatD a then inS a l else none
  | .tup l => if flatD a then inS a l else none
  | .dct ks _ => (keyOf a).map fun k => decide (k ∈ ks)
  | .str y => match a with
    | .str [c] => some (decide (c ∈ y))
    | _ => none
  | _ => none
noncomputable def okD : Nat → D → Bool
  | _, .non => true
  | _, .bl _ => true
  | _, .int _ => true
  | _, .str x => x.all fun c => decide (c < 1114112)
  | 0, _ => false
  | n + 1, .tup l => l.all (okD n)
  | n + 1, .lst l => l.all (okD n)
  | _, _ => false
mutual
noncomputable def eqB : D → D → Bool
  | .non, .non => true
  | .bl a, .bl b => a == b
  | .bl a, .int j => (if a then 1 else 0) == j
  | .int i, .bl b => i == (if b then 1 else 0)
  | .int i, .int j => i == j
  | .str x, .str y => x == y
  | .lst x, .lst y => eqBs x y
  | .tup x, .tup y => eqBs x y
  | _, _ => false
noncomputable def eqBs : List D → List D → Bool
  | [], [] => true
  | x :: a, y :: b => eqB x y && eqBs a b
  | _, _ => false
end
noncomputable def isI : D → Bool
  | .int _ => true
  | _ => false
noncomputable def hitsD (ks' : List DK) (vs' : List D) : List DK → List D → Bool
  | k :: ks, .int i :: vs => (match look ks' vs' k with
    | some (.int j) => i == j
    | _ => false) && hitsD ks' vs' ks vs
  | _, _ => true
noncomputable def eqDct (ks : List DK) (vs : List D) (ks' : List DK) (vs' : List D) : Bool := ks.length == ks'.length && hitsD ks' vs' ks vs
noncomputable def eqA (a b : D) : Option Bool := match eqS a b with
  | some t => some t
  | none => match a, b with
    | .lst _, .lst _ => if okD 60 a && okD 60 b then some (eqB a b) else none
    | .tup _, .tup _ => if okD 60 a && okD 60 b then some (eqB a b) else none
    | .dct ks vs, .dct ks' vs' => if vs.all isI && vs'.all isI then some (eqDct ks vs ks' vs') else none
    | _, _ => none
noncomputable def o2 (p : O2) (a b : D) : R (Bool × D) := match p with
  | .eq => .of ((eqA a b).map fun t => (false, .bl t))
  | .ne => .of ((eqA a b).map fun t => (false, .bl !t))
  | .is => match b with
    | .non => match a with
      | .non => .ok (false, .bl true)
      | _ => .ok (false, .bl false)
    | .bl y => match a with
      | .bl x => .ok (false, .bl (x == y))
      | _ => .stuck
    | _ => .stuck
  | .isnot => match b with
    | .non => match a with
      | .non => .ok (false, .bl false)
      | _ => .ok (false, .bl true)
    | .bl y => match a with
      | .bl x => .ok (false, .bl (x != y))
      | _ => .stuck
    | _ => .stuck
  | .in => .of ((isIn a b).map fun t => (false, .bl t))
  | .notin => .of ((isIn a b).map fun t => (false, .bl !t))
  | p => match a, b with
    | .int i, .int j => arith p i j
    | .str x, .str y => match p with
      | .add => .chk (size (x.length + y.length)) (.ok (false, .str (x ++ y)))
      | .lt => .ok (false, .bl (ltS x y))
      | .le => .ok (false, .bl (!ltS y x))
      | _ => .stuck
    | .lst x, .lst y => match p with
      | .add => .chk (size (x.length + y.length)) (.ok (true, .lst (x ++ y)))
      | _ => .stuck
    | .tup x, .tup y => match p with
      | .add => .chk (size (x.length + y.length)) (.ok (false, .tup (x ++ y)))
      | _ => .stuck
    | _, _ => .stuck
noncomputable def idxD (a i : D) : R (Bool × D) := match a, i with
  | .lst l, .int j => .of ((place l.length j).bind fun n => l[n]?.map fun d => (false, d))
  | .tup l, .int j => .of ((place l.length j).bind fun n => l[n]?.map fun d => (false, d))
  | .str x, .int j => .of ((place x.length j).bind fun n => x[n]?.map fun c => (false, .str [c]))
  | .dct ks vs, k => .of ((keyOf k).bind fun x => (look ks vs x).map fun d => (false, d))
  | _, _ => .stuck
noncomputable def slcD (a : D) (lo hi : Option Int) : Option (Bool × D) := match a with
  | .lst l => some (true, .lst (cut l (lowOf l.length lo) (highOf l.length hi)))
  | .str x => some (false, .str (cut x (lowOf x.length lo) (highOf x.length hi)))
  | .tup l => if lowOf l.length lo = 0 ∧ highOf l.length hi = l.length then none else some (false, .tup (cut l (lowOf l.length lo) (highOf l.length hi)))
  | _ => none
noncomputable def bnd (t : T) (d : D) : Option (Option Int) := match t with
  | .cst .non => some none
  | _ => match d with
    | .int i => some (some i)
    | _ => none
noncomputable def fldD (o : D) (f : List Nat) : R (Bool × D) := match o with
  | .obj _ ns vs => .of ((look (ns.map .s) vs (.s f)).map fun d => (false, d))
  | _ => .stuck
noncomputable def itemsK : D → Option (List D)
  | .lst l => some l
  | .tup l => some l
  | .dct ks _ => some (ks.map keyD)
  | .str x => some (x.map fun c => .str [c])
  | _ => none
noncomputable def itemsS : D → Option (List D)
  | .lst l => some l
  | .dct ks _ => some (ks.map keyD)
  | _ => none
noncomputable def boolsOf : List D → Option (List Bool)
  | [] => some []
  | .bl b :: l => (boolsOf l).map (b :: ·)
  | _ :: _ => none
noncomputable def figs (n : Nat) : List Nat := (Nat.toDigits 10 n).map Char.toNat
noncomputable def numText (i : Int) : List Nat := if i < 0 then 45 :: figs i.natAbs else figs i.natAbs
noncomputable def b1D (b : B1) (a : D) : R (Bool × D) := match b with
  | .len => match a with
    | .lst l => .ok (false, .int l.length)
    | .tup l => .ok (false, .int l.length)
    | .dct ks _ => .ok (false, .int ks.length)
    | .str x => .ok (false, .int x.length)
    | _ => .stuck
  | .abs => match a with
    | .int i => .ok (false, .int (if i < 0 then -i else i))
    | _ => .stuck
  | .tuple => match a with
    | .lst l => .ok (false, .tup l)
    | .tup l => .ok (false, .tup l)
    | _ => .stuck
  | .list => match a with
    | .lst l => .ok (true, .lst l)
    | .tup l => .ok (true, .lst l)
    | _ => .stuck
  | .dict => match a with
    | .dct ks vs => .ok (true, .dct ks vs)
    | _ => .stuck
  | .sorted => .of ((itemsS a).bind fun l => (strsOf l).bind fun x => if x.length < 64 then some (true, .lst ((sortS x).map .str)) else none)
  | .sortedSet => .of ((itemsK a).bind fun l => (strsOf l).bind fun x => if (dedup x).length < 64 then some (true, .lst ((sortS (dedup x)).map .str)) else none)
  | .lenSet => .of ((itemsK a).bind fun l => (strsOf l).map fun x => (false, .int (dedup x).length))
  | .all => match a with
    | .lst l => .of ((boolsOf l).map fun t => (false, .bl (t.all id)))
    | _ => .stuck
  | .any => match a with
    | .lst l => .of ((boolsOf l).map fun t => (false, .bl (t.any id)))
    | _ => .stuck
  | .str => match a with
    | .int i => .chk (decide (i.natAbs.log2 < 1920) && size (numText i).length) (.ok (false, .str (numText i)))
    | _ => .stuck
  | .max => match a with
    | .lst l => .of ((intsOf l).bind fun x => match x with
      | [] => none
      | y :: r => some (false, .int (r.foldl (fun m z => if z > m then z else m) y)))
    | _ => .stuck
  | .min => match a with
    | .lst l => .of ((intsOf l).bind fun x => match x with
      | [] => none
      | y :: r => some (false, .int (r.foldl (fun m z => if z < m then z else m) y)))
    | _ => .stuck
  | .sum => match a with
    | .lst l => .of ((intsOf l).map fun x => (false, .int x.sum))
    | _ => .stuck
  | .int => match a with
    | .int i => .ok (false, .int i)
    | .bl b => .ok (false, .int (if b then 1 else 0))
    | _ => .stuck
noncomputable def leastD : List Int → D
  | [] => .non
  | y :: r => .int (r.foldl (fun m z => if z < m then z else m) y)
noncomputable def b2D (b : B2) (x y : D) : R (Bool × D) := match x, y with
  | .int i, .int j => match b with
    | .max => .ok (false, .int (if j > i then j else i))
    | .min => .ok (false, .int (if j < i then j else i))
    | .divmod => .chk (decide (0 < j) && decide (j.natAbs.log2 < 9000)) (.ok (false, .tup [.int (i / j), .int (i % j)]))
    | .maxd => .stuck
    | .mind => .stuck
  | .lst l, .int j => match b with
    | .maxd => .of ((intsOf l).map fun r => (false, .int (match r with
      | [] => j
      | y :: r => r.foldl (fun m z => if z > m then z else m) y)))
    | _ => .stuck
  | .lst l, .non => match b with
    | .mind => .of ((intsOf l).map fun r => (false, leastD r))
    | _ => .stuck
  | _, _ => .stuck
noncomputable def joinS (sep : List Nat) : List (List Nat) → List Nat
  | [] => []
  | [x] => x
  | x :: y :: l => x ++ sep ++ joinS sep (y :: l)
noncomputable def m1D (m : M1) (o a : D) : R (Bool × D) := match m with
  | .get => match o with
    | .dct ks vs => .of ((keyOf a).map fun k => (false, (look ks vs k).getD .non))
    | _ => .stuck
  | .join => match o, a with
    | .str sep, .lst l => .of ((strsOf l).bind fun x => if size ((x.map List.length).sum + x.length * sep.length) then some (false, .str (joinS sep x)) else none)
    | _, _ => .stuck
  | .startswith => match o, a with
    | .str x, .str y => .ok (false, .bl (y.isPrefixOf x))
    | _, _ => .stuck
  | .zfill => match o, a with
    | .str x, .int n => .chk (decide (0 ≤ n) && decide (n ≤ 1000) && !(x.head? == some 43) && !(x.head? == some 45)) (.ok (false, .str (List.replicate (n.toNat - x.length) 48 ++ x)))
    | _, _ => .stuck
  | .lstrip => match o, a with
    | .str x, .str [c] => .ok (false, .str (x.dropWhile (· == c)))
    | _, _ => .stuck
  | _ => .stuck
noncomputable def fstrD : List D → Option (List Nat)
  | [] => some []
  | [.str x, .int i] => if i.natAbs.log2 < 1920 then some (x ++ numText i) else none
  | .str x :: l => (fstrD l).map (x ++ ·)
  | _ :: _ => none
noncomputable def get2D (o a c : D) : R (Bool × D) := match o with
  | .dct ks vs => .of ((keyOf a).map fun k => (false, (look ks vs k).getD c))
  | _ => .stuck
structure Orc where
  fn : Nat → List D → R (Bool × D)
  ini : Nat → D → List D → R D
  meth : Nat → List Nat → Option Nat
  init : Nat → Option Nat
  sub : Nat → Nat → Bool
  w : Nat
noncomputable def isD (o : Orc) (ty : Ty) (d : D) : Option Bool := match ty with
  | .cls c' => match d with
    | .err c => if o.sub c c then some (o.sub c c') else none
    | _ => none
  | .valueError => match d with
    | .err c => if o.sub c c then some true else none
    | _ => none
  | ty => match d with
    | .non => some false
    | .bl _ => some (match ty with | .bool => true | .int => true | _ => false)
    | .int _ => some (match ty with | .int => true | _ => false)
    | .str _ => some (match ty with | .str => true | _ => false)
    | .tup _ => some (match ty with | .tup => true | _ => false)
    | .lst _ => some (match ty with | .lst => true | _ => false)
    | .dct _ _ => some (match ty with | .dct => true | _ => false)
    | _ => none
noncomputable def slotD (δ : Dst) (i : Nat) : Option D := match δ[i]? with
  | some (some (_, d)) => some d
  | _ => none
noncomputable def slotsD (δ : Dst) : List Nat → Option (List D)
  | [] => some []
  | i :: l => (slotD δ i).bind fun d => (slotsD δ l).map (d :: ·)
noncomputable def isOwn (δ : Dst) (i : Nat) : Bool := match δ[i]? with
  | some (some (.ow, _)) => true
  | some (some (.me, _)) => true
  | _ => false
noncomputable def lent (br : Bool) (r : Bool × D) : R (Bool × D) := if br then (if r.2.imm then .ok r else .stuck) else .ok r
noncomputable def rngD (a b : Int) : List D := (List.range (b - a).toNat).map fun (k : Nat) => D.int (a + (k : Int))
noncomputable def rng3D (a b c : Int) : List D := (List.range (if a < b then (b - a - 1) / c + 1 else 0).toNat).map fun (k : Nat) => D.int (a + (k : Int) * c)
noncomputable def zipD : List D → List D → List D
  | x :: l, y :: r => .tup [x, y] :: zipD l r
  | _, _ => []
noncomputable def enumD (i : Nat) : List D → List D
  | [] => []
  | x :: l => .tup [.int (i : Int), x] :: enumD (i + 1) l
noncomputable def inR (i : Int) : Bool := decide (-1000000 ≤ i) && decide (i ≤ 1000000)
noncomputable def rng3R : D → D → D → R (List D)
  | .int i, .int j, .int k => .chk (inR i && inR j && inR k && decide (0 < k)) (.ok (rng3D i j k))
  | _, _, _ => .stuck
noncomputable def zipR : D → D → R (List D)
  | .tup l, .tup r => .ok (zipD l r)
  | _, _ => .stuck
noncomputable def takes (m : Nat) (tg : Bool) (d : D) : Option (List D) := if tg then (match d with
  | .tup l => if l.length = m then some l else none
  | _ => none) else some [d]
noncomputable def compGo (f : List D → R (Bool × D)) (c : List D → R (Bool × D)) (m : Nat) (tg : Bool) : List D → R (List D)
  | [] => .ok []
  | d :: l => (R.of (takes m tg d)).bind fun x => (c x).bind fun t => (R.of (truth t.2)).bind fun b =>
    if b then (f x).bind fun y => (compGo f c m tg l).bind fun r => .ok (y.2 :: r) else compGo f c m tg l
noncomputable def boolD : D → R (Bool × D)
  | .bl b => .ok (false, .bl b)
  | _ => .stuck
noncomputable def lkOwn (δ : Dst) : T → Bool
  | .var i => isOwn δ i
  | _ => false
mutual
noncomputable def ev (o : Orc) (δ : Dst) (lk : Bool) : T → R (Bool × D)
  | .var i => match δ[i]? with
    | some (some (.sh, d)) => .ok (false, d)
    | some (some (_, d)) => if lk then .ok (false, d) else .stuck
    | _ => .stuck
  | .cst d => .ok (false, d)
  | .op2 p a b => (ev o δ true a).bind fun x => (ev o δ true b).bind fun y => o2 p x.2 y.2
  | .neg a => (ev o δ true a).bind fun x => match x.2 with
    | .int i => .ok (false, .int (-i))
    | _ => .stuck
  | .not a => (ev o δ true a).bind fun x => (R.of (truth x.2)).bind fun b => .ok (false, .bl !b)
  | .and a b => (ev o δ true a).bind fun x => match x.2 with
    | .bl true => (ev o δ true b).bind fun y => boolD y.2
    | .bl false => .ok (false, .bl false)
    | _ => .stuck
  | .or a b => (ev o δ true a).bind fun x => match x.2 with
    | .bl true => .ok (false, .bl true)
    | .bl false => (ev o δ true b).bind fun y => boolD y.2
    | _ => .stuck
  | .ite c a b => (ev o δ true c).bind fun x => (R.of (truth x.2)).bind fun t => if t then ev o δ lk a else ev o δ lk b
  | .tup l => (evL o δ l).bind fun x => .chk (!x.1 && size x.2.length) (.ok (false, .tup x.2))
  | .lst l => (evL o δ l).bind fun x => .chk (!x.1 && size x.2.length) (.ok (true, .lst x.2))
  | .dnew ks l => (evL o δ l).bind fun x => .chk (!x.1 && decide (ks.length = x.2.length) && decide (ks.length ≤ 1000) && decide ks.Nodup) (.ok (true, .dct ks x.2))
  | .idx a i => (ev o δ true a).bind fun x => (ev o δ true i).bind fun y => idxD x.2 y.2
  | .kidx ks vs i => (ev o δ true i).bind fun y => .of ((keyOf y.2).bind fun x => (look ks vs x).map fun d => (false, d))
  | .kin ks neg i => (ev o δ true i).bind fun y => .of ((keyOf y.2).map fun x => (false, .bl (neg ^^ decide (x ∈ ks))))
  | .slc a lo hi => (ev o δ true a).bind fun x => (ev o δ true lo).bind fun y => (ev o δ true hi).bind fun z => .of ((bnd lo y.2).bind fun l => (bnd hi z.2).bind fun h => slcD x.2 l h)
  | .call f l => (evL o δ l).bind fun x => (o.fn f x.2).bind (lent x.1)
  | .mk c l => (evL o δ l).bind fun x => (R.of (o.init c)).bind fun f => R.chk (!x.1) ((o.ini f (.obj c [] []) x.2).bind fun d => .ok (true, d))
  | .meth m a l => (ev o δ (lkOwn δ a) a).bind fun x => (evL o δ l).bind fun y => match x.2 with
    | .obj c ns _ => R.chk (!ns.contains m) ((R.of (o.meth c m)).bind fun f => (o.fn f (x.2 :: y.2)).bind (lent (lkOwn δ a || y.1)))
    | _ => .stuck
  | .fld a f => (ev o δ true a).bind fun x => fldD x.2 f
  | .b1 b a => (ev o δ true a).bind fun x => b1D b x.2
  | .b2 b a c => (ev o δ true a).bind fun x => (ev o δ true c).bind fun y => b2D b x.2 y.2
  | .m0 _ _ => .stuck
  | .m1 m a b => (ev o δ true a).bind fun x => (ev o δ true b).bind fun y => m1D m x.2 y.2
  | .get2 a b c => (ev o δ true a).bind fun x => (ev o δ true b).bind fun y => (ev o δ false c).bind fun z => get2D x.2 y.2 z.2
  | .isin a ty => (ev o δ true a).bind fun x => .of ((isD o ty x.2).map fun t => (false, .bl t))
  | .fstr l => (evL o δ l).bind fun x => .of ((fstrD x.2).bind fun t => if size t.length then some (false, .str t) else none)
  | .comp caps m tg it c e => (evI o δ true it).bind fun l => (R.of (slotsD δ caps)).bind fun cs =>
    (compGo (fun x => ev o ((x ++ cs).map fun d => some (.sh, d)) false e) (fun x => ev o ((x ++ cs).map fun d => some (.sh, d)) true c) m tg l).bind fun r =>
      R.chk (size r.length && (immL r || caps.all fun i => !isOwn δ i)) (.ok (true, .lst r))
noncomputable def evL (o : Orc) (δ : Dst) : TL → R (Bool × List D)
  | .nil => .ok (false, [])
  | .cons t l => (ev o δ (lkOwn δ t) t).bind fun x => (evL o δ l).bind fun y => .ok (lkOwn δ t || y.1, x.2 :: y.2)
noncomputable def evI (o : Orc) (δ : Dst) (lk : Bool) : TI → R (List D)
  | .val t => (ev o δ lk t).bind fun x => .of (itemsK x.2)
  | .rng1 t => (ev o δ true t).bind fun x => match x.2 with
    | .int n => .chk (inR n) (.ok (rngD 0 n))
    | _ => .stuck
  | .rng2 a b => (ev o δ true a).bind fun x => (ev o δ true b).bind fun y => match x.2, y.2 with
    | .int i, .int j => .chk (inR i && inR j) (.ok (rngD i j))
    | _, _ => .stuck
  | .rng3 a b c => (ev o δ true a).bind fun x => (ev o δ true b).bind fun y => (ev o δ true c).bind fun z => rng3R x.2 y.2 z.2
  | .zip a b => (ev o δ true a).bind fun x => (ev o δ true b).bind fun y => zipR x.2 y.2
  | .enum a => (ev o δ lk a).bind fun x => match x.2 with
    | .lst l => .ok (enumD 0 l)
    | .dct ks _ => .ok (enumD 0 (ks.map keyD))
    | _ => .stuck
end
mutual
noncomputable def tvars : T → List Nat
  | .var i => [i]
  | .cst _ => []
  | .op2 _ a b => tvars a ++ tvars b
  | .neg a => tvars a
  | .not a => tvars a
  | .and a b => tvars a ++ tvars b
  | .or a b => tvars a ++ tvars b
  | .ite c a b => tvars c ++ (tvars a ++ tvars b)
  | .tup l => tvarsL l
  | .lst l => tvarsL l
  | .dnew _ l => tvarsL l
  | .idx a i => tvars a ++ tvars i
  | .kidx _ _ i => tvars i
  | .kin _ _ i => tvars i
  | .slc a lo hi => tvars a ++ (tvars lo ++ tvars hi)
  | .call _ l => tvarsL l
  | .mk _ l => tvarsL l
  | .meth _ a l => tvars a ++ tvarsL l
  | .fld a _ => tvars a
  | .b1 _ a => tvars a
  | .b2 _ a b => tvars a ++ tvars b
  | .m0 _ a => tvars a
  | .m1 _ a b => tvars a ++ tvars b
  | .get2 a b c => tvars a ++ (tvars b ++ tvars c)
  | .isin a _ => tvars a
  | .fstr l => tvarsL l
  | .comp caps _ _ it _ _ => caps ++ tvarsI it
noncomputable def tvarsL : TL → List Nat
  | .nil => []
  | .cons t l => tvars t ++ tvarsL l
noncomputable def tvarsI : TI → List Nat
  | .val t => tvars t
  | .rng1 t => tvars t
  | .rng2 a b => tvars a ++ tvars b
  | .rng3 a b c => tvars a ++ (tvars b ++ tvars c)
  | .zip a b => tvars a ++ tvars b
  | .enum a => tvars a
end
noncomputable def share1 (δ : Dst) (i : Nat) : Dst := match δ[i]? with
  | some (some (.ow, d)) => δ.set i (some (.sh, d))
  | _ => δ
noncomputable def shareIt (δ : Dst) : TI → Dst
  | .val (.var i) => share1 δ i
  | .enum (.var i) => share1 δ i
  | _ => δ
noncomputable def share (δ : Dst) (is : List Nat) : Dst := is.foldl share1 δ
noncomputable def evF (o : Orc) (δ : Dst) (e : T) : Dst × R (Bool × D) := match ev o δ false e with
  | .stuck => (share δ (tvars e), ev o (share δ (tvars e)) false e)
  | r => (δ, r)
inductive SO where
  | nx (δ : Dst)
  | rt (w : Bool) (d : D) (δ : Dst)
  | bk (δ : Dst)
  | ct (δ : Dst)
  | ex (c : Nat) (δ : Dst)
  | stuck
noncomputable def SO.of (δ : Dst) {α : Type} (r : R α) (k : α → SO) : SO := match r with
  | .ok a => k a
  | .exc _ => .stuck
  | .stuck => .stuck
noncomputable def SO.ofX (δ : Dst) {α : Type} (r : R α) (k : α → SO) : SO := match r with
  | .ok a => k a
  | .exc c => .ex c δ
  | .stuck => .stuck
noncomputable def setSlot (δ : Dst) (i : Nat) (w : Bool) (d : D) : Option Dst := if i < δ.length then some (δ.set i (some (if w then .ow else .sh, d))) else none
noncomputable def setSlots (δ : Dst) : List Nat → List D → Option Dst
  | [], [] => some δ
  | i :: is, d :: ds => (setSlot δ i false d).bind fun δ' => setSlots δ' is ds
  | _, _ => none
noncomputable def ownD (δ : Dst) (i : Nat) : Option (Own × D) := match δ[i]? with
  | some (some (.ow, d)) => some (.ow, d)
  | some (some (.me, d)) => some (.me, d)
  | _ => none
noncomputable def orStuck (x : Option SO) : SO := match x with
  | some r => r
  | none => .stuck
noncomputable def putItem (c k v : D) : Option D := match c, k with
  | .lst l, .int j => (place l.length j).map fun n => .lst (l.set n v)
  | .dct ks vs, k => (keyOf k).bind fun x => if ks.length ≤ 100000 then some (.dct (putKs ks x) (putV ks vs x v)) else none
  | _, _ => none
noncomputable def putFld (c : D) (f : List Nat) (v : D) : Option D := match c with
  | .obj c ns vs => if ns.length < 900 then some (.obj c (putKs (ns.map .s) (.s f) |>.map fun | .s x => x | .i _ => []) (putV (ns.map .s) vs (.s f) v)) else none
  | _ => none
noncomputable def mergeD : List DK → List D → List DK → List D → List DK × List D
  | ks, vs, k :: ks', v :: vs' => mergeD (putKs ks k) (putV ks vs k v) ks' vs'
  | ks, vs, _, _ => (ks, vs)
noncomputable def forGo (body : Dst → SO) (tg : List Nat) (tup : Bool) : List D → Dst → SO
  | [], δ => .nx δ
  | d :: l, δ => match takes tg.length tup d with
    | none => .stuck
    | some ds => match setSlots δ tg ds with
      | none => .stuck
      | some δ1 => match body δ1 with
        | .nx δ2 => forGo body tg tup l δ2
        | .ct δ2 => forGo body tg tup l δ2
        | .bk δ2 => .nx δ2
        | r => r
noncomputable def whileGo (c : Dst → R (Bool × D)) (body : Dst → SO) : Nat → Dst → SO
  | 0, _ => .stuck
  | n + 1, δ => SO.of δ ((c δ).bind fun x => R.of (truth x.2)) fun b => if b then (match body δ with
      | .nx δ2 => whileGo c body n δ2
      | .ct δ2 => whileGo c body n δ2
      | .bk δ2 => .nx δ2
      | r => r) else .nx δ
mutual
noncomputable def evS (o : Orc) : S → Dst → SO
  | .set i e, δ => SO.of (evF o δ e).1 (evF o δ e).2 fun r => orStuck ((setSlot (evF o δ e).1 i r.1 r.2).map .nx)
  | .sett is e, δ => SO.of (evF o δ e).1 (evF o δ e).2 fun r => orStuck ((takes is.length true r.2).bind fun ds => (setSlots (evF o δ e).1 is ds).map .nx)
  | .seti i k e, δ => SO.of (evF o δ e).1 (evF o δ e).2 fun r => SO.of (evF o δ e).1 (ev o (evF o δ e).1 true k) fun y =>
      orStuck ((ownD (evF o δ e).1 i).bind fun c => (putItem c.2 y.2 r.2).map fun c' => .nx ((evF o δ e).1.set i (some (c.1, c'))))
  | .setf i f e, δ => SO.of (evF o δ e).1 (evF o δ e).2 fun r => orStuck ((ownD (evF o δ e).1 i).bind fun c => (putFld c.2 f r.2).map fun c' => .nx ((evF o δ e).1.set i (some (c.1, c'))))
  | .append i e, δ => SO.of (evF o δ e).1 (evF o δ e).2 fun r => orStuck ((ownD (evF o δ e).1 i).bind fun c => match c.2 with
      | .lst l => if size (l.length + 1) then some (.nx ((evF o δ e).1.set i (some (c.1, .lst (l ++ [r.2]))))) else none
      | _ => none)
  | .setx i f l, δ => SO.of δ (evL o δ l) fun x => SO.ofX δ ((o.fn f x.2).bind (lent x.1)) fun r => orStuck ((setSlot δ i r.1 r.2).map .nx)
  | .clear i, δ => orStuck ((ownD δ i).bind fun c => match c.2 with
      | .lst _ => some (.nx (δ.set i (some (c.1, .lst []))))
      | _ => none)
  | .extend i e, δ => SO.of δ (ev o δ true e) fun r => orStuck ((ownD δ i).bind fun c => match c.2, r.2 with
      | .lst l, .lst l' => if size (l.length + l'.length) && !lkOwn δ e then some (.nx (δ.set i (some (c.1, .lst (l ++ l'))))) else none
      | _, _ => none)
  | .update i e, δ => SO.of δ (ev o δ true e) fun r => orStuck ((ownD δ i).bind fun c => match c.2, r.2 with
      | .dct ks vs, .dct ks' vs' => if decide (ks.length + ks'.length ≤ 100000) && (match e with | .var j => j != i | _ => true) then some (.nx (δ.set i (some (c.1, .dct (mergeD ks vs ks' vs').1 (mergeD ks vs ks' vs').2)))) else none
      | _, _ => none)
  | .pop1 j i k, δ => SO.of δ (ev o δ true k) fun y => orStuck ((ownD δ i).bind fun c => match c.2 with
      | .dct ks vs => (keyOf y.2).bind fun x => (look ks vs x).bind fun v => (match j with
        | none => some (SO.nx (δ.set i (some (c.1, .dct (dropKs ks x) (dropV ks vs x)))))
        | some j => if i = j then none else (setSlot (δ.set i (some (c.1, .dct (dropKs ks x) (dropV ks vs x)))) j false v).map .nx)
      | _ => none)
  | .pop2 i k e, δ => SO.of δ (ev o δ true k) fun y => SO.of δ (ev o δ true e) fun _ => orStuck ((ownD δ i).bind fun c => match c.2 with
      | .dct ks vs => (keyOf y.2).bind fun x => some (.nx (δ.set i (some (c.1, .dct (dropKs ks x) (dropV ks vs x)))))
      | _ => none)
  | .ini f l, δ => SO.of δ ((evL o δ l).bind fun x => (R.of (ownD δ 0)).bind fun c => R.chk (!x.1) ((o.ini f c.2 x.2).bind fun d => .ok (c.1, d))) fun r => .nx (δ.set 0 (some r))
  | .ifs c a b, δ => SO.of δ ((ev o δ true c).bind fun x => R.of (truth x.2)) fun t => if t then evSs o a δ else evSs o b δ
  | .ifq c a b, δ => (fun δ1 => SO.of δ1 ((ev o δ1 true c).bind fun x => R.of (truth x.2)) fun t => if t then evSs o a δ1 else evSs o b δ1) (share δ (tvars c))
  | .for_ tg tup it b, δ => (fun δ1 => SO.of δ1 (evI o δ1 false it) fun l => forGo (evSs o b) tg tup l δ1) (shareIt δ it)
  | .while_ c b, δ => whileGo (fun δ => ev o δ true c) (evSs o b) o.w δ
  | .ret e, δ => match e with
    | .var i => match δ[i]? with
      | some (some (.ow, d)) => .rt true d δ
      | some (some (.sh, d)) => .rt false d δ
      | _ => .stuck
    | e => SO.of (evF o δ e).1 (evF o δ e).2 fun r => .rt r.1 r.2 (evF o δ e).1
  | .retn, δ => .rt false .non δ
  | .expr e, δ => match e with
    | .call f l => SO.of δ (evL o δ l) fun x => SO.ofX δ ((o.fn f x.2).bind (lent x.1)) fun _ => .nx δ
    | e => SO.of δ (ev o δ true e) fun _ => .nx δ
  | .raise c e, δ => SO.of δ (ev o δ true e) fun _ => .ex c δ
  | .try_ b c nm h, δ => match evSs o b δ with
    | .ex c' δ1 => if o.sub c' c then (match nm with
      | none => evSs o h δ1
      | some j => orStuck ((setSlot δ1 j false (.err c')).map fun δ2 => match evSs o h δ2 with
        | .nx δ3 => .nx (δ3.set j none)
        | _ => .stuck)) else .stuck
    | r => r
  | .brk, δ => .bk δ
  | .cont, δ => .ct δ
  | .pass, δ => .nx δ
noncomputable def evSs (o : Orc) : SL → Dst → SO
  | .nil, δ => .nx δ
  | .cons s l, δ => match evS o s δ with
    | .nx δ1 => evSs o l δ1
    | r => r
end
noncomputable def holeS : S := .expr (.m0 .get (.cst .non))
noncomputable def holeB : SL := .cons holeS .nil
structure Fd where
  np : Nat
  ns : Nat
  body : SL
noncomputable def runFn (o : Orc) (f : Fd) (args : List D) : R (Bool × D) := if args.length = f.np then (match evSs o f.body (args.map (fun d => some (Own.sh, d)) ++ List.replicate (f.ns - f.np) none) with
  | .rt w d _ => .ok (w, d)
  | .nx _ => .ok (false, .non)
  | .ex c _ => .exc c
  | _ => .stuck) else .stuck
noncomputable def selfOf (δ : Dst) : R D := match (δ[0]? : Option (Option Slot)) with
  | some (some (.me, d)) => .ok d
  | _ => .stuck
noncomputable def runIni (o : Orc) (f : Fd) (self : D) (args : List D) : R D := if args.length + 1 = f.np then (match evSs o f.body (some (Own.me, self) :: (args.map (fun d => some (Own.sh, d)) ++ List.replicate (f.ns - f.np) none)) with
  | .rt _ .non δ => selfOf δ
  | .nx δ => selfOf δ
  | .ex c _ => .exc c
  | _ => .stuck) else .stuck
structure Prg where
  fns : List Fd
  meth : Nat → List Nat → Option Nat
  init : Nat → Option Nat
  sub : Nat → Nat → Bool
noncomputable def orc (P : Prg) (w : Nat) : Nat → Orc
  | 0 => ⟨fun _ _ => .stuck, fun _ _ _ => .stuck, P.meth, P.init, P.sub, w⟩
  | n + 1 => ⟨fun f a => match P.fns[f]? with | some d => runFn (orc P w n) d a | none => .stuck, fun f s a => match P.fns[f]? with | some d => runIni (orc P w n) d s a | none => .stuck, P.meth, P.init, P.sub, w⟩
end Z

set_option autoImplicit false
namespace Z
open PySem PySem.Spec PyProof.Rows L2
noncomputable def strV (x : List Nat) : Str := ⟨x.toArray⟩
noncomputable def keyV : DK → Key
  | .i n => .inl n
  | .s x => .inr (strV x)
theorem strV_inj {x y : List Nat} (h : strV x = strV y) : x = y := by
  have := congrArg (fun s : Str => s.cps.toList) h
  simpa [strV] using this
theorem keyV_inj {x y : DK} (h : keyV x = keyV y) : x = y := by
  cases x <;> cases y <;> simp [keyV] at h
  · rw [h]
  · rw [strV_inj h]
noncomputable abbrev IsK (H : Hp) (a : Addr) (kvs : List (Key × V)) : Prop := ∃ ep, H a = some (.dK kvs ep)
noncomputable def KsOk (ks : List DK) : Prop := ks.Nodup ∧ ∀ x, DK.s x ∈ ks → x.length ≤ 16777216
structure Wd where
  K : PySem.W.Frag
  CT : Nat → Addr
noncomputable def IsExc (C a : Addr) (h : Heap) : Prop := ∃ o vs, h.get? a = some o ∧ (o.cls = .ref C ∧ o.dict = none) ∧ o.data = .fields vs
mutual
noncomputable def Rep (W : Wd) (G : Hp) : D → V → Prop
  | .non, v => v = .non
  | .bl b, v => v = .bl b
  | .int i, v => v = .int i
  | .str x, v => v = .str (strV x) ∧ x.length ≤ 16777216
  | .tup l, v => ∃ a xs, v = .ref a ∧ SqT W.K G a xs ∧ Reps W G l xs
  | .lst l, v => ∃ a xs, v = .ref a ∧ SqL W.K G a xs ∧ Reps W G l xs
  | .dct ks vs, v => ∃ a kvs, v = .ref a ∧ IsK G a kvs ∧ kvs.map (·.1) = ks.map keyV ∧ KsOk ks ∧ Reps W G vs (kvs.map (·.2))
  | .obj c ns vs, v => ∃ a dx fs, v = .ref a ∧ G a = some (.ins (W.CT c) dx fs) ∧ fs.map (·.1) = ns.map strV ∧ Reps W G vs (fs.map (·.2))
  | .err c, v => ∃ a, v = .ref a ∧ G a = some (.ext (IsExc (W.CT c) a))
noncomputable def Reps (W : Wd) (G : Hp) : List D → List V → Prop
  | [], [] => True
  | d :: l, v :: vs => Rep W G d v ∧ Reps W G l vs
  | _, _ => False
end
theorem same_tup {K : PySem.W.Frag} {H H' : Hp} {a : Addr} {xs : List V} (e : Same H H') (h : SqT K H a xs) : SqT K H' a xs := by
  rcases h with (h | ⟨o, h⟩) | h
  · exact .inl (.inl (e _ _ h))
  · exact .inl (.inr ⟨o, e _ _ h⟩)
  · exact .inr h
mutual
theorem Rep.mono {W : Wd} {G G' : Hp} (e : Same G G') : ∀ {d : D} {v : V}, Rep W G d v → Rep W G' d v
  | .non, v, h => by simpa only [Rep] using h
  | .bl b, v, h => by simpa only [Rep] using h
  | .int i, v, h => by simpa only [Rep] using h
  | .str x, v, h => by simpa only [Rep] using h
  | .tup l, v, h => by
    simp only [Rep] at h ⊢
    obtain ⟨a, xs, rfl, h1, h2⟩ := h
    exact ⟨a, xs, rfl, same_tup e h1, Reps.mono e h2⟩
  | .lst l, v, h => by
    simp only [Rep] at h ⊢
    obtain ⟨a, xs, rfl, h1, h2⟩ := h
    exact ⟨a, xs, rfl, e.seq h1, Reps.mono e h2⟩
  | .dct ks vs, v, h => by
    simp only [Rep] at h ⊢
    obtain ⟨a, kvs, rfl, h1, h2, h3, h4⟩ := h
    exact ⟨a, kvs, rfl, h1.imp fun _ z => e _ _ z, h2, h3, Reps.mono e h4⟩
  | .obj c ns vs, v, h => by
    simp only [Rep] at h ⊢
    obtain ⟨a, dx, fs, rfl, h1, h2, h3⟩ := h
    exact ⟨a, dx, fs, rfl, e _ _ h1, h2, Reps.mono e h3⟩
  | .err _, v, h => by
    simp only [Rep] at h ⊢
    obtain ⟨a, rfl, h1⟩ := h
    exact ⟨a, rfl, e _ _ h1⟩
theorem Reps.mono {W : Wd} {G G' : Hp} (e : Same G G') : ∀ {l : List D} {vs : List V}, Reps W G l vs → Reps W G' l vs
  | [], [], _ => by simp only [Reps]
  | [], _ :: _, h => by simp only [Reps] at h
  | _ :: _, [], h => by simp only [Reps] at h
  | d :: l, v :: vs, h => by
    simp only [Reps] at h ⊢
    exact ⟨Rep.mono e h.1, Reps.mono e h.2⟩
end
theorem Reps.length {W : Wd} {G : Hp} : ∀ {l : List D} {vs : List V}, Reps W G l vs → l.length = vs.length
  | [], [], _ => rfl
  | [], _ :: _, h => by simp only [Reps] at h
  | _ :: _, [], h => by simp only [Reps] at h
  | d :: l, v :: vs, h => by
    simp only [Reps] at h
    simp [Reps.length h.2]
theorem Reps.get {W : Wd} {G : Hp} : ∀ {l : List D} {vs : List V} {i : Nat} {d : D}, Reps W G l vs → l[i]? = some d → ∃ v, vs[i]? = some v ∧ Rep W G d v
  | [], _, _, _, _, e => by simp at e
  | _ :: _, [], _, _, h, _ => by simp only [Reps] at h
  | d :: l, v :: vs, 0, _, h, e => by
    simp only [Reps] at h
    simp at e; subst e
    exact ⟨v, rfl, h.1⟩
  | d :: l, v :: vs, i + 1, x, h, e => by
    simp only [Reps] at h
    obtain ⟨u, h1, h2⟩ := Reps.get (i := i) (d := x) h.2 (by simpa using e)
    exact ⟨u, by simpa using h1, h2⟩
theorem Reps.append {W : Wd} {G : Hp} : ∀ {l l' : List D} {vs vs' : List V}, Reps W G l vs → Reps W G l' vs' → Reps W G (l ++ l') (vs ++ vs')
  | [], _, [], _, _, h => h
  | [], _, _ :: _, _, h, _ => by simp only [Reps] at h
  | _ :: _, _, [], _, h, _ => by simp only [Reps] at h
  | d :: l, l', v :: vs, vs', h, h' => by
    simp only [Reps] at h
    simp only [List.cons_append, Reps]
    exact ⟨h.1, Reps.append h.2 h'⟩
theorem Reps.set {W : Wd} {G : Hp} {d : D} {v : V} (r : Rep W G d v) : ∀ {l : List D} {vs : List V} (i : Nat), Reps W G l vs → Reps W G (l.set i d) (vs.set i v)
  | [], [], _, h => h
  | [], _ :: _, _, h => by simp only [Reps] at h
  | _ :: _, [], _, h => by simp only [Reps] at h
  | _ :: l, _ :: vs, 0, h => by
    simp only [Reps] at h
    simp only [List.set_cons_zero, Reps]
    exact ⟨r, h.2⟩
  | x :: l, y :: vs, i + 1, h => by
    simp only [Reps] at h
    simp only [List.set_cons_succ, Reps]
    exact ⟨h.1, Reps.set r i h.2⟩
theorem Reps.take {W : Wd} {G : Hp} : ∀ {l : List D} {vs : List V} (n : Nat), Reps W G l vs → Reps W G (l.take n) (vs.take n)
  | _, _, 0, _ => by simp [Reps]
  | [], [], _ + 1, h => h
  | [], _ :: _, _ + 1, h => by simp only [Reps] at h
  | _ :: _, [], _ + 1, h => by simp only [Reps] at h
  | d :: l, v :: vs, n + 1, h => by
    simp only [Reps] at h
    simp only [List.take_succ_cons, Reps]
    exact ⟨h.1, Reps.take n h.2⟩
theorem Reps.drop {W : Wd} {G : Hp} : ∀ {l : List D} {vs : List V} (n : Nat), Reps W G l vs → Reps W G (l.drop n) (vs.drop n)
  | _, _, 0, h => by simpa using h
  | [], [], _ + 1, h => h
  | [], _ :: _, _ + 1, h => by simp only [Reps] at h
  | _ :: _, [], _ + 1, h => by simp only [Reps] at h
  | d :: l, v :: vs, n + 1, h => by
    simp only [Reps] at h
    simp only [List.drop_succ_cons]
    exact Reps.drop n h.2
noncomputable def vis (H : Hp) (P : Addr → Prop) : Hp := fun b => open Classical in if P b then none else H b
theorem vis_some {H : Hp} {P : Addr → Prop} {b : Addr} {o : HO} (h : vis H P b = some o) : H b = some o ∧ ¬ P b := by
  unfold vis at h
  split at h
  · cases h
  · exact ⟨h, by assumption⟩
theorem vis_of {H : Hp} {P : Addr → Prop} {b : Addr} {o : HO} (h : H b = some o) (n : ¬ P b) : vis H P b = some o := by
  unfold vis
  rw [if_neg n]; exact h
theorem vis_mono {H H' : Hp} {P : Addr → Prop} (e : Same H H') : Same (vis H P) (vis H' P) := fun b o h =>
  let ⟨h1, h2⟩ := vis_some h
  vis_of (e b o h1) h2
theorem vis_sub {H : Hp} {P P' : Addr → Prop} (e : ∀ b, P' b → P b) : Same (vis H P) (vis H P') := fun b o h =>
  let ⟨h1, h2⟩ := vis_some h
  vis_of h1 fun z => h2 (e b z)
theorem vis_le {H : Hp} {P : Addr → Prop} : Same (vis H P) H := fun b o h => (vis_some h).1
noncomputable def RepT (W : Wd) (H G : Hp) : D → V → Prop
  | .lst l, v => ∃ a xs, v = .ref a ∧ SqL W.K H a xs ∧ Reps W G l xs
  | .dct ks vs, v => ∃ a kvs, v = .ref a ∧ IsK H a kvs ∧ kvs.map (·.1) = ks.map keyV ∧ KsOk ks ∧ Reps W G vs (kvs.map (·.2))
  | .obj c ns vs, v => ∃ a dx fs, v = .ref a ∧ H a = some (.ins (W.CT c) dx fs) ∧ fs.map (·.1) = ns.map strV ∧ Reps W G vs (fs.map (·.2))
  | d, v => Rep W G d v
noncomputable def OwnAt (W : Wd) (H G : Hp) (a : Addr) : D → Prop
  | .lst l => ∃ xs, H a = some (.lst xs) ∧ Reps W G l xs
  | .dct ks vs => ∃ kvs, IsK H a kvs ∧ kvs.map (·.1) = ks.map keyV ∧ KsOk ks ∧ Reps W G vs (kvs.map (·.2))
  | .obj c ns vs => ∃ dx fs, H a = some (.ins (W.CT c) dx fs) ∧ fs.map (·.1) = ns.map strV ∧ Reps W G vs (fs.map (·.2))
  | _ => False
theorem RepT.mono {W : Wd} {H G H' G' : Hp} {d : D} {v : V} (h : RepT W H G d v) (e : Same H H') (g : Same G G') : RepT W H' G' d v := by
  cases d with
  | lst l =>
    obtain ⟨a, xs, rfl, h1, h2⟩ := h
    exact ⟨a, xs, rfl, e.seq h1, h2.mono g⟩
  | dct ks vs =>
    obtain ⟨a, kvs, rfl, h1, h2, h3, h4⟩ := h
    exact ⟨a, kvs, rfl, h1.imp fun _ z => e _ _ z, h2, h3, h4.mono g⟩
  | obj c ns vs =>
    obtain ⟨a, dx, fs, rfl, h1, h2, h3⟩ := h
    exact ⟨a, dx, fs, rfl, e _ _ h1, h2, h3.mono g⟩
  | non => exact Rep.mono g h
  | bl b => exact Rep.mono g h
  | int i => exact Rep.mono g h
  | str x => exact Rep.mono g h
  | tup l => exact Rep.mono g h
  | err c => exact Rep.mono g h
theorem Rep.top {W : Wd} {H G : Hp} {d : D} {v : V} (h : Rep W G d v) (e : Same G H) : RepT W H G d v := by
  cases d with
  | lst l =>
    simp only [Rep] at h
    obtain ⟨a, xs, rfl, h1, h2⟩ := h
    exact ⟨a, xs, rfl, e.seq h1, h2⟩
  | dct ks vs =>
    simp only [Rep] at h
    obtain ⟨a, kvs, rfl, h1, h2⟩ := h
    exact ⟨a, kvs, rfl, h1.imp fun _ z => e _ _ z, h2⟩
  | obj c ns vs =>
    simp only [Rep] at h
    obtain ⟨a, dx, fs, rfl, h1, h2⟩ := h
    exact ⟨a, dx, fs, rfl, e _ _ h1, h2⟩
  | non => exact h
  | bl b => exact h
  | int i => exact h
  | str x => exact h
  | tup l => exact h
  | err c => exact h
theorem OwnAt.mono {W : Wd} {H G H' G' : Hp} {a : Addr} {d : D} (h : OwnAt W H G a d) (e : ∀ o, H a = some o → H' a = some o) (g : Same G G') : OwnAt W H' G' a d := by
  cases d with
  | lst l =>
    obtain ⟨xs, h1, h2⟩ := h
    exact ⟨xs, e _ h1, h2.mono g⟩
  | dct ks vs =>
    obtain ⟨kvs, h1, h2, h3, h4⟩ := h
    exact ⟨kvs, h1.imp fun _ z => e _ z, h2, h3, h4.mono g⟩
  | obj c ns vs =>
    obtain ⟨dx, fs, h1, h2, h3⟩ := h
    exact ⟨dx, fs, e _ h1, h2, h3.mono g⟩
  | non => exact h
  | bl b => exact h
  | int i => exact h
  | str x => exact h
  | tup l => exact h
  | err c => exact h
theorem OwnAt.top {W : Wd} {H G : Hp} {a : Addr} {d : D} (h : OwnAt W H G a d) : RepT W H G d (.ref a) := by
  cases d with
  | lst l =>
    obtain ⟨xs, h1, h2⟩ := h
    exact ⟨a, xs, rfl, .inl (.inl h1), h2⟩
  | dct ks vs =>
    obtain ⟨kvs, h1, h2⟩ := h
    exact ⟨a, kvs, rfl, h1, h2⟩
  | obj c ns vs =>
    obtain ⟨dx, fs, h1, h2⟩ := h
    exact ⟨a, dx, fs, rfl, h1, h2⟩
  | non => exact False.elim h
  | bl b => exact False.elim h
  | int i => exact False.elim h
  | str x => exact False.elim h
  | tup l => exact False.elim h
  | err c => exact False.elim h
theorem OwnAt.rep {W : Wd} {H G : Hp} {a : Addr} {d : D} (h : OwnAt W H G a d) (e : ∀ o, H a = some o → G a = some o) : Rep W G d (.ref a) := by
  cases d with
  | lst l =>
    obtain ⟨xs, h1, h2⟩ := h
    simp only [Rep]
    exact ⟨a, xs, rfl, .inl (.inl (e _ h1)), h2⟩
  | dct ks vs =>
    obtain ⟨kvs, h1, h2⟩ := h
    simp only [Rep]
    exact ⟨a, kvs, rfl, h1.imp fun _ z => e _ z, h2⟩
  | obj c ns vs =>
    obtain ⟨dx, fs, h1, h2⟩ := h
    simp only [Rep]
    exact ⟨a, dx, fs, rfl, e _ h1, h2⟩
  | non => exact False.elim h
  | bl b => exact False.elim h
  | int i => exact False.elim h
  | str x => exact False.elim h
  | tup l => exact False.elim h
  | err c => exact False.elim h
theorem OwnAt.some {W : Wd} {H G : Hp} {a : Addr} {d : D} (h : OwnAt W H G a d) : ∃ o, H a = some o ∧ (∀ xs, o ≠ .tup xs) ∧ ∀ ob u, o ≠ .frz ob u := by
  cases d with
  | lst l => obtain ⟨xs, h1, h2⟩ := h; exact ⟨_, h1, (by intro _ z; cases z), (by intro _ _ z; cases z)⟩
  | dct ks vs => obtain ⟨kvs, ⟨ep, h1⟩, h2⟩ := h; exact ⟨_, h1, (by intro _ z; cases z), (by intro _ _ z; cases z)⟩
  | obj c ns vs => obtain ⟨dx, fs, h1, h2⟩ := h; exact ⟨_, h1, (by intro _ z; cases z), (by intro _ _ z; cases z)⟩
  | non => exact False.elim h
  | bl b => exact False.elim h
  | int i => exact False.elim h
  | str x => exact False.elim h
  | tup l => exact False.elim h
  | err c => exact False.elim h
noncomputable def Holds1 (σ : L2.St) (δ : Dst) (i : Nat) (a : Addr) : Prop := (∃ w d, δ[i]? = some (some (w, d)) ∧ w ≠ Own.sh) ∧ σ[i]? = some (some (.ref a))
noncomputable def Hid (B : Addr → Prop) (σ : L2.St) (δ : Dst) (a : Addr) : Prop := B a ∨ ∃ i, Holds1 σ δ i a
noncomputable def Soft (H : Hp) (P : Addr → Prop) : Prop := ∀ a, P a → ∀ o, H a = some o → (∀ xs, o ≠ .tup xs) ∧ ∀ ob u, o ≠ .frz ob u
structure SR (X : Cx) (W : Wd) (me : Option Addr) (B : Addr → Prop) (H : Hp) (σ : L2.St) (δ : Dst) : Prop where
  kf : W.K = X.K
  len : σ.length = δ.length
  sh : ∀ (i : Nat) (d : D), δ[i]? = some (some (Own.sh, d)) → ∃ v, σ[i]? = some (some v) ∧ Rep W (vis H (Hid B σ δ)) d v
  ow : ∀ (i : Nat) (d : D), δ[i]? = some (some (Own.ow, d)) → ∃ a, σ[i]? = some (some (V.ref a)) ∧ OwnAt W H (vis H (Hid B σ δ)) a d ∧ X.H₀ a = none ∧ ¬ B a ∧ some a ≠ me
  mi : ∀ (i : Nat) (d : D), δ[i]? = some (some (Own.me, d)) → i = 0 ∧ ∃ a, me = some a ∧ σ[i]? = some (some (V.ref a)) ∧ OwnAt W H (vis H (Hid B σ δ)) a d ∧ ¬ B a
  apart : ∀ (i j : Nat) (a : Addr), Holds1 σ δ i a → Holds1 σ δ j a → i = j
  same : ∀ b o, X.H₀ b = some o → some b ≠ me → H b = some o
  soft : Soft H B
  gone : ∀ b, B b → ∃ o, H b = some o
  live : ∀ x, me = some x → ∃ o, H x = some o
theorem SR.mono {X : Cx} {W : Wd} {me : Option Addr} {B : Addr → Prop} {H H' : Hp} {σ : L2.St} {δ : Dst} (S : SR X W me B H σ δ) (e : Same H H') : SR X W me B H' σ δ where
  kf := S.kf
  len := S.len
  sh := fun i d h => let ⟨v, h1, h2⟩ := S.sh i d h; ⟨v, h1, h2.mono (vis_mono e)⟩
  ow := fun i d h => let ⟨a, h1, h2, h3⟩ := S.ow i d h; ⟨a, h1, h2.mono (fun o q => e a o q) (vis_mono e), h3⟩
  mi := fun i d h => let ⟨h0, a, h1, h2, h3, h4⟩ := S.mi i d h; ⟨h0, a, h1, h2, h3.mono (fun o q => e a o q) (vis_mono e), h4⟩
  apart := S.apart
  same := fun b o h h' => e b o (S.same b o h h')
  soft := fun a ha o ho => by
    obtain ⟨o', ho'⟩ := S.gone a ha
    have := e a o' ho'
    rw [ho] at this; cases this
    exact S.soft a ha _ ho'
  gone := fun b hb => let ⟨o, h⟩ := S.gone b hb; ⟨o, e b o h⟩
  live := fun x hx => let ⟨o, h⟩ := S.live x hx; ⟨o, e x o h⟩
theorem SR.softH {X : Cx} {W : Wd} {me : Option Addr} {B : Addr → Prop} {H : Hp} {σ : L2.St} {δ : Dst} (S : SR X W me B H σ δ) : Soft H (Hid B σ δ) := fun a ha o ho => by
  rcases ha with ha | ⟨i, ⟨w, d, h1, h2⟩, h3⟩
  · exact S.soft a ha o ho
  · cases w with
    | sh => exact absurd rfl h2
    | ow =>
      obtain ⟨b, q1, q2, _⟩ := S.ow i d h1
      rw [h3] at q1; cases q1
      obtain ⟨o', q3, q4⟩ := q2.some
      rw [ho] at q3; cases q3
      exact q4
    | me =>
      obtain ⟨_, b, _, q1, q2, _⟩ := S.mi i d h1
      rw [h3] at q1; cases q1
      obtain ⟨o', q3, q4⟩ := q2.some
      rw [ho] at q3; cases q3
      exact q4
theorem SR.hidH {X : Cx} {W : Wd} {me : Option Addr} {B : Addr → Prop} {H : Hp} {σ : L2.St} {δ : Dst} (S : SR X W me B H σ δ) {a : Addr} (ha : Hid B σ δ a) : ∃ o, H a = some o := by
  rcases ha with ha | ⟨i, ⟨w, d, h1, h2⟩, h3⟩
  · exact S.gone a ha
  · cases w with
    | sh => exact absurd rfl h2
    | ow =>
      obtain ⟨b, q1, q2, _⟩ := S.ow i d h1
      rw [h3] at q1; cases q1
      obtain ⟨o', q3, q4⟩ := q2.some
      exact ⟨_, q3⟩
    | me =>
      obtain ⟨_, b, _, q1, q2, _⟩ := S.mi i d h1
      rw [h3] at q1; cases q1
      obtain ⟨o', q3, q4⟩ := q2.some
      exact ⟨_, q3⟩
mutual
theorem Rep.imm {W : Wd} {H : Hp} {P : Addr → Prop} (S : Soft H P) : ∀ {d : D} {v : V}, d.imm = true → Rep W H d v → Rep W (vis H P) d v
  | .non, v, _, h => by simpa only [Rep] using h
  | .bl b, v, _, h => by simpa only [Rep] using h
  | .int i, v, _, h => by simpa only [Rep] using h
  | .str x, v, _, h => by simpa only [Rep] using h
  | .tup l, v, q, h => by
    simp only [D.imm] at q
    simp only [Rep] at h ⊢
    obtain ⟨a, xs, rfl, h1, h2⟩ := h
    refine ⟨a, xs, rfl, ?_, Reps.imm S q h2⟩
    rcases h1 with (h1 | ⟨o, h1⟩) | h1
    · exact .inl (.inl (vis_of h1 fun z => (S a z _ h1).1 _ rfl))
    · exact .inl (.inr ⟨o, vis_of h1 fun z => (S a z _ h1).2 _ _ rfl⟩)
    · exact .inr h1
  | .lst l, v, q, h => by simp [D.imm] at q
  | .dct ks vs, v, q, h => by simp [D.imm] at q
  | .obj c ns vs, v, q, h => by simp [D.imm] at q
  | .err _, v, q, h => by simp [D.imm] at q
theorem Reps.imm {W : Wd} {H : Hp} {P : Addr → Prop} (S : Soft H P) : ∀ {l : List D} {vs : List V}, immL l = true → Reps W H l vs → Reps W (vis H P) l vs
  | [], [], _, _ => by simp only [Reps]
  | [], _ :: _, _, h => by simp only [Reps] at h
  | _ :: _, [], _, h => by simp only [Reps] at h
  | d :: l, v :: vs, q, h => by
    simp only [immL, Bool.and_eq_true] at q
    simp only [Reps] at h ⊢
    exact ⟨Rep.imm S q.1 h.1, Reps.imm S q.2 h.2⟩
end
noncomputable def Res (W : Wd) (P : Addr → Prop) (lk : Bool) (H H' : Hp) (w : Bool) (d : D) (v : V) : Prop :=
  if w = true then ∃ a, v = .ref a ∧ H a = none ∧ OwnAt W H' (vis H' fun b => P b ∨ b = a) a d
  else if lk = true then RepT W H' (vis H' P) d v else Rep W (vis H' P) d v
noncomputable def EW (X : Cx) (W : Wd) (σ : L2.St) (H : Hp) (c : Nat) : Prop := False
noncomputable def tD (X : Cx) (W : Wd) (lk : Bool) (f : Dst → R (Bool × D)) : TE := fun σ H Q => ∃ me B δ, SR X W me B H σ δ ∧ match f δ with
  | .ok r => ∀ v H', Same H H' → Res W (Hid B σ δ) lk H H' r.1 r.2 v → Q v H'
  | .exc c => EW X W σ H c
  | .stuck => False
theorem PE.imp {X : Cx} {e : Expr} {t t' : TE} (h : PE X e t) (i : ∀ σ H Q, t' σ H Q → t σ H Q) : PE X e t' := fun pins s σ H Q I hw => h pins s σ H Q I (i σ H Q hw)
theorem PT.imp {X : Cx} {e : Expr} {t t' : TT} (h : PT X e t) (i : ∀ σ H Q, t' σ H Q → t σ H Q) : PT X e t' := fun pins s σ H Q I hw => h pins s σ H Q I (i σ H Q hw)
theorem PA.imp {X : Cx} {es : List Expr} {t t' : TA} (h : PA X es t) (i : ∀ σ H Q, t' σ H Q → t σ H Q) : PA X es t' := fun pos pins s σ H Q I hw => h pos pins s σ H Q I (i σ H Q hw)
theorem PS.imp {X : Cx} {e : Stmt} {t t' : TS} (h : PS X e t) (i : ∀ D σ H, t' D σ H → t D σ H) : PS X e t' := fun pins s σ H D I hw => h pins s σ H D I (i D σ H hw)
theorem EW.mono {X : Cx} {W : Wd} {σ : L2.St} {H H' : Hp} {c : Nat} (h : EW X W σ H c) (e : Same H H') : EW X W σ H' c := h.elim
theorem Same.upd {H : Hp} {p : Addr} {o : HO} (h : H p = none) : Same H (upd H p o) := fun b u e => by rw [upd_ne (ne_of_none e h)]; exact e
theorem Res.look {W : Wd} {P : Addr → Prop} {lk : Bool} {H H' : Hp} {w : Bool} {d : D} {v : V} (h : Res W P lk H H' w d v) : RepT W H' (vis H' P) d v := by
  unfold Res at h
  split at h
  · obtain ⟨a, rfl, _, h⟩ := h
    exact (h.mono (fun _ q => q) (vis_sub fun b z => .inl z)).top
  · split at h
    · exact h
    · exact h.top vis_le
theorem Res.keep {W : Wd} {P : Addr → Prop} {H H' : Hp} {w : Bool} {d : D} {v : V} (h : Res W P false H H' w d v) (hp : ∀ a, P a → ∃ o, H a = some o) : Rep W (vis H' P) d v := by
  unfold Res at h
  split at h
  · obtain ⟨a, rfl, h0, h⟩ := h
    have na : ¬ P a := fun z => by
      obtain ⟨o, q⟩ := hp a z
      rw [h0] at q; cases q
    exact (h.mono (fun _ q => q) (vis_sub fun b z => .inl z)).rep fun o q => vis_of q na
  · exact h
theorem Res.shared {W : Wd} {P : Addr → Prop} {lk : Bool} {H H' : Hp} {d : D} {v : V} (h : Rep W (vis H' P) d v) : Res W P lk H H' false d v := by
  unfold Res
  rw [if_neg (by simp)]
  split
  · exact h.top vis_le
  · exact h
end Z

namespace Z
open PySem PySem.Spec PyProof.Rows L2
section
variable {X : Cx} {W : Wd} {lk lk' : Bool} {σ : L2.St} {H H1 H' : Hp} {me : Option Addr} {B : Addr → Prop} {δ : Dst} {Q Q' : VK}
noncomputable def After (X : Cx) (W : Wd) (lk : Bool) (σ : L2.St) (H : Hp) (P : Addr → Prop) (r : R (Bool × D)) (Q : VK) : Prop := match r with
  | .ok r => ∀ v H', Same H H' → Res W P lk H H' r.1 r.2 v → Q v H'
  | .exc c => EW X W σ H c
  | .stuck => False
theorem tD_iff {f : Dst → R (Bool × D)} : tD X W lk f σ H Q ↔ ∃ me B δ, SR X W me B H σ δ ∧ After X W lk σ H (Hid B σ δ) (f δ) Q := by
  unfold tD After
  exact Iff.rfl
theorem Res.from {P : Addr → Prop} {w : Bool} {d : D} {v : V} (h : Res W P lk H1 H' w d v) (e : Same H H1) : Res W P lk H H' w d v := by
  unfold Res at h ⊢
  split at h
  · rename_i hw
    rw [if_pos hw]
    obtain ⟨a, h1, h2, h3⟩ := h
    exact ⟨a, h1, e.free h2, h3⟩
  · rename_i hw
    rw [if_neg hw]
    exact h
theorem After.mono {P : Addr → Prop} {r : R (Bool × D)} (h : After X W lk σ H P r Q) (e : Same H H1) : After X W lk σ H1 P r Q := by
  unfold After at h ⊢
  cases r with
  | ok r => exact fun v H' s q => h v H' (e.trans s) (q.from e)
  | exc c => exact h.mono e
  | stuck => exact h
theorem tD.mono {f : Dst → R (Bool × D)} (h : tD X W lk f σ H Q) (k : ∀ v H', Q v H' → Q' v H') : tD X W lk f σ H Q' := by
  obtain ⟨me, B, δ, S, h⟩ := tD_iff.mp h
  refine tD_iff.mpr ⟨me, B, δ, S, ?_⟩
  unfold After at h ⊢
  cases e : f δ with
  | ok r => rw [e] at h; exact fun v H' s q => k _ _ (h v H' s q)
  | exc c => rw [e] at h; exact h
  | stuck => rw [e] at h; exact h
theorem part {fa : Dst → R (Bool × D)} {g : Bool × D → R (Bool × D)} (S : SR X W me B H σ δ) (h : After X W lk σ H (Hid B σ δ) ((fa δ).bind g) Q) :
    tD X W lk' fa σ H fun v H1 => ∃ r, fa δ = .ok r ∧ SR X W me B H1 σ δ ∧ Same H H1 ∧ RepT W H1 (vis H1 (Hid B σ δ)) r.2 v ∧ Res W (Hid B σ δ) lk' H H1 r.1 r.2 v ∧ After X W lk σ H1 (Hid B σ δ) (g r) Q := by
  refine tD_iff.mpr ⟨me, B, δ, S, ?_⟩
  cases e : fa δ with
  | ok r =>
    rw [e] at h
    intro v H1 s q
    exact ⟨r, rfl, S.mono s, s, q.look, q, After.mono h s⟩
  | exc c => rw [e] at h; exact h
  | stuck => rw [e] at h; exact h
theorem Soft.mono {P : Addr → Prop} (s : Soft H P) (g : ∀ a, P a → ∃ o, H a = some o) (e : Same H H1) : Soft H1 P := fun a ha o ho => by
  obtain ⟨o', h'⟩ := g a ha
  have := e a o' h'
  rw [ho] at this; cases this
  exact s a ha _ h'
theorem SR.know (S : SR X W me B H σ δ) : ∀ a, Hid B σ δ a → ∃ o, H a = some o := fun _ h => S.hidH h
noncomputable def Sem2 (W : Wd) (r : R2) (g : D → D → R (Bool × D)) : Prop :=
  ∀ (lk : Bool) (P : Addr → Prop) (H : Hp) (x y : V) (dx dy : D) (Q : VK) (w : Bool) (d : D), Soft H P → (∀ a, P a → ∃ o, H a = some o) → RepT W H (vis H P) dx x → RepT W H (vis H P) dy y → g dx dy = .ok (w, d) →
    (∀ v H', Same H H' → Res W P lk H H' w d v → Q v H') → r x y H Q
noncomputable def NoExc2 (g : D → D → R (Bool × D)) : Prop := ∀ x y c, g x y ≠ .exc c
theorem tOp_of {r : R2} {g : D → D → R (Bool × D)} {fa fb : Dst → R (Bool × D)} (hs : Sem2 W r g) (hn : NoExc2 g) {σ : L2.St} {H : Hp} {Q : VK}
    (h : tD X W lk (fun δ => (fa δ).bind fun x => (fb δ).bind fun y => g x.2 y.2) σ H Q) : tOp r (tD X W true fa) (tD X W true fb) σ H Q := by
  obtain ⟨me, B, δ, S, h⟩ := tD_iff.mp h
  refine tD.mono (part S h) fun v H1 ⟨r1, e1, S1, s1, t1, _, h1⟩ => ?_
  refine tD.mono (part (g := fun y => g r1.2 y.2) S1 h1) fun u H2 ⟨r2, e2, S2, s2, t2, _, h2⟩ => ?_
  cases e : g r1.2 r2.2 with
  | ok r =>
    rw [e] at h2
    exact hs lk (Hid B σ δ) H2 v u r1.2 r2.2 Q r.1 r.2 S2.softH S2.know (t1.mono s2 (vis_mono s2)) t2 e h2
  | exc c => exact absurd e (hn _ _ _)
  | stuck => rw [e] at h2; exact h2.elim
variable {a b : Expr} {pos : Pos} {fa fb : Dst → R (Bool × D)}
theorem d_op2 {op : Operator} {r : R2} {g : D → D → R (Bool × D)} (ho : OpR X (binaryOp op) r) (hs : Sem2 W r g) (hn : NoExc2 g) (ha : PE X a (tD X W true fa)) (hb : PE X b (tD X W true fb)) :
    PE X (.BinOp a op b pos) (tD X W lk fun δ => (fa δ).bind fun x => (fb δ).bind fun y => g x.2 y.2) :=
  PE.imp (pe_op ho ha hb) fun _ _ _ h => tOp_of hs hn h
theorem d_cmp {op : CmpOp} {r : R2} {g : D → D → R (Bool × D)} (ho : OpR X (compareOp op) r) (hs : Sem2 W r g) (hn : NoExc2 g) (ha : PE X a (tD X W true fa)) (hb : PE X b (tD X W true fb)) (hm : behindInMarks op b = false) :
    PE X (.Compare a [op] [b] pos) (tD X W lk fun δ => (fa δ).bind fun x => (fb δ).bind fun y => g x.2 y.2) :=
  PE.imp (pe_cmpR ho ha hb hm) fun _ _ _ h => tOp_of hs hn h
theorem d_var {i : Nat} {x : Str} (hN : X.N[i]? = some x) (hv : Vis X.env.scope x) (hd : (x == ("__debug__" : Str)) = false) (hcd : (x == ("__classdict__" : Str)) = false) (o : Orc) : PE X (.Name x pos) (tD X W lk fun δ => ev o δ lk (.var i)) := by
  refine PE.imp (pe_var hN hv hd hcd) fun σ H Q h => ?_
  obtain ⟨me, B, δ, S, h⟩ := tD_iff.mp h
  unfold After at h
  simp only [ev] at h
  cases e : δ[i]? with
  | none => simp only [e] at h
  | some q =>
    cases q with
    | none => simp only [e] at h
    | some q =>
      obtain ⟨w, d⟩ := q
      cases w with
      | sh =>
        simp only [e] at h
        obtain ⟨v, h1, h2⟩ := S.sh i d e
        exact ⟨v, h1, h v H (Same.refl H) (.shared h2)⟩
      | ow =>
        simp only [e] at h
        obtain ⟨a, h1, h2, _⟩ := S.ow i d e
        refine ⟨_, h1, ?_⟩
        cases lk with
        | false => exact h.elim
        | true => exact h _ H (Same.refl H) h2.top
      | me =>
        simp only [e] at h
        obtain ⟨_, a, _, h1, h2, _⟩ := S.mi i d e
        refine ⟨_, h1, ?_⟩
        cases lk with
        | false => exact h.elim
        | true => exact h _ H (Same.refl H) h2.top
theorem d_cst {e : Expr} {v : V} {d : D} (he : PE X e (tC v)) (hr : ∀ G, Rep W G d v) (o : Orc) : PE X e (tD X W lk fun δ => ev o δ lk (.cst d)) := by
  refine PE.imp he fun σ H Q h => ?_
  obtain ⟨me, B, δ, S, h⟩ := tD_iff.mp h
  unfold After at h
  simp only [ev] at h
  exact h v H (Same.refl H) (.shared (hr _))
theorem repT_int {P G : Hp} {i : Int} {x : V} (h : RepT W P G (.int i) x) : x = .int i := by simpa only [RepT, Rep] using h
theorem res_int {P : Addr → Prop} {i : Int} : Res W P lk H H' false (.int i) (.int i) := .shared (by simp only [Rep])
theorem res_bl {P : Addr → Prop} {i : Bool} : Res W P lk H H' false (.bl i) (.bl i) := .shared (by simp only [Rep])
theorem res_str {P : Addr → Prop} {i : List Nat} (h : i.length ≤ 16777216) : Res W P lk H H' false (.str i) (.str (strV i)) := .shared (by simp only [Rep]; exact ⟨trivial, h⟩)
theorem repT_str {P G : Hp} {i : List Nat} {x : V} (h : RepT W P G (.str i) x) : x = .str (strV i) ∧ i.length ≤ 16777216 := by simpa only [RepT, Rep] using h
theorem bits_eq (i : Int) : bits i = Builtin.Int.intBits i := by
  unfold bits Builtin.Int.intBits
  by_cases h : i = 0
  · simp [h]
  · simp [h]
theorem mulOk_ok {a b : Int} (h : mulOk a b = true) : IntMulOk a b := by
  unfold mulOk at h
  simp only [Bool.or_eq_true, decide_eq_true_eq, bits_eq] at h
  rcases h with (h | h) | h
  · exact .of_left h
  · exact .of_right h
  · unfold IntMulOk Builtin.Int.intTooBig
    intro z
    simp only [Bool.and_eq_true, decide_eq_true_eq] at z
    have : bitsLine = 134217728 := rfl
    omega
theorem chk_ok {α : Type} {b : Bool} {x : R α} {y : α} (h : R.chk b x = .ok y) : b = true ∧ x = .ok y := by
  unfold R.chk at h
  cases b with
  | true => exact ⟨rfl, by simpa using h⟩
  | false => simp at h
theorem of_ok {α : Type} {x : Option α} {y : α} (h : R.of x = .ok y) : x = some y := by
  cases x with
  | none => simp [R.of] at h
  | some z => simp [R.of] at h; rw [h]
theorem of_noexc {α : Type} {x : Option α} {c : Nat} : R.of x ≠ .exc c := by cases x <;> simp [R.of]
theorem chk_noexc {α : Type} {b : Bool} {x : R α} {c : Nat} (h : x ≠ .exc c) : R.chk b x ≠ .exc c := by unfold R.chk; cases b <;> simp [h]
theorem arith_noexc (p : O2) (a b : Int) (c : Nat) : arith p a b ≠ .exc c := by
  cases p <;> simp [arith, R.chk] <;> split <;> simp
theorem o2_noexc (p : O2) : NoExc2 (o2 p) := by
  intro x y c
  cases p <;> simp only [o2] <;> first
    | exact of_noexc
    | (split
       · exact arith_noexc _ _ _ _
       · first | exact chk_noexc (by simp) | simp
       · first | exact chk_noexc (by simp) | simp
       · first | exact chk_noexc (by simp) | simp
       · simp)
    | (split
       · split <;> simp
       · split <;> simp
       · simp)
theorem sem_int {p : O2} {C : Int → Int → Prop} {g : Int → Int → V} (h1 : ∀ x y r, o2 p x y = .ok r → ∃ i j, x = .int i ∧ y = .int j ∧ arith p i j = .ok r)
    (h2 : ∀ i j r, arith p i j = .ok r → C i j ∧ r.1 = false ∧ ∀ G, Rep W G r.2 (g i j)) : Sem2 W (rI C g) (o2 p) := by
  intro lk P H x y dx dy Q w d hS hK hx hy e k
  obtain ⟨i, j, rfl, rfl, e'⟩ := h1 _ _ _ e
  obtain ⟨hc, hw, hr⟩ := h2 _ _ _ e'
  have hw : w = false := hw
  subst hw
  exact ⟨i, j, repT_int hx, repT_int hy, hc, k _ H (Same.refl H) (.shared (hr _))⟩
theorem sem_int0 {p : O2} {g : Int → Int → V} (h1 : ∀ x y r, o2 p x y = .ok r → ∃ i j, x = .int i ∧ y = .int j ∧ arith p i j = .ok r)
    (h2 : ∀ i j r, arith p i j = .ok r → r.1 = false ∧ ∀ G, Rep W G r.2 (g i j)) : Sem2 W (rI0 g) (o2 p) := by
  intro lk P H x y dx dy Q w d hS hK hx hy e k
  obtain ⟨i, j, rfl, rfl, e'⟩ := h1 _ _ _ e
  obtain ⟨hw, hr⟩ := h2 _ _ _ e'
  have hw : w = false := hw
  subst hw
  exact ⟨i, j, repT_int hx, repT_int hy, k _ H (Same.refl H) (.shared (hr _))⟩
theorem int_only {p : O2} (hp : p = .sub ∨ p = .mul ∨ p = .fdiv ∨ p = .mod ∨ p = .pow ∨ p = .gt ∨ p = .ge) : ∀ x y r, o2 p x y = .ok r → ∃ i j, x = .int i ∧ y = .int j ∧ arith p i j = .ok r := by
  intro x y r h
  rcases hp with rfl | rfl | rfl | rfl | rfl | rfl | rfl <;> simp only [o2] at h <;>
    (split at h <;> first
      | exact ⟨_, _, rfl, rfl, h⟩
      | cases h)
theorem sem_sub : Sem2 W (rI0 fun i j => .int (i - j)) (o2 .sub) := sem_int0 (int_only (by simp)) fun i j r h => by
  simp only [arith] at h; cases h
  exact ⟨rfl, fun G => by simp only [Rep]⟩
theorem sem_mul : Sem2 W (rI IntMulOk fun i j => .int (i * j)) (o2 .mul) := sem_int (int_only (by simp)) fun i j r h => by
  simp only [arith] at h
  obtain ⟨h1, h⟩ := chk_ok h; cases h
  exact ⟨mulOk_ok h1, rfl, fun G => by simp only [Rep]⟩
theorem op_mulZ : OpR X (binaryOp .Mult) (rI IntMulOk fun i j => .int (i * j)) := opI fun _ _ _ _ _ _ _ hc q => PyProof.Rows.mul_int q hc
noncomputable def CDivZ (_ j : Int) : Prop := j ≠ 0 ∧ j.natAbs.log2 < 9000
theorem sem_fdiv : Sem2 W (rI CDivZ fun i j => .int (i.fdiv j)) (o2 .fdiv) := sem_int (int_only (by simp)) fun i j r h => by
  simp only [arith] at h
  obtain ⟨h1, h⟩ := chk_ok h; cases h
  simp only [Bool.and_eq_true, decide_eq_true_eq] at h1
  exact ⟨h1, rfl, fun G => by simp only [Rep]⟩
theorem op_fdivZ : OpR X (binaryOp .FloorDiv) (rI CDivZ fun i j => .int (i.fdiv j)) := opI fun _ _ _ _ _ _ _ hc q => floordiv_int hc.1 q (.inl (PyProof.noPylong_of_log2 hc.2))
theorem sem_mod : Sem2 W (rI (fun _ j => j ≠ 0) fun i j => .int (i.fmod j)) (o2 .mod) := sem_int (int_only (by simp)) fun i j r h => by
  simp only [arith] at h
  obtain ⟨h1, h⟩ := chk_ok h; cases h
  simp only [decide_eq_true_eq] at h1
  exact ⟨h1, rfl, fun G => by simp only [Rep]⟩
theorem sem_pow : Sem2 W (rI CPow fun i j => .int (i ^ j.toNat)) (o2 .pow) := sem_int (int_only (by simp)) fun i j r h => by
  simp only [arith] at h
  obtain ⟨h1, h⟩ := chk_ok h; cases h
  simp only [Bool.and_eq_true, decide_eq_true_eq] at h1
  refine ⟨⟨h1.1.1, by omega, by have := h1.2; omega⟩, rfl, fun G => by simp only [Rep]⟩
theorem sem_gt : Sem2 W (rI0 fun i j => .bl (decide (j < i))) (o2 .gt) := sem_int0 (int_only (by simp)) fun i j r h => by
  simp only [arith] at h; cases h
  exact ⟨rfl, fun G => by simp only [Rep]⟩
theorem sem_ge : Sem2 W (rI0 fun i j => .bl (decide (j ≤ i))) (o2 .ge) := sem_int0 (int_only (by simp)) fun i j r h => by
  simp only [arith] at h; cases h
  exact ⟨rfl, fun G => by simp only [Rep]⟩
theorem truth_bl (b : Bool) : truth (.bl b) = some b := rfl
noncomputable def tT (X : Cx) (W : Wd) (f : Dst → R (Bool × D)) : TT := fun σ H Q => ∃ me B δ, SR X W me B H σ δ ∧ match (f δ).bind (fun x => R.of (truth x.2)) with
  | .ok b => ∀ H', Same H H' → Q b H'
  | .exc c => EW X W σ H c
  | .stuck => False
theorem truV {H G : Hp} {d : D} {v : V} {b : Bool} (g : Same G H) (e : truth d = some b) (h : RepT W H G d v) : TruV W.K v H b := by
  cases d with
  | non => simp only [RepT, Rep] at h; subst h; simp only [truth, Option.some.injEq] at e; exact e.symm
  | bl x => simp only [RepT, Rep] at h; subst h; simp only [truth, Option.some.injEq] at e; exact e.symm
  | int i =>
    simp only [RepT, Rep] at h; subst h
    simp only [truth, Option.some.injEq] at e
    show b = (i != 0)
    rw [← e]; by_cases hi : i = 0 <;> simp [hi]
  | str x =>
    obtain ⟨rfl, hl⟩ := repT_str h
    simp only [truth, Option.some.injEq] at e
    refine ⟨by simpa [strV, Str.length, sizeLine_eq] using hl, ?_⟩
    rw [← e]; cases x <;> simp [strV, Str.length] <;> omega
  | tup l =>
    simp only [RepT, Rep] at h
    obtain ⟨a, xs, rfl, h1, h2⟩ := h
    simp only [truth, Option.some.injEq] at e
    refine .inr (.inl ⟨xs, same_tup g h1, ?_⟩)
    have := h2.length
    rw [← e]; cases l <;> cases xs <;> simp at this ⊢
  | lst l =>
    obtain ⟨a, xs, rfl, h1, h2⟩ := h
    simp only [truth, Option.some.injEq] at e
    refine .inl ⟨xs, h1, ?_⟩
    have := h2.length
    rw [← e]; cases l <;> cases xs <;> simp at this ⊢
  | dct ks vs =>
    obtain ⟨a, kvs, rfl, ⟨ep, h1⟩, h2, h3, h4⟩ := h
    simp only [truth, Option.some.injEq] at e
    refine .inr (.inr ⟨kvs, ep, h1, ?_⟩)
    have := congrArg List.length h2
    rw [← e]; cases ks <;> cases kvs <;> simp at this ⊢
  | obj c ns vs => simp [truth] at e
  | err c => simp [truth] at e
theorem dt_val {e : Expr} {f : Dst → R (Bool × D)} (h : PE X e (tD X W true f)) (he : ∀ whole, isTrue e X.env whole = (do let v ← whole; standAt e.pos; holding [v] (truthy v))) : PT X e (tT X W f) := by
  refine PT.imp (pt_truth h he) fun σ H Q h => ?_
  obtain ⟨me, B, δ, S, h⟩ := h
  refine tD_iff.mpr ⟨me, B, δ, S, ?_⟩
  unfold After
  cases e : f δ with
  | ok r =>
    simp only [e, R.bind] at h
    cases e2 : truth r.2 with
    | none => simp only [e2, R.of] at h
    | some b =>
      simp only [e2, R.of] at h
      intro v H' s q
      exact ⟨b, S.kf ▸ truV vis_le e2 q.look, h H' s⟩
  | exc c => simp only [e, R.bind] at h; exact h
  | stuck => simp only [e, R.bind] at h
theorem tT_tD {f : Dst → R (Bool × D)} {σ : L2.St} {H : Hp} {Q : Bool → Hp → Prop} (hb : ∀ δ r, f δ = .ok r → ∃ b, r = (false, .bl b)) (h : tT X W f σ H Q) : tD X W true f σ H fun x H' => ∃ k, x = .bl k ∧ Q k H' := by
  obtain ⟨me, B, δ, S, h⟩ := h
  refine tD_iff.mpr ⟨me, B, δ, S, ?_⟩
  unfold After
  cases e : f δ with
  | ok r =>
    obtain ⟨b, rfl⟩ := hb δ r e
    simp only [e, R.bind, truth, R.of] at h
    intro v H' s q
    have := q.look
    simp only [RepT, Rep] at this
    exact ⟨b, this, h H' s⟩
  | exc c => simp only [e, R.bind] at h; exact h
  | stuck => simp only [e, R.bind] at h
theorem bind_bl {x : R (Bool × D)} {g : Bool × D → R (Bool × D)} {r : Bool × D} (h : x.bind g = .ok r) : ∃ y, x = .ok y ∧ g y = .ok r := by
  cases x with
  | ok y => exact ⟨y, rfl, h⟩
  | exc c => cases h
  | stuck => cases h
theorem dt_cmp {op : CmpOp} {r : R2} {g : D → D → R (Bool × D)} (ho : OpR X (compareOp op) r) (hs : Sem2 W r g) (hn : NoExc2 g) (hbl : ∀ x y r, g x y = .ok r → ∃ b, r = (false, .bl b)) (ha : PE X a (tD X W true fa)) (hb : PE X b (tD X W true fb)) (hm : behindInMarks op b = false) :
    PT X (.Compare a [op] [b] pos) (tT X W fun δ => (fa δ).bind fun x => (fb δ).bind fun y => g x.2 y.2) := by
  refine PT.imp (pt_cmpR ho ha hb hm) fun σ H Q h => ?_
  refine tOp_of (lk := true) hs hn (tT_tD (fun δ r e => ?_) h)
  obtain ⟨y, _, e⟩ := bind_bl e
  obtain ⟨z, _, e⟩ := bind_bl e
  exact hbl _ _ _ e
theorem tT.mono {f : Dst → R (Bool × D)} {σ : L2.St} {H : Hp} {Q Q' : Bool → Hp → Prop} (h : tT X W f σ H Q) (k : ∀ b H', Q b H' → Q' b H') : tT X W f σ H Q' := by
  obtain ⟨me, B, δ, S, h⟩ := h
  refine ⟨me, B, δ, S, ?_⟩
  cases e : (f δ).bind (fun x => R.of (truth x.2)) with
  | ok b => rw [e] at h; exact fun H' s => k _ _ (h H' s)
  | exc c => rw [e] at h; exact h
  | stuck => rw [e] at h; exact h
theorem dt_not (ha : PT X a (tT X W fa)) : PT X (.UnaryOp .Not a pos) (tT X W fun δ => (fa δ).bind fun x => (R.of (truth x.2)).bind fun b => .ok (false, .bl !b)) := by
  refine PT.imp (pt_not ha) fun σ H Q h => ?_
  obtain ⟨me, B, δ, S, h⟩ := h
  refine ⟨me, B, δ, S, ?_⟩
  cases e : fa δ with
  | ok r =>
    simp only [e, R.bind] at h ⊢
    cases e2 : truth r.2 with
    | none => simp only [e2, R.of] at h
    | some b =>
      simp only [e2, R.of, truth_bl] at h ⊢
      exact h
  | exc c => simp only [e, R.bind] at h ⊢; exact h
  | stuck => simp only [e, R.bind] at h
theorem d_not {f : Dst → R (Bool × D)} (ha : PE X a (tD X W true f)) : PE X (.UnaryOp .Not a pos) (tD X W lk fun δ => (f δ).bind fun x => (R.of (truth x.2)).bind fun b => .ok (false, .bl !b)) := by
  intro pins s σ H Q I h
  obtain ⟨me, B, δ, S, h⟩ := tD_iff.mp h
  refine UnaryOp_ (thn (ha pins s σ H _ I (part S h)) fun v s1 ⟨x, H1, I1, r1, r, e, S1, s1', t1, _, h1⟩ => ?_)
  cases e2 : truth r.2 with
  | none => simp only [e2, R.of, R.bind, After] at h1
  | some b =>
    simp only [e2, R.of, R.bind, After] at h1
    refine not_of (thn (tru_ok pins s1 σ H1 x v (fun k H' => k = b ∧ H' = H1) I1 r1 ⟨b, S.kf ▸ truV vis_le e2 t1, rfl, rfl⟩) fun k s2 ⟨H2, I2, hk, hH⟩ => ?_)
    subst hk hH
    exact ⟨.bl (!k), H2, I2, rfl, h1 _ H2 (Same.refl _) res_bl⟩
end
end Z

namespace Z
open PySem PySem.Spec PyProof.Rows L2
theorem dict_mapFields (o : Obj) (f : Array Value → Array Value) : (o.mapFields f).dict = o.dict := by
  cases o with
  | mk c d dt sl => cases dt <;> rfl
theorem there_of {P : Program} {w : World} {H : Hp} {h : Heap} {a : Addr} : ∀ {o : HO}, ObjOk P w H h a o → ∃ ob, h.get? a = some ob
  | .lst _, x => let ⟨_, _, _, _, e⟩ := x; ⟨_, e⟩
  | .tup _, x => let ⟨_, _, _, ob, e, _⟩ := x; ⟨ob, e⟩
  | .dK _ _, x => let ⟨_, _, _, _, ob, _, e, _⟩ := x; ⟨ob, e⟩
  | .dT _, x => let ⟨_, _, _, _, ob, _, _, e, _⟩ := x; ⟨ob, e⟩
  | .set _ _, x => let ⟨ob, _, _, _, e, _⟩ := x; ⟨ob, e⟩
  | .ins _ _ _, x => let ⟨_, _, _, e, _⟩ := x; ⟨_, e⟩
  | .own _, x => x
  | .xd _, x => let ⟨_, ⟨ob, _, _, e, _⟩, _⟩ := x; ⟨ob, e⟩
  | .rng _ _, x => let ⟨_, _, _, e⟩ := x; ⟨_, e⟩
  | .frz _ _, x => ⟨_, x.1⟩
  | .tbl _, x => ⟨_, x⟩
  | .met _ _, x => ⟨_, x⟩
  | .ext _, x => x.2.1
noncomputable def ExcAt (h h0 : Heap) (H' : Hp) (a : Addr) (cls : Value) (tr : Bool) : Prop := ∃ oe vs, h.get? a = some oe ∧ (oe.cls = cls ∧ oe.dict = none) ∧ oe.data = .fields vs ∧ 1 < vs.size ∧
  ((tr = false ∧ vs[1]? = some .none) ∨ ∃ T oT ts, vs[1]? = some (.ref T) ∧ T ≠ a ∧ h0.get? T = none ∧ H' T = none ∧ h.get? T = some oT ∧ oT.data = .fields ts ∧ 3 < ts.size)
structure Fly (X : Cx) (H : Hp) (s : Shared) (cls : Value) (a : Addr) (H' : Hp) (s' : Shared) (tr : Bool) : Prop where
  os : s'.os = s.os
  bare : AllBare s'.gens
  un : Un (frs X.stack) [] H H' s.heap s'.heap
  hok : HOk X.prog X.w H' s'.heap
  newE : s.heap.get? a = none
  freeE : H' a = none
  ff : s'.heap.FunFrames X.base X.stack
  fr : ∀ b ∈ frs X.stack, H' b = none
  exc : ExcAt s'.heap s.heap H' a cls tr
section
variable {X : Cx} {H H' : Hp} {s s' : Shared} {cls : Value} {a : Addr} {tr tr' : Bool} {h' : Heap}
theorem Fly.step (F : Fly X H s cls a H' s' tr) (T : Addr → Prop) (hT : ∀ b, T b → s.heap.get? b = none ∧ H' b = none)
    (keep : ∀ b o, b ≠ a → ¬ T b → b ∉ frs X.stack → s'.heap.get? b = some o → h'.get? b = some o) (slot : ∀ b o, b ∈ frs X.stack → s'.heap.get? b = some o → ∃ sl, h'.get? b = some { o with slots := sl })
    (ex : ExcAt h' s.heap H' a cls tr') : Fly X H s cls a H' { s' with heap := h' } tr' := by
  have old : ∀ b o, s.heap.get? b = some o → b ≠ a ∧ ¬ T b := fun b o e => ⟨fun z => (by rw [z, F.newE] at e; cases e), fun z => (by rw [(hT b z).1] at e; cases e)⟩
  have all : ∀ b o, s.heap.get? b = some o → ∀ o', s'.heap.get? b = some o' → ∃ o'', h'.get? b = some o'' := fun b o e o' e' => by
    by_cases hb : b ∈ frs X.stack
    · obtain ⟨sl, q⟩ := slot b o' hb e'; exact ⟨_, q⟩
    · exact ⟨_, keep b o' (old b o e).1 (old b o e).2 hb e'⟩
  refine ⟨F.os, F.bare, ⟨fun b o e n hb hx => ?_, fun b o e n hb hx => ?_, F.un.free, fun b o e hx => ?_, F.un.tups, F.un.frzs, F.un.tbls⟩, fun b o e => ?_, F.newE, F.freeE, ?_, F.fr, ex⟩
  · exact keep b o (old b o e).1 (old b o e).2 hb (F.un.keep b o e n hb hx)
  · obtain ⟨sl, q⟩ := F.un.slot b o e n hb hx
    obtain ⟨sl', q'⟩ := slot b _ hb q
    exact ⟨sl', q'⟩
  · obtain ⟨o', q⟩ := F.un.there b o e hx
    exact all b o e o' q
  · refine (F.hok b o e).stay (fun c u hc q => keep c u ?_ ?_ ?_ q) (fun _ q => q) fun _ _ q => q
    · intro z
      rcases hc with rfl | hc
      · rw [z, F.freeE] at e; cases e
      · rw [z, F.freeE] at hc; cases hc
    · intro z
      have := (hT c z).2
      rcases hc with rfl | hc
      · rw [this] at e; cases e
      · rw [this] at hc; cases hc
    · intro z
      have := F.fr c z
      rcases hc with rfl | hc
      · rw [this] at e; cases e
      · rw [this] at hc; cases hc
  · have go : ∀ l : List Env, (∀ b ∈ frs l, b ∈ frs X.stack) → s'.heap.FunFrames X.base l → h'.FunFrames X.base l := by
      intro l
      induction l with
      | nil => intro _ _; trivial
      | cons env r ih =>
        intro hs ⟨hk, ⟨L, o, hf, hn, ho, hd⟩, hr⟩
        have e : frs (env :: r) = L :: frs r := by unfold frs; rw [List.filterMap_cons, hf]
        rw [e] at hs
        obtain ⟨sl, q⟩ := slot L o (hs L List.mem_cons_self) ho
        exact ⟨hk, ⟨L, _, hf, hn, q, hd⟩, ih (fun b hb => hs b (List.mem_cons_of_mem _ hb)) hr⟩
    exact go X.stack (fun _ z => z) F.ff
variable {M : Model} {E : Value → Shared → Prop} {Q : Unit → Shared → Prop}
structure Top (X : Cx) (L : Addr) : Prop where
  stk : X.stack = X.env :: X.outer
  fr : X.env.frame = some L
  frames : X.A.frames = some X.stack
theorem entry_ok {L : Addr} {head : Value} {hn : Bool} {vs : Array Value} {oe : Obj} (hX : Top X L) (F : Fly X H s cls a H' s' tr) (he : s'.heap.get? a = some oe) (hc : oe.cls = cls ∧ oe.dict = none) (hd : oe.data = .fields vs) (hsz : 1 < vs.size)
    (hQ : ∀ h', Fly X H s cls a H' { s' with heap := h' } true → Q () { s' with heap := h' }) :
    wpAny M X.A (do setField (.ref a) 1 (← EntryCells.newEntry head (← frameOf X.env) .none (rawInt L) .none (← entryPlaceOf L hn))) Q E s' := by
  have hfr := hX.frames
  rw [hX.stk] at hfr
  have hff := F.ff
  rw [hX.stk] at hff
  have hmem : (X.env :: X.outer).filterMap (·.frame) = frs X.stack := by rw [hX.stk]; rfl
  have haf : a ∉ frs X.stack := fun z => by
    obtain ⟨_, o, ho, hnf⟩ := F.ff.mem z
    rw [he] at ho; cases ho
    exact hnf vs hd
  refine wpAny_bind (wpAny_frameOf_fun hfr hff hX.fr fun h1 hs1 => ?_)
  rw [hmem] at hs1
  refine wpAny_bind (wpAny_entryPlaceOf fun pl hpl => ?_)
  unfold EntryCells.newEntry newFields
  refine wpAny_bind (wpAny_newObj_type ?_ (hpl.sizeOk5 _ _ _ _ _))
  have he1 : h1.get? a = some oe := by rw [hs1.2.1 a haf]; exact he
  generalize hnob : ({ cls := .type "traceback", dict := none, data := .fields ([head, .ref L, .none, rawInt L, .none] ++ (if pl.isEmpty then List.replicate 6 Value.none else pl)).toArray } : Obj) = nob
  have hnd : ∃ ts, nob.data = .fields ts ∧ 3 < ts.size := by rw [← hnob]; exact ⟨_, rfl, by simp⟩
  have hnew : s'.heap.get? h1.objs.size = none := Heap.get?_none_of_le (by rw [hs1.1]; exact Nat.le_refl _)
  have hTa : h1.objs.size ≠ a := fun z => by rw [z, he] at hnew; cases hnew
  have he2 : (h1.push nob).get? a = some oe := Heap.get?_push_of_some _ he1
  refine wpAny_setField he2 hd hsz (hQ _ (F.step (fun b => b = h1.objs.size) (fun b z => ?_) (fun b o h1' h2 h3 q => ?_) (fun b o hb q => ?_) ?_))
  · subst z
    refine ⟨?_, F.hok.fresh (by rw [hs1.1]; exact Nat.le_refl _)⟩
    cases e : s.heap.get? h1.objs.size with
    | none => rfl
    | some o => obtain ⟨o', q⟩ := F.un.there _ o e (by simp); rw [hnew] at q; cases q
  · rw [Heap.get?_update_other _ _ (Ne.symm h1')]
    exact Heap.get?_push_of_some _ (by rw [hs1.2.1 b h3]; exact q)
  · obtain ⟨sl, q'⟩ := hs1.2.2 b o q
    have hba : b ≠ a := fun z => haf (z ▸ hb)
    exact ⟨sl, by rw [Heap.get?_update_other _ _ (Ne.symm hba)]; exact Heap.get?_push_of_some _ q'⟩
  · obtain ⟨ts, hts, h3⟩ := hnd
    have hd3 := Obj.data_mapFields hd (·.setIfInBounds 1 (Value.ref h1.objs.size))
    refine ⟨_, _, Heap.get?_update_self _ he2 (Obj.isFreed_of_fields hd3), ⟨by rw [Obj.cls_mapFields]; exact hc.1, by rw [dict_mapFields]; exact hc.2⟩, hd3, by simpa using hsz, .inr ⟨h1.objs.size, nob, ts, by simp [hsz], hTa, ?_, F.hok.fresh (by rw [hs1.1]; exact Nat.le_refl _), ?_, hts, h3⟩⟩
    · cases e : s.heap.get? h1.objs.size with
      | none => rfl
      | some o => obtain ⟨o', q⟩ := F.un.there _ o e (by simp); rw [hnew] at q; cases q
    · rw [Heap.get?_update_other _ _ (Ne.symm hTa)]
      exact Heap.get?_push_size _ (by rw [← hnob]; rfl)
theorem note_ok {L : Addr} (hX : Top X L) (F : Fly X H s cls a H' s' tr) (hQ : ∀ h', Fly X H s cls a H' { s' with heap := h' } true → Q () { s' with heap := h' }) : wpAny M X.A (noteFrame (.ref a) X.env) Q E s' := by
  obtain ⟨oe, vs, he, hc, hd, hsz, hx⟩ := F.exc
  unfold noteFrame
  simp only [hX.fr]
  rcases hx with ⟨_, h1⟩ | ⟨T, oT, ts, h1, hTa, hTn, hTf, hT, hTd, h3⟩
  · refine wpAny_bind (wpAny_field he hd h1 ?_)
    rw [if_neg (by decide)]
    exact entry_ok hX F he hc hd hsz hQ
  · have h3' : ts[3]? = some ts[3] := Array.getElem?_eq_getElem h3
    refine wpAny_bind (wpAny_field he hd h1 ?_)
    rw [if_pos (by simp : (Value.ref T != Value.none) = true)]
    refine wpAny_bind (wpAny_field hT hTd h3' ?_)
    by_cases hq : (ts[3] == rawInt L) = true
    · rw [if_pos hq]
      refine wpAny_pure ?_
      have F' : Fly X H s cls a H' s' true := ⟨F.os, F.bare, F.un, F.hok, F.newE, F.freeE, F.ff, F.fr, oe, vs, he, hc, hd, hsz, .inr ⟨T, oT, ts, h1, hTa, hTn, hTf, hT, hTd, h3⟩⟩
      exact hQ s'.heap F'
    · rw [if_neg hq]
      refine wpAny_bind (wpAny_setField hT hTd h3 ?_)
      have oth : ∀ b, b ≠ T → (s'.heap.update T (Obj.mapFields (·.setIfInBounds 3 Value.none))).get? b = s'.heap.get? b := fun b hb => Heap.get?_update_other _ _ (Ne.symm hb)
      have hTfr : T ∉ frs X.stack := fun z => by
        obtain ⟨_, o, ho, hnf⟩ := F.ff.mem z
        rw [hT] at ho; cases ho
        exact hnf ts hTd
      have he' : (s'.heap.update T (Obj.mapFields (·.setIfInBounds 3 Value.none))).get? a = some oe := by rw [oth a (Ne.symm hTa)]; exact he
      have F' : Fly X H s cls a H' { s' with heap := s'.heap.update T (Obj.mapFields (·.setIfInBounds 3 Value.none)) } true := by
        refine F.step (fun b => b = T) (fun b z => by subst z; exact ⟨hTn, hTf⟩) (fun b o _ h2 _ q => by rw [oth b h2]; exact q) (fun b o hb q => ⟨o.slots, by rw [oth b (fun z => hTfr (z ▸ hb))]; exact q⟩) ?_
        have hd3 := Obj.data_mapFields hTd (·.setIfInBounds 3 Value.none)
        exact ⟨oe, vs, he', hc, hd, hsz, .inr ⟨T, _, _, h1, hTa, hTn, hTf, Heap.get?_update_self _ hT (Obj.isFreed_of_fields hd3), hd3, by simpa using h3⟩⟩
      exact entry_ok hX F' he' hc hd hsz hQ
theorem flight_ok {f : Option Addr} (F : Fly X H s cls a H' s' true) (hQ : ∀ h', Fly X H s cls a H' { s' with heap := h' } true → Q () { s' with heap := h' }) : wpAny M X.A (setFlight (.ref a) f) Q E s' := by
  obtain ⟨oe, vs, he, hc, hd, hsz, hx⟩ := F.exc
  rcases hx with ⟨h0, _⟩ | ⟨T, oT, ts, h1, hTa, hTn, hTf, hT, hTd, h3⟩
  · cases h0
  · unfold setFlight
    refine wpAny_bind (wpAny_field he hd h1 ?_)
    rw [if_pos (by simp : (Value.ref T != Value.none) = true)]
    refine wpAny_setField hT hTd h3 (hQ _ ?_)
    generalize (f.elim Value.none fun f => rawInt f) = z
    have oth : ∀ b, b ≠ T → (s'.heap.update T (Obj.mapFields (·.setIfInBounds 3 z))).get? b = s'.heap.get? b := fun b hb => Heap.get?_update_other _ _ (Ne.symm hb)
    have hTfr : T ∉ frs X.stack := fun z => by
      obtain ⟨_, o, ho, hnf⟩ := F.ff.mem z
      rw [hT] at ho; cases ho
      exact hnf ts hTd
    refine F.step (fun b => b = T) (fun b z => by subst z; exact ⟨hTn, hTf⟩) (fun b o _ h2 _ q => by rw [oth b h2]; exact q) (fun b o hb q => ⟨o.slots, by rw [oth b (fun z => hTfr (z ▸ hb))]; exact q⟩) ?_
    have hd3 := Obj.data_mapFields hTd (·.setIfInBounds 3 z)
    exact ⟨oe, vs, by rw [oth a (Ne.symm hTa)]; exact he, hc, hd, hsz, .inr ⟨T, _, _, h1, hTa, hTn, hTf, Heap.get?_update_self _ hT (Obj.isFreed_of_fields hd3), hd3, by simpa using h3⟩⟩
theorem back_ok {P : Value → Shared → Prop} (F : Fly X H s cls a H' s' true) (hQ : ∀ h', Fly X H s cls a H' { s' with heap := h' } true → P (.ref a) { s' with heap := h' }) : cameBackBy M X.A X.env P (.ref a) s' := by
  obtain ⟨oe, vs, he, hc, hd, hsz, hx⟩ := F.exc
  rcases hx with ⟨h0, _⟩ | ⟨T, oT, ts, h1, hTa, hTn, hTf, hT, hTd, h3⟩
  · cases h0
  · unfold cameBackBy
    refine wpAny_bind (wpAny_field he hd h1 ?_)
    rw [if_neg (by simp : ¬ (Value.ref T == Value.none) = true)]
    exact flight_ok F hQ
theorem passes_of {P : Value → Shared → Prop} {L : Addr} (hX : Top X L) (h1 : ∀ e s', P e s' → ∃ H s cls a H' tr, e = .ref a ∧ Fly X H s cls a H' s' tr ∧ ∀ h', Fly X H s cls a H' { s' with heap := h' } true → P e { s' with heap := h' }) : PassesOwn M X.A X.env P := by
  intro e s' hp
  obtain ⟨H, s, cls, a, H', tr, rfl, F, k⟩ := h1 e s' hp
  unfold notedBy
  refine note_ok hX F fun h' F' => ?_
  exact back_ok F' fun h'' F'' => k h'' F''
theorem leaving_ok {L : Addr} (hX : Top X L) (F : Fly X H s cls a H' s' tr) (hQ : ∀ h', Fly X H s cls a H' { s' with heap := h' } true → Q () { s' with heap := h' }) : wpAny M X.A (leaving X.env (.ref a)) Q E s' := by
  unfold leaving
  exact wpAny_bind (note_ok hX F fun h' F' => flight_ok F' hQ)
end
end Z

namespace Z
open PySem PySem.Spec PyProof.Rows L2
section
variable {X : Cx} {W : Wd} {σ : L2.St} {H H1 : Hp} {me : Option Addr} {B : Addr → Prop} {δ : Dst}
theorem SR.weaken {δ' : Dst} {σ' : L2.St} (hs : ∀ b, Hid B σ' δ' b → Hid B σ δ b) {d : D} {v : V} (h : Rep W (vis H (Hid B σ δ)) d v) : Rep W (vis H (Hid B σ' δ')) d v := h.mono (vis_sub hs)
theorem share1_get {i j : Nat} : (share1 δ i)[j]? = if j = i then (match δ[i]? with | some (some (.ow, d)) => some (some (.sh, d)) | x => x) else δ[j]? := by
  unfold share1
  cases e : δ[i]? with
  | none =>
    by_cases hj : j = i
    · subst hj; simp [e]
    · simp [hj]
  | some q =>
    have hi : i < δ.length := (List.getElem?_eq_some_iff.mp e).1
    cases q with
    | none =>
      by_cases hj : j = i
      · subst hj; simp [e]
      · simp [hj]
    | some q =>
      obtain ⟨w, d⟩ := q
      cases w with
      | ow =>
        by_cases hj : j = i
        · subst hj; simp [hi]
        · simp only [if_neg hj]; rw [List.getElem?_set_ne (Ne.symm hj)]
      | sh =>
        by_cases hj : j = i
        · subst hj; simp [e]
        · simp [hj]
      | me =>
        by_cases hj : j = i
        · subst hj; simp [e]
        · simp [hj]
theorem holds_share {i j : Nat} {a : Addr} (h : Holds1 σ (share1 δ i) j a) : Holds1 σ δ j a ∧ (j = i → ∀ d, δ[i]? ≠ some (some (.ow, d))) := by
  obtain ⟨⟨w, d, h1, h2⟩, h3⟩ := h
  rw [share1_get] at h1
  by_cases hj : j = i
  · subst hj
    rw [if_pos rfl] at h1
    split at h1
    · cases h1; exact absurd rfl h2
    · rename_i hne
      exact ⟨⟨⟨w, d, h1, h2⟩, h3⟩, fun _ d' e => hne d' e⟩
  · rw [if_neg hj] at h1
    exact ⟨⟨⟨w, d, h1, h2⟩, h3⟩, fun e => absurd e hj⟩
theorem SR.share1 (S : SR X W me B H σ δ) (i : Nat) : SR X W me B H σ (share1 δ i) := by
  have sub : ∀ b, Hid B σ (Z.share1 δ i) b → Hid B σ δ b := fun b hb => by
    rcases hb with hb | ⟨j, hb⟩
    · exact .inl hb
    · exact .inr ⟨j, (holds_share hb).1⟩
  refine ⟨S.kf, ?_, fun j d h => ?_, fun j d h => ?_, fun j d h => ?_, fun j k a h1 h2 => S.apart j k a (holds_share h1).1 (holds_share h2).1, S.same, S.soft, S.gone, S.live⟩
  · rw [S.len]
    unfold Z.share1
    split <;> simp
  · rw [share1_get] at h
    by_cases hj : j = i
    · subst hj
      rw [if_pos rfl] at h
      split at h
      · rename_i d' e
        cases h
        obtain ⟨a, h1, h2, h3, h4, h5⟩ := S.ow j d e
        refine ⟨.ref a, h1, (h2.mono (fun _ q => q) (vis_sub sub)).rep fun o q => vis_of q ?_⟩
        intro z
        rcases z with z | ⟨k, z⟩
        · exact h4 z
        · have hk := holds_share z
          have := S.apart k j a hk.1 ⟨⟨.ow, d, e, by decide⟩, h1⟩
          subst this
          exact hk.2 rfl d e
      · obtain ⟨v, h1, h2⟩ := S.sh j d h
        exact ⟨v, h1, h2.mono (vis_sub sub)⟩
    · rw [if_neg hj] at h
      obtain ⟨v, h1, h2⟩ := S.sh j d h
      exact ⟨v, h1, h2.mono (vis_sub sub)⟩
  · have h' : δ[j]? = some (some (.ow, d)) := by
      rw [share1_get] at h
      by_cases hj : j = i
      · subst hj
        rw [if_pos rfl] at h
        split at h
        · cases h
        · exact h
      · rw [if_neg hj] at h; exact h
    obtain ⟨a, h1, h2, h3⟩ := S.ow j d h'
    exact ⟨a, h1, h2.mono (fun _ q => q) (vis_sub sub), h3⟩
  · have h' : δ[j]? = some (some (.me, d)) := by
      rw [share1_get] at h
      by_cases hj : j = i
      · subst hj
        rw [if_pos rfl] at h
        split at h
        · cases h
        · exact h
      · rw [if_neg hj] at h; exact h
    obtain ⟨h0, a, h1, h2, h3, h4⟩ := S.mi j d h'
    exact ⟨h0, a, h1, h2, h3.mono (fun _ q => q) (vis_sub sub), h4⟩
theorem SR.share (is : List Nat) : ∀ {δ : Dst}, SR X W me B H σ δ → SR X W me B H σ (share δ is) := by
  induction is with
  | nil => intro δ S; exact S
  | cons i l ih => intro δ S; exact ih (S.share1 i)
theorem SR.evF (S : SR X W me B H σ δ) (o : Orc) (t : T) : SR X W me B H σ (Z.evF o δ t).1 ∧ (Z.evF o δ t).2 = ev o (Z.evF o δ t).1 false t := by
  unfold Z.evF
  split
  · exact ⟨S.share _, rfl⟩
  · exact ⟨S, rfl⟩
theorem SR.store {i : Nat} {w : Bool} {d : D} {v : V} (S : SR X W me B H σ δ) (s : Same H H1) (r : Res W (Hid B σ δ) false H H1 w d v) (hi : i < δ.length) :
    SR X W me B H1 (σ.set i (some v)) (δ.set i (some (if w then .ow else .sh, d))) ∧ Same (vis H (Hid B σ δ)) (vis H1 (Hid B (σ.set i (some v)) (δ.set i (some (if w then .ow else .sh, d))))) := by
  have hiσ : i < σ.length := by rw [S.len]; exact hi
  have S1 := S.mono s
  have sub : ∀ b, Hid B (σ.set i (some v)) (δ.set i (some (if w then .ow else .sh, d))) b → Hid B σ δ b ∨ (w = true ∧ v = .ref b) := fun b hb => by
    rcases hb with hb | ⟨j, ⟨w', d', h1, h2⟩, h3⟩
    · exact .inl (.inl hb)
    · by_cases hj : j = i
      · subst hj
        rw [List.getElem?_set_self hi] at h1
        rw [List.getElem?_set_self hiσ] at h3
        cases h1; cases h3
        cases w with
        | true => exact .inr ⟨rfl, rfl⟩
        | false => exact absurd rfl h2
      · rw [List.getElem?_set_ne (Ne.symm hj)] at h1 h3
        exact .inl (.inr ⟨j, ⟨w', d', h1, h2⟩, h3⟩)
  have new : ∀ b, w = true → v = .ref b → H b = none := fun b hw hv => by
    unfold Res at r
    rw [if_pos hw] at r
    obtain ⟨a, e, h0, _⟩ := r
    rw [hv] at e; cases e
    exact h0
  have up : Same (vis H (Hid B σ δ)) (vis H1 (Hid B (σ.set i (some v)) (δ.set i (some (if w then .ow else .sh, d))))) := fun b o h => by
    obtain ⟨h1, h2⟩ := vis_some h
    refine vis_of (s b o h1) fun z => ?_
    rcases sub b z with z | ⟨z1, z2⟩
    · exact h2 z
    · rw [new b z1 z2] at h1; cases h1
  have old : ∀ j a, j ≠ i → Holds1 (σ.set i (some v)) (δ.set i (some (if w then .ow else .sh, d))) j a → Holds1 σ δ j a := fun j a hj ⟨⟨w', d', h1, h2⟩, h3⟩ => by
    rw [List.getElem?_set_ne (Ne.symm hj)] at h1 h3
    exact ⟨⟨w', d', h1, h2⟩, h3⟩
  have here : ∀ a, Holds1 (σ.set i (some v)) (δ.set i (some (if w then .ow else .sh, d))) i a → H a = none := fun a ⟨⟨w', d', h1, h2⟩, h3⟩ => by
    rw [List.getElem?_set_self hi] at h1
    rw [List.getElem?_set_self hiσ] at h3
    cases h1; cases h3
    cases w with
    | true => exact new _ rfl rfl
    | false => exact absurd rfl h2
  refine ⟨⟨S.kf, by simp [S.len], fun j d' h => ?_, fun j d' h => ?_, fun j d' h => ?_, fun j k a h1 h2 => ?_, S1.same, S1.soft, S1.gone, S1.live⟩, up⟩
  · by_cases hj : j = i
    · subst hj
      rw [List.getElem?_set_self hi] at h
      cases w with
      | true => cases h
      | false =>
        cases h
        refine ⟨v, by rw [List.getElem?_set_self hiσ], ?_⟩
        have q : Rep W (vis H1 (Hid B σ δ)) d v := by simpa [Res] using r
        refine q.mono (vis_sub fun b hb => ?_)
        rcases sub b hb with z | ⟨z, _⟩
        · exact z
        · cases z
    · rw [List.getElem?_set_ne (Ne.symm hj)] at h
      obtain ⟨u, h1, h2⟩ := S.sh j d' h
      exact ⟨u, by rw [List.getElem?_set_ne (Ne.symm hj)]; exact h1, h2.mono up⟩
  · by_cases hj : j = i
    · subst hj
      rw [List.getElem?_set_self hi] at h
      cases w with
      | false => cases h
      | true =>
        cases h
        have q := r
        unfold Res at q
        rw [if_pos rfl] at q
        obtain ⟨a, rfl, h0, h1⟩ := q
        refine ⟨a, by rw [List.getElem?_set_self hiσ], h1.mono (fun _ q => q) (vis_sub fun b hb => ?_), ?_, fun z => ?_, fun z => ?_⟩
        · rcases sub b hb with z | ⟨_, z⟩
          · exact .inl z
          · cases z; exact .inr rfl
        · cases e : X.H₀ a with
          | none => rfl
          | some o =>
            by_cases hme : some a = me
            · obtain ⟨o', q⟩ := S.live a hme.symm
              rw [h0] at q; cases q
            · rw [S.same a o e hme] at h0; cases h0
        · obtain ⟨o, q⟩ := S.gone a z
          rw [h0] at q; cases q
        · obtain ⟨o', q⟩ := S.live a z.symm
          rw [h0] at q; cases q
    · rw [List.getElem?_set_ne (Ne.symm hj)] at h
      obtain ⟨a, h1, h2, h3⟩ := S.ow j d' h
      exact ⟨a, by rw [List.getElem?_set_ne (Ne.symm hj)]; exact h1, h2.mono (fun o q => s a o q) up, h3⟩
  · by_cases hj : j = i
    · subst hj
      rw [List.getElem?_set_self hi] at h
      cases w <;> cases h
    · rw [List.getElem?_set_ne (Ne.symm hj)] at h
      obtain ⟨h0, a, h1, h2, h3, h4⟩ := S.mi j d' h
      exact ⟨h0, a, h1, by rw [List.getElem?_set_ne (Ne.symm hj)]; exact h2, h3.mono (fun o q => s a o q) up, h4⟩
  · by_cases hj : j = i
    · by_cases hk : k = i
      · rw [hj, hk]
      · subst hj
        have q1 := here a h1
        obtain ⟨o, q2⟩ := S.hidH (.inr ⟨k, old k a hk h2⟩)
        rw [q1] at q2; cases q2
    · by_cases hk : k = i
      · subst hk
        have q1 := here a h2
        obtain ⟨o, q2⟩ := S.hidH (.inr ⟨j, old j a hj h1⟩)
        rw [q1] at q2; cases q2
      · exact S.apart j k a (old j a hj h1) (old k a hk h2)
theorem share1_sub (i : Nat) : ∀ b, Hid B σ (Z.share1 δ i) b → Hid B σ δ b := fun b hb => by
  rcases hb with hb | ⟨j, hb⟩
  · exact .inl hb
  · exact .inr ⟨j, (holds_share hb).1⟩
theorem share_sub (is : List Nat) : ∀ {δ : Dst} (b : Addr), Hid B σ (Z.share δ is) b → Hid B σ δ b := by
  induction is with
  | nil => intro δ b h; exact h
  | cons i l ih => intro δ b h; exact share1_sub i b (ih b h)
theorem evF_sub (o : Orc) (t : T) : ∀ b, Hid B σ (Z.evF o δ t).1 b → Hid B σ δ b := fun b hb => by
  unfold Z.evF at hb
  split at hb
  · exact share_sub _ b hb
  · exact hb
noncomputable def AfterS (X : Cx) (W : Wd) (me : Option Addr) (B : Addr → Prop) (G : Hp) (r : SO) (D : Ends) : Prop := match r with
  | .nx δ => ∀ σ H, SR X W me B H σ δ → Same G (vis H (Hid B σ δ)) → D.nx σ H
  | .bk δ => ∀ σ H, SR X W me B H σ δ → Same G (vis H (Hid B σ δ)) → D.bk σ H
  | .ct δ => ∀ σ H, SR X W me B H σ δ → Same G (vis H (Hid B σ δ)) → D.ct σ H
  | .rt w d δ => ∀ v σ H, SR X W me B H σ δ → Same G (vis H (Hid B σ δ)) → Res W B false X.H₀ H w d v → D.rt v H
  | .ex c δ => ∀ pins σ H s, Inv X pins σ H s → SR X W me B H σ δ → Same G (vis H (Hid B σ δ)) → ∀ a H' s' tr, Fly X H s (.ref (W.CT c)) a H' s' tr → Same H H' → X.xe (.ref a) s'
  | .stuck => False
theorem AfterS.mono {G G' : Hp} {r : SO} {D : Ends} (h : AfterS X W me B G r D) (e : Same G G') : AfterS X W me B G' r D := by
  cases r with
  | nx δ => exact fun σ H S s => h σ H S (e.trans s)
  | bk δ => exact fun σ H S s => h σ H S (e.trans s)
  | ct δ => exact fun σ H S s => h σ H S (e.trans s)
  | rt w d δ => exact fun v σ H S s => h v σ H S (e.trans s)
  | ex c δ => exact fun pins σ H s I S z => h pins σ H s I S (e.trans z)
  | stuck => exact h
noncomputable def tS (X : Cx) (W : Wd) (g : Dst → SO) : TS := fun D σ H => ∃ me B δ, SR X W me B H σ δ ∧ AfterS X W me B (vis H (Hid B σ δ)) (g δ) D
theorem PSs.imp {X : Cx} {e : List Stmt} {t t' : TS} (h : PSs X e t) (i : ∀ D σ H, t' D σ H → t D σ H) : PSs X e t' := fun pins s σ H D I hw => h pins s σ H D I (i D σ H hw)
theorem ds_nil (o : Orc) : PSs X [] (tS X W (evSs o .nil)) := PSs.imp pss_nil fun D σ H ⟨me, B, δ, S, h⟩ => by
  simp only [evSs, AfterS] at h
  exact h σ H S (Same.refl _)
theorem ds_cons {st : Stmt} {rest : List Stmt} {o : Orc} {s : S} {l : SL} (h1 : PS X st (tS X W (evS o s))) (h2 : PSs X rest (tS X W (evSs o l))) : PSs X (st :: rest) (tS X W (evSs o (.cons s l))) := by
  refine PSs.imp (pss_cons h1 h2) fun D σ H ⟨me, B, δ, S, h⟩ => ⟨me, B, δ, S, ?_⟩
  simp only [evSs] at h
  cases e : evS o s δ with
  | nx δ1 =>
    rw [e] at h
    exact fun σ' H' S' s' => ⟨me, B, δ1, S', AfterS.mono h s'⟩
  | rt w d δ1 => rw [e] at h; exact h
  | bk δ1 => rw [e] at h; exact h
  | ct δ1 => rw [e] at h; exact h
  | ex c δ1 => rw [e] at h; exact h
  | stuck => rw [e] at h; exact h
theorem SO.of_ok {G : Hp} {α : Type} {δ : Dst} {r : R α} {k : α → SO} {D : Ends} (h : AfterS X W me B G (SO.of δ r k) D) : ∃ a, r = .ok a ∧ AfterS X W me B G (k a) D := by
  cases r with
  | ok a => exact ⟨a, rfl, h⟩
  | exc c => exact h.elim
  | stuck => exact h.elim
theorem orStuck_ok {G : Hp} {x : Option SO} {D : Ends} (h : AfterS X W me B G (orStuck x) D) : ∃ r, x = some r ∧ AfterS X W me B G r D := by
  cases x with
  | some a => exact ⟨a, rfl, h⟩
  | none => exact h.elim
theorem setSlot_ok {δ δ' : Dst} {i : Nat} {w : Bool} {d : D} (h : setSlot δ i w d = some δ') : i < δ.length ∧ δ' = δ.set i (some (if w then .ow else .sh, d)) := by
  unfold setSlot at h
  split at h
  · exact ⟨by assumption, (Option.some.inj h).symm⟩
  · cases h
theorem d_set {i : Nat} {x : Str} {e : Expr} {o : Orc} {t : T} {pos pos' : Pos} (hN : X.N.Nodup) (hi : X.N[i]? = some x) (hx : Loc X.env.scope x) (he : PE X e (tD X W false fun δ => ev o δ false t)) (hs : swapsWith e (some (.Name x pos')) pos.line X.env = pure false)
    (hf : X.fn x = true ∨ X.env.scope.names.lookup x = some .local) : PS X (.Assign [.Name x pos'] e pos) (tS X W (evS o (.set i t))) := by
  refine PS.imp (ps_set hN hi hx he hs hf) fun D σ H ⟨me, B, δ, S, h⟩ => ?_
  simp only [evS] at h
  obtain ⟨S1, e1⟩ := S.evF o t
  obtain ⟨r, e2, h⟩ := SO.of_ok h
  obtain ⟨q, e3, h⟩ := orStuck_ok h
  cases e4 : setSlot (evF o δ t).1 i r.1 r.2 with
  | none => rw [e4] at e3; cases e3
  | some δ' =>
    rw [e4] at e3
    cases e3
    obtain ⟨h1, rfl⟩ := setSlot_ok e4
    refine tD_iff.mpr ⟨me, B, _, S1, ?_⟩
    rw [← e1, e2]
    intro v H' s q
    obtain ⟨S2, s2⟩ := S1.store s q h1
    exact h _ _ S2 ((vis_sub (evF_sub o t)).trans s2)
theorem ds_if {c : Expr} {a b : List Stmt} {o : Orc} {t : T} {sa sb : SL} {pos : Pos} (hc : PT X c (tT X W fun δ => ev o δ true t)) (ha : PSs X a (tS X W (evSs o sa))) (hb : PSs X b (tS X W (evSs o sb))) :
    PS X (.If c a b pos) (tS X W (evS o (.ifs t sa sb))) := by
  refine PS.imp (ps_if hc ha hb) fun D σ H ⟨me, B, δ, S, h⟩ => ?_
  simp only [evS] at h
  obtain ⟨k, e, h⟩ := SO.of_ok h
  refine ⟨me, B, δ, S, ?_⟩
  rw [e]
  intro H' s
  cases k with
  | true => exact ⟨me, B, δ, S.mono s, AfterS.mono h (vis_mono s)⟩
  | false => exact ⟨me, B, δ, S.mono s, AfterS.mono h (vis_mono s)⟩
theorem ds_ifq {c : Expr} {a b : List Stmt} {o : Orc} {t : T} {sa sb : SL} {pos : Pos} (hc : PT X c (tT X W fun δ => ev o δ true t)) (ha : PSs X a (tS X W (evSs o sa))) (hb : PSs X b (tS X W (evSs o sb))) : PS X (.If c a b pos) (tS X W (evS o (.ifq t sa sb))) := by
  refine PS.imp (ps_if hc ha hb) fun D σ H ⟨me, B, δ, S, h⟩ => ?_
  simp only [evS] at h
  obtain ⟨k, e, h⟩ := SO.of_ok h
  have S1 := S.share (tvars t)
  refine ⟨me, B, _, S1, ?_⟩
  rw [e]
  intro H' s
  have s1 := (vis_sub (H := H) (share_sub (B := B) (σ := σ) (δ := δ) (tvars t))).trans (vis_mono s)
  cases k with
  | true => exact ⟨me, B, _, S1.mono s, AfterS.mono h s1⟩
  | false => exact ⟨me, B, _, S1.mono s, AfterS.mono h s1⟩
theorem ds_ret {e : Expr} {o : Orc} {t : T} {pos : Pos} (hv : ∀ i, t ≠ .var i) (he : PE X e (tD X W false fun δ => ev o δ false t)) : PS X (.Return (some e) pos) (tS X W (evS o (.ret t))) := by
  refine PS.imp (ps_ret he) fun D σ H ⟨me, B, δ, S, h⟩ => ?_
  have h' : AfterS X W me B (vis H (Hid B σ δ)) (SO.of (evF o δ t).1 (evF o δ t).2 fun r => .rt r.1 r.2 (evF o δ t).1) D := by
    cases t <;> first | exact h | exact absurd rfl (hv _)
  obtain ⟨S1, e1⟩ := S.evF o t
  obtain ⟨r, e2, h⟩ := SO.of_ok h'
  refine tD_iff.mpr ⟨me, B, _, S1, ?_⟩
  rw [← e1, e2]
  intro v H' s q
  refine h v σ H' (S1.mono s) ((vis_sub (evF_sub o t)).trans (vis_mono s)) ?_
  unfold Res at q ⊢
  by_cases hw : r.1 = true
  · rw [if_pos hw] at q ⊢
    obtain ⟨a, rfl, h0, q⟩ := q
    refine ⟨a, rfl, ?_, q.mono (fun _ z => z) (vis_sub fun b hb => hb.imp .inl id)⟩
    cases e : X.H₀ a with
    | none => rfl
    | some o' =>
      by_cases hme : some a = me
      · obtain ⟨o', q⟩ := S.live a hme.symm
        rw [h0] at q; cases q
      · rw [S.same a o' e hme] at h0; cases h0
  · rw [if_neg hw] at q ⊢
    simp only [Bool.false_eq_true, if_false] at q ⊢
    exact q.mono (vis_sub fun b hb => .inl hb)
theorem ds_retv {i : Nat} {x : Str} {o : Orc} {pos pos' : Pos} (hN : X.N[i]? = some x) (hv : Vis X.env.scope x) (hd : (x == ("__debug__" : Str)) = false) (hcd : (x == ("__classdict__" : Str)) = false) : PS X (.Return (some (.Name x pos')) pos) (tS X W (evS o (.ret (.var i)))) := by
  refine PS.imp (ps_ret (pe_var hN hv hd hcd)) fun D σ H ⟨me, B, δ, S, h⟩ => ?_
  simp only [evS] at h
  cases e : δ[i]? with
  | none => simp only [e, AfterS] at h
  | some q =>
    cases q with
    | none => simp only [e, AfterS] at h
    | some q =>
      obtain ⟨w, d⟩ := q
      cases w with
      | sh =>
        simp only [e, AfterS] at h
        obtain ⟨v, h1, h2⟩ := S.sh i d e
        exact ⟨v, h1, h v σ H S (Same.refl _) (.shared (h2.mono (vis_sub fun b hb => .inl hb)))⟩
      | ow =>
        simp only [e, AfterS] at h
        obtain ⟨a, h1, h2, h3, h4⟩ := S.ow i d e
        refine ⟨_, h1, h _ σ H S (Same.refl _) ?_⟩
        unfold Res
        rw [if_pos rfl]
        refine ⟨a, rfl, h3, h2.mono (fun _ z => z) (vis_sub fun b hb => ?_)⟩
        rcases hb with hb | hb
        · exact .inl hb
        · rw [hb]; exact .inr ⟨i, ⟨.ow, d, e, by decide⟩, h1⟩
      | me => simp only [e, AfterS] at h
theorem ds_while {c : Expr} {body : List Stmt} {o : Orc} {t : T} {sb : SL} {pos : Pos} (hp : PassesOwn (model X.prog X.w) X.A X.env X.xe) (hc : PT X c (tT X W fun δ => ev o δ true t)) (hb : PSs X body (tS X W (evSs o sb))) :
    PS X (.While c body [] pos) (tS X W (evS o (.while_ t sb))) := by
  refine PS.imp (ps_while hp hc hb) fun D σ H ⟨me, B, δ, S, h⟩ => ?_
  simp only [evS] at h
  refine ⟨fun m σ H => ∃ δ, SR X W me B H σ δ ∧ AfterS X W me B (vis H (Hid B σ δ)) (whileGo (fun δ => ev o δ true t) (evSs o sb) m δ) D, ⟨_, δ, S, h⟩, ?_⟩
  rintro m σ H ⟨δ, S, h⟩
  cases m with
  | zero => simp only [whileGo, AfterS] at h
  | succ m =>
    simp only [whileGo] at h
    obtain ⟨k, e, h⟩ := SO.of_ok h
    refine ⟨me, B, δ, S, ?_⟩
    rw [e]
    intro H' s
    have h := AfterS.mono h (vis_mono s)
    cases k with
    | false =>
      simp only [Bool.false_eq_true, if_false, AfterS] at h ⊢
      exact h σ H' (S.mono s) (Same.refl _)
    | true =>
      simp only [if_true] at h ⊢
      refine ⟨fun σ' H' => ∃ δ, SR X W me B H' σ' δ ∧ AfterS X W me B (vis H' (Hid B σ' δ)) (whileGo (fun δ => ev o δ true t) (evSs o sb) m δ) D, fun σ' H' q => ⟨m, Nat.lt_succ_self m, q⟩, me, B, δ, S.mono s, ?_⟩
      cases e2 : evSs o sb δ with
      | nx δ1 => rw [e2] at h; exact fun σ' H' S' s' => ⟨δ1, S', AfterS.mono h s'⟩
      | ct δ1 => rw [e2] at h; exact fun σ' H' S' s' => ⟨δ1, S', AfterS.mono h s'⟩
      | bk δ1 => rw [e2] at h; exact h
      | rt w d δ1 => rw [e2] at h; exact h
      | ex c δ1 => rw [e2] at h; exact h
      | stuck => rw [e2] at h; exact h.elim
end
end Z

namespace Z
open PySem PySem.Spec PyProof.Rows L2
section
variable {X : Cx} {W : Wd} {lk lk' : Bool} {σ : L2.St} {H H1 H' : Hp} {me : Option Addr} {B : Addr → Prop} {δ : Dst} {Q Q' : VK}
theorem partC {α : Type} {fa : Dst → R (Bool × D)} {g : Bool × D → R α} {C : R α → Hp → Prop} (S : SR X W me B H σ δ) (h : C ((fa δ).bind g) H) (mono : ∀ r H1, Same H H1 → C r H → C r H1) (hx : ∀ c, C (.exc c) H → EW X W σ H c) (hs : ¬ C .stuck H) :
    tD X W lk' fa σ H fun v H1 => ∃ r, fa δ = .ok r ∧ SR X W me B H1 σ δ ∧ Same H H1 ∧ RepT W H1 (vis H1 (Hid B σ δ)) r.2 v ∧ Res W (Hid B σ δ) lk' H H1 r.1 r.2 v ∧ C (g r) H1 := by
  refine tD_iff.mpr ⟨me, B, δ, S, ?_⟩
  cases e : fa δ with
  | ok r =>
    rw [e] at h
    intro v H1 s q
    exact ⟨r, rfl, S.mono s, s, q.look, q, mono _ _ s h⟩
  | exc c => rw [e] at h; exact hx c h
  | stuck => rw [e] at h; exact hs h
theorem PE.or {e : Expr} {t t' : TE} (h : PE X e t) (h' : PE X e t') : PE X e (fun σ H Q => t σ H Q ∨ t' σ H Q) := by
  intro pins s σ H Q I q
  rcases q with q | q
  · exact h pins s σ H Q I q
  · exact h' pins s σ H Q I q
noncomputable def RepTs (W : Wd) (H G : Hp) : List D → List V → Prop
  | [], [] => True
  | d :: l, v :: vs => RepT W H G d v ∧ RepTs W H G l vs
  | _, _ => False
theorem RepTs.length {H G : Hp} : ∀ {l : List D} {vs : List V}, RepTs W H G l vs → l.length = vs.length
  | [], [], _ => rfl
  | [], _ :: _, h => by simp only [RepTs] at h
  | _ :: _, [], h => by simp only [RepTs] at h
  | d :: l, v :: vs, h => by
    simp only [RepTs] at h
    simp [RepTs.length h.2]
noncomputable def AfterL (X : Cx) (W : Wd) (σ : L2.St) (H : Hp) (P : Addr → Prop) (r : R (Bool × List D)) (Q : List V → Hp → Prop) : Prop := match r with
  | .ok r => ∀ vs H', Same H H' → RepTs W H' (vis H' P) r.2 vs → (r.1 = false → Reps W (vis H' P) r.2 vs) → Q vs H'
  | .exc c => EW X W σ H c
  | .stuck => False
noncomputable def tL (X : Cx) (W : Wd) (f : Dst → R (Bool × List D)) : TA := fun σ H Q => ∃ me B δ, SR X W me B H σ δ ∧ AfterL X W σ H (Hid B σ δ) (f δ) Q
theorem AfterL.mono {P : Addr → Prop} {r : R (Bool × List D)} {Q : List V → Hp → Prop} (h : AfterL X W σ H P r Q) (e : Same H H1) : AfterL X W σ H1 P r Q := by
  unfold AfterL at h ⊢
  cases r with
  | ok r => exact fun v H' s q => h v H' (e.trans s) q
  | exc c => exact h.mono e
  | stuck => exact h
theorem tL.mono {f : Dst → R (Bool × List D)} {Q Q' : List V → Hp → Prop} (h : tL X W f σ H Q) (k : ∀ v H', Q v H' → Q' v H') : tL X W f σ H Q' := by
  obtain ⟨me, B, δ, S, h⟩ := h
  refine ⟨me, B, δ, S, ?_⟩
  unfold AfterL at h ⊢
  cases e : f δ with
  | ok r => rw [e] at h; exact fun v H' s q q' => k _ _ (h v H' s q q')
  | exc c => rw [e] at h; exact h
  | stuck => rw [e] at h; exact h
theorem partL {α : Type} {fa : Dst → R (Bool × List D)} {g : Bool × List D → R α} {C : R α → Hp → Prop} (S : SR X W me B H σ δ) (h : C ((fa δ).bind g) H) (mono : ∀ r H1, Same H H1 → C r H → C r H1) (hx : ∀ c, C (.exc c) H → EW X W σ H c) (hs : ¬ C .stuck H) :
    tL X W fa σ H fun vs H1 => ∃ r, fa δ = .ok r ∧ SR X W me B H1 σ δ ∧ Same H H1 ∧ RepTs W H1 (vis H1 (Hid B σ δ)) r.2 vs ∧ (r.1 = false → Reps W (vis H1 (Hid B σ δ)) r.2 vs) ∧ C (g r) H1 := by
  refine ⟨me, B, δ, S, ?_⟩
  cases e : fa δ with
  | ok r =>
    rw [e] at h
    intro vs H1 s q q'
    exact ⟨r, rfl, S.mono s, s, q, q', mono _ _ s h⟩
  | exc c => rw [e] at h; exact hx c h
  | stuck => rw [e] at h; exact hs h
theorem da_nil (o : Orc) : PA X [] (tL X W fun δ => evL o δ .nil) := PA.imp pa_nil fun σ H Q ⟨me, B, δ, S, h⟩ => by
  simp only [evL, AfterL] at h
  exact h [] H (Same.refl H) (by simp only [RepTs]) fun _ => by simp only [Reps]
theorem da_cons {e : Expr} {es : List Expr} {o : Orc} {t : T} {l : TL} (ha : ∀ lk, PE X e (tD X W lk fun δ => ev o δ lk t)) (hr : PA X es (tL X W fun δ => evL o δ l)) (hs : starEach (e :: es) X.env = (false, eval e X.env) :: starEach es X.env) :
    PA X (e :: es) (tL X W fun δ => evL o δ (.cons t l)) := by
  refine PA.imp (pa_cons (PE.or (ha true) (ha false)) hr hs) fun σ H Q ⟨me, B, δ, S, h⟩ => ?_
  simp only [evL] at h
  have go : ∀ lk, lkOwn δ t = lk → tD X W lk (fun δ => ev o δ lk t) σ H fun x H1 => tL X W (fun δ => evL o δ l) σ H1 fun xs H2 => Q (x :: xs) H2 := by
    intro lk hlk
    rw [hlk] at h
    refine tD.mono (partC (fa := fun δ => ev o δ lk t) (C := fun r H => AfterL X W σ H (Hid B σ δ) r Q) S h (fun r H1 s q => q.mono s) (fun c q => q) (fun q => q)) fun v H1 ⟨r1, e1, S1, s1, t1, q1, h1⟩ => ?_
    refine tL.mono (partL (fa := fun δ => evL o δ l) (C := fun r H => AfterL X W σ H (Hid B σ δ) r Q) S1 h1 (fun r H1 s q => q.mono s) (fun c q => q) (fun q => q)) fun vs H2 ⟨r2, e2, S2, s2, t2, q2, h2⟩ => ?_
    refine h2 (v :: vs) H2 (Same.refl _) ?_ fun hf => ?_
    · simp only [RepTs]
      exact ⟨t1.mono s2 (vis_mono s2), t2⟩
    · simp only [Bool.or_eq_false_iff] at hf
      simp only [Reps]
      refine ⟨?_, q2 hf.2⟩
      rw [hf.1] at q1
      exact (q1.keep S.know).mono (vis_mono s2)
  cases hlk : lkOwn δ t with
  | true => exact .inl (go true hlk)
  | false => exact .inr (go false hlk)
noncomputable def spFn (W : Wd) (g : List D → R (Bool × D)) (np : Nat) : Sp := fun vs H Q _ => vs.length = np ∧ ∃ B ds, Soft H B ∧ (∀ b, B b → ∃ o, H b = some o) ∧ Reps W (vis H B) ds vs ∧ ∃ r, g ds = .ok r ∧ ∀ v H', Same H H' → Res W B false H H' r.1 r.2 v → Q v H'
theorem RepTs.lend {P : Addr → Prop} : ∀ {l : List D} {vs : List V} (us : List V), (∀ v ∈ vs, v ∈ us) → RepTs W H (vis H P) l vs → Reps W (vis H fun b => P b ∧ V.ref b ∉ us) l vs
  | [], [], _, _, _ => by simp only [Reps]
  | [], _ :: _, _, _, h => by simp only [RepTs] at h
  | _ :: _, [], _, _, h => by simp only [RepTs] at h
  | d :: l, v :: vs, us, hu, h => by
    simp only [RepTs] at h
    simp only [Reps]
    refine ⟨?_, RepTs.lend us (fun v hv => hu v (List.mem_cons_of_mem _ hv)) h.2⟩
    have up : Same (vis H P) (vis H fun b => P b ∧ V.ref b ∉ us) := vis_sub fun b hb => hb.1
    have hv : v ∈ us := hu v List.mem_cons_self
    have see : ∀ a o, v = .ref a → H a = some o → vis H (fun b => P b ∧ V.ref b ∉ us) a = some o := fun a o e h => vis_of h fun z => z.2 (e ▸ hv)
    cases d with
    | lst l =>
      obtain ⟨a, xs, rfl, h1, h2⟩ := h.1
      simp only [Rep]
      refine ⟨a, xs, rfl, ?_, h2.mono up⟩
      rcases h1 with (h1 | ⟨o, h1⟩) | h1
      · exact .inl (.inl (see a _ rfl h1))
      · exact .inl (.inr ⟨o, see a _ rfl h1⟩)
      · exact .inr h1
    | dct ks vs =>
      obtain ⟨a, kvs, rfl, h1, h2, h3, h4⟩ := h.1
      simp only [Rep]
      exact ⟨a, kvs, rfl, h1.imp fun _ z => see a _ rfl z, h2, h3, h4.mono up⟩
    | obj c ns vs =>
      obtain ⟨a, dx, fs, rfl, h1, h2, h3⟩ := h.1
      simp only [Rep]
      exact ⟨a, dx, fs, rfl, see a _ rfl h1, h2, h3.mono up⟩
    | non => exact Rep.mono up h.1
    | bl b => exact Rep.mono up h.1
    | int i => exact Rep.mono up h.1
    | str x => exact Rep.mono up h.1
    | tup l => exact Rep.mono up h.1
    | err c => exact Rep.mono up h.1
theorem OwnAt.notImm {H G : Hp} {a : Addr} {d : D} (h : OwnAt W H G a d) : d.imm = false := by
  cases d <;> first | rfl | exact h.elim
theorem sp_of {o : Orc} {f np : Nat} {vs : List V} {ds : List D} {br : Bool} {E : XK} (S : SR X W me B H σ δ) (hn : ds.length = np) (t : RepTs W H (vis H (Hid B σ δ)) ds vs) (q : br = false → Reps W (vis H (Hid B σ δ)) ds vs)
    (h : After X W lk σ H (Hid B σ δ) ((o.fn f ds).bind (lent br)) Q) : spFn W (o.fn f) np vs H Q E := by
  refine ⟨by rw [← t.length]; exact hn, ?_⟩
  cases e : o.fn f ds with
  | stuck => rw [e] at h; exact h.elim
  | exc c => rw [e] at h; exact h.elim
  | ok r =>
    rw [e] at h
    cases br with
    | false =>
      refine ⟨Hid B σ δ, ds, S.softH, S.know, q rfl, r, e, fun v H' s z => h v H' s ?_⟩
      unfold Res at z ⊢
      by_cases hw : r.1 = true
      · rw [if_pos hw] at z ⊢; exact z
      · rw [if_neg hw] at z ⊢
        simp only [Bool.false_eq_true, if_false] at z
        split
        · exact z.top vis_le
        · exact z
    | true =>
      have h' : After X W lk σ H (Hid B σ δ) (if r.2.imm then .ok r else .stuck) Q := h
      by_cases him : r.2.imm = true
      · rw [if_pos him] at h'
        refine ⟨fun b => Hid B σ δ b ∧ V.ref b ∉ vs, ds, fun a ha => S.softH a ha.1, fun b hb => S.know b hb.1, t.lend vs (fun v hv => hv), r, e, fun v H' s z => h' v H' s ?_⟩
        unfold Res at z ⊢
        by_cases hw : r.1 = true
        · rw [if_pos hw] at z
          obtain ⟨a, _, _, z⟩ := z
          rw [z.notImm] at him; cases him
        · rw [if_neg hw] at z ⊢
          simp only [Bool.false_eq_true, if_false] at z
          have z' : Rep W (vis H' (Hid B σ δ)) r.2 v := (z.mono vis_le).imm (S.softH.mono S.know s) him
          split
          · exact z'.top vis_le
          · exact z'
      · rw [if_neg him] at h'; exact h'.elim
theorem d_call {o : Orc} {f np k : Nat} {x : Str} {fa : Addr} {fd : FuncData} {ps : List Str} {e : Expr} {es : List Expr} {l : TL} {p pos : Pos} (hn : ∀ δ r, evL o δ l = .ok r → r.2.length = np)
    (F : FnOk X.prog X.w X.K X.mg X.base CX0 k fa fd ps (spFn W (o.fn f) np)) (hr : Room k X.A) (hg : Gl X x) (hm : X.mg x = some (.ref fa)) (hk : PySem.W.keepIn X.K (.ref fa) = true) (hb : Binds X.K fd ps [])
    (ha : PA X (e :: es) (tL X W fun δ => evL o δ l)) (hdb : (x == ("__debug__" : Str)) = false) (he : starEach (e :: es) X.env = (false, eval e X.env) :: starEach es X.env) (hpl : (backTo pos (starEach es X.env)).any (·.1) = false) :
    PE X (.Call (.Name x p) (e :: es) [] pos) (tD X W lk fun δ => ev o δ lk (.call f l)) := by
  refine PE.imp (pe_call F hr hg hm hk hb .nil pass0 ha hdb he hpl) fun σ H Q h => ?_
  obtain ⟨me, B, δ, S, h⟩ := tD_iff.mp h
  simp only [ev] at h
  refine tL.mono (partL (fa := fun δ => evL o δ l) (C := fun r H => After X W lk σ H (Hid B σ δ) r Q) S h (fun r H1 s q => q.mono s) (fun c q => q) (fun q => q)) fun vs H1 ⟨r, e1, S1, s1, t1, q1, h1⟩ => ?_
  rw [List.append_nil]
  exact sp_of S1 (hn δ r e1) t1 q1 h1
variable {a b : Expr} {rest : List Expr} {pos : Pos} {fa fb : Dst → R (Bool × D)}
noncomputable def andD (x : D) (y : R (Bool × D)) : R (Bool × D) := match x with
  | .bl true => y.bind fun y => boolD y.2
  | .bl false => .ok (false, .bl false)
  | _ => .stuck
noncomputable def orD (x : D) (y : R (Bool × D)) : R (Bool × D) := match x with
  | .bl true => .ok (false, .bl true)
  | .bl false => y.bind fun y => boolD y.2
  | _ => .stuck
theorem boolD_ok {d : D} {r : Bool × D} (h : boolD d = .ok r) : ∃ b, d = .bl b ∧ r = (false, .bl b) := by
  cases d <;> simp only [boolD] at h <;> first | (cases h; exact ⟨_, rfl, rfl⟩) | cases h
theorem repT_bl {G : Hp} {i : Bool} {x : V} (h : RepT W H G (.bl i) x) : x = .bl i := by simpa only [RepT, Rep] using h
theorem bool_last (S : SR X W me B H σ δ) (h : After X W lk σ H (Hid B σ δ) ((fb δ).bind fun y => boolD y.2) Q) : tD X W true fb σ H Q := by
  refine tD_iff.mpr ⟨me, B, δ, S, ?_⟩
  cases e : fb δ with
  | ok r =>
    rw [e] at h
    have h : After X W lk σ H (Hid B σ δ) (boolD r.2) Q := h
    cases e2 : boolD r.2 with
    | ok r' =>
      rw [e2] at h
      obtain ⟨b, e3, rfl⟩ := boolD_ok e2
      intro v H' s q
      have q' := q.look
      rw [e3] at q'
      rw [repT_bl q']
      exact h _ H' s res_bl
    | exc c => rw [e2] at h; exact False.elim h
    | stuck => rw [e2] at h; exact False.elim h
  | exc c => rw [e] at h; exact h
  | stuck => rw [e] at h; exact h
theorem d_and (ha : PE X a (tD X W true fa)) (hb : PE X (.BoolOp .And (b :: rest) pos) (tD X W true fb)) : PE X (.BoolOp .And (a :: b :: rest) pos) (tD X W lk fun δ => (fa δ).bind fun x => andD x.2 (fb δ)) := by
  refine PE.imp (pe_and ha hb) fun σ H Q h => ?_
  obtain ⟨me, B, δ, S, h⟩ := tD_iff.mp h
  refine tD.mono (part S h) fun v H1 ⟨r, e, S1, s1, t1, _, h1⟩ => ?_
  cases e2 : r.2 with
  | bl c =>
    rw [e2] at t1 h1
    refine ⟨c, repT_bl t1, ?_⟩
    cases c with
    | true => exact bool_last S1 h1
    | false => exact h1 _ H1 (Same.refl _) res_bl
  | _ => rw [e2] at h1; exact h1.elim
theorem d_or (ha : PE X a (tD X W true fa)) (hb : PE X (.BoolOp .Or (b :: rest) pos) (tD X W true fb)) : PE X (.BoolOp .Or (a :: b :: rest) pos) (tD X W lk fun δ => (fa δ).bind fun x => orD x.2 (fb δ)) := by
  refine PE.imp (pe_or ha hb) fun σ H Q h => ?_
  obtain ⟨me, B, δ, S, h⟩ := tD_iff.mp h
  refine tD.mono (part S h) fun v H1 ⟨r, e, S1, s1, t1, _, h1⟩ => ?_
  cases e2 : r.2 with
  | bl c =>
    rw [e2] at t1 h1
    refine ⟨c, repT_bl t1, ?_⟩
    cases c with
    | false => exact bool_last S1 h1
    | true => exact h1 _ H1 (Same.refl _) res_bl
  | _ => rw [e2] at h1; exact h1.elim
theorem d_one {op : BoolOp} (ha : PE X a (tD X W lk fa)) : PE X (.BoolOp op [a] pos) (tD X W lk fa) := pe_one ha
theorem PW.imp {e : Expr} {t t' : TT} (h : PW X e t) (i : ∀ σ H Q, t' σ H Q → t σ H Q) : PW X e t' := fun w pins s σ H Q I hw => h w pins s σ H Q I (i σ H Q hw)
theorem boolD_truth {d : D} {b : Bool} (h : (boolD d).bind (fun x => R.of (truth x.2)) = .ok b) : truth d = some b := by
  cases d <;> simp only [boolD, R.bind, truth, R.of] at h <;> first | (cases h; rfl) | cases h
theorem boolD_noexc {d : D} {c : Nat} : (boolD d).bind (fun x => R.of (truth x.2)) ≠ .exc c := by
  cases d <;> simp [boolD, R.bind, truth, R.of]
theorem boolT_last {Q : Bool → Hp → Prop} (S : SR X W me B H σ δ)
    (h : match ((fb δ).bind fun y => boolD y.2).bind (fun x => R.of (truth x.2)) with | .ok b => ∀ H', Same H H' → Q b H' | .exc c => EW X W σ H c | .stuck => False) : tT X W fb σ H Q := by
  refine ⟨me, B, δ, S, ?_⟩
  cases e : fb δ with
  | ok r =>
    rw [e] at h
    have h : (match (boolD r.2).bind (fun x => R.of (truth x.2)) with | .ok b => ∀ H', Same H H' → Q b H' | .exc c => EW X W σ H c | .stuck => False) := h
    show (match R.of (truth r.2) with | .ok b => ∀ H', Same H H' → Q b H' | .exc c => EW X W σ H c | .stuck => False)
    cases e2 : (boolD r.2).bind (fun x => R.of (truth x.2)) with
    | ok b => rw [e2] at h; rw [boolD_truth e2]; exact h
    | exc c => exact absurd e2 boolD_noexc
    | stuck => rw [e2] at h; exact h.elim
  | exc c => rw [e] at h; exact h
  | stuck => rw [e] at h; exact h
theorem wt_and (ha : PT X a (tT X W fa)) (hb : PW X (.BoolOp .And (b :: rest) pos) (tT X W fb)) : PW X (.BoolOp .And (a :: b :: rest) pos) (tT X W fun δ => (fa δ).bind fun x => andD x.2 (fb δ)) := by
  refine PW.imp (pw_and ha hb) fun σ H Q ⟨me, B, δ, S, h⟩ => ⟨me, B, δ, S, ?_⟩
  dsimp only at h
  cases e : fa δ with
  | ok r =>
    rw [e] at h
    have h : (match (andD r.2 (fb δ)).bind (fun x => R.of (truth x.2)) with | .ok b => ∀ H', Same H H' → Q b H' | .exc c => EW X W σ H c | .stuck => False) := h
    show (match R.of (truth r.2) with | .ok b => ∀ H', Same H H' → if b = true then tT X W fb σ H' Q else Q false H' | .exc c => EW X W σ H c | .stuck => False)
    cases e2 : r.2 with
    | bl c =>
      rw [e2] at h
      cases c with
      | true =>
        intro H' s
        refine boolT_last (S.mono s) ?_
        have h : (match ((fb δ).bind fun y => boolD y.2).bind (fun x => R.of (truth x.2)) with | .ok b => ∀ H', Same H H' → Q b H' | .exc c => EW X W σ H c | .stuck => False) := h
        cases e3 : ((fb δ).bind fun y => boolD y.2).bind (fun x => R.of (truth x.2)) with
        | ok b => rw [e3] at h; exact fun H2 s2 => h H2 (s.trans s2)
        | exc c => rw [e3] at h; exact h.elim
        | stuck => rw [e3] at h; exact h
      | false => exact fun H' s => h H' s
    | _ => rw [e2] at h; exact h.elim
  | exc c => rw [e] at h; exact h
  | stuck => rw [e] at h; exact h
theorem wt_or (ha : PT X a (tT X W fa)) (hb : PW X (.BoolOp .Or (b :: rest) pos) (tT X W fb)) : PW X (.BoolOp .Or (a :: b :: rest) pos) (tT X W fun δ => (fa δ).bind fun x => orD x.2 (fb δ)) := by
  refine PW.imp (pw_or ha hb) fun σ H Q ⟨me, B, δ, S, h⟩ => ⟨me, B, δ, S, ?_⟩
  dsimp only at h
  cases e : fa δ with
  | ok r =>
    rw [e] at h
    have h : (match (orD r.2 (fb δ)).bind (fun x => R.of (truth x.2)) with | .ok b => ∀ H', Same H H' → Q b H' | .exc c => EW X W σ H c | .stuck => False) := h
    show (match R.of (truth r.2) with | .ok b => ∀ H', Same H H' → if b = true then Q true H' else tT X W fb σ H' Q | .exc c => EW X W σ H c | .stuck => False)
    cases e2 : r.2 with
    | bl c =>
      rw [e2] at h
      cases c with
      | false =>
        intro H' s
        refine boolT_last (S.mono s) ?_
        have h : (match ((fb δ).bind fun y => boolD y.2).bind (fun x => R.of (truth x.2)) with | .ok b => ∀ H', Same H H' → Q b H' | .exc c => EW X W σ H c | .stuck => False) := h
        cases e3 : ((fb δ).bind fun y => boolD y.2).bind (fun x => R.of (truth x.2)) with
        | ok b => rw [e3] at h; exact fun H2 s2 => h H2 (s.trans s2)
        | exc c => rw [e3] at h; exact h.elim
        | stuck => rw [e3] at h; exact h
      | true => exact fun H' s => h H' s
    | _ => rw [e2] at h; exact h.elim
  | exc c => rw [e] at h; exact h
  | stuck => rw [e] at h; exact h
theorem wt_one {op : BoolOp} (ha : PT X a (tT X W fa)) : PW X (.BoolOp op [a] pos) (tT X W fa) := by
  cases op with
  | And => exact pw_and1 ha
  | Or => exact pw_or1 ha
end
end Z

namespace Z
open PySem PySem.Spec PyProof.Rows L2
section
variable {X : Cx} {W : Wd} {lk lk' : Bool} {σ : L2.St} {H H1 H' : Hp} {me : Option Addr} {B : Addr → Prop} {δ : Dst} {Q Q' : VK} {a b : Expr} {pos p : Pos} {fa fb fc : Dst → R (Bool × D)}
noncomputable def Sem1 (W : Wd) (r : List V → Hp → VK → Prop) (g : D → R (Bool × D)) : Prop :=
  ∀ (lk : Bool) (P : Addr → Prop) (H : Hp) (x : V) (dx : D) (Q : VK) (w : Bool) (d : D), Soft H P → (∀ a, P a → ∃ o, H a = some o) → RepT W H (vis H P) dx x → g dx = .ok (w, d) →
    (∀ v H', Same H H' → Res W P lk H H' w d v → Q v H') → r [x] H Q
noncomputable def NoExc1 (g : D → R (Bool × D)) : Prop := ∀ x c, g x ≠ .exc c
theorem tCB_of {r : List V → Hp → VK → Prop} {g : D → R (Bool × D)} (hs : Sem1 W r g) (hn : NoExc1 g) {σ : L2.St} {H : Hp} {Q : VK} (h : tD X W lk (fun δ => (fa δ).bind fun x => g x.2) σ H Q) :
    tCB r (tCons (tD X W true fa) tNil) σ H Q := by
  obtain ⟨me, B, δ, S, h⟩ := tD_iff.mp h
  refine tD.mono (part S h) fun v H1 ⟨r1, e1, S1, s1, t1, _, h1⟩ => ?_
  show r [v] H1 Q
  cases e : g r1.2 with
  | ok r' =>
    rw [e] at h1
    exact hs lk (Hid B σ δ) H1 v r1.2 Q r'.1 r'.2 S1.softH S1.know t1 e h1
  | exc c => exact absurd e (hn _ _)
  | stuck => rw [e] at h1; exact h1.elim
theorem d_b1 {id : String} {x : Str} {r : List V → Hp → VK → Prop} {g : D → R (Bool × D)} (hc : CallR X (.builtin id) r) (hs : Sem1 W r g) (hn : NoExc1 g) (hg : Gl X x) (hm : X.mg x = none) (hv : bootBuiltins x = some (.builtin id)) (ha : PE X a (tD X W true fa))
    (hx : x ≠ "__name__") (hdb : (x == ("__debug__" : Str)) = false) (he : starEach [a] X.env = [(false, eval a X.env)]) : PE X (.Call (.Name x p) [a] [] pos) (tD X W lk fun δ => (fa δ).bind fun x => g x.2) :=
  PE.imp (pe_callB hc hg hm hv (pa_cons ha pa_nil he) hx hdb he rfl) fun _ _ _ h => tCB_of hs hn h
theorem d_ty1 {id : String} {x : Str} {r : List V → Hp → VK → Prop} {g : D → R (Bool × D)} (hc : CallR X (.type id) r) (hs : Sem1 W r g) (hn : NoExc1 g) (hg : Gl X x) (hm : X.mg x = none) (hv : bootBuiltins x = some (.type id)) (ha : PE X a (tD X W true fa))
    (hx : x ≠ "__name__") (hdb : (x == ("__debug__" : Str)) = false) (he : starEach [a] X.env = [(false, eval a X.env)]) : PE X (.Call (.Name x p) [a] [] pos) (tD X W lk fun δ => (fa δ).bind fun x => g x.2) :=
  PE.imp (pe_callTy hc hg hm hv (pa_cons ha pa_nil he) hx hdb he rfl) fun _ _ _ h => tCB_of hs hn h
theorem b1_noexc (b : B1) : NoExc1 (b1D b) := by
  intro x c
  cases b <;> simp only [b1D] <;> first
    | exact of_noexc
    | (cases x <;> simp [R.chk] <;> first | exact of_noexc | (split <;> simp) | skip)
theorem sem_abs : Sem1 W (fun xs H Q => ∃ i, xs = [.int i] ∧ Q (.int (if i < 0 then -i else i)) H) (b1D .abs) := by
  intro lk P H x dx Q w d hS hK hx e k
  cases dx <;> simp only [b1D] at e <;> cases e
  exact ⟨_, by rw [repT_int hx], k _ H (Same.refl H) res_int⟩
theorem sem_len (hk : W.K = X.K) : Sem1 W (fun xs H Q => ((∃ p ys, xs = [.ref p] ∧ (SqL X.K H p ys ∨ SqT X.K H p ys) ∧ Q (.int ys.length) H) ∨ (∃ z, xs = [.str z] ∧ z.length ≤ sizeLine ∧ Q (.int z.length) H)) ∨ (∃ a kvs ep, xs = [V.ref a] ∧ H a = some (.dK kvs ep) ∧ Q (.int kvs.length) H)) (b1D .len) := by
  intro lk P H x dx Q w d hS hK hx e k
  cases dx <;> simp only [b1D] at e <;> cases e
  · obtain ⟨rfl, hl⟩ := repT_str hx
    rename_i s
    refine .inl (.inr ⟨_, rfl, by simpa [strV, Str.length, sizeLine_eq] using hl, ?_⟩)
    have e1 : ((strV s).length : Int) = (s.length : Int) := by simp [strV, Str.length]
    rw [e1]
    exact k _ H (Same.refl H) res_int
  · simp only [RepT, Rep] at hx
    obtain ⟨a, xs, rfl, h1, h2⟩ := hx
    refine .inl (.inl ⟨a, xs, rfl, .inr (hk ▸ same_tup vis_le h1), ?_⟩)
    rw [← h2.length]
    exact k _ H (Same.refl H) res_int
  · obtain ⟨a, xs, rfl, h1, h2⟩ := hx
    refine .inl (.inl ⟨a, xs, rfl, .inl (hk ▸ h1), ?_⟩)
    rw [← h2.length]
    exact k _ H (Same.refl H) res_int
  · obtain ⟨a, kvs, rfl, ⟨ep, h1⟩, h2, h3, h4⟩ := hx
    refine .inr ⟨a, kvs, ep, rfl, h1, ?_⟩
    have := congrArg List.length h2
    simp only [List.length_map] at this
    rw [this]
    exact k _ H (Same.refl H) res_int
theorem place_ix {α : Type} {n : Nat} {i : Int} {j : Nat} (h : place n i = some j) : ixN n i = some j := by
  unfold place at h; unfold ixN
  by_cases h0 : 0 ≤ i
  · rw [if_pos h0] at h ⊢; exact h
  · rw [if_neg h0] at h ⊢
    by_cases h1 : 0 ≤ i + n
    · rw [if_pos h1] at h; rw [if_pos (by omega)]; exact h
    · rw [if_neg h1] at h; cases h
theorem idxD_noexc : NoExc2 idxD := by
  intro x y c
  cases x <;> cases y <;> simp only [idxD] <;> first | exact of_noexc | simp
theorem bind_map_some {α β : Type} {x : Option Nat} {f : Nat → Option α} {g : α → β} {y : β} (h : (x.bind fun n => (f n).map g) = some y) : ∃ n z, x = some n ∧ f n = some z ∧ g z = y := by
  cases x with
  | none => cases h
  | some n =>
    cases e : f n with
    | none => simp [e] at h
    | some z => simp [e] at h; exact ⟨n, z, rfl, e, h⟩
noncomputable def rIx (K : PySem.W.Frag) : R2 := fun x y H Q => (rIxL K x y H Q ∨ rIxT K x y H Q) ∨ rIxS x y H Q
theorem ix_all : IxR X (rIx X.K) := IxR.or (IxR.or ix_list ix_tup) ix_str
noncomputable def seqIdx (a i : D) : R (Bool × D) := match a with
  | .dct _ _ => .stuck
  | _ => idxD a i
theorem sem_idx (hk : W.K = X.K) : Sem2 W (rIx X.K) seqIdx := by
  intro lk P H x y dx dy Q w d hS hK hx hy e k
  cases dx <;> cases dy <;> first | exact nope e | exact nopeR e | simp only [seqIdx, idxD] at e
  · obtain ⟨n, z, h1, h2, h3⟩ := bind_map_some (of_ok e)
    cases h3
    obtain ⟨rfl, hl⟩ := repT_str hx
    rename_i s j
    refine .inr ⟨strV s, j, z, rfl, repT_int hy, by simpa [strV, Str.length, sizeLine_eq] using hl, ?_, ?_⟩
    · unfold atI
      rw [place_ix (α := Nat) (n := (strV s).cps.toList.length) (by simpa [strV] using h1)]
      simpa [strV] using h2
    · exact k _ H (Same.refl H) (res_str (i := [z]) (by simp))
  · obtain ⟨n, z, h1, h2, h3⟩ := bind_map_some (of_ok e)
    cases h3
    simp only [RepT, Rep] at hx
    obtain ⟨a, xs, rfl, q1, q2⟩ := hx
    obtain ⟨v, e1, e2⟩ := q2.get h2
    refine .inl (.inr ⟨a, xs, _, v, rfl, repT_int hy, hk ▸ same_tup vis_le q1, ?_, k v H (Same.refl H) (.shared e2)⟩)
    unfold atI
    rw [place_ix (α := V) (by rw [← q2.length]; exact h1)]
    exact e1
  · obtain ⟨n, z, h1, h2, h3⟩ := bind_map_some (of_ok e)
    cases h3
    obtain ⟨a, xs, rfl, q1, q2⟩ := hx
    obtain ⟨v, e1, e2⟩ := q2.get h2
    refine .inl (.inl ⟨a, xs, _, v, rfl, repT_int hy, hk ▸ q1, ?_, k v H (Same.refl H) (.shared e2)⟩)
    unfold atI
    rw [place_ix (α := V) (by rw [← q2.length]; exact h1)]
    exact e1
theorem clip_ix (n : Nat) (d : Nat) (i : Int) : HT.sIx n d (some i) = clip n i := by
  unfold clip
  show (if i < 0 then (i + (n : Int)).toNat else min i.toNat n) = _
  by_cases h : 0 ≤ i
  · rw [if_neg (by omega), if_pos h]
  · rw [if_pos (by omega), if_neg h]
theorem cut_eq {α : Type} (l : List α) (p q : Nat) : cut l p q = (l.drop p).take (q - p) := by
  unfold cut
  rw [List.drop_take]
noncomputable def IsO (t : T) (e : Option Expr) (X : Cx) (W : Wd) (o : Orc) : Prop := (e = none ∧ t = .cst .non) ∨ ∃ e', e = some e' ∧ t ≠ .cst .non ∧ ∀ lk, PE X e' (tD X W lk fun δ => ev o δ lk t)
noncomputable def tO (X : Cx) (W : Wd) (o : Orc) (t : T) : TO := fun σ H C => ∃ me B δ, SR X W me B H σ δ ∧ match (ev o δ true t).bind (fun y => R.of (bnd t y.2)) with
  | .ok oi => ∀ H', Same H H' → C oi H'
  | .exc c => EW X W σ H c
  | .stuck => False
theorem PO.imp {e : Option Expr} {t t' : TO} (h : PO X e t) (i : ∀ σ H Q, t' σ H Q → t σ H Q) : PO X e t' := fun pins s σ H Q I hw => h pins s σ H Q I (i σ H Q hw)
theorem bnd_int {t : T} {d : D} {oi : Option Int} (ht : t ≠ .cst .non) (h : bnd t d = some oi) : ∃ i, d = .int i ∧ oi = some i := by
  unfold bnd at h
  split at h
  · exact absurd rfl ht
  · cases d <;> simp at h
    exact ⟨_, rfl, h.symm⟩
theorem d_po {t : T} {e : Option Expr} {o : Orc} (h : IsO t e X W o) : PO X e (tO X W o t) := by
  rcases h with ⟨rfl, rfl⟩ | ⟨e', rfl, ht, h⟩
  · refine PO.imp po_none fun σ H C ⟨me, B, δ, S, h⟩ => ?_
    simp only [ev, R.bind, bnd, R.of] at h
    exact h H (Same.refl H)
  · refine PO.imp (po_some (h true)) fun σ H C ⟨me, B, δ, S, h⟩ => ?_
    refine tD_iff.mpr ⟨me, B, δ, S, ?_⟩
    cases e : ev o δ true t with
    | ok r =>
      rw [e] at h
      have h : (match R.of (bnd t r.2) with | .ok oi => ∀ H', Same H H' → C oi H' | .exc c => EW X W σ H c | .stuck => False) := h
      cases e2 : bnd t r.2 with
      | none => rw [e2] at h; exact h.elim
      | some oi =>
        rw [e2] at h
        obtain ⟨i, h1, rfl⟩ := bnd_int ht e2
        intro v H' s q
        have q' := q.look
        rw [h1] at q'
        exact ⟨i, repT_int q', h H' s⟩
    | exc c => rw [e] at h; exact h
    | stuck => rw [e] at h; exact h
theorem tO.mono {o : Orc} {t : T} {C C' : Option Int → Hp → Prop} (h : tO X W o t σ H C) (k : ∀ oi H', C oi H' → C' oi H') : tO X W o t σ H C' := by
  obtain ⟨me, B, δ, S, h⟩ := h
  refine ⟨me, B, δ, S, ?_⟩
  cases e : (ev o δ true t).bind (fun y => R.of (bnd t y.2)) with
  | ok oi => rw [e] at h; exact fun H' s => k _ _ (h H' s)
  | exc c => rw [e] at h; exact h
  | stuck => rw [e] at h; exact h
theorem partO {o : Orc} {t : T} {g : Bool × D → R (Bool × D)} {g' : Option Int → R (Bool × D)} (hg : ∀ r, g r = (R.of (bnd t r.2)).bind g') (S : SR X W me B H σ δ) (h : After X W lk σ H (Hid B σ δ) ((ev o δ true t).bind g) Q) :
    tO X W o t σ H fun oi H1 => SR X W me B H1 σ δ ∧ Same H H1 ∧ After X W lk σ H1 (Hid B σ δ) (g' oi) Q := by
  refine ⟨me, B, δ, S, ?_⟩
  cases e : ev o δ true t with
  | ok r =>
    rw [e] at h
    have h : After X W lk σ H (Hid B σ δ) (g r) Q := h
    rw [hg] at h
    show (match R.of (bnd t r.2) with | .ok oi => ∀ H', Same H H' → SR X W me B H' σ δ ∧ Same H H' ∧ After X W lk σ H' (Hid B σ δ) (g' oi) Q | .exc c => EW X W σ H c | .stuck => False)
    cases e2 : bnd t r.2 with
    | none => rw [e2] at h; exact h.elim
    | some oi => rw [e2] at h; exact fun H' s => ⟨S.mono s, s, After.mono h s⟩
  | exc c => rw [e] at h; exact h
  | stuck => rw [e] at h; exact h
theorem Reps.cut {G : Hp} {l : List D} {vs : List V} (h : Reps W G l vs) (p q : Nat) : Reps W G (cut l p q) (cut vs p q) := (h.take q).drop p
theorem res_new {P : Addr → Prop} {q : Addr} {l : List D} {xs : List V} (hn : H q = none) (h : Reps W (vis H P) l xs) (hP : ∀ a, P a → ∃ o, H a = some o) : Res W P lk H (upd H q (.lst xs)) true (.lst l) (.ref q) := by
  unfold Res
  rw [if_pos rfl]
  refine ⟨q, rfl, hn, xs, upd_same, h.mono fun b o e => ?_⟩
  obtain ⟨e1, e2⟩ := vis_some e
  have hb : b ≠ q := ne_of_none e1 hn
  refine vis_of (by rw [upd_ne hb]; exact e1) fun z => ?_
  rcases z with z | z
  · exact e2 z
  · exact hb z
theorem res_newT {P : Addr → Prop} {q : Addr} {l : List D} {xs : List V} (hn : H q = none) (h : Reps W (vis H P) l xs) (hP : ∀ a, P a → ∃ o, H a = some o) : Res W P lk H (upd H q (.tup xs)) false (.tup l) (.ref q) := by
  refine .shared ?_
  simp only [Rep]
  have nP : ¬ P q := fun z => by obtain ⟨o, e⟩ := hP q z; rw [hn] at e; cases e
  refine ⟨q, xs, rfl, .inl (.inl (vis_of upd_same nP)), h.mono fun b o e => ?_⟩
  obtain ⟨e1, e2⟩ := vis_some e
  exact vis_of (by rw [upd_ne (ne_of_none e1 hn)]; exact e1) e2
noncomputable def SemS (W : Wd) (r : V → Option Int → Option Int → Hp → VK → Prop) (g : D → Option Int → Option Int → Option (Bool × D)) : Prop :=
  ∀ (lk : Bool) (P : Addr → Prop) (H : Hp) (x : V) (dx : D) (lo hi : Option Int) (Q : VK) (w : Bool) (d : D), Soft H P → (∀ a, P a → ∃ o, H a = some o) → RepT W H (vis H P) dx x → g dx lo hi = some (w, d) →
    (∀ v H', Same H H' → Res W P lk H H' w d v → Q v H') → r x lo hi H Q
theorem bind_of {α β : Type} (x : Option α) (f : α → Option β) : R.of (x.bind f) = (R.of x).bind fun a => R.of (f a) := by cases x <;> rfl
theorem d_slc {o : Orc} {tl th : T} {lo hi : Option Expr} {p2 : Pos} {r : V → Option Int → Option Int → Hp → VK → Prop} {g : D → Option Int → Option Int → Option (Bool × D)} (hr : SlR X r) (hs : SemS W r g) (ha : PE X a (tD X W true fa)) (hl : IsO tl lo X W o) (hh : IsO th hi X W o) :
    PE X (.Subscript a (.Slice lo hi none p2) pos) (tD X W lk fun δ => (fa δ).bind fun x => (ev o δ true tl).bind fun y => (ev o δ true th).bind fun z => .of ((bnd tl y.2).bind fun l => (bnd th z.2).bind fun h => g x.2 l h)) := by
  refine PE.imp (pe_slice hr ha (d_po hl) (d_po hh)) fun σ H Q h => ?_
  obtain ⟨me, B, δ, S, h⟩ := tD_iff.mp h
  refine tD.mono (part S h) fun v H1 ⟨r1, e1, S1, s1, t1, _, h1⟩ => ?_
  refine ⟨me, B, δ, S1, ?_⟩
  cases e2 : ev o δ true tl with
  | ok y =>
    rw [e2] at h1
    have h1 : After X W lk σ H1 (Hid B σ δ) ((ev o δ true th).bind fun z => .of ((bnd tl y.2).bind fun l => (bnd th z.2).bind fun h => g r1.2 l h)) Q := h1
    show (match R.of (bnd tl y.2) with | .ok oi => ∀ H', Same H1 H' → tO X W o th σ H' fun u H3 => r v oi u H3 Q | .exc c => EW X W σ H1 c | .stuck => False)
    cases e3 : bnd tl y.2 with
    | none =>
      rw [e3] at h1
      cases e4 : ev o δ true th with
      | ok z => rw [e4] at h1; exact h1.elim
      | exc c => rw [e4] at h1; exact h1.elim
      | stuck => rw [e4] at h1; exact h1.elim
    | some l =>
      rw [e3] at h1
      intro H2 s2
      have h2 : After X W lk σ H2 (Hid B σ δ) ((ev o δ true th).bind fun z => .of ((bnd th z.2).bind fun h => g r1.2 l h)) Q := After.mono h1 s2
      refine tO.mono (partO (g' := fun h => R.of (g r1.2 l h)) (fun r => bind_of _ _) (S1.mono s2) h2) fun u H3 ⟨S3, s3, h3⟩ => ?_
      cases e5 : g r1.2 l u with
      | none => rw [e5] at h3; exact h3.elim
      | some q =>
        rw [e5] at h3
        exact hs lk (Hid B σ δ) H3 v r1.2 l u Q q.1 q.2 S3.softH S3.know (t1.mono (s2.trans s3) (vis_mono (s2.trans s3))) e5 h3
  | exc c => rw [e2] at h1; exact h1.elim
  | stuck => rw [e2] at h1; exact h1.elim
noncomputable def rSlS : V → Option Int → Option Int → Hp → VK → Prop := fun x lo hi H Q => ∃ z : Str, x = .str z ∧ z.length ≤ sizeLine ∧ Q (.str (PySem.Txt.slice z lo hi)) H
theorem sl_str : SlR X rSlS := by
  intro pins s σ H x v vl vu lo hi sl Q I rx hs pl pu h
  obtain ⟨z, rfl, hz, q⟩ := h
  obtain ⟨t, rfl⟩ := rx
  refine ⟨"str", _, PySem.F.slot_str_getitem.lookup, typeIs_str _ _ _, ?_⟩
  cases pl with
  | none =>
    cases pu with
    | none => exact wpAny_getItem_str_slice (l := none) (u := none) (st := none) hs rfl (post_val_or_str ⟨Nat.le_trans (PySem.Txt.slice_le z none none) hz, fun t' k => ⟨.str (PySem.Txt.slice z none none), H, I.tok _, ⟨t', rfl⟩, q⟩⟩)
    | int j tj => exact wpAny_getItem_str_slice (l := none) (u := some (j, tj)) (st := none) hs rfl (post_val_or_str ⟨Nat.le_trans (PySem.Txt.slice_le z none (some j)) hz, fun t' k => ⟨.str (PySem.Txt.slice z none (some j)), H, I.tok _, ⟨t', rfl⟩, q⟩⟩)
  | int i ti =>
    cases pu with
    | none => exact wpAny_getItem_str_slice (l := some (i, ti)) (u := none) (st := none) hs rfl (post_val_or_str ⟨Nat.le_trans (PySem.Txt.slice_le z (some i) none) hz, fun t' k => ⟨.str (PySem.Txt.slice z (some i) none), H, I.tok _, ⟨t', rfl⟩, q⟩⟩)
    | int j tj => exact wpAny_getItem_str_slice (l := some (i, ti)) (u := some (j, tj)) (st := none) hs rfl (post_val_or_str ⟨Nat.le_trans (PySem.Txt.slice_le z (some i) (some j)) hz, fun t' k => ⟨.str (PySem.Txt.slice z (some i) (some j)), H, I.tok _, ⟨t', rfl⟩, q⟩⟩)
theorem ix_str (l u : Option Int) (n : Nat) : Builtin.Str.strSliceIndices l u 1 n = (List.range (highOf n u - lowOf n l)).map fun k => lowOf n l + k := by
  have cl : ∀ i : Int, max 0 (min (if i < 0 then i + (n : Int) else i) (n : Int)) = ((clip n i : Nat) : Int) := fun i => by
    unfold clip
    by_cases h : i < 0
    · rw [if_pos h, if_neg (by omega)]; omega
    · rw [if_neg h, if_pos (by omega)]; omega
  have e : Builtin.Str.strSliceIndices l u 1 n = sliceRange (lowOf n l : Int) (highOf n u : Int) 1 := by
    unfold Builtin.Str.strSliceIndices
    cases l <;> cases u <;> simp only [show (1 : Int) > 0 by decide, if_true, cl, lowOf, highOf] <;> rfl
  rw [e]
  generalize lowOf n l = p
  generalize highOf n u = q
  unfold sliceRange
  simp only [show (1 : Int) > 0 by decide, if_true]
  by_cases h : (p : Int) < q
  · have : (((q : Int) - p + 1 - 1) / 1).toNat = q - p := by rw [Int.ediv_one]; omega
    rw [if_pos h, this]
    exact List.map_congr_left fun k _ => by omega
  · rw [if_neg h, show q - p = 0 by omega]; rfl
theorem slice_str (x : List Nat) (l u : Option Int) : PySem.Txt.slice (strV x) l u = strV (cut x (lowOf x.length l) (highOf x.length u)) := by
  have hn : (strV x).length = x.length := by simp [strV, Str.length]
  have hh : highOf x.length u ≤ x.length := by
    cases u with
    | none => exact Nat.le_refl _
    | some i => show clip x.length i ≤ x.length; unfold clip; split <;> omega
  unfold PySem.Txt.slice
  rw [ix_str, hn, cut_eq]
  generalize lowOf x.length l = p
  generalize highOf x.length u = q at hh
  split
  · rename_i h
    simp only [BEq.rfl, Bool.true_and, beq_iff_eq, List.length_map, List.length_range] at h
    have hx : x.length = 0 ∨ (p = 0 ∧ q = x.length) := by omega
    rcases hx with hx | ⟨rfl, rfl⟩
    · have : x = [] := List.length_eq_zero_iff.mp hx
      subst this
      simp
    · simp
  · congr 1
    by_cases hp : p ≤ q
    · have := PySem.StrLaws.picks x (q - p) p (by omega)
      simpa [strV] using congrArg List.toArray this
    · rw [show q - p = 0 by omega]; simp
noncomputable def rSl (K : PySem.W.Frag) : V → Option Int → Option Int → Hp → VK → Prop := fun x lo hi H Q => (rSlL K x lo hi H Q ∨ rSlT K x lo hi H Q) ∨ rSlS x lo hi H Q
theorem sl_all : SlR X (rSl X.K) := SlR.or (SlR.or sl_list sl_tup) sl_str
theorem low_ix (n : Nat) (o : Option Int) : HT.sIx n 0 o = lowOf n o := by cases o with | none => rfl | some i => exact clip_ix n 0 i
theorem high_ix (n : Nat) (o : Option Int) : HT.sIx n n o = highOf n o := by cases o with | none => rfl | some i => exact clip_ix n n i
theorem cutV_eq (xs : List V) (lo hi : Option Int) : cutV xs lo hi = cut xs (lowOf xs.length lo) (highOf xs.length hi) := by
  unfold cutV
  rw [low_ix, high_ix, cut_eq]
theorem sem_slc (hk : W.K = X.K) : SemS W (rSl X.K) slcD := by
  intro lk P H x dx lo hi Q w d hS hK hx e k
  cases dx <;> first | exact nope e | exact nopeR e | simp only [slcD] at e
  · cases e
    obtain ⟨rfl, hl⟩ := repT_str hx
    refine .inr ⟨strV _, rfl, by simpa [strV, Str.length, sizeLine_eq] using hl, ?_⟩
    rw [slice_str]
    exact k _ _ (Same.refl _) (.shared (by simp only [Rep]; exact ⟨trivial, Nat.le_trans (by unfold cut; simp; omega) hl⟩))
  · split at e
    · cases e
    · rename_i hne
      cases e
      simp only [RepT, Rep] at hx
      obtain ⟨a, xs, rfl, q1, q2⟩ := hx
      refine .inl (.inr ⟨a, xs, rfl, hk ▸ same_tup vis_le q1, ?_, fun p hp => ?_⟩)
      · rw [low_ix, high_ix, ← q2.length]; exact hne
      · rw [cutV_eq, ← q2.length]
        exact k _ _ (Same.upd hp) (res_newT hp (q2.cut _ _) hK)
  · cases e
    obtain ⟨a, xs, rfl, q1, q2⟩ := hx
    refine .inl (.inl ⟨a, xs, rfl, hk ▸ q1, fun p hp => ?_⟩)
    rw [cutV_eq, ← q2.length]
    exact k _ _ (Same.upd hp) (res_new hp (q2.cut _ _) hK)
noncomputable def tyName : Ty → Option String
  | .int => some "int"
  | .bool => some "bool"
  | .str => some "str"
  | .tup => some "tuple"
  | .lst => some "list"
  | .dct => some "dict"
  | _ => none
end
end Z

namespace Z
open PySem PySem.Spec PyProof.Rows L2
section
variable {X : Cx} {W : Wd} {lk lk' : Bool} {σ : L2.St} {H H1 H' : Hp} {me : Option Addr} {B : Addr → Prop} {δ : Dst} {Q Q' : VK} {a b : Expr} {pos p : Pos} {fa fb fc : Dst → R (Bool × D)}
noncomputable def TyS (K : PySem.W.Frag) (H : Hp) (x : V) (t : String) : Prop := match x with
  | .non => t = "NoneType"
  | .bl _ => t = "bool"
  | .int _ => t = "int"
  | .str _ => t = "str"
  | .ref a => (t = "list" ∧ ∃ xs, SqL K H a xs) ∨ (t = "tuple" ∧ ∃ xs, SqT K H a xs) ∨ (t = "dict" ∧ ∃ kvs, IsK H a kvs)
  | _ => False
theorem call_is : CallR X (.builtin "isinstance") (fun xs H Q => ∃ x T t b, xs = [x, .ty T] ∧ TyS X.K H x t ∧ PySem.W.kitOne X.K (.type t) (.type T) = some b ∧ Q (.bl b) H) := by
  intro pins s σ H xs us Q I r h
  obtain ⟨x, T, t, b, rfl, ty, e, q⟩ := h
  cases r with
  | cons rx r2 =>
    cases r2 with
    | cons rT r3 =>
      cases r3
      cases (show _ = Value.type T from rT)
      have fin : ∀ tk, EP X pins σ Q (.bool b) { s with toks := tk } := fun tk => ⟨.bl b, H, I.tok _, rfl, q⟩
      cases x with
      | non => cases (show _ = Value.none from rx); cases (show t = "NoneType" from ty); exact PySem.W.kia_one PySem.W.kitx_none I.kIn True.intro e (fun z => nomatch z) fin
      | bl y => cases (show _ = Value.bool y from rx); cases (show t = "bool" from ty); exact PySem.W.kia_one PySem.W.kitx_bool I.kIn True.intro e (fun z => nomatch z) fin
      | int i => obtain ⟨tk, q⟩ := (show ∃ t, _ = Value.int i t from rx); cases q; cases (show t = "int" from ty); exact PySem.W.kia_one PySem.W.kitx_int I.kIn True.intro e (fun z => nomatch z) fin
      | str y => obtain ⟨tk, q⟩ := (show ∃ t, _ = Value.str y t from rx); cases q; cases (show t = "str" from ty); exact PySem.W.kia_one PySem.W.kitx_str I.kIn True.intro e (fun z => nomatch z) fin
      | ref a =>
        cases (show _ = Value.ref a from rx)
        rcases (show (t = "list" ∧ ∃ xs, SqL X.K H a xs) ∨ (t = "tuple" ∧ ∃ xs, SqT X.K H a xs) ∨ (t = "dict" ∧ ∃ kvs, IsK H a kvs) from ty) with ⟨rfl, xs, h⟩ | ⟨rfl, xs, h⟩ | ⟨rfl, kvs, ep, h⟩
        · obtain ⟨its, _, pl, _⟩ := I.list h
          obtain ⟨o, ho, hc, _⟩ := pl.isList
          exact PySem.W.kia_one PySem.W.kitx_list I.kIn ⟨o, ho, hc⟩ e (fun z => nomatch z) fin
        · obtain ⟨its, _, pl, _⟩ := I.tuple h
          obtain ⟨o, ho, hc, _⟩ := pl
          exact PySem.W.kia_one PySem.W.kitx_tuple I.kIn ⟨o, ho, hc⟩ e (fun z => nomatch z) fin
        · obtain ⟨_, _, vs, _, p⟩ := (show ObjOk X.prog X.w H s.heap a (.dK kvs ep) from I.hok a _ h)
          obtain ⟨o, es, h1, h2, _⟩ := p
          exact PySem.W.kia_one PySem.W.kitx_dict I.kIn ⟨o, h1, h2.1⟩ e (fun z => nomatch z) fin
      | _ => exact (show False from ty).elim
noncomputable def subB (t T : String) : Bool := t == T || (t == "bool" && T == "int")
theorem kit_all (K : PySem.W.Frag) : ∀ t ∈ ["NoneType", "bool", "int", "str", "list", "tuple", "dict"], ∀ T ∈ ["int", "bool", "str", "tuple", "list", "dict"], PySem.W.kitOne K (.type t) (.type T) = some (subB t T) := by
  intro t ht T hT
  simp only [List.mem_cons, List.not_mem_nil, or_false] at ht hT
  rcases ht with rfl | rfl | rfl | rfl | rfl | rfl | rfl <;> rcases hT with rfl | rfl | rfl | rfl | rfl | rfl <;> (with_unfolding_all rfl)
theorem ty_mem {ty : Ty} {T : String} (h : tyName ty = some T) : T ∈ ["int", "bool", "str", "tuple", "list", "dict"] := by
  cases ty <;> simp [tyName] at h <;> subst h <;> simp
theorem isD_ty {o : Orc} {ty : Ty} {T : String} {d : D} {b : Bool} {v : V} (hk : W.K = X.K) (hT : tyName ty = some T) (h : RepT W H (vis H B) d v) (e : isD o ty d = some b) : ∃ t, TyS X.K H v t ∧ t ∈ ["NoneType", "bool", "int", "str", "list", "tuple", "dict"] ∧ subB t T = b := by
  cases d with
  | non =>
    simp only [RepT, Rep] at h; subst h
    refine ⟨"NoneType", rfl, by simp, ?_⟩
    cases ty <;> simp [tyName] at hT <;> subst hT <;> simp [isD] at e <;> subst e <;> rfl
  | bl x =>
    simp only [RepT, Rep] at h; subst h
    refine ⟨"bool", rfl, by simp, ?_⟩
    cases ty <;> simp [tyName] at hT <;> subst hT <;> simp [isD] at e <;> subst e <;> rfl
  | int x =>
    simp only [RepT, Rep] at h; subst h
    refine ⟨"int", rfl, by simp, ?_⟩
    cases ty <;> simp [tyName] at hT <;> subst hT <;> simp [isD] at e <;> subst e <;> rfl
  | str x =>
    obtain ⟨rfl, _⟩ := repT_str h
    refine ⟨"str", rfl, by simp, ?_⟩
    cases ty <;> simp [tyName] at hT <;> subst hT <;> simp [isD] at e <;> subst e <;> rfl
  | tup l =>
    simp only [RepT, Rep] at h
    obtain ⟨a, xs, rfl, h1, h2⟩ := h
    refine ⟨"tuple", .inr (.inl ⟨rfl, xs, hk ▸ same_tup vis_le h1⟩), by simp, ?_⟩
    cases ty <;> simp [tyName] at hT <;> subst hT <;> simp [isD] at e <;> subst e <;> rfl
  | lst l =>
    obtain ⟨a, xs, rfl, h1, h2⟩ := h
    refine ⟨"list", .inl ⟨rfl, xs, hk ▸ h1⟩, by simp, ?_⟩
    cases ty <;> simp [tyName] at hT <;> subst hT <;> simp [isD] at e <;> subst e <;> rfl
  | dct ks vs =>
    obtain ⟨a, kvs, rfl, h1, h2⟩ := h
    refine ⟨"dict", .inr (.inr ⟨rfl, kvs, h1⟩), by simp, ?_⟩
    cases ty <;> simp [tyName] at hT <;> subst hT <;> simp [isD] at e <;> subst e <;> rfl
  | obj c ns vs => cases ty <;> simp [tyName] at hT <;> simp [isD] at e
  | err c => cases ty <;> simp [tyName] at hT <;> simp [isD] at e
theorem d_isin {o : Orc} {ty : Ty} {T : String} {tn : Str} {p2 : Pos} (hk : W.K = X.K) (hT : tyName ty = some T) (hg : Gl X "isinstance") (hm : X.mg "isinstance" = none) (hg2 : Gl X tn) (hm2 : X.mg tn = none) (hv2 : bootBuiltins tn = some (.type T)) (hx2 : tn ≠ "__name__") (hd2 : (tn == ("__debug__" : Str)) = false)
    (ha : PE X a (tD X W true fa)) (he : starEach [a, .Name tn p2] X.env = (false, eval a X.env) :: starEach [.Name tn p2] X.env) :
    PE X (.Call (.Name "isinstance" p) [a, .Name tn p2] [] pos) (tD X W lk fun δ => (fa δ).bind fun x => .of ((isD o ty x.2).map fun t => (false, .bl t))) := by
  refine PE.imp (pe_callB call_is hg hm PyProof.Rows.boot_isinstance (pa_cons ha (pa_cons (pe_bltn (v := .ty T) hg2 hm2 hv2 rfl hx2 hd2) pa_nil) he) (by decide) (by decide) he rfl) fun σ H Q h => ?_
  obtain ⟨me, B, δ, S, h⟩ := tD_iff.mp h
  refine tD.mono (part S h) fun v H1 ⟨r1, e1, S1, s1, t1, _, h1⟩ => ?_
  cases e : isD o ty r1.2 with
  | none => rw [e] at h1; exact h1.elim
  | some b =>
    rw [e] at h1
    obtain ⟨t, h2, h3, h4⟩ := isD_ty hk hT t1 e
    exact ⟨v, T, t, b, rfl, h2, by rw [kit_all _ t h3 T (ty_mem hT), h4], h1 _ H1 (Same.refl _) res_bl⟩
noncomputable def TgOk (X : Cx) (W : Wd) (tg : Expr) (is : List Nat) (tup : Bool) (g : TG) : Prop := PG X tg g ∧
  ∀ {me : Option Addr} {B : Addr → Prop} {σ : L2.St} {H : Hp} {δ δ1 : Dst} {d : D} {ds : List D} {v : V} {C : L2.St → Hp → Prop}, SR X W me B H σ δ → Rep W (vis H (Hid B σ δ)) d v → takes is.length tup d = some ds → setSlots δ is ds = some δ1 →
    (∀ σ1, SR X W me B H σ1 δ1 → Same (vis H (Hid B σ δ)) (vis H (Hid B σ1 δ1)) → C σ1 H) → g v σ H C
theorem store1 {i : Nat} {d : D} {v : V} {δ1 : Dst} (S : SR X W me B H σ δ) (r : Rep W (vis H (Hid B σ δ)) d v) (e : setSlot δ i false d = some δ1) : SR X W me B H (σ.set i (some v)) δ1 ∧ Same (vis H (Hid B σ δ)) (vis H (Hid B (σ.set i (some v)) δ1)) := by
  obtain ⟨h1, rfl⟩ := setSlot_ok e
  exact S.store (w := false) (Same.refl H) (.shared r) h1
theorem tg_name {i : Nat} {x : Str} {pos : Pos} (hN : X.N.Nodup) (hi : X.N[i]? = some x) (hx : Loc X.env.scope x) (hf : X.fn x = true ∨ X.env.scope.names.lookup x = some .local) : TgOk X W (.Name x pos) [i] false (gName i) := by
  refine ⟨pg_name hN hi hx hf, fun {me B σ H δ δ1 d ds v C} S r e1 e2 k => ?_⟩
  simp only [takes, Bool.false_eq_true, if_false, Option.some.injEq] at e1
  subst e1
  simp only [setSlots] at e2
  cases e3 : setSlot δ i false d with
  | none => rw [e3] at e2; cases e2
  | some δ' =>
    rw [e3] at e2
    cases e2
    obtain ⟨S1, s1⟩ := store1 S r e3
    exact k _ S1 s1
noncomputable def gNames : List Nat → TGs
  | [] => gNil
  | i :: l => gCons (gName i) (gNames l)
theorem names_store {C : L2.St → Hp → Prop} : ∀ {is : List Nat} {ds : List D} {vs : List V} {σ : L2.St} {δ δ1 : Dst}, SR X W me B H σ δ → Reps W (vis H (Hid B σ δ)) ds vs → setSlots δ is ds = some δ1 →
    (∀ σ1, SR X W me B H σ1 δ1 → Same (vis H (Hid B σ δ)) (vis H (Hid B σ1 δ1)) → C σ1 H) → gNames is vs σ H C
  | [], [], [], σ, δ, δ1, S, r, e, k => by
    simp only [setSlots, Option.some.injEq] at e
    subst e
    exact ⟨rfl, k σ S (Same.refl _)⟩
  | [], [], _ :: _, _, _, _, _, r, _, _ => by simp only [Reps] at r
  | [], _ :: _, _, _, _, _, _, _, e, _ => by simp [setSlots] at e
  | _ :: _, [], _, _, _, _, _, _, e, _ => by simp [setSlots] at e
  | _ :: _, _ :: _, [], _, _, _, _, r, _, _ => by simp only [Reps] at r
  | i :: is, d :: ds, v :: vs, σ, δ, δ1, S, r, e, k => by
    simp only [Reps] at r
    simp only [setSlots] at e
    cases e3 : setSlot δ i false d with
    | none => rw [e3] at e; cases e
    | some δ' =>
      rw [e3] at e
      obtain ⟨S1, s1⟩ := store1 S r.1 e3
      exact ⟨v, vs, rfl, names_store S1 (r.2.mono s1) e fun σ1 S2 s2 => k σ1 S2 (s1.trans s2)⟩
theorem tg_tup {es : List Expr} {is : List Nat} {kk : Nat} {pos : Pos} (hk : W.K = X.K) (hc : X.calm = true) (h : PGs X es (gNames is)) (hn : (assignEach es X.env).length = is.length) (hst : (assignEach es X.env).findIdx? (·.1) = none) : TgOk X W (.Tuple es kk pos) is true (gTup X.K is.length (gNames is)) := by
  refine ⟨pg_tup hc h hn hst, fun {me B σ H δ δ1 d ds v C} S r e1 e2 k => ?_⟩
  simp only [takes, if_true] at e1
  cases d with
  | tup l =>
    simp only at e1
    split at e1
    · rename_i hl
      cases e1
      simp only [Rep] at r
      obtain ⟨a, xs, rfl, r1, r2⟩ := r
      exact ⟨a, xs, rfl, hk ▸ same_tup vis_le r1, by rw [← r2.length]; exact hl, names_store S r2 e2 k⟩
    · cases e1
  | _ => simp at e1
theorem PI.or {tg e : Expr} {t t' : L2.TI} (h : PI X tg e t) (h' : PI X tg e t') : PI X tg e (fun σ H R => t σ H R ∨ t' σ H R) := by
  intro pins s σ H R I q
  rcases q with q | q
  · exact h pins s σ H R I q
  · exact h' pins s σ H R I q
theorem PI.imp {tg e : Expr} {t t' : L2.TI} (h : PI X tg e t) (i : ∀ σ H R, t' σ H R → t σ H R) : PI X tg e t' := fun pins s σ H R I hw => h pins s σ H R I (i σ H R hw)
noncomputable def start0 (ds : List D) (n : Nat) : Dst := ds.map (fun d => some (Own.sh, d)) ++ List.replicate n none
theorem start0_get {ds : List D} {n i : Nat} {w : Own} {d : D} (h : (start0 ds n)[i]? = some (some (w, d))) : w = .sh ∧ ds[i]? = some d := by
  unfold start0 at h
  by_cases hi : i < ds.length
  · rw [List.getElem?_append_left (by simpa using hi), List.getElem?_map] at h
    cases e : ds[i]? with
    | none => rw [e] at h; cases h
    | some x => rw [e] at h; cases h; exact ⟨rfl, rfl⟩
  · rw [List.getElem?_append_right (by simpa using hi), List.getElem?_replicate] at h
    split at h <;> cases h
theorem start_get {N : List Str} {vs : List V} {i : Nat} {v : V} (h : vs[i]? = some v) : (L2.start N vs)[i]? = some (some v) := by
  unfold L2.start
  have hi : i < vs.length := (List.getElem?_eq_some_iff.mp h).1
  rw [List.getElem?_append_left (by simpa using hi), List.getElem?_map, h]
  rfl
theorem SR.start {N : List Str} {ds : List D} {vs : List V} (hk : W.K = X.K) (h0 : X.H₀ = H) (hb : Soft H B) (hg : ∀ b, B b → ∃ o, H b = some o) (hr : Reps W (vis H B) ds vs) (hl : vs.length ≤ N.length) :
    SR X W none B H (L2.start N vs) (start0 ds (N.length - vs.length)) := by
  have hid : ∀ b, Hid B (L2.start N vs) (start0 ds (N.length - vs.length)) b → B b := fun b hb => by
    rcases hb with hb | ⟨i, ⟨w, d, h1, h2⟩, _⟩
    · exact hb
    · exact absurd (start0_get h1).1 h2
  refine ⟨hk, ?_, fun i d h => ?_, fun i d h => ?_, fun i d h => ?_, fun i j a h1 _ => ?_, fun b o h _ => by rw [← h0]; exact h, hb, hg, fun x h => nomatch h⟩
  · unfold L2.start start0
    simp [hr.length]
  · obtain ⟨v, e1, e2⟩ := hr.get (start0_get h).2
    exact ⟨v, start_get e1, e2.mono (vis_sub hid)⟩
  · exact absurd (start0_get h).1 (by decide)
  · exact absurd (start0_get h).1 (by decide)
  · obtain ⟨⟨w, d, h1, h2⟩, _⟩ := h1
    exact absurd (start0_get h1).1 h2
end
end Z

namespace Z
open PySem PySem.Spec PyProof.Rows L2
section
variable {X : Cx} {W : Wd} {me : Option Addr} {B : Addr → Prop} {H H' : Hp} {σ : L2.St} {δ : Dst} {E : Value → Shared → Prop} {s s' : Shared} {cls : Value} {a : Addr} {tr : Bool}
theorem SR.wish (S : SR X W me B H σ δ) : SR (X.wish E) W me B H σ δ := ⟨S.kf, S.len, S.sh, S.ow, S.mi, S.apart, S.same, S.soft, S.gone, S.live⟩
theorem SR.unwish (S : SR (X.wish E) W me B H σ δ) : SR X W me B H σ δ := ⟨S.kf, S.len, S.sh, S.ow, S.mi, S.apart, S.same, S.soft, S.gone, S.live⟩
theorem Fly.wish (F : Fly X H s cls a H' s' tr) : Fly (X.wish E) H s cls a H' s' tr := ⟨F.os, F.bare, F.un, F.hok, F.newE, F.freeE, F.ff, F.fr, F.exc⟩
theorem Fly.unwish (F : Fly (X.wish E) H s cls a H' s' tr) : Fly X H s cls a H' s' tr := ⟨F.os, F.bare, F.un, F.hok, F.newE, F.freeE, F.ff, F.fr, F.exc⟩
theorem PE.lift {e : Expr} {lk : Bool} {f : Dst → R (Bool × D)} (h : PE X.nox e (tD X.nox W lk f)) : PE X e (tD X W lk f) := PE.imp (PE.nox h) fun σ H Q q => by
  obtain ⟨me, B, δ, S, q⟩ := tD_iff.mp q
  exact tD_iff.mpr ⟨me, B, δ, S.wish, q⟩
theorem PT.lift {e : Expr} {f : Dst → R (Bool × D)} (h : PT X.nox e (tT X.nox W f)) : PT X e (tT X W f) := PT.imp (PT.nox h) fun σ H Q ⟨me, B, δ, S, q⟩ => ⟨me, B, δ, S.wish, q⟩
theorem PS.lift {st : Stmt} {g : Dst → SO} (h : PS X.nox st (tS X.nox W g)) (hn : ∀ δ c δ', g δ ≠ .ex c δ') : PS X st (tS X W g) := by
  intro pins s σ H D I ⟨me, B, δ, S, q⟩
  refine wpAny_mono (h pins s σ H D (I.wish _) ⟨me, B, δ, S.wish, ?_⟩) (fun _ _ q => q.unwish) fun _ _ z => False.elim z
  cases e : g δ with
  | nx δ1 => rw [e] at q; exact fun σ H S z => q σ H S.unwish z
  | bk δ1 => rw [e] at q; exact fun σ H S z => q σ H S.unwish z
  | ct δ1 => rw [e] at q; exact fun σ H S z => q σ H S.unwish z
  | rt w d δ1 => rw [e] at q; exact fun v σ H S z => q v σ H S.unwish z
  | ex c δ1 => exact absurd e (hn δ c δ1)
  | stuck => rw [e] at q; exact q
theorem PSs.unw {st : List Stmt} {t : TS} (h : PSs (X.wish E) st t) (k : ∀ e s, E e s → X.xe e s) : PSs X st t := fun pins s σ H D I hw =>
  wpAny_mono (h pins s σ H D (I.wish _) hw) (fun _ _ q => q.unwish) fun e s' z => k e s' z
end
noncomputable def CXZ (P : Program) (w : World) (base : Heap) (W : Wd) : CXT := fun outer H s E e s' => ∃ a c H', e = .ref a ∧ s'.os = s.os ∧ AllBare s'.gens ∧ Un (frs outer) [] H H' s.heap s'.heap ∧ HOk P w H' s'.heap ∧ s.heap.get? a = none ∧ H' a = none ∧
  ExcAt s'.heap s.heap H' a (.ref (W.CT c)) true ∧ Same H H' ∧ E (.ref (W.CT c)) (some a) H'
noncomputable def spEx (W : Wd) (g : List D → R (Bool × D)) (np : Nat) : Sp := fun vs H _ E => vs.length = np ∧ ∃ B ds, Soft H B ∧ (∀ b, B b → ∃ o, H b = some o) ∧ Reps W (vis H B) ds vs ∧ ∃ c, g ds = .exc c ∧ ∀ a H', Same H H' → E (.ref (W.CT c)) a H'
noncomputable def spB (W : Wd) (g : List D → R (Bool × D)) (np : Nat) : Sp := fun vs H Q E => spFn W g np vs H Q E ∨ spEx W g np vs H Q E
section
variable {P : Program} {w : World} {K : PySem.W.Frag} {mg : Str → Option Value} {base : Heap} {k : Nat} {f : Addr} {fd : FuncData} {ps : List Str} {W : Wd} {g : List D → R (Bool × D)} {np : Nat}
theorem ok0 (F : FnOk P w K mg base (CXZ P w base W) k f fd ps (spB W g np)) : FnOk P w K mg base CX0 k f fd ps (spFn W g np) := by
  refine ⟨fun vs H Q E q => F.len vs H Q E (.inl q), fun A outer s H args us vs Q E hr he hb hv hs => ?_⟩
  refine codeAny_mono (F.run A outer s H args us vs Q E0 hr he hb hv (.inl hs)) fun r s' q => ?_
  cases r with
  | ok fl => cases fl <;> exact q
  | error e => obtain ⟨_, _, _, _, _, _, _, _, _, _, _, _, z⟩ := q; exact z.elim
end
section
variable {X : Cx} {W : Wd} {pins : List (Addr × Obj)} {σ : L2.St} {H H' : Hp} {s s' : Shared}
theorem Fly.of {a : Addr} {cls : Value} {tr : Bool} (I : Inv X pins σ H s) (os : s'.os = s.os) (bare : AllBare s'.gens) (un : Un (frs X.stack) [] H H' s.heap s'.heap) (hok : HOk X.prog X.w H' s'.heap) (n1 : s.heap.get? a = none) (n2 : H' a = none) (ex : ExcAt s'.heap s.heap H' a cls tr) :
    Fly X H s cls a H' s' tr := by
  have fr0 := I.stkFree
  have ff0 := I.stack
  refine ⟨os, bare, un, hok, n1, n2, ?_, fun b hb => ?_, ex⟩
  · have go : ∀ l : List Env, (∀ b ∈ frs l, b ∈ frs X.stack) → s.heap.FunFrames X.base l → s'.heap.FunFrames X.base l := by
      intro l
      induction l with
      | nil => intro _ _; trivial
      | cons env r ih =>
        intro hs ⟨hk, ⟨L, o, hf, hn, ho, hd⟩, hr⟩
        have e : frs (env :: r) = L :: frs r := by unfold frs; rw [List.filterMap_cons, hf]
        rw [e] at hs
        obtain ⟨sl, q⟩ := un.slot L o ho (fr0 L (hs L List.mem_cons_self)) (hs L List.mem_cons_self) (by simp)
        exact ⟨hk, ⟨L, _, hf, hn, q, hd⟩, ih (fun b hb => hs b (List.mem_cons_of_mem _ hb)) hr⟩
    exact go X.stack (fun _ z => z) ff0
  · obtain ⟨_, o, ho, _⟩ := ff0.mem hb
    exact un.free b o ho (fr0 b hb) (by simp)
noncomputable def XEf (X : Cx) (W : Wd) (E : XK) : Value → Shared → Prop := fun e s' => ∃ pins σ H1 s1 c a H' tr, e = .ref a ∧ Inv X pins σ H1 s1 ∧ Same X.H₀ H1 ∧ Fly X H1 s1 (.ref (W.CT c)) a H' s' tr ∧ Same H1 H' ∧ ∀ a' H'', Same X.H₀ H'' → E (.ref (W.CT c)) a' H''
end
section
variable {P : Program} {w : World} {K : PySem.W.Frag} {mg : Str → Option Value} {base : Heap} {x qual : Str} {st : Stmt} {f : Addr} {fd : FuncData} {N ps : List Str} {k : Nat} {o : Orc} {W : Wd} {np ns : Nat} {body : SL}
noncomputable abbrev cxB (P : Program) (w : World) (K : PySem.W.Frag) (mg : Str → Option Value) (base : Heap) (W : Wd) (N : List Str) (qual : Str) (st : Stmt) (f : Addr) (cdv : Value) (A : Around) (outer : List Env) (s : Shared) (H : Hp) (E : XK) : Cx := cxOf (CXZ P w base W) P w K mg base N qual (defScope st) f cdv A outer s H E
noncomputable abbrev cxX (P : Program) (w : World) (K : PySem.W.Frag) (mg : Str → Option Value) (base : Heap) (W : Wd) (N : List Str) (qual : Str) (st : Stmt) (f : Addr) (cdv : Value) (A : Around) (outer : List Env) (s : Shared) (H : Hp) (E : XK) : Cx := (cxB P w K mg base W N qual st f cdv A outer s H E).wish (XEf (cxB P w K mg base W N qual st f cdv A outer s H E) W E)
theorem leave_ok {cdv : Value} {A : Around} {outer : List Env} {s : Shared} {H : Hp} {E : XK} {e : Value} {s' : Shared} (h : XEf (cxB P w K mg base W N qual st f cdv A outer s H E) W E e s') : (cxB P w K mg base W N qual st f cdv A outer s H E).xe e s' := by
  obtain ⟨pins, σ, H1, s1, c, a, H', tr, rfl, I, sm, F, sm', k⟩ := h
  have hX : Top (cxB P w K mg base W N qual st f cdv A outer s H E) s.heap.objs.size := ⟨rfl, rfl, I.ok.frames⟩
  refine leaving_ok (X := cxB P w K mg base W N qual st f cdv A outer s H E) hX F fun h' F' => ?_
  have new : ∀ b, s1.heap.get? b = none → s.heap.get? b = none := fun b hb => by
    cases e : s.heap.get? b with
    | none => rfl
    | some ob => obtain ⟨o', q⟩ := I.base.there b ob e (by exact List.not_mem_nil); rw [hb] at q; cases q
  have hfs : ∀ b o, s.heap.get? b = some o → b ∉ frs outer → b ∉ frs (cxB P w K mg base W N qual st f cdv A outer s H E).stack := fun b ob e hb z => by
    have z : b ∈ s.heap.objs.size :: frs outer := z
    rcases List.mem_cons.mp z with z | z
    · have := Heap.lt_size e; rw [z] at this; exact absurd this (Nat.lt_irrefl _)
    · exact hb z
  have un : Un (frs outer) [] H H' s.heap h' := by
    refine ⟨fun b ob e n hb hx => ?_, fun b ob e n hb hx => ?_, fun b ob e n hx => ?_, fun b ob e hx => ?_, fun b xs e => F'.un.tups b xs (I.base.tups b xs e), fun b ob u e => F'.un.frzs b ob u (I.base.frzs b ob u e), fun b pq e => ?_⟩
    · exact F'.un.keep b ob (I.base.keep b ob e n hb hx) (I.base.free b ob e n hx) (hfs b ob e hb) hx
    · obtain ⟨sl, q⟩ := I.base.slot b ob e n hb hx
      obtain ⟨sl', q'⟩ := F'.un.slot b _ q (I.base.free b ob e n hx) (show b ∈ s.heap.objs.size :: frs outer from List.mem_cons_of_mem _ hb) hx
      exact ⟨sl', q'⟩
    · obtain ⟨o', q⟩ := I.base.there b ob e hx
      exact F'.un.free b o' q (I.base.free b ob e n hx) hx
    · obtain ⟨o', q⟩ := I.base.there b ob e hx
      exact F'.un.there b o' q hx
    · obtain ⟨m1, q1⟩ := I.base.tbls b pq e
      obtain ⟨m2, q2⟩ := F'.un.tbls b _ q1
      exact ⟨m1 ++ m2, by rw [q2, Array.append_assoc]⟩
  obtain ⟨oe, vs, x1, x2, x3, x4, x5⟩ := F'.exc
  refine ⟨a, c, H', rfl, F'.os.trans I.os, F'.bare, un, F'.hok, new a F'.newE, F'.freeE, ⟨oe, vs, x1, x2, x3, x4, ?_⟩, sm.trans sm', k (some a) H' (sm.trans sm')⟩
  rcases x5 with ⟨z, _⟩ | ⟨T, oT, ts, y1, y2, y3, y4⟩
  · cases z
  · exact .inr ⟨T, oT, ts, y1, y2, new T y3, y4⟩
theorem fn_soundX (F : Fun K x qual st f fd) (Sc : FnScope N ps (defScope st)) (hp : ps.length = np) (hn : N.length = ns)
    (hb : ∀ (cdv : Value) (A : Around) (outer : List Env) (s : Shared) (H : Hp) (E : XK), Room k (A.deeper (envOfC qual (defScope st) s.heap.objs.size f cdv)) →
      PSs (cxX P w K mg base W N qual st f cdv A outer s H E) (defBody st) (tS (cxX P w K mg base W N qual st f cdv A outer s H E) W (evSs o body))) (hk : W.K = K) :
    FnOk P w K mg base (CXZ P w base W) (k + 1) f fd ps (spB W (runFn o ⟨np, ns, body⟩) np) := by
  obtain ⟨oc, od, kV, doc, pm, an, cdv, ct, osl, rfl, lk, hcd⟩ := F.ex
  have hlen : ∀ vs H Q E, spB W (runFn o ⟨np, ns, body⟩) np vs H Q E → vs.length = np := fun vs H Q E q => q.elim (·.1) (·.1)
  refine fn_of lk hcd Sc (fun vs H Q E q => by rw [hp]; exact hlen vs H Q E q) fun A outer s H vs Q E hr hsp => ⟨tS (cxX P w K mg base W N qual st f cdv A outer s H E) W (evSs o body), PSs.unw (hb cdv A outer s H E hr) (fun e s' z => leave_ok z), ?_⟩
  have hl : vs.length = np := hlen vs H Q E hsp
  have hle : vs.length ≤ N.length := by
    have := congrArg List.length Sc.pre
    rw [List.length_take] at this
    omega
  have run : ∀ ds : List D, ds.length = vs.length → runFn o ⟨np, ns, body⟩ ds = (match evSs o body (start0 ds (N.length - vs.length)) with | .rt w d _ => R.ok (w, d) | .nx _ => .ok (false, .non) | .ex c _ => .exc c | _ => .stuck) := fun ds hd => by
    unfold runFn start0
    rw [if_pos (by rw [hd]; exact hl), hn, hl]
    try rfl
  have same : ∀ {σ' : L2.St} {H' : Hp} {δ' : Dst} {B : Addr → Prop}, SR (cxX P w K mg base W N qual st f cdv A outer s H E) W none B H' σ' δ' → Same H H' := fun S' b o h => S'.same b o h (by simp)
  rcases hsp with ⟨_, B, ds, b1, b2, b3, r, e, k1⟩ | ⟨_, B, ds, b1, b2, b3, c, e, k1⟩
  · refine ⟨none, B, _, SR.start (N := N) (by exact hk) rfl b1 b2 b3 hle, ?_⟩
    rw [run ds b3.length] at e
    cases e2 : evSs o body (start0 ds (N.length - vs.length)) with
    | rt w d δ' =>
      rw [e2] at e
      cases e
      exact fun v σ' H' S' _ q => k1 v H' (same S') q
    | nx δ' =>
      rw [e2] at e
      cases e
      exact fun σ' H' S' _ => k1 .non H' (same S') (.shared (by simp only [Rep]))
    | bk δ' => rw [e2] at e; cases e
    | ct δ' => rw [e2] at e; cases e
    | ex c δ' => rw [e2] at e; cases e
    | stuck => rw [e2] at e; cases e
  · refine ⟨none, B, _, SR.start (N := N) (by exact hk) rfl b1 b2 b3 hle, ?_⟩
    rw [run ds b3.length] at e
    cases e2 : evSs o body (start0 ds (N.length - vs.length)) with
    | rt w d δ' => rw [e2] at e; cases e
    | nx δ' => rw [e2] at e; cases e
    | bk δ' => rw [e2] at e; cases e
    | ct δ' => rw [e2] at e; cases e
    | stuck => rw [e2] at e; cases e
    | ex c' δ' =>
      rw [e2] at e
      cases e
      intro pins σ' H1 s1 I S _ a H' s' tr Fl sm
      exact ⟨pins, σ', H1, s1, c, a, H', tr, rfl, I.unwish, same S, Fl.unwish, sm, k1⟩
theorem pass_body {cdv : Value} {A : Around} {outer : List Env} {s : Shared} {H : Hp} {E : XK} : PassesOwn (model P w) (cxX P w K mg base W N qual st f cdv A outer s H E).A (cxX P w K mg base W N qual st f cdv A outer s H E).env (cxX P w K mg base W N qual st f cdv A outer s H E).xe := by
  intro e s' h
  obtain ⟨pins, σ, H1, s1, c, a, H', tr, rfl, I, sm, F, sm', k⟩ := id h
  have hX : Top (cxB P w K mg base W N qual st f cdv A outer s H E) s.heap.objs.size := ⟨rfl, rfl, I.ok.frames⟩
  refine passes_of (M := model P w) (X := cxB P w K mg base W N qual st f cdv A outer s H E) (P := XEf (cxB P w K mg base W N qual st f cdv A outer s H E) W E) hX (fun e2 s2 h2 => ?_) (.ref a) s' h
  obtain ⟨pins, σ, H1, s1, c, a, H', tr, rfl, I, sm, F, sm', k⟩ := h2
  exact ⟨H1, s1, _, a, H', tr, rfl, F, fun h' F' => ⟨pins, σ, H1, s1, c, a, H', true, rfl, I, sm, F', sm', k⟩⟩
end
section
variable {X : Cx} {W : Wd} {o : Orc}
theorem call_exc {f np k : Nat} {x : Str} {fa : Addr} {fd : FuncData} {ps : List Str} {e : Expr} {es : List Expr} {l : TL} {p cpos : Pos} {pins : List (Addr × Obj)} {s : Shared} {σ : L2.St} {H : Hp} {me : Option Addr} {B : Addr → Prop} {δ : Dst} {xs : Bool × List D} {c : Nat} {En : Ends} {Q : Value → Shared → Prop} (hn : ∀ δ r, evL o δ l = .ok r → r.2.length = np)
    (F : FnOk X.prog X.w X.K X.mg X.base (CXZ X.prog X.w X.base W) k fa fd ps (spB W (o.fn f) np)) (hr : Room k X.A) (hg : Gl X x) (hm : X.mg x = some (.ref fa)) (hk : PySem.W.keepIn X.K (.ref fa) = true) (hb : Binds X.K fd ps [])
    (ha : PA X (e :: es) (tL X W fun δ => evL o δ l)) (hdb : (x == ("__debug__" : Str)) = false) (he : starEach (e :: es) X.env = (false, eval e X.env) :: starEach es X.env) (hpl : (backTo cpos (starEach es X.env)).any (·.1) = false)
    (I : Inv X pins σ H s) (S : SR X W me B H σ δ) (e1 : evL o δ l = .ok xs) (e2 : o.fn f xs.2 = .exc c) (h : AfterS X W me B (vis H (Hid B σ δ)) (.ex c δ) En) : wpAny (model X.prog X.w) X.A (eval (.Call (.Name x p) (e :: es) [] cpos) X.env) Q X.xe s := by
  have hL : tL X W (fun δ => evL o δ l) σ H fun vs H1 => SR X W me B H1 σ δ ∧ Same H H1 ∧ RepTs W H1 (vis H1 (Hid B σ δ)) xs.2 vs ∧ vs.length = np := by
    refine tL.mono (partL (fa := fun δ => evL o δ l) (g := R.ok) (C := fun r _ => r = .ok xs) S (by rw [e1]; rfl) (fun _ _ _ q => q) (fun c q => (nomatch q)) (fun q => (nomatch q))) fun vs H1 ⟨r, e3, S1, s1, t1, q1, h1⟩ => ?_
    rw [e1] at e3
    cases e3
    exact ⟨S1, s1, t1, by rw [← t1.length]; exact hn δ xs e1⟩
  refine wpAny_Call_Name_kw (ld_glob I hg hm ?_ hdb)
  refine PySem.W.callWith_K (h₀ := X.base) I.ok.mod.kin hk (thn (ha cpos pins s σ H _ I hL) fun us s1 ⟨vs, H1, I1, r, S1, q1, t1, hv⟩ => ⟨I1.kIn, ?_⟩) he hpl
  have hsp : spB W (o.fn f) np vs H1 (fun _ _ => False) (fun cl _ H2 => cl = .ref (W.CT c) ∧ Same H1 H2) := .inr ⟨hv, fun b => Hid B σ δ b ∧ V.ref b ∉ vs, xs.2, fun a ha => S1.softH a ha.1, fun b hb => S1.know b hb.1, t1.lend vs (fun v hv => hv), c, e2, fun a H2 z => ⟨rfl, z⟩⟩
  have r2 : Vals (vs ++ []) (us ++ []) := r.append .nil
  have hlen : (us ++ []).length = ps.length := by rw [← r2.length, List.append_nil]; exact F.len _ _ _ _ hsp
  refine wpAny_call (codeAny_mono (F.run X.A X.stack s1 H1 ⟨us, []⟩ (us ++ []) (vs ++ []) _ _ hr I1.env0 (hb s1 us I1.kIn hlen) r2 (by rw [List.append_nil]; exact hsp)) fun r s' hq => ?_)
  cases r with
  | ok fl =>
    cases fl with
    | ret u => obtain ⟨_, _, _, _, _, _, _, z⟩ := hq; exact z.elim
    | next => exact False.elim hq
    | brk => exact False.elim hq
    | cont => exact False.elim hq
  | error er =>
    obtain ⟨a, c', H', rfl, x1, x2, x3, x4, x5, x6, x7, x8, x9, _⟩ := hq
    rw [x9] at x7
    exact h pins σ H1 s1 I1 S1 (vis_mono q1) a H' s' true (Fly.of I1 x1 x2 x3 x4 x5 x6 x7) x8
theorem ds_exprX {f np k : Nat} {x : Str} {fa : Addr} {fd : FuncData} {ps : List Str} {e : Expr} {es : List Expr} {l : TL} {p cpos pos : Pos} (hn : ∀ δ r, evL o δ l = .ok r → r.2.length = np)
    (F : FnOk X.prog X.w X.K X.mg X.base (CXZ X.prog X.w X.base W) k fa fd ps (spB W (o.fn f) np)) (hr : Room k X.A) (hg : Gl X x) (hm : X.mg x = some (.ref fa)) (hk : PySem.W.keepIn X.K (.ref fa) = true) (hb : Binds X.K fd ps [])
    (ha : PA X (e :: es) (tL X W fun δ => evL o δ l)) (hdb : (x == ("__debug__" : Str)) = false) (he : starEach (e :: es) X.env = (false, eval e X.env) :: starEach es X.env) (hpl : (backTo cpos (starEach es X.env)).any (·.1) = false)
    (hok : PE X (.Call (.Name x p) (e :: es) [] cpos) (tD X W true fun δ => ev o δ true (.call f l))) : PS X (.Expr (.Call (.Name x p) (e :: es) [] cpos) pos) (tS X W (evS o (.expr (.call f l)))) := by
  intro pins s σ H D I ⟨me, B, δ, S, h⟩
  simp only [evS] at h
  obtain ⟨xs, e1, h⟩ := SO.of_ok h
  refine wpAny_Expr_any ?_ I.quiet rfl
  cases e2 : o.fn f xs.2 with
  | stuck => rw [e2] at h; exact h.elim
  | ok r =>
    have er : ev o δ true (.call f l) = lent xs.1 r := by simp only [ev, e1, R.bind, e2]
    rw [e2] at h
    cases e3 : lent xs.1 r with
    | ok r' =>
      have h : AfterS X W me B (vis H (Hid B σ δ)) (SO.ofX δ (lent xs.1 r) fun _ => .nx δ) D := h
      rw [e3] at h
      refine thn (hok pins s σ H (fun v H1 => Same H H1) I (tD_iff.mpr ⟨me, B, δ, S, ?_⟩)) fun v s1 ⟨y, H1, I1, _, q1⟩ => ⟨σ, H1, I1, h _ _ (S.mono q1) (vis_mono q1)⟩
      rw [er, e3]
      exact fun v H1 s1 _ => s1
    | exc c =>
      have h : AfterS X W me B (vis H (Hid B σ δ)) (SO.ofX δ (lent xs.1 r) fun _ => .nx δ) D := h
      unfold lent at e3
      split at e3
      · split at e3 <;> cases e3
      · cases e3
    | stuck =>
      have h : AfterS X W me B (vis H (Hid B σ δ)) (SO.ofX δ (lent xs.1 r) fun _ => .nx δ) D := h
      rw [e3] at h
      exact h.elim
  | exc c =>
    rw [e2] at h
    have h : AfterS X W me B (vis H (Hid B σ δ)) (.ex c δ) D := h
    exact call_exc hn F hr hg hm hk hb ha hdb he hpl I S e1 e2 h
theorem ds_setx {i f np k : Nat} {y x : Str} {fa : Addr} {fd : FuncData} {ps : List Str} {e : Expr} {es : List Expr} {l : TL} {p cpos pos pos' : Pos} (hn : ∀ δ r, evL o δ l = .ok r → r.2.length = np)
    (F : FnOk X.prog X.w X.K X.mg X.base (CXZ X.prog X.w X.base W) k fa fd ps (spB W (o.fn f) np)) (hr : Room k X.A) (hg : Gl X x) (hm : X.mg x = some (.ref fa)) (hk : PySem.W.keepIn X.K (.ref fa) = true) (hb : Binds X.K fd ps [])
    (ha : PA X (e :: es) (tL X W fun δ => evL o δ l)) (hdb : (x == ("__debug__" : Str)) = false) (he : starEach (e :: es) X.env = (false, eval e X.env) :: starEach es X.env) (hpl : (backTo cpos (starEach es X.env)).any (·.1) = false)
    (hok : PE X (.Call (.Name x p) (e :: es) [] cpos) (tD X W false fun δ => ev o δ false (.call f l))) (hN : X.N.Nodup) (hi : X.N[i]? = some y) (hx : Loc X.env.scope y) (hf : X.fn y = true ∨ X.env.scope.names.lookup y = some .local) :
    PS X (.Assign [.Name y pos'] (.Call (.Name x p) (e :: es) [] cpos) pos) (tS X W (evS o (.setx i f l))) := by
  intro pins s σ H D I ⟨me, B, δ, S, h⟩
  simp only [evS] at h
  obtain ⟨xs, e1, h⟩ := SO.of_ok h
  cases e2 : o.fn f xs.2 with
  | stuck => rw [e2] at h; exact h.elim
  | exc c =>
    rw [e2] at h
    exact wpAny_Assign_Name (call_exc hn F hr hg hm hk hb ha hdb he hpl I S e1 e2 (show AfterS X W me B (vis H (Hid B σ δ)) (.ex c δ) D from h)) rfl
  | ok r =>
    refine d_set hN hi hx hok rfl hf pins s σ H D I ⟨me, B, δ, S, ?_⟩
    have er : ev o δ false (.call f l) = lent xs.1 r := by simp only [ev, e1, R.bind, e2]
    rw [e2] at h
    have h : AfterS X W me B (vis H (Hid B σ δ)) (SO.ofX δ (lent xs.1 r) fun r => orStuck ((setSlot δ i r.1 r.2).map .nx)) D := h
    cases e3 : lent xs.1 r with
    | ok r' =>
      rw [e3] at h er
      have ef : evF o δ (.call f l) = (δ, .ok r') := by unfold Z.evF; rw [er]
      simp only [evS, ef]
      exact h
    | exc c =>
      unfold lent at e3
      split at e3
      · split at e3 <;> cases e3
      · cases e3
    | stuck => rw [e3] at h; exact h.elim
end
end Z

namespace Z
open PySem PySem.Spec PyProof.Rows L2
variable {W : Wd} {X : Cx}
theorem look_val {G : Hp} : ∀ {ks : List DK} {vs : List D} {kvs : List (Key × V)} {x : DK} {d : D}, kvs.map (·.1) = ks.map keyV → Reps W G vs (kvs.map (·.2)) → look ks vs x = some d → ∃ v, valV kvs (keyV x) = some v ∧ Rep W G d v
  | [], _, _, _, _, _, _, h => by simp [look] at h
  | _ :: _, [], _, _, _, _, _, h => by simp [look] at h
  | k :: ks, d' :: vs, [], _, _, e, _, _ => by simp at e
  | k :: ks, d' :: vs, (k', v') :: kvs, x, d, e, r, h => by
    simp only [List.map_cons, List.cons.injEq] at e
    simp only [List.map_cons, Reps] at r
    obtain ⟨e1, e2⟩ := e
    subst e1
    simp only [look] at h
    by_cases hk : k = x
    · subst hk
      rw [if_pos rfl] at h
      cases h
      exact ⟨v', by simp [valV], r.1⟩
    · rw [if_neg hk] at h
      obtain ⟨v, h1, h2⟩ := look_val e2 r.2 h
      refine ⟨v, ?_, h2⟩
      have : ¬ keyV k = keyV x := fun z => hk (keyV_inj z)
      simp only [valV] at h1 ⊢
      rw [List.find?_cons_of_neg (by simp [this])]
      exact h1
theorem look_none {G : Hp} : ∀ {ks : List DK} {vs : List D} {kvs : List (Key × V)} {x : DK}, kvs.map (·.1) = ks.map keyV → Reps W G vs (kvs.map (·.2)) → look ks vs x = none → valV kvs (keyV x) = none
  | [], _, [], _, _, _, _ => rfl
  | [], _, _ :: _, _, e, _, _ => by simp at e
  | _ :: _, _, [], _, e, _, _ => by simp at e
  | _ :: _, [], _ :: _, _, _, r, _ => by simp only [List.map_cons, Reps] at r
  | k :: ks, d' :: vs, (k', v') :: kvs, x, e, r, h => by
    simp only [List.map_cons, List.cons.injEq] at e
    simp only [List.map_cons, Reps] at r
    obtain ⟨e1, e2⟩ := e
    subst e1
    simp only [look] at h
    by_cases hk : k = x
    · subst hk; rw [if_pos rfl] at h; cases h
    · rw [if_neg hk] at h
      have := look_none e2 r.2 h
      have hne : ¬ keyV k = keyV x := fun z => hk (keyV_inj z)
      simp only [valV] at this ⊢
      rw [List.find?_cons_of_neg (by simp [hne])]
      exact this
theorem look_isI : ∀ {ks : List DK} {vs : List D} {k : DK} {d : D}, vs.all isI = true → look ks vs k = some d → ∃ j, d = .int j
  | [], _, _, _, _, h => by cases ‹List D› <;> simp [look] at h
  | _ :: _, [], _, _, _, h => by simp [look] at h
  | x :: ks, v :: vs, k, d, ha, h => by
    simp only [List.all_cons, Bool.and_eq_true] at ha
    simp only [look] at h
    split at h
    · cases h
      cases v <;> simp [isI] at ha
      exact ⟨_, rfl⟩
    · exact look_isI ha.2 h
theorem hits_of {A : Around} {s : Shared} {G : Hp} {ks' : List DK} {vs' : List D} {kvs' : List (Key × V)} {kb : List (Key × Value)} (h1 : kvs'.map (·.1) = ks'.map keyV) (h2 : Reps W G vs' (kvs'.map (·.2))) (hb : KV kvs' kb) (ha' : vs'.all isI = true) :
    ∀ {ks : List DK} {vs : List D} {kvs : List (Key × V)} {ka : List (Key × Value)}, kvs.map (·.1) = ks.map keyV → Reps W G vs (kvs.map (·.2)) → KV kvs ka → vs.all isI = true → PySem.W.KeqHits A s kb ka (hitsD ks' vs' ks vs)
  | ks, vs, [], ka, e1, e2, r, _ => by
    cases ks with
    | cons _ _ => simp at e1
    | nil =>
      cases r
      simp only [hitsD]
      exact .nil
  | ks, vs, (k, v) :: kvs, ka, e1, e2, r, ha => by
    cases ks with
    | nil => simp at e1
    | cons x ks =>
      cases vs with
      | nil => simp [Reps] at e2
      | cons d vs =>
        simp only [List.map_cons, List.cons.injEq] at e1
        simp only [List.map_cons, Reps] at e2
        simp only [List.all_cons, Bool.and_eq_true] at ha
        cases r with
        | @cons _ q _ ka r1 r2 =>
          obtain ⟨q1, q2⟩ := q
          obtain ⟨rk, rv⟩ := r1
          have ih := hits_of (A := A) (s := s) h1 h2 hb ha' e1.2 e2.2 r2 ha.2
          cases d with
          | int i =>
            simp only [Rep] at e2
            obtain rfl : v = .int i := e2.1
            obtain rfl : k = q1 := rk
            obtain ⟨t, rfl⟩ : ∃ t, q2 = .int i t := rv
            simp only [hitsD]
            cases hl : look ks' vs' x with
            | none =>
              have hn := look_none h1 h2 hl
              rw [← e1.1] at hn
              have := RelO.none_of (by rw [← hn]; exact hb.val k)
              exact .miss this
            | some y =>
              obtain ⟨j, rfl⟩ := look_isI ha' hl
              obtain ⟨u, hu, ru⟩ := look_val h1 h2 hl
              rw [← e1.1] at hu
              simp only [Rep] at ru
              subst ru
              obtain ⟨w', hw, rw'⟩ := RelO.some_of (v := .int j) (o := valueAt kb k) (by rw [← hu]; exact hb.val k)
              obtain ⟨t', rfl⟩ : ∃ t, w' = .int j t := rw'
              exact .hit hw (PySem.SeqAt.EqAt.int_int i t j t') ih
          | _ => simp [isI] at ha
noncomputable def rDct (W : Wd) (neg : Bool) : R2 := fun x y H Q => ∃ (P : Addr → Prop) (ks ks' : List DK) (vs vs' : List D), vs.all isI = true ∧ vs'.all isI = true ∧ RepT W H (vis H P) (.dct ks vs) x ∧ RepT W H (vis H P) (.dct ks' vs') y ∧ Q (.bl (if neg then !eqDct ks vs ks' vs' else eqDct ks vs ks' vs')) H
theorem op_dctEq (hu : X.A.units < cLine) : OpR X (compareOp .Eq) (rDct W false) := by
  intro pins s σ H x y v u Q I rx ry h
  obtain ⟨P, ks, ks', vs, vs', h1, h2, ⟨a, kvs, rfl, ⟨ep, ha⟩, e1, _, e2⟩, ⟨b, kvs', rfl, ⟨ep', hb⟩, f1, _, f2⟩, q⟩ := h
  obtain ⟨_, la, ka, ra, da⟩ := dk_of I.hok ha
  obtain ⟨_, lb, kb, rb, db⟩ := dk_of I.hok hb
  obtain rfl := rx
  obtain rfl := ry
  refine PySem.W.keq_eq la lb da db hu (fun _ => hits_of f1 f2 rb h2 e1 e2 ra h1) ⟨.bl (eqDct ks vs ks' vs'), H, I, ?_, q⟩
  have l1 : ka.length = ks.length := by rw [← ra.length]; simpa using congrArg List.length e1
  have l2 : kb.length = ks'.length := by rw [← rb.length]; simpa using congrArg List.length f1
  rw [l1, l2]
  rfl
theorem op_dctNe (hu : X.A.units < cLine) : OpR X (compareOp .NotEq) (rDct W true) := by
  intro pins s σ H x y v u Q I rx ry h
  obtain ⟨P, ks, ks', vs, vs', h1, h2, ⟨a, kvs, rfl, ⟨ep, ha⟩, e1, _, e2⟩, ⟨b, kvs', rfl, ⟨ep', hb⟩, f1, _, f2⟩, q⟩ := h
  obtain ⟨_, la, ka, ra, da⟩ := dk_of I.hok ha
  obtain ⟨_, lb, kb, rb, db⟩ := dk_of I.hok hb
  obtain rfl := rx
  obtain rfl := ry
  refine PySem.W.keq_ne la lb da db hu (fun _ => hits_of f1 f2 rb h2 e1 e2 ra h1) ⟨.bl !eqDct ks vs ks' vs', H, I, ?_, q⟩
  have l1 : ka.length = ks.length := by rw [← ra.length]; simpa using congrArg List.length e1
  have l2 : kb.length = ks'.length := by rw [← rb.length]; simpa using congrArg List.length f1
  rw [l1, l2]
  rfl
end Z

namespace Z
open PySem PySem.Spec PyProof.Rows L2
section
variable {X : Cx} {W : Wd} {lk lk' : Bool} {σ : L2.St} {H H1 H' : Hp} {me : Option Addr} {B : Addr → Prop} {δ : Dst} {Q Q' : VK} {a b : Expr} {pos p : Pos} {fa fb fc : Dst → R (Bool × D)}
section
open PySem.SeqAt
open PySem.AutoSeq1 (wpAny_loadPart')
open MeetsSeq
theorem list_addW (l b : Addr) (items items2 : Array Value) (n n2 : Nat) (dd dd2 : Option Addr) (sl sl2 : Array (Option Value)) (hc0 : items.size + items2.size ≤ sizeLine) :
    Meets (Builtin.«list.__add__» ⟨[.ref l, .ref b], []⟩) (fun _ R s => s.heap.get? l = some { cls := .type "list", dict := dd, data := .seq items n, slots := sl } ∧ s.heap.get? b = some { cls := .type "list", dict := dd2, data := .seq items2 n2, slots := sl2 } ∧
      R (.ok (.ret (Value.ref s.heap.objs.size))) { s with heap := s.heap.push { cls := Value.type "list", data := Data.seq (items ++ items2) } }) :=
  .of_wp fun prog w A R s h => by
    obtain ⟨hp, g, d, tk, os⟩ := s; obtain ⟨hl, hb, h⟩ := h
    have f1 := PySem.AutoSeq1.idx_int; have f2 := PySem.AutoSeq1.sub_tuple_tuple; have f3 := PySem.AutoSeq1.sub_list_list; have f4 := PySem.AutoSeq1.sub_tuple_list; have f5 := PySem.AutoSeq1.sub_list_tuple
    wp_walk using wpAny_loadPart' hl, wpAny_loadPart' hb; exact ⟨_, rfl, h⟩
end
noncomputable def rCatR (K : PySem.W.Frag) : R2 := fun x y H Q => ∃ l b xs zs, x = .ref l ∧ y = .ref b ∧ SqL K H l xs ∧ SqL K H b zs ∧ xs.length + zs.length ≤ sizeLine ∧ ∀ p, H p = none → Q (.ref p) (upd H p (.lst (xs ++ zs)))
theorem op_catR : OpR X (binaryOp .Add) (rCatR X.K) := by
  intro pins s σ H x y v u Q I rx ry h
  obtain ⟨l, b, xs, zs, rfl, rfl, hH, hB, hz, q⟩ := h
  cases rx
  cases ry
  obtain ⟨its, r, ⟨⟨cls, dd, data, sl⟩, n, ho, hc, _, hd⟩, z⟩ := I.list hH
  obtain ⟨its2, r2, ⟨⟨cls2, dd2, data2, sl2⟩, n2, ho2, hc2, _, hd2⟩, z2⟩ := I.list hB
  simp only at hc hd hc2 hd2
  subst hc hd hc2 hd2
  have l1 := r.length
  have l2 := r2.length
  have ea : its.toArray ++ its2.toArray = (its ++ its2).toArray := by simp
  refine concat_meets ⟨_, ho, rfl⟩ ⟨_, ho2, rfl⟩ noFill_list_add seq_list_add PySem.F.slot_list_add PySem.F.entry_list_add (PySem.F.args_list_add_2 _ _) (list_addW l b its.toArray its2.toArray n n2 dd dd2 sl sl2 (by rw [List.size_toArray, List.size_toArray]; omega)) ⟨ho, ho2, ?_⟩
  rw [ea]
  exact ⟨.ref _, _, I.lnew (t' := s.toks) (r.append r2) (by rw [List.length_append]; omega), rfl, q _ I.fresh⟩
noncomputable def rCatT0 (K : PySem.W.Frag) : R2 := fun x y H Q => ∃ a b ys, x = .ref a ∧ y = .ref b ∧ SqT K H a [] ∧ SqT K H b ys ∧ Q (.ref b) H
theorem op_catT0 : OpR X (binaryOp .Add) (rCatT0 X.K) := by
  intro pins s σ H x y v u Q I rx ry h
  obtain ⟨a, b, ys, rfl, rfl, ha, hb, q⟩ := h
  cases rx
  cases ry
  obtain ⟨its, r1, p1, _⟩ := I.tuple ha
  obtain ⟨its2, r2, p2, _⟩ := I.tuple hb
  cases r1
  obtain ⟨⟨cls, dd, data, sl⟩, ho, hc, n, hd⟩ := id p1
  obtain ⟨⟨cls2, dd2, data2, sl2⟩, ho2, hc2, n2, hd2⟩ := id p2
  simp only at hc hd hc2 hd2
  subst hc hd hc2 hd2
  exact concat_meets ⟨_, ho, rfl⟩ ⟨_, ho2, rfl⟩ noFill_tuple_add seq_tuple_add PySem.F.slot_tuple_add PySem.F.entry_tuple_add (PySem.F.args_tuple_add_2 _ _)
      (tuple_addW0 a b _ its2.toArray n n2 dd dd2 sl sl2 (by simp)) ⟨ho, ho2, ⟨.ref b, H, I, rfl, q⟩⟩
noncomputable def rAddAll (K : PySem.W.Frag) : R2 := fun x y H Q => (((rI0 (fun i j => .int (i + j)) x y H Q ∨ (∃ i j, x = .str i ∧ y = .str j ∧ i.length + j.length ≤ sizeLine ∧ Q (.str (i ++ j)) H)) ∨ rCatR K x y H Q) ∨ rCatT K x y H Q) ∨ rCatT0 K x y H Q
theorem op_addAll : OpR X (binaryOp .Add) (rAddAll X.K) := OpR.or (OpR.or (OpR.or (OpR.or op_add op_add_str) op_catR) op_catT) op_catT0
theorem size_le {n : Nat} (h : size n = true) : n ≤ sizeLine := by rw [sizeLine_eq]; simpa [size] using h
theorem strV_append (x y : List Nat) : strV x ++ strV y = strV (x ++ y) := by
  show (⟨(strV x).cps ++ (strV y).cps⟩ : Str) = _
  simp [strV]
theorem strV_len (x : List Nat) : (strV x).length = x.length := by simp [strV, Str.length]
theorem sem_add (hk : W.K = X.K) : Sem2 W (rAddAll X.K) (o2 .add) := by
  intro lk P H x y dx dy Q w d hS hK hx hy e k
  cases dx <;> cases dy <;> first | exact nope e | exact nopeR e | simp only [o2] at e
  · simp only [arith] at e
    cases e
    exact .inl (.inl (.inl (.inl ⟨_, _, repT_int hx, repT_int hy, k _ H (Same.refl H) res_int⟩)))
  · obtain ⟨h1, e⟩ := chk_ok e
    cases e
    obtain ⟨rfl, l1⟩ := repT_str hx
    obtain ⟨rfl, l2⟩ := repT_str hy
    refine .inl (.inl (.inl (.inr ⟨_, _, rfl, rfl, by rw [strV_len, strV_len]; exact size_le h1, ?_⟩)))
    rw [strV_append]
    exact k _ H (Same.refl H) (res_str (by rw [List.length_append]; simpa [size] using h1))
  · obtain ⟨h1, e⟩ := chk_ok e
    cases e
    simp only [RepT, Rep] at hx hy
    obtain ⟨a, xs, rfl, q1, q2⟩ := hx
    obtain ⟨b, ys, rfl, p1, p2⟩ := hy
    have hz : xs.length + ys.length ≤ sizeLine := by rw [← q2.length, ← p2.length]; exact size_le h1
    by_cases hx : xs = []
    · subst hx
      have hl : _ = [] := List.eq_nil_of_length_eq_zero q2.length
      refine .inr ⟨a, b, ys, rfl, rfl, hk ▸ same_tup vis_le q1, hk ▸ same_tup vis_le p1, k _ H (Same.refl H) (.shared ?_)⟩
      simp only [Rep]
      rw [hl]
      exact ⟨b, ys, rfl, p1, p2⟩
    · refine .inl (.inr ⟨a, b, xs, ys, rfl, rfl, hk ▸ same_tup vis_le q1, hk ▸ same_tup vis_le p1, hx, hz, fun hy => ?_, fun _ p hp => ?_⟩)
      · subst hy
        have hl : _ = [] := List.eq_nil_of_length_eq_zero p2.length
        refine k _ H (Same.refl H) (.shared ?_)
        simp only [Rep]
        rw [hl, List.append_nil]
        exact ⟨a, xs, rfl, q1, q2⟩
      · exact k _ _ (Same.upd hp) (res_newT hp (q2.append p2) hK)
  · obtain ⟨h1, e⟩ := chk_ok e
    cases e
    obtain ⟨a, xs, rfl, q1, q2⟩ := hx
    obtain ⟨b, ys, rfl, p1, p2⟩ := hy
    refine .inl (.inl (.inr ⟨a, b, xs, ys, rfl, rfl, hk ▸ q1, hk ▸ p1, by rw [← q2.length, ← p2.length]; exact size_le h1, fun p hp => ?_⟩))
    exact k _ _ (Same.upd hp) (res_new hp (q2.append p2) hK)
theorem scal_of {dx dy : D} {x y : V} {G : Hp} {t : Bool} (hx : RepT W H G dx x) (hy : RepT W H G dy y) (e : eqS dx dy = some t) : scal x y = true ∧ decide (x = y) = t := by
  cases dx <;> cases dy <;> first | exact nope e | exact nopeR e | simp only [eqS] at e
  all_goals simp only [Option.some.injEq] at e
  all_goals (first | (have hx := (repT_str hx).1) | (simp only [RepT, Rep] at hx))
  all_goals (first | (have hy := (repT_str hy).1) | (simp only [RepT, Rep] at hy))
  all_goals subst hx
  all_goals subst hy
  all_goals (refine ⟨rfl, ?_⟩; rw [← e])
  all_goals first
    | simp
    | skip
  all_goals exact ⟨fun h => strV_inj h, fun h => by rw [h]⟩
mutual
noncomputable def pd : D → PyData
  | .non => .none
  | .bl b => .bool b
  | .int i => .int i
  | .str x => .str (strV x)
  | .tup l => .tuple (pdL l)
  | .lst l => .list (pdL l)
  | .dct _ _ => .none
  | .obj _ _ _ => .none
  | .err _ => .none
noncomputable def pdL : List D → List PyData
  | [] => []
  | d :: l => pd d :: pdL l
end
theorem okD_lst {n : Nat} {l : List D} (h : okD n (.lst l) = true) : ∃ m, n = m + 1 ∧ l.all (okD m) = true := by
  cases n with
  | zero => simp [okD] at h
  | succ m => exact ⟨m, rfl, by simpa only [okD] using h⟩
theorem okD_tup {n : Nat} {l : List D} (h : okD n (.tup l) = true) : ∃ m, n = m + 1 ∧ l.all (okD m) = true := by
  cases n with
  | zero => simp [okD] at h
  | succ m => exact ⟨m, rfl, by simpa only [okD] using h⟩
mutual
theorem pd_ok : ∀ {d : D} {n : Nat}, okD n d = true → (pd d).canLay0 = true ∧ (pd d).depth ≤ n
  | .non, _, _ => ⟨rfl, Nat.zero_le _⟩
  | .bl _, _, _ => ⟨rfl, Nat.zero_le _⟩
  | .int _, _, _ => ⟨rfl, Nat.zero_le _⟩
  | .str x, n, h => by
    refine ⟨?_, Nat.zero_le _⟩
    have h : (x.all fun c => decide (c < 1114112)) = true := by cases n <;> simpa only [okD] using h
    simp only [pd, PyData.canLay0, PyData.strOk, strV]
    simpa using h
  | .tup l, n, h => by
    obtain ⟨m, rfl, h⟩ := okD_tup h
    obtain ⟨h1, h2⟩ := pdL_ok h
    simp only [pd, PyData.canLay0, PyData.depth]
    exact ⟨h1, by omega⟩
  | .lst l, n, h => by
    obtain ⟨m, rfl, h⟩ := okD_lst h
    obtain ⟨h1, h2⟩ := pdL_ok h
    simp only [pd, PyData.canLay0, PyData.depth]
    exact ⟨h1, by omega⟩
  | .dct _ _, n, h => by cases n <;> simp [okD] at h
  | .obj _ _ _, n, h => by cases n <;> simp [okD] at h
  | .err _, n, h => by cases n <;> simp [okD] at h
theorem pdL_ok : ∀ {l : List D} {n : Nat}, l.all (okD n) = true → PyData.canLayAll0 (pdL l) = true ∧ PyData.depthAll (pdL l) ≤ n
  | [], _, _ => ⟨rfl, Nat.zero_le _⟩
  | d :: l, n, h => by
    rw [List.all_cons, Bool.and_eq_true] at h
    obtain ⟨h1, h2⟩ := pd_ok h.1
    obtain ⟨h3, h4⟩ := pdL_ok h.2
    simp only [pdL, PyData.canLayAll0, PyData.depthAll, h1, h3, Bool.and_self, true_and]
    omega
end
mutual
theorem pd_eq : ∀ {a b : D} {n m : Nat}, okD n a = true → okD m b = true → PyData.eqv (pd a) (pd b) = eqB a b
  | .non, b, _, m, _, hb => by cases b <;> cases m <;> first | rfl | (simp [okD] at hb)
  | .bl _, b, _, m, _, hb => by cases b <;> cases m <;> first | rfl | (simp [okD] at hb)
  | .int _, b, _, m, _, hb => by cases b <;> cases m <;> first | rfl | (simp [okD] at hb)
  | .str x, .str y, _, _, _, _ => by
    simp only [pd, PyData.eqv, eqB]
    rw [Bool.eq_iff_iff]
    simp only [beq_iff_eq]
    exact ⟨fun z => strV_inj z, fun z => by rw [z]⟩
  | .str _, .non, _, _, _, _ => rfl
  | .str _, .bl _, _, _, _, _ => rfl
  | .str _, .int _, _, _, _, _ => rfl
  | .str _, .tup _, _, _, _, _ => rfl
  | .str _, .lst _, _, _, _, _ => rfl
  | .tup x, .tup y, n, m, ha, hb => by
    obtain ⟨_, rfl, ha⟩ := okD_tup ha
    obtain ⟨_, rfl, hb⟩ := okD_tup hb
    simp only [pd, PyData.eqv, eqB, pdL_eq ha hb]
  | .tup _, .non, _, _, _, _ => rfl
  | .tup _, .bl _, _, _, _, _ => rfl
  | .tup _, .int _, _, _, _, _ => rfl
  | .tup _, .str _, _, _, _, _ => rfl
  | .tup _, .lst _, _, _, _, _ => rfl
  | .lst x, .lst y, n, m, ha, hb => by
    obtain ⟨_, rfl, ha⟩ := okD_lst ha
    obtain ⟨_, rfl, hb⟩ := okD_lst hb
    simp only [pd, PyData.eqv, eqB, pdL_eq ha hb]
  | .lst _, .non, _, _, _, _ => rfl
  | .lst _, .bl _, _, _, _, _ => rfl
  | .lst _, .int _, _, _, _, _ => rfl
  | .lst _, .str _, _, _, _, _ => rfl
  | .lst _, .tup _, _, _, _, _ => rfl
  | .dct _ _, _, n, _, ha, _ => by cases n <;> simp [okD] at ha
  | .obj _ _ _, _, n, _, ha, _ => by cases n <;> simp [okD] at ha
  | .err _, _, n, _, ha, _ => by cases n <;> simp [okD] at ha
  | _, .dct _ _, _, m, _, hb => by cases m <;> simp [okD] at hb
  | _, .obj _ _ _, _, m, _, hb => by cases m <;> simp [okD] at hb
  | _, .err _, _, m, _, hb => by cases m <;> simp [okD] at hb
theorem pdL_eq : ∀ {a b : List D} {n m : Nat}, a.all (okD n) = true → b.all (okD m) = true → PyData.eqvAll (pdL a) (pdL b) = eqBs a b
  | [], [], _, _, _, _ => rfl
  | [], _ :: _, _, _, _, _ => rfl
  | _ :: _, [], _, _, _, _ => rfl
  | x :: a, y :: b, n, m, ha, hb => by
    rw [List.all_cons, Bool.and_eq_true] at ha hb
    simp only [pdL, PyData.eqvAll, eqBs, pd_eq ha.1 hb.1, pdL_eq ha.2 hb.2]
end
mutual
theorem reads_rep {pins : List (Addr × Obj)} {s : Shared} {G : Hp} (hk : W.K = X.K) (I : Inv X pins σ H s) (g : Same G H) : ∀ {d : D} {n : Nat} {v : V} {u : Value}, okD n d = true → Rep W G d v → RelV v u → ∃ as, Reads s.heap u (pd d) as
  | .non, _, v, u, _, r, q => by simp only [Rep] at r; subst r; cases q; exact ⟨_, .none⟩
  | .bl b, _, v, u, _, r, q => by simp only [Rep] at r; subst r; cases q; exact ⟨_, .bool b⟩
  | .int i, _, v, u, _, r, q => by simp only [Rep] at r; subst r; obtain ⟨t, rfl⟩ := q; exact ⟨_, .int i t⟩
  | .str x, _, v, u, _, r, q => by simp only [Rep] at r; rw [r.1] at q; obtain ⟨t, rfl⟩ := q; exact ⟨_, .str _ t⟩
  | .tup l, n, v, u, h, r, q => by
    obtain ⟨m, rfl, h⟩ := okD_tup h
    simp only [Rep] at r
    obtain ⟨c, xs, rfl, r1, r2⟩ := r
    cases q
    obtain ⟨its, rv, ⟨ob, e1, e2, e3, e4⟩, _⟩ := I.tuple (hk ▸ same_tup g r1)
    obtain ⟨as, ra⟩ := reads_reps hk I g h r2 rv
    exact ⟨_, .tuple e1 e2 e4 ra⟩
  | .lst l, n, v, u, h, r, q => by
    obtain ⟨m, rfl, h⟩ := okD_lst h
    simp only [Rep] at r
    obtain ⟨c, xs, rfl, r1, r2⟩ := r
    cases q
    obtain ⟨its, rv, ⟨ob, e3, e1, e2, _, e4⟩, _⟩ := I.list (hk ▸ g.seq r1)
    obtain ⟨as, ra⟩ := reads_reps hk I g h r2 rv
    exact ⟨_, .list e1 e2 e4 ra⟩
  | .dct _ _, n, _, _, h, _, _ => by cases n <;> simp [okD] at h
  | .obj _ _ _, n, _, _, h, _, _ => by cases n <;> simp [okD] at h
  | .err _, n, _, _, h, _, _ => by cases n <;> simp [okD] at h
theorem reads_reps {pins : List (Addr × Obj)} {s : Shared} {G : Hp} (hk : W.K = X.K) (I : Inv X pins σ H s) (g : Same G H) : ∀ {l : List D} {n : Nat} {vs : List V} {us : List Value}, l.all (okD n) = true → Reps W G l vs → Vals vs us → ∃ as, ReadsAll s.heap us (pdL l) as
  | [], _, [], us, _, _, q => by cases q; exact ⟨_, .nil⟩
  | [], _, _ :: _, _, _, r, _ => by simp only [Reps] at r
  | _ :: _, _, [], _, _, r, _ => by simp only [Reps] at r
  | d :: l, n, v :: vs, us, h, r, q => by
    rw [List.all_cons, Bool.and_eq_true] at h
    simp only [Reps] at r
    cases q with
    | cons q1 q2 =>
      obtain ⟨as, ra⟩ := reads_rep hk I g h.1 r.1 q1
      obtain ⟨bs, rb⟩ := reads_reps hk I g h.2 r.2 q2
      exact ⟨_, .cons ra rb⟩
end
theorem reads_top {pins : List (Addr × Obj)} {s : Shared} {P : Addr → Prop} {d : D} {v : V} {u : Value} (hk : W.K = X.K) (I : Inv X pins σ H s) (h : okD 60 d = true) (r : RepT W H (vis H P) d v) (q : RelV v u) : ∃ as, Reads s.heap u (pd d) as := by
  cases d with
  | lst l =>
    obtain ⟨m, hm, h⟩ := okD_lst h
    obtain ⟨c, xs, rfl, r1, r2⟩ := r
    cases q
    obtain ⟨its, rv, ⟨ob, e3, e1, e2, _, e4⟩, _⟩ := I.list (hk ▸ r1)
    obtain ⟨as, ra⟩ := reads_reps hk I vis_le h r2 rv
    exact ⟨_, .list e1 e2 e4 ra⟩
  | non => exact reads_rep (G := vis H P) hk I vis_le h r q
  | bl b => exact reads_rep (G := vis H P) hk I vis_le h r q
  | int b => exact reads_rep (G := vis H P) hk I vis_le h r q
  | str b => exact reads_rep (G := vis H P) hk I vis_le h r q
  | tup b => exact reads_rep (G := vis H P) hk I vis_le h r q
  | dct _ _ => simp [okD] at h
  | obj _ _ _ => simp [okD] at h
  | err _ => simp [okD] at h
noncomputable def rDeep (W : Wd) (neg : Bool) : R2 := fun x y H Q => ∃ (P : Addr → Prop) (dx dy : D), okD 60 dx = true ∧ okD 60 dy = true ∧ RepT W H (vis H P) dx x ∧ RepT W H (vis H P) dy y ∧ Q (.bl (if neg then !eqB dx dy else eqB dx dy)) H
theorem shaped_of {d : D} (h : okD 60 d = true) : PySem.SeqAt.shaped (pd d) = true := by
  obtain ⟨h1, h2⟩ := pd_ok h
  simp only [PySem.SeqAt.shaped, h1, Bool.true_and, decide_eq_true_eq]
  omega
theorem op_deepEq (hk : W.K = X.K) (hu : X.A.units + 64 < cLine) : OpR X (compareOp .Eq) (rDeep W false) := by
  intro pins s σ H x y v u Q I rx ry h
  obtain ⟨P, dx, dy, h1, h2, t1, t2, q⟩ := h
  obtain ⟨as, ra⟩ := reads_top hk I h1 t1 rx
  obtain ⟨bs, rb⟩ := reads_top hk I h2 t2 ry
  refine eq_dataH ra rb (shaped_of h1) (shaped_of h2) hu ?_
  rw [pd_eq h1 h2]
  exact ⟨.bl (eqB dx dy), H, I, rfl, q⟩
theorem op_deepNe (hk : W.K = X.K) (hu : X.A.units + 64 < cLine) : OpR X (compareOp .NotEq) (rDeep W true) := by
  intro pins s σ H x y v u Q I rx ry h
  obtain ⟨P, dx, dy, h1, h2, t1, t2, q⟩ := h
  obtain ⟨as, ra⟩ := reads_top hk I h1 t1 rx
  obtain ⟨bs, rb⟩ := reads_top hk I h2 t2 ry
  refine ne_dataH ra rb (shaped_of h1) (shaped_of h2) hu ?_
  rw [pd_eq h1 h2]
  exact ⟨.bl !eqB dx dy, H, I, rfl, q⟩
theorem eqA_cases {a b : D} {t : Bool} (h : eqA a b = some t) : eqS a b = some t ∨ (okD 60 a = true ∧ okD 60 b = true ∧ eqB a b = t) ∨ ∃ ks vs ks' vs', a = .dct ks vs ∧ b = .dct ks' vs' ∧ vs.all isI = true ∧ vs'.all isI = true ∧ eqDct ks vs ks' vs' = t := by
  unfold eqA at h
  split at h
  · rename_i e; cases h; exact .inl e
  · split at h
    · split at h
      · rename_i hc
        cases h
        rw [Bool.and_eq_true] at hc
        exact .inr (.inl ⟨hc.1, hc.2, rfl⟩)
      · cases h
    · split at h
      · rename_i hc
        cases h
        rw [Bool.and_eq_true] at hc
        exact .inr (.inl ⟨hc.1, hc.2, rfl⟩)
      · cases h
    · split at h
      · rename_i hc
        cases h
        rw [Bool.and_eq_true] at hc
        exact .inr (.inr ⟨_, _, _, _, rfl, rfl, hc.1, hc.2, rfl⟩)
      · cases h
    · cases h
noncomputable def rEqAll (W : Wd) : R2 := fun x y H Q => rEq x y H Q ∨ (rDeep W false x y H Q ∨ rDct W false x y H Q)
noncomputable def rNeAll (W : Wd) : R2 := fun x y H Q => rNe x y H Q ∨ (rDeep W true x y H Q ∨ rDct W true x y H Q)
theorem sem_eq : Sem2 W (rEqAll W) (o2 .eq) := by
  intro lk P H x y dx dy Q w d hS hK hx hy e k
  simp only [o2] at e
  cases e1 : eqA dx dy with
  | none => rw [e1] at e; cases e
  | some t =>
    rw [e1] at e
    cases e
    rcases eqA_cases e1 with e1 | ⟨h1, h2, h3⟩ | ⟨ks, vs, ks', vs', rfl, rfl, h1, h2, h3⟩
    · obtain ⟨h1, h2⟩ := scal_of hx hy e1
      exact .inl ⟨h1, by rw [h2]; exact k _ H (Same.refl H) res_bl⟩
    · exact .inr (.inl ⟨P, dx, dy, h1, h2, hx, hy, by rw [h3]; exact k _ H (Same.refl H) res_bl⟩)
    · exact .inr (.inr ⟨P, ks, ks', vs, vs', h1, h2, hx, hy, by rw [h3]; exact k _ H (Same.refl H) res_bl⟩)
theorem sem_ne : Sem2 W (rNeAll W) (o2 .ne) := by
  intro lk P H x y dx dy Q w d hS hK hx hy e k
  simp only [o2] at e
  cases e1 : eqA dx dy with
  | none => rw [e1] at e; cases e
  | some t =>
    rw [e1] at e
    cases e
    rcases eqA_cases e1 with e1 | ⟨h1, h2, h3⟩ | ⟨ks, vs, ks', vs', rfl, rfl, h1, h2, h3⟩
    · obtain ⟨h1, h2⟩ := scal_of hx hy e1
      exact .inl ⟨h1, by rw [h2]; exact k _ H (Same.refl H) res_bl⟩
    · exact .inr (.inl ⟨P, dx, dy, h1, h2, hx, hy, by rw [h3]; exact k _ H (Same.refl H) res_bl⟩)
    · exact .inr (.inr ⟨P, ks, ks', vs, vs', h1, h2, hx, hy, by rw [h3]; exact k _ H (Same.refl H) res_bl⟩)
noncomputable def rLtAll : R2 := fun x y H Q => rI0 (fun i j => .bl (decide (i < j))) x y H Q ∨ (∃ i j, x = .str i ∧ y = .str j ∧ Q (.bl (decide (i.cps.toList < j.cps.toList))) H)
theorem op_ltAll : OpR X (compareOp .Lt) rLtAll := OpR.or op_lt op_lt_str
theorem ltS_lt : ∀ x y : List Nat, ltS x y = decide (x < y)
  | [], [] => by simp [ltS]
  | [], b :: y => by simp [ltS]
  | a :: x, [] => by simp [ltS]
  | a :: x, b :: y => by
    simp only [ltS, ltS_lt x y, List.cons_lt_cons_iff]
    by_cases h1 : a < b
    · simp [h1]
    · by_cases h2 : b < a
      · have : a ≠ b := by omega
        simp [h1, h2, this]
      · have : a = b := by omega
        simp [this]
theorem sem_lt : Sem2 W rLtAll (o2 .lt) := by
  intro lk P H x y dx dy Q w d hS hK hx hy e k
  cases dx <;> cases dy <;> first | exact nope e | exact nopeR e | simp only [o2] at e
  · simp only [arith] at e
    cases e
    exact .inl ⟨_, _, repT_int hx, repT_int hy, k _ H (Same.refl H) res_bl⟩
  · cases e
    obtain ⟨rfl, l1⟩ := repT_str hx
    obtain ⟨rfl, l2⟩ := repT_str hy
    refine .inr ⟨_, _, rfl, rfl, ?_⟩
    rename_i sx sy
    have : decide ((strV sx).cps.toList < (strV sy).cps.toList) = ltS sx sy := by rw [ltS_lt]; rfl
    rw [this]
    exact k _ H (Same.refl H) res_bl
noncomputable def rLeAll : R2 := fun x y H Q => rI0 (fun i j => .bl (decide (i ≤ j))) x y H Q ∨ (∃ i j, x = .str i ∧ y = .str j ∧ Q (.bl (!decide (j.cps.toList < i.cps.toList))) H)
theorem op_leAll : OpR X (compareOp .LtE) rLeAll := OpR.or op_le (by
  intro pins s σ H x y v u Q I rx ry h
  obtain ⟨i, j, rfl, rfl, q⟩ := h
  obtain ⟨t, rfl⟩ := rx
  obtain ⟨t', rfl⟩ := ry
  exact PySem.P.le_str (fin_bl I q rfl))
theorem sem_le : Sem2 W rLeAll (o2 .le) := by
  intro lk P H x y dx dy Q w d hS hK hx hy e k
  cases dx <;> cases dy <;> first | exact nope e | exact nopeR e | simp only [o2] at e
  · simp only [arith] at e
    cases e
    exact .inl ⟨_, _, repT_int hx, repT_int hy, k _ H (Same.refl H) res_bl⟩
  · cases e
    obtain ⟨rfl, l1⟩ := repT_str hx
    obtain ⟨rfl, l2⟩ := repT_str hy
    refine .inr ⟨_, _, rfl, rfl, ?_⟩
    rename_i sx sy
    have : decide ((strV sy).cps.toList < (strV sx).cps.toList) = ltS sy sx := by rw [ltS_lt]; rfl
    rw [this]
    exact k _ H (Same.refl H) res_bl
theorem repT_non {G : Hp} {d : D} {x : V} (h : RepT W H G d x) : x = .non ↔ d = .non := by
  cases d with
  | non => simpa [RepT, Rep] using h
  | str s => have h := (repT_str h).1; subst h; simp
  | bl b => simp only [RepT, Rep] at h; subst h; simp
  | int i => simp only [RepT, Rep] at h; subst h; simp
  | tup l => simp only [RepT, Rep] at h; obtain ⟨a, xs, rfl, _⟩ := h; simp
  | lst l => obtain ⟨a, xs, rfl, _⟩ := h; simp
  | dct ks vs => obtain ⟨a, xs, rfl, _⟩ := h; simp
  | obj c ns vs => obtain ⟨a, xs, fs, rfl, _⟩ := h; simp
  | err c =>
    simp only [RepT, Rep] at h
    obtain ⟨a, rfl, _⟩ := h
    exact ⟨fun z => (nomatch z), fun z => (nomatch z)⟩
theorem op_isB : OpR X (compareOp .Is) (fun x y H Q => ∃ a b, x = .bl a ∧ y = .bl b ∧ Q (.bl (a == b)) H) := by
  intro pins s σ H x y v u Q I rx ry h
  obtain ⟨a, b, rfl, rfl, q⟩ := h
  cases rx
  cases ry
  exact is_bool (fin_bl I q rfl)
theorem op_notB : OpR X (compareOp .IsNot) (fun x y H Q => ∃ a b, x = .bl a ∧ y = .bl b ∧ Q (.bl (a != b)) H) := by
  intro pins s σ H x y v u Q I rx ry h
  obtain ⟨a, b, rfl, rfl, q⟩ := h
  cases rx
  cases ry
  exact isnot_bool (fin_bl I q rfl)
theorem sem_is : Sem2 W (fun x y H Q => (y = .non ∧ Q (.bl (decide (x = .non))) H) ∨ ∃ a b, x = .bl a ∧ y = .bl b ∧ Q (.bl (a == b)) H) (o2 .is) := by
  intro lk P H x y dx dy Q w d hS hK hx hy e k
  cases dy <;> first | exact nope e | exact nopeR e | simp only [o2] at e
  · refine .inl ⟨(repT_non hy).mpr rfl, ?_⟩
    by_cases h : dx = .non
    · subst h
      cases e
      rw [decide_eq_true ((repT_non hx).mpr rfl)]
      exact k _ H (Same.refl H) res_bl
    · have e' : (false, D.bl false) = (w, d) := by cases dx <;> first | (exact absurd rfl h) | (cases e; rfl)
      cases e'
      rw [decide_eq_false (fun z => h ((repT_non hx).mp z))]
      exact k _ H (Same.refl H) res_bl
  · cases dx <;> first | exact nopeR e | skip
    cases e
    exact .inr ⟨_, _, repT_bl hx, repT_bl hy, k _ H (Same.refl H) res_bl⟩
theorem sem_isnot : Sem2 W (fun x y H Q => (y = .non ∧ Q (.bl (!decide (x = .non))) H) ∨ ∃ a b, x = .bl a ∧ y = .bl b ∧ Q (.bl (a != b)) H) (o2 .isnot) := by
  intro lk P H x y dx dy Q w d hS hK hx hy e k
  cases dy <;> first | exact nope e | exact nopeR e | simp only [o2] at e
  · refine .inl ⟨(repT_non hy).mpr rfl, ?_⟩
    by_cases h : dx = .non
    · subst h
      cases e
      rw [decide_eq_true ((repT_non hx).mpr rfl)]
      exact k _ H (Same.refl H) res_bl
    · have e' : (false, D.bl true) = (w, d) := by cases dx <;> first | (exact absurd rfl h) | (cases e; rfl)
      cases e'
      rw [decide_eq_false (fun z => h ((repT_non hx).mp z))]
      exact k _ H (Same.refl H) res_bl
  · cases dx <;> first | exact nopeR e | skip
    cases e
    exact .inr ⟨_, _, repT_bl hx, repT_bl hy, k _ H (Same.refl H) res_bl⟩
end
end Z

namespace L2
open PySem PySem.Spec PyProof.Rows
theorem forIn_steps {α β : Type} {f : α → β → Sem (ForInStep β)} (step : α → β → β) : ∀ (l : List α) (c : β), (∀ x ∈ l, ∀ c, f x c = pure (.yield (step x c))) → forIn l c f = pure (l.foldl (fun c x => step x c) c)
  | [], c, _ => rfl
  | x :: l, c, h => by
    rw [List.forIn_cons, h x List.mem_cons_self, pure_bind]
    exact forIn_steps step l (step x c) fun y hy => h y (List.mem_cons_of_mem _ hy)
noncomputable def closStep (env : Env) (x : Str × NameKind) (c : List (Str × Addr)) : List (Str × Addr) := if x.2 = .free then (x.1, (env.cells.lookup x.1).getD 0) :: c else c
noncomputable def closCells (env : Env) (names : List (Str × NameKind)) : List (Str × Addr) := names.foldl (fun c x => closStep env x c) []
theorem clos_some {scope : Scope} {env : Env} (h : ∀ y ∈ scope.names, y.2 = .free → ∃ c, env.cells.lookup y.1 = some c) : closureFor scope env = pure (closCells env scope.names) := by
  simp only [closureFor]
  rw [forIn_steps (closStep env) scope.names [] (fun x hx c => ?_)]
  · rfl
  · obtain ⟨n, kind⟩ := x
    by_cases hk : kind = .free
    · subst hk
      obtain ⟨a, e⟩ := h _ hx rfl
      simp only at e
      simp [closStep, cellOf, e]
    · have hb : (kind == NameKind.free) = false := by simpa using hk
      simp [closStep, hb, hk]
theorem clos_mem {env : Env} {p : Str × Addr} : ∀ (names : List (Str × NameKind)) (acc : List (Str × Addr)), p ∈ names.foldl (fun c x => closStep env x c) acc → p ∈ acc ∨ ((p.1, NameKind.free) ∈ names ∧ p.2 = (env.cells.lookup p.1).getD 0)
  | [], acc, h => .inl h
  | (n, k) :: r, acc, h => by
    rcases clos_mem r _ h with h | ⟨h1, h2⟩
    · simp only [closStep] at h
      split at h
      · rename_i hk
        rcases List.mem_cons.mp h with e | h
        · subst e
          exact .inr ⟨by subst hk; exact List.mem_cons_self, rfl⟩
        · exact .inl h
      · exact .inl h
    · exact .inr ⟨List.mem_cons_of_mem _ h1, h2⟩
theorem clos_old {env : Env} {p : Str × Addr} : ∀ (names : List (Str × NameKind)) (acc : List (Str × Addr)), p ∈ acc → p ∈ names.foldl (fun c x => closStep env x c) acc
  | [], _, h => h
  | (n, k) :: r, acc, h => by
    refine clos_old r _ ?_
    simp only [closStep]
    split
    · exact List.mem_cons_of_mem _ h
    · exact h
theorem clos_has {env : Env} {x : Str} : ∀ (names : List (Str × NameKind)) (acc : List (Str × Addr)), (x, NameKind.free) ∈ names → (x, (env.cells.lookup x).getD 0) ∈ names.foldl (fun c x => closStep env x c) acc
  | [], _, h => by simp at h
  | (n, k) :: r, acc, h => by
    rcases List.mem_cons.mp h with e | h
    · cases e
      refine clos_old r _ ?_
      simp [closStep]
    · exact clos_has r _ h
theorem lookup_key {α : Type} {x : Str} {c : α} : ∀ {l : List (Str × α)}, (x, c) ∈ l → ∃ c', l.lookup x = some c'
  | [], h => by simp at h
  | (y, d) :: l, h => by
    simp only [List.lookup_cons]
    cases e : (x == y) with
    | true => exact ⟨d, rfl⟩
    | false =>
      rcases List.mem_cons.mp h with z | z
      · cases z; simp at e
      · exact lookup_key z
theorem clos_sub {env : Env} {names : List (Str × NameKind)} (h : ∀ y ∈ names, y.2 = .free → ∃ c, env.cells.lookup y.1 = some c) {x : Str} {c : Addr} (e : (closCells env names).lookup x = some c) : env.cells.lookup x = some c := by
  have hm := PySem.mem_of_lookup e
  rcases clos_mem names [] hm with z | ⟨h1, h2⟩
  · simp at z
  · obtain ⟨a, e'⟩ := h _ h1 rfl
    simp only at e' h2
    rw [e'] at h2 ⊢
    rw [h2]; rfl
theorem clos_get {env : Env} {names : List (Str × NameKind)} {x : Str} (h : (x, NameKind.free) ∈ names) : ∃ c, (closCells env names).lookup x = some c := lookup_key (clos_has names [] h)
theorem relabel_lookup {scope : Scope} {env : Env} {x : Str} : (relabel scope env).names.lookup x = (scope.names.lookup x).map fun k => if (k == .free && env.scope.kind == .function && env.kindOf x == some .cell) then .cell else k := by
  show List.lookup x (scope.names.map fun (n, k) => if (k == NameKind.free && env.scope.kind == .function && env.kindOf n == some .cell) then (n, NameKind.cell) else (n, k)) = _
  induction scope.names with
  | nil => rfl
  | cons p r ih =>
    obtain ⟨n, k⟩ := p
    rw [List.map_cons]
    by_cases hx : x = n
    · subst hx
      by_cases hc : (k == NameKind.free && env.scope.kind == .function && env.kindOf x == some .cell) = true
      · simp only [hc, if_true, List.lookup_cons, beq_self_eq_true, Option.map_some]
      · simp only [hc, if_false, List.lookup_cons, beq_self_eq_true, Option.map_some, Bool.false_eq_true]
    · have hb : (x == n) = false := by simpa using hx
      have e : List.lookup x ((if (k == NameKind.free && env.scope.kind == .function && env.kindOf n == some .cell) = true then (n, NameKind.cell) else (n, k)) :: (r.map fun (n, k) => if (k == NameKind.free && env.scope.kind == .function && env.kindOf n == some .cell) then (n, NameKind.cell) else (n, k))) =
          List.lookup x (r.map fun (n, k) => if (k == NameKind.free && env.scope.kind == .function && env.kindOf n == some .cell) then (n, NameKind.cell) else (n, k)) := by
        split <;> simp only [List.lookup_cons, hb]
      simp only [List.lookup_cons, hb]
      exact e.trans ih
noncomputable def cxC (X : Cx) (scope : Scope) (N : List Str) (fp : List Addr) (pins : List (Addr × Obj)) (s : Shared) (H : Hp) : Cx :=
  { X with N := N, s₀ := s, H₀ := H, env := compEnvC scope (closCells X.env scope.names) s.heap.objs.size X.env, outer := X.stack, ex := fp, fn := fun _ => false, pn := X.pn ++ pins }
structure Blk (scope : Scope) : Prop where
  kind : scope.kind = .function
  nocell : ∀ y ∈ scope.names, y.2 ≠ .cell
  loc : ∀ y ∈ scope.names, y.2 = .local → scope.names.lookup y.1 = some .local
  fre : ∀ y ∈ scope.names, y.2 = .free → scope.names.lookup y.1 = some .free
section
variable {X : Cx} {pins : List (Addr × Obj)} {σ : St} {H : Hp} {s : Shared} {scope : Scope} {N : List Str} {fp : List Addr}
theorem inv_comp {σ' : St} {h₁ : Heap} {tk : Nat} (I : Inv X pins σ H s) (B : Blk scope) (hfr : ∀ y ∈ scope.names, y.2 = .free → ∃ c, X.env.cells.lookup y.1 = some c) (hf : ∀ b ∈ fp, FpOk X pins H b) (hob : ∀ b ∈ fp, ∃ o, s.heap.get? b = some o)
    (hns : ∃ m, h₁.Ns s.heap.objs.size m) (hkeep : ∀ b o, s.heap.get? b = some o → h₁.get? b = some o) (hl : σ'.length = N.length)
    (hσ : ∀ (i : Nat) (x : Str) (v : V), N[i]? = some x → σ'[i]? = some (some v) → scope.names.lookup x = some .free ∧ (X.env.scope.names.lookup x = some .cell ∨ X.env.scope.names.lookup x = some .free) ∧ ∃ j : Nat, X.N[j]? = some x ∧ σ[j]? = some (some v)) :
    Inv (cxC X scope N fp pins s H) [] σ' H { s with heap := h₁, toks := tk } := by
  have lt : ∀ {b : Addr} {o : Obj}, s.heap.get? b = some o → b ≠ s.heap.objs.size := fun e => Nat.ne_of_lt (Heap.lt_size e)
  have kd : ∀ x, ((relabel scope X.env).names.lookup x = some .cell ∨ (relabel scope X.env).names.lookup x = some .free) → (x, NameKind.free) ∈ scope.names := fun x hx => by
    rw [relabel_lookup] at hx
    cases e : scope.names.lookup x with
    | none => rw [e] at hx; simp at hx
    | some k =>
      have hm := PySem.mem_of_lookup e
      rw [e] at hx
      simp only [Option.map_some, Option.some.injEq] at hx
      cases k with
      | free => exact hm
      | cell => exact absurd rfl (B.nocell _ hm)
      | _ => simp at hx
  refine ⟨⟨I.ok.mod, ?_, I.ok.glob, I.ok.blt, Nat.le_refl _, fun x y c h1 h2 => I.ok.inj x y c (clos_sub hfr h1) (clos_sub hfr h2), fun x hx => clos_get (kd x hx), fun x c h => (nomatch h), I.ok.hd, I.ok.frames, .inl rfl, fun b hb => ⟨?_, fun x c e => ?_⟩, I.bs, Nat.le_trans I.ok.bsz I.sz, fun b o e hb => ?_, fun b hb z => ?_, I.stack, I.stkFree⟩,
    rfl, I.bare, Un.kept hkeep, ?_, fun x c e => ?_, I.hok.fresh (Nat.le_refl _), fun x c e => I.freeC x c (clos_sub hfr e), fun p hp => ?_, I.hok.kept hkeep, hl⟩
  · exact B.kind
  · obtain ⟨o, e⟩ := hob b hb
    exact lt e
  · exact (hf b hb).2.2.2.2.1 x c (clos_sub hfr e)
  · rcases (hf b hb).2.2.2.1 with z | z
    · exact I.ok.noex b o e z
    · exact absurd (Nat.lt_of_lt_of_le (Heap.lt_size (I.ok.bs b o e).1) z) (Nat.lt_irrefl _)
  · obtain ⟨_, f1, f2, _⟩ := hf b hb
    rcases List.mem_cons.mp (I.stkSub b z) with e | e
    · exact f1 e
    · exact f2 e
  · obtain ⟨m, hm⟩ := hns
    refine ⟨m, hm, fun i x v h1 h2 h3 => ?_⟩
    obtain ⟨k1, k2, j, j1, j2⟩ := hσ i x v h1 h2
    obtain ⟨m0, _, hl0⟩ := I.loc
    obtain ⟨u, r, q⟩ := hl0 j x v j1 j2 (k2.elim (fun z => .inr (.inl z)) fun z => .inr (.inr z))
    refine ⟨u, r, .inr ⟨?_, ?_⟩⟩
    · show (relabel scope X.env).names.lookup x = some .cell ∨ (relabel scope X.env).names.lookup x = some .free
      rw [relabel_lookup, k1]
      simp only [Option.map_some, Option.some.injEq]
      split
      · exact .inl rfl
      · exact .inr rfl
    · rcases q with ⟨q, _⟩ | ⟨_, c, e, z⟩
      · have q : X.env.scope.names.lookup x = some .local := q
        rcases k2 with k2 | k2 <;> (rw [q] at k2; cases k2)
      · obtain ⟨c', e'⟩ := clos_get (env := X.env) (PySem.mem_of_lookup k1)
        have := clos_sub hfr e'
        rw [e] at this; cases this
        obtain ⟨o, ho, hd⟩ := z
        exact ⟨c, e', o, hkeep c o ho, hd⟩
  · obtain ⟨v, o, ho, hd⟩ := I.cell x c (clos_sub hfr e)
    exact ⟨v, o, hkeep c o ho, hd⟩
  · have hp : p ∈ X.pn ++ pins := by
      have hp : p ∈ (X.pn ++ pins) ++ [] := hp
      rwa [List.append_nil] at hp
    obtain ⟨e, n, ne, nf, d⟩ := I.pin p hp
    exact ⟨hkeep _ _ e, n, lt e, fun z => (List.mem_cons.mp (I.stkSub _ z)).elim ne nf, d⟩
theorem inv_back {pins' : List (Addr × Obj)} {σ' : St} {H' : Hp} {s' : Shared} {h2 : Heap} (I : Inv X pins σ H s) (hf : ∀ b ∈ fp, FpOk X pins H b) (J : Inv (cxC X scope N fp pins s H) pins' σ' H' s') (sb : Heap.SameBut s.heap.objs.size s'.heap h2) : Inv X pins σ H' { s' with heap := h2 } := by
  have lt : ∀ {b : Addr} {o : Obj}, s.heap.get? b = some o → b ≠ s.heap.objs.size := fun e => Nat.ne_of_lt (Heap.lt_size e)
  have U : Un (frs X.stack) fp H H' s.heap s'.heap := J.base
  have U2 : Un (frs X.stack) fp H H' s.heap h2 := by
    refine ⟨fun b o e n hb hx => (sb.2 b (lt e)).trans (U.keep b o e n hb hx), fun b o e n hb hx => ?_, U.free, fun b o e hx => ?_, U.tups, U.frzs, U.tbls⟩
    · obtain ⟨sl, q⟩ := U.slot b o e n hb hx
      exact ⟨sl, (sb.2 b (lt e)).trans q⟩
    · obtain ⟨o', q⟩ := U.there b o e hx
      exact ⟨o', (sb.2 b (lt e)).trans q⟩
  have hC : H' s.heap.objs.size = none := J.free
  have hok : HOk X.prog X.w H' h2 := fun b ob e => (J.hok b ob e).stay (fun c u hc q => (sb.2 c (fun z => by
    subst z
    rcases hc with z | z
    · rw [← z, hC] at e; cases e
    · rw [hC] at z; cases z)).trans q) (fun _ q => q) fun _ _ q => q
  have os : s'.os = s.os := J.os
  have e : ({ s' with heap := h2 } : Shared) = { s with heap := h2, gens := s'.gens, drawn := s'.drawn, toks := s'.toks } := by
    cases s'
    cases s
    simp only at os
    subst os
    rfl
  rw [e]
  exact I.call U2 hok J.bare fun b hb => ⟨(hf b hb).2.2.2.1, (hf b hb).2.1, (hf b hb).2.2.2.2.1, (hf b hb).2.2.2.2.2⟩
noncomputable abbrev tests (ifs : List Expr) (env : Env) : Sem Bool := forIn ifs true fun c r => if r = true then do let ok ← isTrue c env (eval c env); pure (ForInStep.yield ok) else pure (ForInStep.yield r)
noncomputable abbrev Never : Value → Shared → Prop := fun _ _ => False
theorem never {α : Type} {t : Sem α} {Q Q' : α → Shared → Prop} {M : Model} {A : Around} {E : Value → Shared → Prop} {s : Shared} (h : wpAny M A t Q Never s) (hQ : ∀ a s, Q a s → Q' a s) : wpAny M A t Q' E s := wpAny_mono h hQ fun _ _ z => z.elim
theorem comp_loop {prog : Program} {w : World} {A : Around} {elt tg iter : Expr} {ifs : List Expr} {pos : Pos} {it acc : Value} {env : Env} {R : Result → Shared → Prop} (Iv : Nat → Shared → Prop)
    (turn : ∀ n s, Iv n s → wpAny (model prog w) A (pyNext it) (fun r s1 => match r with
      | none => R (.ok .next) s1
      | some v => wpAny (model prog w) A (letOwnedTupleGo tg it v) (fun _ s2 => wpAny (model prog w) A (assign tg env v) (fun _ s3 => wpAny (model prog w) A (tests ifs env) (fun ok s4 =>
          if ok = true then wpAny (model prog w) A (eval elt env) (fun x s5 => wpAny (model prog w) A (call (.builtin "list.append") [acc, x]) (fun _ s6 => ∃ m, m < n ∧ Iv m s6) Never s5) Never s4
          else ∃ m, m < n ∧ Iv m s4) Never s3) Never s2) Never s1) Never s)
    (n : Nat) (h : Iv n s) : codeAny (model prog w) A (.compLoop (.ListComp elt [⟨tg, iter, ifs, 0⟩] scope pos) 0 it acc env) R s := by
  refine codeAny_loop rfl Iv (fun n s hI => ?_) n h
  show wpAny _ A ((compTurn (.ListComp elt [⟨tg, iter, ifs, 0⟩] scope pos) 0 it acc env).onRaise (fun e => do noteFrame e env; theTreesLotGoes e)) _ _ s
  refine wpAny_noted ?_
  rw [compTurn_list]
  refine wpAny_bind (wpAny_standAt (wpAny_bind (never (turn n s hI) fun r s1 h1 => ?_)))
  cases r with
  | none => exact wpAny_pure h1
  | some v =>
    refine wpAny_bind (never h1 fun _ s2 h2 => wpAny_bind (never h2 fun _ s3 h3 => wpAny_bind (never h3 fun ok s4 h4 => ?_)))
    cases ok with
    | false => exact wpAny_pure ⟨rfl, h4⟩
    | true => exact wpAny_bind (wpAny_bind (never h4 fun x s5 h5 => wpAny_bind (never h5 fun _ s6 h6 => wpAny_pure (wpAny_pure ⟨rfl, h6⟩))))
noncomputable def blkSlots (σ : St) (m : Nat) (caps : List Nat) : St := List.replicate m none ++ caps.map fun i => (σ[i]?).join
noncomputable def tComp (wi : TI) (m : Nat) (caps : List Nat) (g : TG) (tc : Hp → TT) (te : Hp → TE) : TE := fun σ H Q => wi σ H fun J H1 => ∀ D, H1 D = none → ∃ W : Nat → Nat → List V → St → Hp → Prop, (∃ k, W 0 k [] (blkSlots σ m caps) (upd H1 D (.lst []))) ∧
  ∀ i k ys σ' H', W i k ys σ' H' → (J.stop i H' ∧ Q (.ref D) H') ∨ (J.go i H' ∧ ∀ x H2, J.yld i H' x H2 → g x σ' H2 fun σ3 H3 => tc (upd H1 D (.lst [])) σ3 H3 fun b H4 =>
    if b = true then te (upd H1 D (.lst [])) σ3 H4 fun y H5 => H5 D = some (.lst ys) ∧ ys.length < sizeLine ∧ ∃ k', k' < k ∧ W (i + 1) k' (ys ++ [y]) σ3 (upd H5 D (.lst (ys ++ [y]))) else ∃ k', k' < k ∧ W (i + 1) k' ys σ3 H4)
noncomputable def PIf (X : Cx) (ifs : List Expr) (t : TT) : Prop := ∀ (pins : List (Addr × Obj)) (s : Shared) (σ : St) (H : Hp) (Q : Bool → Hp → Prop), Inv X pins σ H s → t σ H Q → wpAny (model X.prog X.w) X.A (tests ifs X.env) (TP X pins σ Q) X.xe s
theorem pif_nil : PIf X [] (fun _ H Q => Q true H) := fun pins s σ H Q I h => wpAny_pure ⟨H, I, h⟩
theorem pif_one {c : Expr} {t : TT} (h : PT X c t) : PIf X [c] t := fun pins s σ H Q I q => by
  unfold tests
  simp only [List.forIn_cons, List.forIn_nil, if_true]
  exact wpAny_bind (wpAny_bind (thn (h pins s σ H Q I q) fun b s' hb => wpAny_pure (wpAny_pure hb)))
theorem join_get {σ : St} {i : Nat} {v : V} (h : (σ[i]?).join = some v) : σ[i]? = some (some v) := by
  cases e : σ[i]? with
  | none => rw [e] at h; cases h
  | some o => rw [e] at h; simp at h; rw [h]
theorem blk_get {m : Nat} {caps : List Nat} {i : Nat} {v : V} (h : (blkSlots σ m caps)[i]? = some (some v)) : ∃ j k : Nat, i = m + j ∧ caps[j]? = some k ∧ σ[k]? = some (some v) := by
  unfold blkSlots at h
  by_cases hi : i < m
  · rw [List.getElem?_append_left (by simpa using hi), List.getElem?_replicate] at h
    split at h <;> cases h
  · rw [List.getElem?_append_right (by simpa using hi), List.length_replicate, List.getElem?_map] at h
    cases e : caps[i - m]? with
    | none => rw [e] at h; cases h
    | some k =>
      rw [e] at h
      exact ⟨i - m, k, by omega, e, join_get (Option.some.inj h)⟩
structure Caps (X : Cx) (scope : Scope) (N : List Str) (m : Nat) (caps : List Nat) : Prop where
  len : N.length = m + caps.length
  see : ∀ (j k : Nat) (x : Str), caps[j]? = some k → N[m + j]? = some x → X.N[k]? = some x ∧ scope.names.lookup x = some .free ∧ (X.env.scope.names.lookup x = some .cell ∨ X.env.scope.names.lookup x = some .free)
  fre : ∀ y ∈ scope.names, y.2 = .free → X.env.scope.names.lookup y.1 = some .cell ∨ X.env.scope.names.lookup y.1 = some .free
section
variable {elt tg iter : Expr} {ifs : List Expr} {pos : Pos} {wi : TI} {m : Nat} {caps : List Nat} {g : TG} {tc : Hp → TT} {te : Hp → TE}
theorem comp_core {use : Option (Value → Sem Unit)} {Q : VK} {Q' : Value → Shared → Prop} (hx : X.xe = Never) (hc : X.calm = true) (B : Blk scope) (C : Caps X scope N m caps) (hi : PI X tg iter wi)
    (hg : ∀ fp pins s H, PG (cxC X scope N fp pins s H) tg g) (ht : ∀ fp pins s H, PIf (cxC X scope N fp pins s H) ifs (tc H)) (he : ∀ fp pins s H, PE (cxC X scope N fp pins s H) elt (te H))
    (hs : ∀ x, foldedSetIterable iter X.env x = pure x) (I : Inv X pins σ H s) (h : tComp wi m caps g tc te σ H Q)
    (fin : ∀ (Cx' : Addr) (D : Addr) (H' : Hp) (s' : Shared), (∃ mm, s'.heap.Ns Cx' mm) → (∀ h2, Heap.SameBut Cx' s'.heap h2 → Inv X pins σ H' { s' with heap := h2 }) → FpOk X pins H' Cx' → Q (.ref D) H' →
      compPost (model X.prog X.w) X.A X.xe use Q' (.ref D) Cx' (.ok .next) s') :
    wpAny (model X.prog X.w) X.A (comprehension (.ListComp elt [⟨tg, iter, ifs, 0⟩] scope pos) scope X.env (firstIterPos [⟨tg, iter, ifs, 0⟩] pos) (newList []) false (eval iter X.env) use) Q' X.xe s := by
  have hfr : ∀ y ∈ scope.names, y.2 = .free → ∃ c, X.env.cells.lookup y.1 = some c := fun y hy hk => I.ok.has y.1 (C.fre y hy hk)
  refine wpAny_comprehension_free rfl hs (clos_some hfr) B.kind B.loc (thn (hi pins s σ H _ I h) fun v s1 h1 => thn h1 fun itv s2 h2 => ?_)
  obtain ⟨it, fp, tn, J, H2, rfl, I2, T, st2, f2, R⟩ := h2
  refine wpAny_newObj_type ?_
  have hD : H2 s2.heap.objs.size = none := I2.fresh
  have I3 := I2.lnew (its := []) (ys := []) (t' := s2.toks) .nil (Nat.zero_le _)
  have keep2 : ∀ b o, s2.heap.get? b = some o → (s2.heap.push { cls := .type "list", data := .seq ([] : List Value).toArray }).get? b = some o := fun b o e => Heap.get?_push_of_some _ e
  have st3 := T.keep 0 _ _ st2 fun b _ o e => keep2 b o e
  have nD : ∀ b ∈ fp, b ≠ s2.heap.objs.size := fun b hb => by
    obtain ⟨o, e, _⟩ := T.obj 0 _ st2 b hb
    exact Nat.ne_of_lt (Heap.lt_size e)
  have f3 : ∀ b ∈ fp, FpOk X pins (upd H2 s2.heap.objs.size (.lst [])) b := fun b hb => ⟨by rw [upd_ne (nD b hb)]; exact (f2 b hb).1, (f2 b hb).2⟩
  obtain ⟨W, ⟨k0, w0⟩, turn⟩ := R _ hD
  generalize hD' : s2.heap.objs.size = D at *
  have e3 : ({ s2 with heap := s2.heap.push { cls := .type "list", data := .seq ([] : List Value).toArray } } : Shared) = { s2 with heap := s2.heap.push { cls := .type "list", data := .seq ([] : List Value).toArray }, toks := s2.toks } := rfl
  generalize hs3 : ({ s2 with heap := s2.heap.push { cls := .type "list", data := .seq ([] : List Value).toArray }, toks := s2.toks } : Shared) = s3 at *
  have st3' : tn 0 s3.heap := by rw [← hs3]; exact st3
  show wpAny _ X.A (newFunctionEnv scope X.env.globals (closCells X.env scope.names) [] X.env.qual none .none (some X.env)) _ _ _
  rw [e3]
  refine wpAny_newFunctionEnv B.nocell (by intro y hy; simp at hy) (fun h₁ hns hsb => ?_) B.kind
  have hkeep : ∀ b o, s3.heap.get? b = some o → h₁.get? b = some o := fun b o e => hsb.extBut b o (Nat.ne_of_lt (Heap.lt_size e)) (Heap.get?_push_of_some _ e)
  have hob : ∀ b ∈ fp, ∃ o, s3.heap.get? b = some o := fun b hb => let ⟨o, e, _⟩ := T.obj 0 _ st3' b hb; ⟨o, e⟩
  have IC : Inv (cxC X scope N fp pins s3 (upd H2 D (.lst []))) [] (blkSlots σ m caps) (upd H2 D (.lst [])) { s3 with heap := h₁, toks := s3.toks + ([] : List (Str × Value)).length } := by
    refine inv_comp I3 B hfr f3 hob ⟨_, hns⟩ hkeep ?_ fun i x v h1 h2 => ?_
    · unfold blkSlots
      rw [List.length_append, List.length_replicate, List.length_map, C.len]
    · obtain ⟨j, k, rfl, e1, e2⟩ := blk_get h2
      obtain ⟨q1, q2, q3⟩ := C.see j k x e1 h1
      exact ⟨q2, q3, k, q1, e2⟩
  have st4 : tn 0 h₁ := T.keep 0 _ _ st3' fun b _ o e => hkeep b o e
  have stat : ∀ {H' : Hp}, (∀ b ∈ fp, H' b = none) → ∀ b ∈ fp, FpOk (cxC X scope N fp pins s3 (upd H2 D (.lst []))) [] H' b := fun {H'} hn b hb => by
    obtain ⟨o, e⟩ := hob b hb
    obtain ⟨_, f1, f2, _, f4, f5⟩ := f3 b hb
    refine ⟨hn b hb, Nat.ne_of_lt (Heap.lt_size e), fun z => ?_, .inl hb, fun x c q => f4 x c (clos_sub hfr q), fun p hp => f5 p ?_⟩
    · exact (List.mem_cons.mp (I3.stkSub b z)).elim f1 f2
    · have hp : p ∈ (X.pn ++ pins) ++ [] := hp
      rwa [List.append_nil] at hp
  have Dfp : ∀ b ∈ fp, b ≠ D := nD
  have loop : codeAny (model X.prog X.w) X.A (.compLoop (.ListComp elt [⟨tg, iter, ifs, 0⟩] scope pos) 0 (.ref it) (.ref D) (compEnvC scope (closCells X.env scope.names) s3.heap.objs.size X.env)) (compPost (model X.prog X.w) X.A X.xe use Q' (.ref D) s3.heap.objs.size) { s3 with heap := h₁, toks := s3.toks + ([] : List (Str × Value)).length } := by
    refine comp_loop (fun n s' => ∃ i ys σ' H', Inv (cxC X scope N fp pins s3 (upd H2 D (.lst []))) [] σ' H' s' ∧ tn i s'.heap ∧ (∀ b ∈ fp, H' b = none) ∧ W i n ys σ' H') ?_ k0 ⟨0, [], _, _, IC, st4, fun b hb => (f3 b hb).1, w0⟩
    rintro n s4 ⟨i, ys, σ4, H4, I4, st4, fr4, w4⟩
    rcases turn i n ys σ4 H4 w4 with ⟨stop, qn⟩ | ⟨go, step⟩
    · refine thn (T.done (cxC X scope N fp pins s3 (upd H2 D (.lst []))) rfl rfl rfl hc i [] s4 σ4 H4 Never I4 (stat fr4) st4 stop) fun r s5 ⟨hr, I5⟩ => ?_
      subst hr
      exact fin _ D H4 s5 (let ⟨mm, hm, _⟩ := I5.loc; ⟨mm, hm⟩) (fun h2 sb => inv_back I3 f3 I5 sb) (I3.fpOk (Nat.le_refl _) I5.free) qn
    · refine thn (T.item (cxC X scope N fp pins s3 (upd H2 D (.lst []))) rfl rfl rfl hc i [] s4 σ4 H4 Never I4 (stat fr4) st4 go) fun r s5 ⟨u, hr, h5⟩ => ?_
      subst hr
      refine thn h5 fun _ s6 ⟨x, H6, I6, r6, y6, st6, fr6⟩ => ?_
      have I6' := I6.pinned (stat fr6) (T.obj _ _ st6)
      have xn : ∀ {α : Type} {t : Sem α} {Q1 : α → Shared → Prop} {s : Shared}, wpAny (model X.prog X.w) X.A t Q1 X.xe s → wpAny (model X.prog X.w) X.A t Q1 Never s := fun h => by rw [hx] at h; exact h
      refine thn (xn (hg fp pins s3 _ _ s6 σ4 H6 x u _ I6' r6 (step x H6 y6))) fun _ s7 ⟨σ7, H7, I7, q7⟩ => ?_
      refine thn (xn (ht fp pins s3 _ _ s7 σ7 H7 _ I7 q7)) fun ok s8 ⟨H8, I8, q8⟩ => ?_
      have again : ∀ {H9 : Hp} {s9 : Shared} {ys' : List V}, Inv (cxC X scope N fp pins s3 (upd H2 D (.lst []))) ([] ++ pinsAt fp s6.heap) σ7 H9 s9 → (∃ k', k' < n ∧ W (i + 1) k' ys' σ7 H9) →
          ∃ k', k' < n ∧ ∃ i ys σ' H', Inv (cxC X scope N fp pins s3 (upd H2 D (.lst []))) [] σ' H' s9 ∧ tn i s9.heap ∧ (∀ b ∈ fp, H' b = none) ∧ W i k' ys σ' H' := fun {H9 s9 ys'} I9 w9 => by
        obtain ⟨k', hk', w9⟩ := w9
        refine ⟨k', hk', i + 1, ys', σ7, H9, I9.unpinned, T.keep _ _ _ st6 fun b hb o e => (I9.pin (b, o) (List.mem_append_right _ (List.mem_append_right _ (mem_pinsAt hb e)))).1, fun b hb => ?_, w9⟩
        obtain ⟨o, e, d⟩ := T.obj _ _ st6 b hb
        exact (I9.pin (b, o) (List.mem_append_right _ (List.mem_append_right _ (mem_pinsAt hb e)))).2.1
      cases ok with
      | false => exact again I8 q8
      | true =>
        refine thn (xn (he fp pins s3 _ _ s8 σ7 H8 _ I8 q8)) fun yv s9 ⟨y, H9, I9, r9, hD9, hz9, q9⟩ => ?_
        refine thn (xn (mt_append (X := cxC X scope N fp pins s3 (upd H2 D (.lst []))) _ s9 σ7 H9 (.ref D) [y] (.ref D) [yv] (fun _ H' => H' = upd H9 D (.lst (ys ++ [y]))) I9 rfl (.cons r9 .nil) ⟨D, ys, y, rfl, rfl, hD9, hz9, rfl⟩)) fun _ s10 ⟨_, H10, I10, _, e10⟩ => ?_
        subst e10
        exact again I10 q9
  exact codeAny_compStart_list loop (T.self _ 0 _ _ _ st4 loop)
theorem pe_comp (hx : X.xe = Never) (hc : X.calm = true) (B : Blk scope) (C : Caps X scope N m caps) (hi : PI X tg iter wi) (hg : ∀ fp pins s H, PG (cxC X scope N fp pins s H) tg g) (ht : ∀ fp pins s H, PIf (cxC X scope N fp pins s H) ifs (tc H)) (he : ∀ fp pins s H, PE (cxC X scope N fp pins s H) elt (te H))
    (hs : ∀ x, foldedSetIterable iter X.env x = pure x) : PE X (.ListComp elt [⟨tg, iter, ifs, 0⟩] scope pos) (tComp wi m caps g tc te) := by
  intro pins s σ H Q I h
  rw [eval_ListComp]
  refine comp_core (use := none) hx hc B C hi hg ht he hs I h fun C' D H' s' hn hb _ q => ?_
  obtain ⟨mm, hm⟩ := hn
  exact ⟨mm, hm, fun h2 sb => ⟨.ref D, H', hb h2 sb, rfl, q⟩⟩
theorem ps_compSet {i : Nat} {x : Str} {px spos : Pos} (hx : X.xe = Never) (hc : X.calm = true) (B : Blk scope) (C : Caps X scope N m caps) (hi : PI X tg iter wi) (hg : ∀ fp pins s H, PG (cxC X scope N fp pins s H) tg g) (ht : ∀ fp pins s H, PIf (cxC X scope N fp pins s H) ifs (tc H)) (he : ∀ fp pins s H, PE (cxC X scope N fp pins s H) elt (te H))
    (hs : ∀ x, foldedSetIterable iter X.env x = pure x) (hN : X.N.Nodup) (hix : X.N[i]? = some x) (hl : X.env.scope.names.lookup x = some .local) (hsw : swapsWith (.ListComp elt [⟨tg, iter, ifs, 0⟩] scope pos) (some (.Name x px)) spos.line X.env = pure true) :
    PS X (.Assign [.Name x px] (.ListComp elt [⟨tg, iter, ifs, 0⟩] scope pos) spos) (fun D σ H => tComp wi m caps g tc te σ H fun v H' => D.nx (σ.set i (some v)) H') := by
  intro pins s σ H D I h
  rw [exec_Assign_Name_used _ _ _ _ hsw]
  refine wpAny_bind (wpAny_standAt (wpAny_bind ?_))
  show wpAny _ X.A (do let _ ← comprehension (.ListComp elt [⟨tg, iter, ifs, 0⟩] scope pos) scope X.env (firstIterPos [⟨tg, iter, ifs, 0⟩] pos) (newList []) false (eval iter X.env) (some (assign (.Name x px) X.env))) _ _ s
  refine wpAny_bind (thn (comp_core (use := some (assign (.Name x px) X.env)) (Q := fun v H' => D.nx (σ.set i (some v)) H') (Q' := fun _ s' => SP X pins D .next s') hx hc B C hi hg ht he hs I h fun C' Da H' s' hn hb hf q => ?_) fun _ s' hq => wpAny_pure (wpAny_pure hq))
  obtain ⟨mm, hm⟩ := hn
  obtain ⟨f0, f1, f2, f3, f4, f5⟩ := hf
  have I' : Inv X pins σ H' s' := hb s'.heap (Heap.SameBut.refl _ _)
  show wpAny _ X.A (assign (.Name x px) X.env (.ref Da)) _ _ s'
  refine wpAny_assign_Name (store_ok2 I' hN hix (.inl hl) (v := .ref Da) rfl (fun s'' I'' ⟨a, sb, ha⟩ => ?_) (.inr hl))
  have hca : C' ≠ a := by
    rcases ha with e | e
    · rw [e]; exact f1
    · exact fun z => f4 x a e z.symm
  refine ⟨mm, hm.sameBut sb hca, fun h2 sb2 => ⟨_, H', ?_, q⟩⟩
  have := I''.turned (it := C') (h' := h2) (t' := s''.toks) (fun b o hb e => (sb2.2 b hb).trans e) f0 f1 f3 f4 f5
  exact this
end
end
end L2

namespace Z
open PySem PySem.Spec PyProof.Rows L2
section
variable {X : Cx} {W : Wd} {lk lk' : Bool} {σ : L2.St} {H H1 H' : Hp} {me : Option Addr} {B : Addr → Prop} {δ : Dst} {Q Q' : VK} {a b : Expr} {pos p : Pos} {o : Orc}
theorem after_chk {P : Addr → Prop} {t : Bool} {x : R (Bool × D)} (h : After X W lk σ H P (R.chk t x) Q) : t = true ∧ After X W lk σ H P x Q := by
  cases t with
  | true => exact ⟨rfl, h⟩
  | false => exact h.elim
theorem d_tup {es : List Expr} {l : TL} {x1 : Nat} (ha : PA X es (tL X W fun δ => evL o δ l)) : PE X (.Tuple es x1 pos) (tD X W lk fun δ => ev o δ lk (.tup l)) := by
  refine PE.imp (pe_tup ha) fun σ H Q h => ?_
  obtain ⟨me, B, δ, S, h⟩ := tD_iff.mp h
  simp only [ev] at h
  refine tL.mono (partL (fa := fun δ => evL o δ l) (C := fun r H => After X W lk σ H (Hid B σ δ) r Q) S h (fun r H1 s q => q.mono s) (fun c q => q) (fun q => q)) fun vs H1 ⟨r, e1, S1, s1, t1, q1, h1⟩ => ?_
  obtain ⟨hc, h1⟩ := after_chk h1
  simp only [Bool.and_eq_true, Bool.not_eq_true'] at hc
  have hr := q1 hc.1
  exact ⟨by rw [← hr.length]; exact size_le hc.2, fun p hp => h1 _ _ (Same.upd hp) (res_newT hp hr S1.know)⟩
theorem d_lst {es : List Expr} {l : TL} (ha : PA X es (tL X W fun δ => evL o δ l)) : PE X (.List es pos) (tD X W lk fun δ => ev o δ lk (.lst l)) := by
  refine PE.imp (pe_lst ha) fun σ H Q h => ?_
  obtain ⟨me, B, δ, S, h⟩ := tD_iff.mp h
  simp only [ev] at h
  refine tL.mono (partL (fa := fun δ => evL o δ l) (C := fun r H => After X W lk σ H (Hid B σ δ) r Q) S h (fun r H1 s q => q.mono s) (fun c q => q) (fun q => q)) fun vs H1 ⟨r, e1, S1, s1, t1, q1, h1⟩ => ?_
  obtain ⟨hc, h1⟩ := after_chk h1
  simp only [Bool.and_eq_true, Bool.not_eq_true'] at hc
  have hr := q1 hc.1
  exact ⟨by rw [← hr.length]; exact size_le hc.2, fun p hp => h1 _ _ (Same.upd hp) (res_new hp hr S1.know)⟩
theorem d_neg {t : T} (ha : PE X a (tD X W true fun δ => ev o δ true t)) : PE X (.UnaryOp .USub a pos) (tD X W lk fun δ => ev o δ lk (.neg t)) := by
  refine PE.imp (pe_un un_neg ha) fun σ H Q h => ?_
  obtain ⟨me, B, δ, S, h⟩ := tD_iff.mp h
  simp only [ev] at h
  refine tD.mono (part (fa := fun δ => ev o δ true t) S h) fun v H1 ⟨r, e, S1, s1, t1, _, h1⟩ => ?_
  cases e2 : r.2 with
  | int i =>
    rw [e2] at t1 h1
    exact ⟨i, repT_int t1, h1 _ H1 (Same.refl _) res_int⟩
  | _ => rw [e2] at h1; exact h1.elim
theorem d_ite {c : Expr} {tc ta tb : T} (hc : PT X c (tT X W fun δ => ev o δ true tc)) (ha : PE X a (tD X W lk fun δ => ev o δ lk ta)) (hb : PE X b (tD X W lk fun δ => ev o δ lk tb)) :
    PE X (.IfExp c a b pos) (tD X W lk fun δ => ev o δ lk (.ite tc ta tb)) := by
  refine PE.imp (pe_ifExp hc ha hb) fun σ H Q h => ?_
  obtain ⟨me, B, δ, S, h⟩ := tD_iff.mp h
  simp only [ev] at h
  refine ⟨me, B, δ, S, ?_⟩
  cases e : ev o δ true tc with
  | ok r =>
    rw [e] at h
    dsimp only
    rw [e]
    simp only [R.bind]
    cases e2 : truth r.2 with
    | none => simp only [R.bind, e2, R.of] at h; exact h.elim
    | some t =>
      simp only [R.bind, e2, R.of] at h ⊢
      intro H1 s
      cases t with
      | true => exact tD_iff.mpr ⟨me, B, δ, S.mono s, After.mono h s⟩
      | false => exact tD_iff.mpr ⟨me, B, δ, S.mono s, After.mono h s⟩
  | exc c => rw [e] at h; exact h.elim
  | stuck => rw [e] at h; exact h.elim
noncomputable def tIfT (t ta tb : TT) : TT := fun σ H Q => t σ H fun c H1 => if c = true then ta σ H1 Q else tb σ H1 Q
theorem pt_ifExp {c : Expr} {tA ta tb : TT} (hc : PT X c tA) (ha : PT X a ta) (hb : PT X b tb) : PT X (.IfExp c a b pos) (tIfT tA ta tb) := by
  intro pins s σ H Q I h
  have e : ∀ whole, isTrue (.IfExp c a b pos) X.env whole = (isTrue c X.env (eval c X.env) >>= fun t => if t = true then isTrue a X.env (eval a X.env) else isTrue b X.env (eval b X.env)) := fun _ => by simp only [PySem.isTrue]
  rw [e]
  refine wpAny_bind (thn (hc pins s σ H _ I h) fun d s1 ⟨H1, I1, q1⟩ => ?_)
  cases d with
  | true => exact ha pins s1 σ H1 Q I1 q1
  | false => exact hb pins s1 σ H1 Q I1 q1
theorem dt_ite {c : Expr} {tc ta tb : T} (hc : PT X c (tT X W fun δ => ev o δ true tc)) (ha : PT X a (tT X W fun δ => ev o δ true ta)) (hb : PT X b (tT X W fun δ => ev o δ true tb)) :
    PT X (.IfExp c a b pos) (tT X W fun δ => ev o δ true (.ite tc ta tb)) := by
  refine PT.imp (pt_ifExp hc ha hb) fun σ H Q h => ?_
  obtain ⟨me, B, δ, S, h⟩ := h
  simp only [ev] at h
  refine ⟨me, B, δ, S, ?_⟩
  cases e : ev o δ true tc with
  | ok r =>
    rw [e] at h
    dsimp only
    rw [e]
    simp only [R.bind]
    cases e2 : truth r.2 with
    | none => simp only [R.bind, e2, R.of] at h
    | some t =>
      simp only [R.bind, e2, R.of] at h ⊢
      intro H1 s
      cases t with
      | true =>
        refine ⟨me, B, δ, S.mono s, ?_⟩
        simp only [if_true] at h
        dsimp only
        cases e3 : ev o δ true ta with
        | ok r2 =>
          simp only [e3, R.bind] at h ⊢
          cases e4 : truth r2.2 with
          | none => simp only [e4, R.of] at h
          | some b =>
            simp only [e4, R.of] at h ⊢
            exact fun H' s' => h H' (s.trans s')
        | exc c => simp only [e3, R.bind] at h; exact h.elim
        | stuck => simp only [e3, R.bind] at h
      | false =>
        refine ⟨me, B, δ, S.mono s, ?_⟩
        simp only [Bool.false_eq_true, if_false] at h
        dsimp only
        cases e3 : ev o δ true tb with
        | ok r2 =>
          simp only [e3, R.bind] at h ⊢
          cases e4 : truth r2.2 with
          | none => simp only [e4, R.of] at h
          | some b =>
            simp only [e4, R.of] at h ⊢
            exact fun H' s' => h H' (s.trans s')
        | exc c => simp only [e3, R.bind] at h; exact h.elim
        | stuck => simp only [e3, R.bind] at h
  | exc c => rw [e] at h; exact h.elim
  | stuck => rw [e] at h; exact h.elim
theorem SR.plain (hk : W.K = X.K) (hl : σ.length = δ.length) (hsh : ∀ (i : Nat) (w : Own) (d : D), δ[i]? = some (some (w, d)) → w = .sh ∧ ∃ v, σ[i]? = some (some v) ∧ Rep W (vis H B) d v)
    (same : ∀ b o, X.H₀ b = some o → some b ≠ me → H b = some o) (soft : Soft H B) (gone : ∀ b, B b → ∃ o, H b = some o) (live : ∀ x, me = some x → ∃ o, H x = some o) : SR X W me B H σ δ := by
  have hid : ∀ b, Hid B σ δ b → B b := fun b hb => by
    rcases hb with hb | ⟨i, ⟨w, d, h1, h2⟩, _⟩
    · exact hb
    · exact absurd (hsh i w d h1).1 h2
  refine ⟨hk, hl, fun i d h => ?_, fun i d h => ?_, fun i d h => ?_, fun i j a h1 _ => ?_, same, soft, gone, live⟩
  · obtain ⟨_, v, e1, e2⟩ := hsh i _ d h
    exact ⟨v, e1, e2.mono (vis_sub hid)⟩
  · exact absurd (hsh i _ d h).1 (by decide)
  · exact absurd (hsh i _ d h).1 (by decide)
  · obtain ⟨⟨w, d, h1, h2⟩, _⟩ := h1
    exact absurd (hsh i w d h1).1 h2
theorem hid_plain (hsh : ∀ (i : Nat) (w : Own) (d : D), δ[i]? = some (some (w, d)) → w = .sh) {b : Addr} : Hid B σ δ b ↔ B b := by
  refine ⟨fun hb => ?_, .inl⟩
  rcases hb with hb | ⟨i, ⟨w, d, h1, h2⟩, _⟩
  · exact hb
  · exact absurd (hsh i w d h1) h2
theorem vis_plain (hsh : ∀ (i : Nat) (w : Own) (d : D), δ[i]? = some (some (w, d)) → w = .sh) : vis H (Hid B σ δ) = vis H B := by
  have : Hid B σ δ = B := funext fun b => propext (hid_plain hsh)
  rw [this]
theorem caps_reps (S : SR X W me B H σ δ) : ∀ {caps : List Nat} {cs : List D}, slotsD δ caps = some cs → ∃ vs : List V, caps.map (fun i => (σ[i]?).join) = vs.map some ∧ RepTs W H (vis H (Hid B σ δ)) cs vs ∧ ((caps.all fun i => !isOwn δ i) = true → Reps W (vis H (Hid B σ δ)) cs vs)
  | [], cs, h => by
    simp only [slotsD, Option.some.injEq] at h
    subst h
    exact ⟨[], rfl, by simp only [RepTs], fun _ => by simp only [Reps]⟩
  | i :: caps, cs, h => by
    simp only [slotsD] at h
    cases e : slotD δ i with
    | none => rw [e] at h; cases h
    | some d =>
      rw [e] at h
      cases e2 : slotsD δ caps with
      | none => rw [e2] at h; cases h
      | some cs' =>
        rw [e2] at h
        cases h
        obtain ⟨vs, h1, h2, h3⟩ := caps_reps S e2
        have key : ∃ v, σ[i]? = some (some v) ∧ RepT W H (vis H (Hid B σ δ)) d v ∧ (isOwn δ i = false → Rep W (vis H (Hid B σ δ)) d v) := by
          unfold slotD at e
          split at e
          · rename_i w d' ed
            cases e
            cases w with
            | sh => obtain ⟨v, q1, q2⟩ := S.sh i _ ed; exact ⟨v, q1, q2.top vis_le, fun _ => q2⟩
            | ow => obtain ⟨a, q1, q2, _⟩ := S.ow i _ ed; exact ⟨_, q1, q2.top, fun z => by simp [isOwn, ed] at z⟩
            | me => obtain ⟨_, a, _, q1, q2, _⟩ := S.mi i _ ed; exact ⟨_, q1, q2.top, fun z => by simp [isOwn, ed] at z⟩
          · cases e
        obtain ⟨v, k1, k2, k3⟩ := key
        refine ⟨v :: vs, by simp [k1, h1], ?_, fun hall => ?_⟩
        · simp only [RepTs]; exact ⟨k2, h2⟩
        · simp only [List.all_cons, Bool.and_eq_true, Bool.not_eq_true'] at hall
          simp only [Reps]
          exact ⟨k3 hall.1, h3 hall.2⟩
structure Yields (J : It) (H2 : Hp) (xs : List V) : Prop where
  go : ∀ i H', Same H2 H' → i < xs.length → J.go i H'
  yld : ∀ i H' x H'', Same H2 H' → i < xs.length → J.yld i H' x H'' → H'' = H' ∧ xs[i]? = some x
  stop : ∀ H', Same H2 H' → J.stop xs.length H'
theorem yields_list {K : PySem.W.Frag} {H2 : Hp} {c : Addr} {xs : List V} (h : SqL K H2 c xs) : Yields (Itl K c) H2 xs where
  go := fun i H' s hi => ⟨xs, xs[i], s.seq h, by simp [hi]⟩
  yld := fun i H' x H'' s _ ⟨e, y⟩ => ⟨e, y xs (s.seq h)⟩
  stop := fun H' s => ⟨xs, s.seq h, Nat.le_refl _⟩
theorem yields_tup {K : PySem.W.Frag} {H2 : Hp} {c : Addr} {xs : List V} (h : SqT K H2 c xs) : Yields (Itt K c) H2 xs where
  go := fun i H' s hi => ⟨xs, xs[i], same_tup s h, by simp [hi]⟩
  yld := fun i H' x H'' s _ ⟨e, y⟩ => ⟨e, y xs (same_tup s h)⟩
  stop := fun H' s => ⟨xs, same_tup s h, Nat.le_refl _⟩
theorem yields_range {H2 : Hp} (lo : Int) (n : Nat) : Yields (Itr lo n) H2 ((List.range n).map fun (k : Nat) => V.int (lo + (k : Int))) where
  go := fun i H' s hi => by simpa [Itr] using hi
  yld := fun i H' x H'' s hi ⟨e, y⟩ => by
    refine ⟨e, ?_⟩
    have hi : i < n := by simpa using hi
    rw [List.getElem?_map, List.getElem?_range hi, y]
    rfl
  stop := fun H' s => by simp [Itr]
noncomputable def Yl (W : Wd) (G0 : Hp) (d : D) (x : V) (H' H'' : Hp) : Prop := (H'' = H' ∧ Rep W G0 d x) ∨ ∃ (p : Addr) (d1 d2 : D) (v1 v2 : V), d = .tup [d1, d2] ∧ x = .ref p ∧ H' p = none ∧ H'' = upd H' p (.tup [v1, v2]) ∧ Rep W G0 d1 v1 ∧ Rep W G0 d2 v2
theorem Yl.rep {G0 : Hp} {d : D} {x : V} {H' H'' : Hp} {P : Addr → Prop} (h : Yl W G0 d x H' H'') (g : Same G0 (vis H' P)) (gone : ∀ b, P b → ∃ u, H' b = some u) : Same H' H'' ∧ Rep W (vis H'' P) d x := by
  rcases h with ⟨rfl, r⟩ | ⟨p, d1, d2, v1, v2, rfl, rfl, hp, rfl, r1, r2⟩
  · exact ⟨Same.refl _, r.mono g⟩
  · refine ⟨Same.upd hp, ?_⟩
    have up := g.trans (vis_mono (P := P) (Same.upd (o := .tup [v1, v2]) hp))
    simp only [Rep]
    refine ⟨p, [v1, v2], rfl, .inl (.inl (vis_of upd_same fun z => ?_)), ?_⟩
    · obtain ⟨u, e⟩ := gone p z
      rw [hp] at e; cases e
    · simp only [Reps]
      exact ⟨r1.mono up, r2.mono up, trivial⟩
structure Ylds (W : Wd) (J : It) (G G0 : Hp) (l : List D) : Prop where
  go : ∀ i H', Same G H' → i < l.length → J.go i H'
  yld : ∀ i H' x H'' d, Same G H' → l[i]? = some d → J.yld i H' x H'' → Yl W G0 d x H' H''
  stop : ∀ H', Same G H' → J.stop l.length H'
theorem Ylds.of {J : It} {G G0 : Hp} {l : List D} {xs : List V} (y : Yields J G xs) (r : Reps W G0 l xs) : Ylds W J G G0 l where
  go := fun i H' s hi => y.go i H' s (by rw [← r.length]; exact hi)
  yld := fun i H' x H'' d s e z => by
    have hi : i < xs.length := by rw [← r.length]; exact (List.getElem?_eq_some_iff.mp e).1
    obtain ⟨h1, h2⟩ := y.yld i H' x H'' s hi z
    obtain ⟨v, h3, h4⟩ := r.get e
    rw [h2] at h3; cases h3
    exact .inl ⟨h1, h4⟩
  stop := fun H' s => by rw [r.length]; exact y.stop H' s
theorem SR.cx {X' : Cx} (S : SR X W me B H σ δ) (h1 : X'.K = X.K) (h2 : X'.H₀ = X.H₀) : SR X' W me B H σ δ :=
  ⟨by rw [h1]; exact S.kf, S.len, S.sh, fun i d h => let ⟨a, q1, q2, q3, q4⟩ := S.ow i d h; ⟨a, q1, q2, by rw [h2]; exact q3, q4⟩, S.mi, S.apart, fun b o h => S.same b o (by rw [← h2]; exact h), S.soft, S.gone, S.live⟩
theorem tD.cx {X' : Cx} {f : Dst → R (Bool × D)} (h1 : X'.K = X.K) (h2 : X'.H₀ = X.H₀) (h : tD X W lk f σ H Q) : tD X' W lk f σ H Q := by
  obtain ⟨me, B, δ, S, h⟩ := h
  exact ⟨me, B, δ, S.cx h1 h2, h⟩
theorem tT.cx {X' : Cx} {f : Dst → R (Bool × D)} {C : Bool → Hp → Prop} (h1 : X'.K = X.K) (h2 : X'.H₀ = X.H₀) (h : tT X W f σ H C) : tT X' W f σ H C := by
  obtain ⟨me, B, δ, S, h⟩ := h
  exact ⟨me, B, δ, S.cx h1 h2, h⟩
noncomputable def TgR (X : Cx) (W : Wd) (is : List Nat) (tup : Bool) (g : TG) : Prop :=
  ∀ {me : Option Addr} {B : Addr → Prop} {σ : L2.St} {H : Hp} {δ δ1 : Dst} {d : D} {ds : List D} {v : V} {C : L2.St → Hp → Prop}, SR X W me B H σ δ → Rep W (vis H (Hid B σ δ)) d v → takes is.length tup d = some ds → setSlots δ is ds = some δ1 →
    (∀ σ1, SR X W me B H σ1 δ1 → Same (vis H (Hid B σ δ)) (vis H (Hid B σ1 δ1)) → C σ1 H) → g v σ H C
theorem tgr_name {i : Nat} : TgR X W [i] false (gName i) := by
  intro me B σ H δ δ1 d ds v C S r e1 e2 k
  simp only [takes, Bool.false_eq_true, if_false, Option.some.injEq] at e1
  subst e1
  simp only [setSlots] at e2
  cases e3 : setSlot δ i false d with
  | none => rw [e3] at e2; cases e2
  | some δ' =>
    rw [e3] at e2
    cases e2
    obtain ⟨S1, s1⟩ := store1 S r e3
    exact k _ S1 s1
theorem tgr_tup {is : List Nat} (hk : W.K = X.K) : TgR X W is true (gTup X.K is.length (gNames is)) := by
  intro me B σ H δ δ1 d ds v C S r e1 e2 k
  simp only [takes, if_true] at e1
  cases d with
  | tup l =>
    simp only at e1
    split at e1
    · rename_i hl
      cases e1
      simp only [Rep] at r
      obtain ⟨a, xs, rfl, r1, r2⟩ := r
      exact ⟨a, xs, rfl, hk ▸ same_tup vis_le r1, by rw [← r2.length]; exact hl, names_store S r2 e2 k⟩
    · cases e1
  | _ => simp at e1
noncomputable def shAll (l : List D) : Dst := l.map fun d => some (Own.sh, d)
theorem shAll_get {l : List D} {i : Nat} {w : Own} {d : D} (h : (shAll l)[i]? = some (some (w, d))) : w = .sh ∧ l[i]? = some d := by
  unfold shAll at h
  rw [List.getElem?_map] at h
  cases e : l[i]? with
  | none => rw [e] at h; cases h
  | some x => rw [e] at h; cases h; exact ⟨rfl, rfl⟩
theorem setSlots_go : ∀ (ds : List D) (pre post : Dst) (mid : Dst), mid.length = ds.length → setSlots (pre ++ mid ++ post) (List.range' pre.length ds.length) ds = some (pre ++ shAll ds ++ post)
  | [], pre, post, mid, h => by
    have : mid = [] := List.eq_nil_of_length_eq_zero h
    subst this
    simp [setSlots, shAll]
  | d :: ds, pre, post, [], h => by simp at h
  | d :: ds, pre, post, x :: mid, h => by
    simp only [List.length_cons, Nat.add_right_cancel_iff] at h
    rw [List.length_cons, List.range'_succ]
    simp only [setSlots]
    have e1 : setSlot (pre ++ x :: mid ++ post) pre.length false d = some ((pre ++ [some (Own.sh, d)]) ++ mid ++ post) := by
      unfold setSlot
      rw [if_pos (by simp)]
      simp [List.set_append]
    rw [e1]
    simp only [Option.bind_some]
    have := setSlots_go ds (pre ++ [some (Own.sh, d)]) post mid h
    rw [List.length_append, List.length_singleton] at this
    rw [this]
    simp [shAll]
theorem setSlots_all (ds : List D) (mid post : Dst) (h : mid.length = ds.length) : setSlots (mid ++ post) (List.range ds.length) ds = some (shAll ds ++ post) := by
  have := setSlots_go ds [] post mid h
  simpa [List.range_eq_range'] using this
theorem takes_len {m : Nat} {tup : Bool} {d : D} {ds : List D} (hm : tup = false → m = 1) (h : takes m tup d = some ds) : ds.length = m := by
  unfold takes at h
  split at h
  · split at h
    · split at h
      · cases h; assumption
      · cases h
    · cases h
  · rename_i ht
    cases h
    rw [hm (by simpa using ht)]; rfl
theorem comp_read {wi : L2.TI} {g : TG} {m : Nat} {caps : List Nat} {tup : Bool} {tc te : T} {it : TI} (hk : W.K = X.K) (hm : tup = false → m = 1)
    (hwi : ∀ σ H (K : It → Hp → Prop), (∃ me B δ l, SR X W me B H σ δ ∧ evI o δ true it = .ok l ∧ ∀ J H2, Same H H2 → Ylds W J H2 (vis H2 (Hid B σ δ)) l → K J H2) → wi σ H K)
    (hg : ∀ H0, TgR { X with H₀ := H0 } W (List.range m) tup g) (h : tD X W lk (fun δ => ev o δ lk (.comp caps m tup it tc te)) σ H Q) :
    tComp wi m caps g (fun H0 => tT { X with H₀ := H0 } W fun δ => ev o δ true tc) (fun H0 => tD { X with H₀ := H0 } W false fun δ => ev o δ false te) σ H Q := by
  obtain ⟨me, B, δ, S, h⟩ := tD_iff.mp h
  simp only [ev] at h
  cases e1 : evI o δ true it with
  | exc c => rw [e1] at h; exact h.elim
  | stuck => rw [e1] at h; exact h.elim
  | ok l =>
  rw [e1] at h
  cases e2 : slotsD δ caps with
  | none => rw [e2] at h; exact h.elim
  | some cs =>
  rw [e2] at h
  have h : After X W lk σ H (Hid B σ δ) ((compGo (fun x => ev o ((x ++ cs).map fun d => some (.sh, d)) false te) (fun x => ev o ((x ++ cs).map fun d => some (.sh, d)) true tc) m tup l).bind fun r =>
      R.chk (size r.length && (immL r || caps.all fun i => !isOwn δ i)) (.ok (true, .lst r))) Q := h
  refine hwi σ H _ ⟨me, B, δ, l, S, e1, fun J H2 s yl => ?_⟩
  intro Da hD
  obtain ⟨vs, c1, c2, c3⟩ := caps_reps S e2
  generalize hown : (caps.all fun i => !isOwn δ i) = own at h c3
  generalize hP : Hid B σ δ = P at *
  have softP : Soft H2 P := by subst hP; exact S.softH.mono S.know s
  have goneP : ∀ b, P b → ∃ u, H2 b = some u := fun b hb => by
    subst hP
    obtain ⟨u, e⟩ := S.know b hb
    exact ⟨u, s b u e⟩
  let Bq : Addr → Prop := fun b => (P b ∧ (own = true ∨ V.ref b ∉ vs)) ∨ b = Da
  have nD : ∀ {b : Addr} {u : HO}, H2 b = some u → b ≠ Da := fun e z => by rw [z, hD] at e; cases e
  have upv : ∀ {H' : Hp}, Same H2 H' → Same (vis H2 Bq) (vis H' Bq) := fun s' => vis_mono s'
  have inP : Same (vis H2 P) (vis H2 Bq) := fun b u e => by
    obtain ⟨e1, e2⟩ := vis_some e
    refine vis_of e1 fun z => ?_
    rcases z with ⟨z, _⟩ | z
    · exact e2 z
    · exact nD e1 z
  have capR : Reps W (vis H2 Bq) cs vs := by
    cases own with
    | true => exact ((c3 rfl).mono (vis_mono s)).mono inP
    | false =>
      have q := c2.lend vs (fun v hv => hv)
      refine (q.mono (vis_mono s)).mono fun b u e => ?_
      obtain ⟨e1, e2⟩ := vis_some e
      refine vis_of e1 fun z => ?_
      rcases z with ⟨z1, z2⟩ | z
      · rcases z2 with z2 | z2
        · cases z2
        · exact e2 ⟨z1, z2⟩
      · exact nD e1 z
  let δ0 : Dst := List.replicate m none ++ shAll cs
  have δ0sh : ∀ (i : Nat) (w : Own) (d : D), δ0[i]? = some (some (w, d)) → w = .sh ∧ m ≤ i ∧ cs[i - m]? = some d := fun i w d e => by
    by_cases hi : i < m
    · have e : (List.replicate m none ++ shAll cs)[i]? = some (some (w, d)) := e
      rw [List.getElem?_append_left (by simpa using hi), List.getElem?_replicate] at e
      split at e <;> cases e
    · have e : (List.replicate m none ++ shAll cs)[i]? = some (some (w, d)) := e
      rw [List.getElem?_append_right (by simpa using hi), List.length_replicate] at e
      obtain ⟨e1, e2⟩ := shAll_get e
      exact ⟨e1, by omega, e2⟩
  have softQ : ∀ {H' : Hp} {ys : List V}, Same H2 H' → H' Da = some (.lst ys) → Soft H' Bq := fun {H' ys} s' hd b hb u e => by
    rcases hb with ⟨hb, _⟩ | hb
    · obtain ⟨u', e'⟩ := goneP b hb
      have := s' b u' e'
      rw [e] at this; cases this
      exact softP b hb u e'
    · rw [hb, hd] at e; cases e
      exact ⟨(by intro _ z; cases z), (by intro _ _ z; cases z)⟩
  have goneQ : ∀ {H' : Hp} {ys : List V}, Same H2 H' → H' Da = some (.lst ys) → ∀ b, Bq b → ∃ u, H' b = some u := fun {H' ys} s' hd b hb => by
    rcases hb with ⟨hb, _⟩ | hb
    · obtain ⟨u', e'⟩ := goneP b hb
      exact ⟨u', s' b u' e'⟩
    · exact ⟨_, by rw [hb]; exact hd⟩
  let X0 : Cx := { X with H₀ := upd H2 Da (.lst []) }
  have mkS : ∀ {H' : Hp} {σ' : L2.St} {ys : List V}, σ'.length = m + cs.length → (∀ (j : Nat) (d : D), cs[j]? = some d → ∃ v, σ'[m + j]? = some (some v) ∧ Rep W (vis H' Bq) d v) → Same H2 H' → H' Da = some (.lst ys) → SR X0 W (some Da) Bq H' σ' δ0 := fun {H' σ' ys} hl hc s' hd => by
    refine SR.plain hk (by rw [hl]; simp [δ0, shAll]) (fun i w d e => ?_) (fun b u e hb => ?_) (softQ s' hd) (goneQ s' hd) (fun x hx => by cases hx; exact ⟨_, hd⟩)
    · obtain ⟨h1, h2, h3⟩ := δ0sh i w d e
      obtain ⟨v, q1, q2⟩ := hc _ d h3
      exact ⟨h1, v, by rw [← q1]; congr 1; omega, q2⟩
    · have hb' : b ≠ Da := fun z => hb (by rw [z])
      have e : upd H2 Da (.lst []) b = some u := e
      rw [upd_ne hb'] at e
      exact s' b u e
  generalize hT : ((compGo (fun x => ev o ((x ++ cs).map fun d => some (.sh, d)) false te) (fun x => ev o ((x ++ cs).map fun d => some (.sh, d)) true tc) m tup l).bind fun r =>
      R.chk (size r.length && (immL r || own)) (R.ok (true, D.lst r))) = Tt at h
  refine ⟨fun i k ys σ' H' => ∃ rs, i ≤ l.length ∧ k = l.length - i ∧ σ'.length = m + cs.length ∧ (∀ (j : Nat) (d : D), cs[j]? = some d → ∃ v, σ'[m + j]? = some (some v) ∧ Rep W (vis H' Bq) d v) ∧ Same H2 H' ∧ H' Da = some (.lst ys) ∧ Reps W (vis H' Bq) rs ys ∧
      ((compGo (fun x => ev o ((x ++ cs).map fun d => some (.sh, d)) false te) (fun x => ev o ((x ++ cs).map fun d => some (.sh, d)) true tc) m tup (l.drop i)).bind fun r => R.chk (size (rs ++ r).length && (immL (rs ++ r) || own)) (R.ok (true, D.lst (rs ++ r)))) = Tt, ⟨l.length, [], Nat.zero_le _, by simp, ?_, ?_, Same.upd hD, upd_same, by simp only [Reps], by simpa using hT⟩, ?_⟩
  · unfold blkSlots
    rw [c1, List.length_append, List.length_replicate, List.length_map, capR.length]
  · intro j d e
    obtain ⟨v, q1, q2⟩ := capR.get e
    refine ⟨v, ?_, q2.mono (upv (Same.upd hD))⟩
    unfold blkSlots
    rw [c1, List.getElem?_append_right (by simp), List.length_replicate, Nat.add_sub_cancel_left, List.getElem?_map, q1]
    rfl
  · rintro i k ys σ' H' ⟨rs, hi, rfl, hl, hc, s', hd, hr, hTi⟩
    by_cases hlt : i < l.length
    ·
      refine .inr ⟨yl.go i H' s' (by omega), fun x H'' y => ?_⟩
      obtain ⟨d, ed⟩ : ∃ d, l[i]? = some d := ⟨_, List.getElem?_eq_getElem hlt⟩
      obtain ⟨sy, rd⟩ := (yl.yld i H' x H'' d s' ed y).rep (inP.trans (upv s')) (goneQ s' hd)
      replace hc : ∀ (j : Nat) (d : D), cs[j]? = some d → ∃ v, σ'[m + j]? = some (some v) ∧ Rep W (vis H'' Bq) d v := fun j d e =>
        let ⟨v, q1, q2⟩ := hc j d e
        ⟨v, q1, q2.mono (vis_mono sy)⟩
      replace hd := sy Da _ hd
      replace hr := hr.mono (vis_mono (P := Bq) sy)
      replace s' := s'.trans sy
      have hdr : l.drop i = d :: l.drop (i + 1) := by
        obtain ⟨h1, h2⟩ := List.getElem?_eq_some_iff.mp ed
        rw [List.drop_eq_getElem_cons h1, h2]
      rw [hdr, compGo] at hTi
      cases e3 : takes m tup d with
      | none => rw [e3] at hTi; subst hTi; exact h.elim
      | some ds =>
      rw [e3] at hTi
      have lds := takes_len hm e3
      have S0 := mkS hl hc s' hd
      have hset : setSlots δ0 (List.range m) ds = some (shAll ds ++ shAll cs) := by
        have := setSlots_all ds (List.replicate m none) (shAll cs) (by simp [lds])
        rw [lds] at this
        exact this
      have δ1sh : ∀ (i : Nat) (w : Own) (d : D), (shAll ds ++ shAll cs)[i]? = some (some (w, d)) → w = .sh := fun i w d e => by
        have : shAll ds ++ shAll cs = shAll (ds ++ cs) := by simp [shAll]
        rw [this] at e
        exact (shAll_get e).1
      have hap : (shAll ds ++ shAll cs) = (ds ++ cs).map fun d => some (Own.sh, d) := by simp [shAll]
      have vp0 : vis H'' (Hid Bq σ' δ0) = vis H'' Bq := vis_plain fun i w d e => (δ0sh i w d e).1
      refine hg (upd H2 Da (.lst [])) S0 (by rw [vp0]; exact rd) (by rw [List.length_range]; exact e3) hset fun σ1 S1 s1 => ?_
      have capS : ∀ {H4 : Hp}, Same H'' H4 → ∀ (j : Nat) (d : D), cs[j]? = some d → ∃ v, σ1[m + j]? = some (some v) ∧ Rep W (vis H4 Bq) d v := fun {H4} s4 j d e => by
        obtain ⟨v, q1, q2⟩ := S1.sh (m + j) d (by
          rw [List.getElem?_append_right (by simp [shAll, lds])]
          simp [shAll, lds, e])
        rw [vis_plain δ1sh] at q2
        exact ⟨v, q1, q2.mono (vis_mono s4)⟩
      have len1 : σ1.length = m + cs.length := by rw [S1.len]; simp [shAll, lds]
      have hTi : ((ev o ((ds ++ cs).map fun d => some (.sh, d)) true tc).bind fun t => (R.of (truth t.2)).bind fun b => if b then (ev o ((ds ++ cs).map fun d => some (.sh, d)) false te).bind fun y => (compGo (fun x => ev o ((x ++ cs).map fun d => some (.sh, d)) false te) (fun x => ev o ((x ++ cs).map fun d => some (.sh, d)) true tc) m tup (l.drop (i + 1))).bind fun r => .ok (y.2 :: r)
          else compGo (fun x => ev o ((x ++ cs).map fun d => some (.sh, d)) false te) (fun x => ev o ((x ++ cs).map fun d => some (.sh, d)) true tc) m tup (l.drop (i + 1))).bind (fun r => R.chk (size (rs ++ r).length && (immL (rs ++ r) || own)) (R.ok (true, D.lst (rs ++ r)))) = Tt := hTi
      refine ⟨some Da, Bq, _, S1, ?_⟩
      show (match (ev o (shAll ds ++ shAll cs) true tc).bind (fun x => R.of (truth x.2)) with | .ok b => _ | .exc c => _ | .stuck => _)
      rw [hap]
      cases e4 : ev o ((ds ++ cs).map fun d => some (Own.sh, d)) true tc with
      | exc c => rw [e4] at hTi; subst hTi; exact h.elim
      | stuck => rw [e4] at hTi; subst hTi; exact h.elim
      | ok t =>
      rw [e4] at hTi
      show (match R.of (truth t.2) with | .ok b => _ | .exc c => _ | .stuck => _)
      cases e5 : truth t.2 with
      | none => simp only [R.bind, e5, R.of] at hTi; subst hTi; exact h.elim
      | some bb =>
      simp only [R.bind, e5, R.of] at hTi
      intro H4 s4
      have hd4 : H4 Da = some (.lst ys) := s4 Da _ hd
      cases bb with
      | false =>
        simp only [Bool.false_eq_true, if_false] at hTi ⊢
        exact ⟨l.length - (i + 1), by omega, rs, by omega, rfl, len1, capS s4, s'.trans s4, hd4, hr.mono (vis_mono s4), hTi⟩
      | true =>
        simp only [if_true] at hTi ⊢
        refine tD_iff.mpr ⟨some Da, Bq, _, S1.mono s4, ?_⟩
        rw [hap]
        cases e6 : ev o ((ds ++ cs).map fun d => some (Own.sh, d)) false te with
        | exc c => rw [e6] at hTi; subst hTi; exact h.elim
        | stuck => rw [e6] at hTi; subst hTi; exact h.elim
        | ok y6 =>
        rw [e6] at hTi
        cases e7 : compGo (fun x => ev o ((x ++ cs).map fun d => some (.sh, d)) false te) (fun x => ev o ((x ++ cs).map fun d => some (.sh, d)) true tc) m tup (l.drop (i + 1)) with
        | exc c => simp only [e7] at hTi; subst hTi; exact h.elim
        | stuck => simp only [e7] at hTi; subst hTi; exact h.elim
        | ok rr =>
        simp only [e7] at hTi
        intro v H5 s5 q
        rw [← hap] at q
        have q' := q.keep (S1.mono s4).know
        rw [vis_plain δ1sh] at q'
        have hd5 : H5 Da = some (.lst ys) := s5 Da _ hd4
        have hsz : size (rs ++ y6.2 :: rr).length = true := by
          subst hTi
          have := (after_chk h).1
          simp only [Bool.and_eq_true] at this
          exact this.1
        have hlen : ys.length < sizeLine := by
          have := size_le hsz
          rw [List.length_append, List.length_cons, hr.length] at this
          omega
        have up6 : Same (vis H5 Bq) (vis (upd H5 Da (.lst (ys ++ [v]))) Bq) := fun b u e => by
          obtain ⟨z1, z2⟩ := vis_some e
          have hb : b ≠ Da := fun z => z2 (.inr z)
          exact vis_of (by rw [upd_ne hb]; exact z1) z2
        have s6 : Same H2 (upd H5 Da (.lst (ys ++ [v]))) := fun b u e => by
          rw [upd_ne (nD e)]
          exact s5 b u (s4 b u (s' b u e))
        refine ⟨hd5, hlen, l.length - (i + 1), by omega, rs ++ [y6.2], by omega, rfl, len1, fun j d e => ?_, s6, upd_same, ?_, ?_⟩
        · obtain ⟨w, q1, q2⟩ := capS (s4.trans s5) j d e
          exact ⟨w, q1, q2.mono up6⟩
        · refine Reps.append ((hr.mono (vis_mono (s4.trans s5))).mono up6) ?_
          simp only [Reps]
          exact ⟨q'.mono up6, trivial⟩
        · show R.chk _ _ = _
          rw [← hTi]
          simp only [R.bind, List.append_assoc, List.singleton_append]
    ·
      have hil : i = l.length := by omega
      subst hil
      refine .inl ⟨yl.stop H' s', ?_⟩
      rw [List.drop_length, compGo] at hTi
      simp only [R.bind, List.append_nil] at hTi
      subst hTi
      obtain ⟨hc1, h⟩ := after_chk h
      simp only [Bool.and_eq_true, Bool.or_eq_true] at hc1
      refine h (.ref Da) H' (s.trans s') ?_
      unfold Res
      rw [if_pos rfl]
      refine ⟨Da, rfl, s.free hD, ys, hd, ?_⟩
      rcases hc1.2 with him | ho
      · refine (Reps.imm (H := H') (P := fun b => P b ∨ b = Da) (fun b hb u e => ?_) him (hr.mono vis_le))
        rcases hb with hb | hb
        · obtain ⟨u', e'⟩ := goneP b hb
          have := s' b u' e'
          rw [e] at this; cases this
          exact softP b hb u e'
        · rw [hb, hd] at e; cases e
          exact ⟨(by intro _ z; cases z), (by intro _ _ z; cases z)⟩
      · refine hr.mono (vis_sub fun b hb => ?_)
        rcases hb with hb | hb
        · exact .inl ⟨hb, .inl ho⟩
        · exact .inr hb
end
end Z

namespace Z
open PySem PySem.Spec PyProof.Rows L2
theorem kV_inj {k k' : Key} (h : kV k = kV k') : k = k' := by
  cases k <;> cases k' <;> simp [kV] at h <;> simp [h]
theorem dput_inv {H H' : Hp} {a : Addr} {kvs : List (Key × V)} {k : Key} {v : V} {ep : Nat} (e : H a = some (.dK kvs ep)) (g : DPut H a (kV k) v H') : ∃ ep', H' = upd H a (.dK (putK kvs k v) ep') := by
  rcases g with ⟨kvs', k', e1, e2, h1, h2, _, h3⟩ | ⟨kvs', k', b, h1, h2, _⟩
  · rw [e] at h1
    cases h1
    rw [kV_inj h2]
    exact ⟨e2, h3⟩
  · rw [e] at h1; cases h1
section
variable {X : Cx} {W : Wd} {lk lk' : Bool} {σ : L2.St} {H H1 H' : Hp} {me : Option Addr} {B : Addr → Prop} {δ : Dst} {Q Q' : VK} {a b : Expr} {pos p pos' : Pos} {o : Orc}
theorem get_set {i j : Nat} {w w' : Own} {d d' x : D} (hi : δ[i]? = some (some (w, d))) (h : (δ.set i (some (w, d')))[j]? = some (some (w', x))) : (j = i ∧ w' = w ∧ x = d') ∨ (j ≠ i ∧ δ[j]? = some (some (w', x))) := by
  have hl : i < δ.length := (List.getElem?_eq_some_iff.mp hi).1
  by_cases hj : j = i
  · subst hj
    rw [List.getElem?_set_self hl] at h
    cases h
    exact .inl ⟨rfl, rfl, rfl⟩
  · rw [List.getElem?_set_ne (Ne.symm hj)] at h
    exact .inr ⟨hj, h⟩
theorem holds_set {i : Nat} {w : Own} {d d' : D} (hi : δ[i]? = some (some (w, d))) {j : Nat} {c : Addr} : Holds1 σ (δ.set i (some (w, d'))) j c ↔ Holds1 σ δ j c := by
  have hl : i < δ.length := (List.getElem?_eq_some_iff.mp hi).1
  constructor
  · rintro ⟨⟨w', x, h1, h2⟩, h3⟩
    rcases get_set hi h1 with ⟨rfl, rfl, rfl⟩ | ⟨_, h⟩
    · exact ⟨⟨_, _, hi, h2⟩, h3⟩
    · exact ⟨⟨w', x, h, h2⟩, h3⟩
  · rintro ⟨⟨w', x, h1, h2⟩, h3⟩
    by_cases hj : j = i
    · subst hj
      rw [hi] at h1; cases h1
      exact ⟨⟨w, d', by rw [List.getElem?_set_self hl], h2⟩, h3⟩
    · exact ⟨⟨w', x, by rw [List.getElem?_set_ne (Ne.symm hj)]; exact h1, h2⟩, h3⟩
theorem hid_set {i : Nat} {w : Own} {d d' : D} (hi : δ[i]? = some (some (w, d))) : Hid B σ (δ.set i (some (w, d'))) = Hid B σ δ := by
  funext c
  apply propext
  unfold Hid
  constructor
  · rintro (h | ⟨j, h⟩)
    · exact .inl h
    · exact .inr ⟨j, (holds_set hi).mp h⟩
  · rintro (h | ⟨j, h⟩)
    · exact .inl h
    · exact .inr ⟨j, (holds_set hi).mpr h⟩
theorem SR.own (S : SR X W me B H σ δ) {i : Nat} {w : Own} {d : D} (hi : ownD δ i = some (w, d)) : δ[i]? = some (some (w, d)) ∧ w ≠ .sh ∧ ∃ c, σ[i]? = some (some (V.ref c)) ∧ OwnAt W H (vis H (Hid B σ δ)) c d ∧ ¬ B c ∧ (∀ u, X.H₀ c = some u → some c = me) := by
  unfold ownD at hi
  split at hi
  · rename_i d' e
    cases hi
    obtain ⟨c, h1, h2, h3, h4, h5⟩ := S.ow i _ e
    exact ⟨e, by decide, c, h1, h2, h4, fun u z => by rw [h3] at z; cases z⟩
  · rename_i d' e
    cases hi
    obtain ⟨_, c, h0, h1, h2, h4⟩ := S.mi i _ e
    exact ⟨e, by decide, c, h1, h2, h4, fun u _ => h0.symm⟩
  · cases hi
theorem SR.write (S : SR X W me B H σ δ) {i : Nat} {w : Own} {d d' : D} {c : Addr} {u : HO} (hi : δ[i]? = some (some (w, d))) (hw : w ≠ .sh) (hc : σ[i]? = some (some (V.ref c))) (hB : ¬ B c) (hX : ∀ u, X.H₀ c = some u → some c = me)
    (new : OwnAt W (upd H c u) (vis H (Hid B σ δ)) c d') : SR X W me B (upd H c u) σ (δ.set i (some (w, d'))) ∧ Same (vis H (Hid B σ δ)) (vis (upd H c u) (Hid B σ (δ.set i (some (w, d'))))) := by
  have hid : Hid B σ δ c := .inr ⟨i, ⟨w, d, hi, hw⟩, hc⟩
  have up : Same (vis H (Hid B σ δ)) (vis (upd H c u) (Hid B σ δ)) := fun b v e => by
    obtain ⟨e1, e2⟩ := vis_some e
    have hb : b ≠ c := fun z => e2 (z ▸ hid)
    exact vis_of (by rw [upd_ne hb]; exact e1) e2
  have other : ∀ {j : Nat} {x : Own} {y : D}, j ≠ i → δ[j]? = some (some (x, y)) → x ≠ .sh → ∀ {e : Addr}, σ[j]? = some (some (V.ref e)) → e ≠ c := fun hj h1 h2 e h3 z => by
    subst z
    exact hj (S.apart _ _ _ ⟨⟨_, _, h1, h2⟩, h3⟩ ⟨⟨_, _, hi, hw⟩, hc⟩)
  refine ⟨?_, by rw [hid_set hi]; exact up⟩
  refine ⟨S.kf, by simp [S.len], fun j y h => ?_, fun j y h => ?_, fun j y h => ?_, fun j k e h1 h2 => S.apart j k e ((holds_set hi).mp h1) ((holds_set hi).mp h2), fun b v e hb => ?_, fun b hb v e => ?_, fun b hb => ?_, fun x hx => ?_⟩
  · rw [hid_set hi]
    rcases get_set hi h with ⟨_, rfl, _⟩ | ⟨_, h⟩
    · exact absurd rfl hw
    · obtain ⟨v, h1, h2⟩ := S.sh j y h
      exact ⟨v, h1, h2.mono up⟩
  · rw [hid_set hi]
    rcases get_set hi h with ⟨rfl, rfl, rfl⟩ | ⟨hj, h⟩
    · obtain ⟨e, h1, h2, h3, h4, h5⟩ := S.ow j d hi
      rw [hc] at h1; cases h1
      exact ⟨c, hc, new.mono (fun _ q => q) up, h3, h4, h5⟩
    · obtain ⟨e, h1, h2, h3⟩ := S.ow j y h
      exact ⟨e, h1, h2.mono (fun v q => by rw [upd_ne (other hj h (by decide) h1)]; exact q) up, h3⟩
  · rw [hid_set hi]
    rcases get_set hi h with ⟨rfl, rfl, rfl⟩ | ⟨hj, h⟩
    · obtain ⟨h0, e, h1, h2, h3, h4⟩ := S.mi j d hi
      rw [hc] at h2; cases h2
      exact ⟨h0, c, h1, hc, new.mono (fun _ q => q) up, h4⟩
    · obtain ⟨h0, e, h1, h2, h3, h4⟩ := S.mi j y h
      exact ⟨h0, e, h1, h2, h3.mono (fun v q => by rw [upd_ne (other hj h (by decide) h2)]; exact q) up, h4⟩
  · have hbc : b ≠ c := fun z => hb (by subst z; exact hX v e)
    rw [upd_ne hbc]
    exact S.same b v e hb
  · have hbc : b ≠ c := fun z => hB (z ▸ hb)
    rw [upd_ne hbc] at e
    exact S.soft b hb v e
  · have hbc : b ≠ c := fun z => hB (z ▸ hb)
    rw [upd_ne hbc]
    exact S.gone b hb
  · by_cases hxc : x = c
    · subst hxc; exact ⟨u, upd_same⟩
    · rw [upd_ne hxc]; exact S.live x hx
theorem PS.or {st : Stmt} {t t' : TS} (h : PS X st t) (h' : PS X st t') : PS X st (fun D σ H => t D σ H ∨ t' D σ H) := by
  intro pins s σ H D I q
  rcases q with q | q
  · exact h pins s σ H D I q
  · exact h' pins s σ H D I q
theorem key_rep {H G : Hp} {d : D} {x : DK} {y : V} (h : keyOf d = some x) (r : RepT W H G d y) : y = kV (keyV x) := by
  cases d <;> first | exact nope h | simp only [keyOf] at h
  · cases h; exact repT_int r
  · cases h; exact (repT_str r).1
theorem key_len {H G : Hp} {d : D} {x : DK} {y : V} {z : List Nat} (h : keyOf d = some x) (r : RepT W H G d y) (e : DK.s z = x) : z.length ≤ 16777216 := by
  subst e
  cases d <;> simp only [keyOf] at h <;> first | (cases h; done) | skip
  cases h; exact (repT_str r).2
theorem putK_ne {q : Key × V} {r : List (Key × V)} {k : Key} {v : V} (h : q.1 ≠ k) : putK (q :: r) k v = q :: putK r k v := by
  unfold putK
  rw [List.any_cons, decide_eq_false h, Bool.false_or]
  split
  · rw [List.map_cons, if_neg h]
  · rfl
theorem putK_eq {q : Key × V} {r : List (Key × V)} {k : Key} {v : V} (h : q.1 = k) (hn : k ∉ r.map (·.1)) : putK (q :: r) k v = (q.1, v) :: r := by
  unfold putK
  rw [List.any_cons, decide_eq_true h, Bool.true_or, if_pos rfl, List.map_cons, if_pos h]
  congr 1
  rw [List.map_congr_left (g := id) (fun p hp => ?_), List.map_id]
  have : p.1 ≠ k := fun z => hn (z ▸ List.mem_map_of_mem hp)
  simp [this]
theorem keyV_mem {ks : List DK} {x : DK} : keyV x ∈ ks.map keyV ↔ x ∈ ks := by
  constructor
  · intro h
    obtain ⟨y, hy, e⟩ := List.mem_map.mp h
    rw [← keyV_inj e]; exact hy
  · exact fun h => List.mem_map_of_mem h
theorem put_both {G : Hp} {x : DK} {d : D} {v : V} (rd : Rep W G d v) : ∀ {ks : List DK} {vs : List D} {kvs : List (Key × V)}, kvs.map (·.1) = ks.map keyV → ks.Nodup → Reps W G vs (kvs.map (·.2)) →
    (putK kvs (keyV x) v).map (·.1) = (putKs ks x).map keyV ∧ Reps W G (putV ks vs x d) ((putK kvs (keyV x) v).map (·.2))
  | [], [], [], _, _, _ => by
    refine ⟨rfl, ?_⟩
    simp only [putV, putK, List.any_nil, Bool.false_eq_true, if_false, List.nil_append, List.map_cons, List.map_nil, Reps]
    exact ⟨rd, trivial⟩
  | [], _ :: _, [], _, _, r => by simp only [List.map_nil, Reps] at r
  | [], _, _ :: _, e, _, _ => by simp at e
  | _ :: _, _, [], e, _, _ => by simp at e
  | _ :: _, [], _ :: _, _, _, r => by simp only [List.map_cons, Reps] at r
  | k0 :: ks, d0 :: vs, q :: kvs, e, nd, r => by
    simp only [List.map_cons, List.cons.injEq] at e
    simp only [List.map_cons, Reps] at r
    obtain ⟨nd1, nd2⟩ := List.nodup_cons.mp nd
    by_cases hx : k0 = x
    · subst hx
      rw [putK_eq e.1 (by rw [e.2, keyV_mem]; exact nd1)]
      simp only [putKs, putV, if_true, List.map_cons, e.1, e.2, Reps]
      exact ⟨trivial, rd, r.2⟩
    · have hk : q.1 ≠ keyV x := fun z => hx (keyV_inj (e.1.symm.trans z))
      obtain ⟨h1, h2⟩ := put_both rd e.2 nd2 r.2
      rw [putK_ne hk]
      simp only [putKs, putV, if_neg hx, List.map_cons, e.1, Reps]
      exact ⟨by rw [h1], r.1, h2⟩
theorem putKs_mem {x y : DK} : ∀ {ks : List DK}, y ∈ putKs ks x ↔ y ∈ ks ∨ y = x
  | [] => by simp [putKs]
  | k :: ks => by
    simp only [putKs]
    split
    · rename_i h
      subst h
      constructor
      · exact .inl
      · rintro (h | h)
        · exact h
        · rw [h]; exact List.mem_cons_self
    · rw [List.mem_cons, putKs_mem, List.mem_cons, or_assoc]
theorem putKs_nodup {x : DK} : ∀ {ks : List DK}, ks.Nodup → (putKs ks x).Nodup
  | [], _ => by simp [putKs]
  | k :: ks, h => by
    obtain ⟨h1, h2⟩ := List.nodup_cons.mp h
    simp only [putKs]
    split
    · exact h
    · rename_i hk
      refine List.nodup_cons.mpr ⟨fun z => ?_, putKs_nodup h2⟩
      rcases putKs_mem.mp z with z | z
      · exact h1 z
      · exact hk z
theorem swapsSub {e o' i' : Expr} {pp : Pos} {l : Nat} {env : Env} : swapsWith e (some (.Subscript o' i' pp)) l env = pure false := by
  cases e <;> rfl
theorem ds_seti {i : Nat} {x : Str} {k e : Expr} {tk te : T} (hk : W.K = X.K) (hu : X.A.units + 1 < cLine) (hv : PE X (.Name x p) (tVar i)) (hK : PE X k (tD X W true fun δ => ev o δ true tk)) (he : PE X e (tD X W false fun δ => ev o δ false te))
    (ha : ∀ v, assign (.Subscript (.Name x p) k pos') X.env v = (do
      let ov ← holding [v] (eval (.Name x p) X.env)
      let iv ← holding [v, ov] (eval k X.env)
      standAt pos'
      holding [v, ov, iv] (setItem ov iv v)
      release [v, ov, iv] []))
    (hs1 : swapsWithSole [.Subscript (.Name x p) k pos'] e pos.line X.env = pure false) (hs2 : swappedStores [.Subscript (.Name x p) k pos'] e X.env = pure none) (h1 : (assignEach [.Subscript (.Name x p) k pos'] X.env).map (·.2) = [assign (.Subscript (.Name x p) k pos') X.env]) :
    PS X (.Assign [.Subscript (.Name x p) k pos'] e pos) (tS X W (evS o (.seti i tk te))) := by
  refine PS.imp (PS.or (ps_dput hu hv hK he swapsSub) (ps_asg he (pg_sub hv hK set_list ha) hs1 hs2 h1)) fun En σ H ⟨me, B, δ, S, h⟩ => ?_
  simp only [evS] at h
  obtain ⟨S1, e1⟩ := S.evF o te
  have sub1 := evF_sub (B := B) (σ := σ) (δ := δ) o te
  generalize (evF o δ te).1 = δ1 at *
  generalize (evF o δ te).2 = r1 at *
  obtain ⟨r, e2, h⟩ := SO.of_ok h
  obtain ⟨y, e3, h⟩ := SO.of_ok h
  obtain ⟨q, e4, h⟩ := orStuck_ok h
  cases e5 : ownD δ1 i with
  | none => rw [e5] at e4; cases e4
  | some c =>
  obtain ⟨w, d⟩ := c
  rw [e5] at e4
  simp only [Option.bind_some] at e4
  cases e6 : putItem d y.2 r.2 with
  | none => rw [e6] at e4; cases e4
  | some d' =>
  rw [e6] at e4
  cases e4
  have go : ∀ {K1 : V → V → V → Hp → Prop}, (∀ (ad : Addr) (v u : V) (H2 : Hp), SR X W me B H2 σ δ1 → Same H H2 → σ[i]? = some (some (V.ref ad)) → Rep W (vis H2 (Hid B σ δ1)) r.2 v → RepT W H2 (vis H2 (Hid B σ δ1)) y.2 u → K1 (.ref ad) u v H2) →
      tD X W false (fun δ => ev o δ false te) σ H fun v H1 => tVar i σ H1 fun x H2 => tD X W true (fun δ => ev o δ true tk) σ H2 fun u H3 => K1 x u v H3 := fun {K1} k1 => by
    refine tD_iff.mpr ⟨me, B, δ1, S1, ?_⟩
    rw [← e1, e2]
    intro v H1 s1 q1
    obtain ⟨_, _, ad, o3, _⟩ := S1.own e5
    refine ⟨_, o3, tD_iff.mpr ⟨me, B, δ1, S1.mono s1, ?_⟩⟩
    rw [e3]
    intro u H2 s2 q2
    exact k1 ad v u H2 ((S1.mono s1).mono s2) (s1.trans s2) o3 ((q1.keep S1.know).mono (vis_mono s2)) q2.look
  have last : ∀ {ad : Addr} {v u : V} {H2 : Hp} {ob : HO}, SR X W me B H2 σ δ1 → Same H H2 → σ[i]? = some (some (V.ref ad)) → OwnAt W (upd H2 ad ob) (vis H2 (Hid B σ δ1)) ad d' → En.nx σ (upd H2 ad ob) := fun {ad v u H2 ob} S2 s2 o3 new => by
    obtain ⟨o1, o2, ad', o3', o4, o5, o6⟩ := S2.own e5
    rw [o3] at o3'; cases o3'
    obtain ⟨S3, s3⟩ := S2.write o1 o2 o3 o5 o6 new
    exact h _ _ S3 (((vis_sub sub1).trans (vis_mono s2)).trans s3)
  cases d with
  | dct ks vs =>
    simp only [putItem] at e6
    cases e7 : keyOf y.2 with
    | none => rw [e7] at e6; cases e6
    | some kx =>
    rw [e7] at e6
    simp only [Option.bind_some] at e6
    split at e6
    · rename_i hsz
      cases e6
      refine .inl (go fun ad v u H2 S2 s2 o3 rv tu => ?_)
      obtain ⟨_, _, ad', o3', o4, _⟩ := S2.own e5
      rw [o3] at o3'; cases o3'
      obtain ⟨kvs, ⟨ep, q1⟩, q2, q3, q4⟩ := o4
      have hl : kvs.length = ks.length := by simpa using congrArg List.length q2
      refine ⟨ad, rfl, ⟨upd H2 ad (.dK (putK kvs (keyV kx) v) 0), ?_⟩, fun H4 g4 => ?_⟩
      · rw [key_rep e7 tu]
        exact DPut.k q1 (by rw [hl, sizeLine_eq]; omega)
      · rw [key_rep e7 tu] at g4
        obtain ⟨ep', rfl⟩ := dput_inv q1 g4
        refine last (v := v) (u := u) S2 s2 o3 ?_
        obtain ⟨p1, p2⟩ := put_both rv q2 q3.1 q4
        exact ⟨_, ⟨ep', upd_same⟩, p1, ⟨putKs_nodup q3.1, fun z hz => (putKs_mem.mp hz).elim (q3.2 z) fun hz => key_len e7 tu hz⟩, p2⟩
    · cases e6
  | lst l =>
    cases e7 : y.2 with
    | int j =>
      rw [e7] at e6
      simp only [putItem] at e6
      cases e8 : place l.length j with
      | none => rw [e8] at e6; cases e6
      | some n =>
      rw [e8] at e6
      cases e6
      refine .inr (go fun ad v u H2 S2 s2 o3 rv tu => ?_)
      rw [e7] at tu
      obtain ⟨_, _, ad', o3', o4, _⟩ := S2.own e5
      rw [o3] at o3'; cases o3'
      obtain ⟨xs, q1, q2⟩ := o4
      refine ⟨ad, xs, j, n, rfl, repT_int tu, q1, place_ix (α := V) (by rw [← q2.length]; exact e8), last (v := v) (u := u) S2 s2 o3 ⟨_, upd_same, q2.set rv n⟩⟩
    | _ => rw [e7] at e6; cases e6
  | _ => cases e6
end
end Z

namespace Z
open PySem PySem.Spec PyProof.Rows L2
section
variable {X : Cx} {W : Wd} {lk lk' : Bool} {σ : L2.St} {H H1 H' : Hp} {me : Option Addr} {B : Addr → Prop} {δ : Dst} {Q Q' : VK} {a b : Expr} {pos p pos' apos cpos : Pos} {o : Orc}
noncomputable def isStar1 : Expr → Bool
  | .Starred _ _ => true
  | _ => false
theorem star1 {e : Expr} {es : List Expr} {env : Env} (h : isStar1 e = false) : starEach (e :: es) env = (false, eval e env) :: starEach es env := by
  cases e <;> first | rfl | (simp [isStar1] at h)
theorem few1 {e : Expr} {env : Env} (h : isStar1 e = false) : ((backTo cpos (starEach [e] env)).all (fun x => !x.1) && (backToKw cpos (keywordEach [] env)).all (fun x => x.1.isSome)
      && decide (([e] : List Expr).length + ([] : List Keyword).length + (if ([] : List Keyword).isEmpty then 0 else 1) < 30)) = true := by
  rw [star1 h]; rfl
noncomputable def plainBase : Expr → Bool
  | .Call (.Name _ _) [] [] _ => false
  | _ => true
theorem base_of {e : Expr} {m : Str} {env : Env} {w : Sem Value} (h : plainBase e = true) : attributeBase e m env w = w := by
  unfold attributeBase
  split
  · simp [plainBase] at h
  · rfl
theorem swapsNone {f : Expr} {args : List Expr} {kws : List Keyword} {pp : Pos} {l : Nat} {env : Env} : swapsWith (.Call f args kws pp) none l env = pure false := rfl
theorem ds_append {i : Nat} {x : Str} {e : Expr} {te : T} (hv : PE X (.Name x p) (tVar i)) (he : PE X e (tD X W false fun δ => ev o δ false te)) (hst : isStar1 e = false) (hline : (apos.endLine == cpos.line) = true) :
    PS X (.Expr (.Call (.Attribute (.Name x p) "append" apos) [e] [] cpos) pos) (tS X W (evS o (.append i te))) := by
  refine PS.imp (ps_expr (pe_bm PySem.F.plainAttrs_list PySem.F.slot_list_append PySem.F.type_list_append mt_append hv (pa_cons he pa_nil (star1 hst)) (base_of rfl) (few1 hst) hline (star1 hst) rfl) swapsNone) fun En σ H ⟨me, B, δ, S, h⟩ => ?_
  simp only [evS] at h
  obtain ⟨S1, e1⟩ := S.evF o te
  have sub1 := evF_sub (B := B) (σ := σ) (δ := δ) o te
  generalize (evF o δ te).1 = δ1 at *
  generalize (evF o δ te).2 = r1 at *
  obtain ⟨r, e2, h⟩ := SO.of_ok h
  obtain ⟨q, e4, h⟩ := orStuck_ok h
  cases e5 : ownD δ1 i with
  | none => rw [e5] at e4; cases e4
  | some c =>
  obtain ⟨w, d⟩ := c
  rw [e5] at e4
  simp only [Option.bind_some] at e4
  cases d with
  | lst l =>
    simp only at e4
    split at e4
    · rename_i hsz
      cases e4
      obtain ⟨_, _, ad, o3, ⟨xs0, q0, _⟩, _⟩ := S1.own e5
      refine ⟨_, o3, .inl ⟨rfl, xs0, SqL.of q0⟩, tD_iff.mpr ⟨me, B, δ1, S1, ?_⟩⟩
      rw [← e1, e2]
      intro v H1 s1 q1
      obtain ⟨o1, o2, ad', o3', ⟨xs, q2, q3⟩, o5, o6⟩ := (S1.mono s1).own e5
      rw [o3] at o3'; cases o3'
      have hz := size_le hsz
      have hl := q3.length
      refine ⟨ad, xs, v, rfl, rfl, q2, by omega, ?_⟩
      have rv := q1.keep S1.know
      obtain ⟨S3, s3⟩ := (S1.mono s1).write (u := .lst (xs ++ [v])) (d' := .lst (l ++ [r.2])) o1 o2 o3 o5 o6 ⟨_, upd_same, q3.append (by simp only [Reps]; exact ⟨rv, trivial⟩)⟩
      exact h _ _ S3 (((vis_sub sub1).trans (vis_mono s1)).trans s3)
    · cases e4
  | _ => cases e4
theorem ds_clear {i : Nat} {x : Str} (hv : PE X (.Name x p) (tVar i)) (hline : (apos.endLine == cpos.line) = true) :
    PS X (.Expr (.Call (.Attribute (.Name x p) "clear" apos) [] [] cpos) pos) (tS X W (evS o (.clear i))) := by
  refine PS.imp (ps_expr (pe_bm0 PySem.F.plainAttrs_list PySem.F.slot_list_clear PySem.F.type_list_clear mt_clear hv (base_of rfl) hline) swapsNone) fun En σ H ⟨me, B, δ, S, h⟩ => ?_
  simp only [evS] at h
  obtain ⟨q, e4, h⟩ := orStuck_ok h
  cases e5 : ownD δ i with
  | none => rw [e5] at e4; cases e4
  | some c =>
  obtain ⟨w, d⟩ := c
  rw [e5] at e4
  simp only [Option.bind_some] at e4
  cases d with
  | lst l =>
    simp only at e4
    cases e4
    obtain ⟨o1, o2, ad, o3, ⟨xs, q2, q3⟩, o5, o6⟩ := S.own e5
    refine ⟨_, o3, .inl ⟨rfl, xs, SqL.of q2⟩, ad, xs, rfl, rfl, q2, ?_⟩
    obtain ⟨S3, s3⟩ := S.write (u := .lst []) (d' := .lst []) o1 o2 o3 o5 o6 ⟨_, upd_same, by simp only [Reps]⟩
    exact h _ _ S3 s3
  | _ => cases e4
theorem ds_pass : PS X (.Pass pos) (tS X W (evS o .pass)) := by
  refine PS.imp ps_pass fun En σ H ⟨me, B, δ, S, h⟩ => ?_
  simp only [evS] at h
  exact h _ _ S (Same.refl _)
theorem ds_brk : PS X (.Break pos) (tS X W (evS o .brk)) := by
  refine PS.imp ps_break fun En σ H ⟨me, B, δ, S, h⟩ => ?_
  simp only [evS] at h
  exact h _ _ S (Same.refl _)
theorem ds_cont : PS X (.Continue pos) (tS X W (evS o .cont)) := by
  refine PS.imp ps_continue fun En σ H ⟨me, B, δ, S, h⟩ => ?_
  simp only [evS] at h
  exact h _ _ S (Same.refl _)
theorem ds_retn : PS X (.Return none pos) (tS X W (evS o .retn)) := by
  refine PS.imp ps_retN fun En σ H ⟨me, B, δ, S, h⟩ => ?_
  simp only [evS] at h
  refine h _ _ _ S (Same.refl _) ?_
  exact .shared (by simp only [Rep])
theorem rng_reps {G : Hp} (lo : Int) (n : Nat) : Reps W G ((List.range n).map fun (k : Nat) => D.int (lo + (k : Int))) ((List.range n).map fun (k : Nat) => V.int (lo + (k : Int))) := by
  induction List.range n with
  | nil => simp only [List.map_nil, Reps]
  | cons k l ih => simp only [List.map_cons, Reps, Rep]; exact ⟨trivial, ih⟩
theorem inR_ok {i : Int} (h : inR i = true) : -1000000 ≤ i ∧ i ≤ 1000000 := by
  unfold inR at h
  simpa using h
end
end Z

namespace Z
open PySem PySem.Spec PyProof.Rows L2
noncomputable def veB : List Value := [.type "ValueError", .type "Exception", .type "BaseException", .type "object"]
structure XObj (h : Heap) (C : Addr) (bm : List Value) : Prop where
  ob : ∃ N nm qn bs hd sn sb ab col dd k0 k1 k2 k3 k5 mN, h.get? C = some (excClassObj nm qn C N bs bm hd sn sb ab col dd k0 k1 k2 k3 k5 "ValueError.__new__") ∧ h.Ns N mN ∧ mN "__init__" = none
  tl : OwnTail h veB bm
noncomputable def xIn (K : PySem.W.Frag) (C : Addr) : Option (List Value) := match K.lookup C with
  | some ⟨.type "type", _, .cls cd, sl⟩ => (match cd.mro, sl.toList with
    | .ref C' :: bm, [_, _, _, _, some (.builtin n), _] => if C' = C ∧ n = "ValueError.__new__" ∧ cd.hasDel = false ∧ PySem.W.tailIn K veB bm = true ∧ PySem.W.nsOkIn K cd.ns = true ∧ PySem.W.nsIn K cd.ns "__init__" = some none then some bm else none
    | _, _ => none)
  | _ => none
theorem xobj_of {K : PySem.W.Frag} {h : Heap} {C : Addr} {bm : List Value} (X : K.In h) (q : xIn K C = some bm) : XObj h C bm := by
  unfold xIn at q
  split at q
  case h_2 => cases q
  case h_1 dd cd sl ho =>
  split at q
  case h_2 => cases q
  case h_1 C' bm' k0 k1 k2 k3 n k5 hm hs =>
  split at q
  case isFalse => cases q
  case isTrue hc =>
  obtain ⟨e1, e2, e3, e4, e5, e6⟩ := hc
  cases q
  subst e1 e2
  refine ⟨?_, PySem.W.tail_of_in X e4⟩
  have hsl : sl = #[k0, k1, k2, k3, some (.builtin "ValueError.__new__"), k5] := by
    cases sl with
    | mk l => simp only at hs; rw [hs]
  obtain ⟨nm, bs, mro, N, qn, hd, sn, sb, ab, col, del⟩ := cd
  simp only at hm e3 e5 e6
  subst hm e3 hsl
  exact ⟨N, nm, qn, bs, hd, sn, sb, ab, col, dd, k0, k1, k2, k3, k5, _, X C' _ ho, .of_isNs (PySem.W.isNs_of_in X e5), PySem.W.nsMap_none_of_in X e5 e6⟩
section
variable {M : Model} {A : Around} {E : Value → Shared → Prop} {s : Shared}
theorem exc_match {P C e : Addr} {bP bC : List Value} {oe : Obj} {Q : Bool → Shared → Prop} (hP : XObj s.heap P bP) (hC : XObj s.heap C bC) (he : s.heap.get? e = some oe) (hcls : oe.cls = .ref C) (hsub : (Value.ref C :: bC).contains (.ref P) = true) (hq : Q true s) :
    wpAny M A (excMatches (.ref e) (.ref P)) Q E s := by
  obtain ⟨⟨N, nm, qn, bs, hd, sn, sb, ab, col, dd, k0, k1, k2, k3, k5, mN, oP, _, _⟩, tP⟩ := hP
  obtain ⟨⟨N', nm', qn', bs', hd', sn', sb', ab', col', dd', k0', k1', k2', k3', k5', mN', oC, _, _⟩, tC⟩ := hC
  have hb : (Value.ref P :: bP).contains (.type "BaseException") = true := by rw [List.contains_cons, tP.hasType (X := "BaseException") (b := true) (by decide +kernel), Bool.or_true]
  obtain ⟨hh, g, d, t, os⟩ := s
  have ft := tc_notTuple
  unfold excMatches
  repeat (first
    | (with_reducible refine wpAny_loadPart_at he ?_; rw [hcls])
    | with_reducible refine wpAny_loadPart_at oP ?_
    | (with_reducible refine wpAny_isSubtype_exc oP ?_; rw [hb])
    | (with_reducible refine wpAny_isSubtype_exc oC ?_; rw [hsub])
    | wp_step)
  exact hq
end
section
variable {X : Cx} {W : Wd} {o : Orc} {me : Option Addr} {B : Addr → Prop} {H : Hp} {σ : L2.St} {δ : Dst}
theorem ds_raise {x : Str} {C : Nat} {arg : Expr} {ta : T} {np cpos pos : Pos} {bm : List Value} (hc : X.calm = true) (hg : Gl X x) (hm : X.mg x = some (.ref (W.CT C))) (hx : xIn X.K (W.CT C) = some bm) (hdb : (x == ("__debug__" : Str)) = false)
    (ha : PE X arg (tD X W true fun δ => ev o δ true ta)) (hst : isStar1 arg = false) : PS X (.Raise (some (.Call (.Name x np) [arg] [] cpos)) none pos) (tS X W (evS o (.raise C ta))) := by
  intro pins s σ H D I ⟨me, B, δ, S, h⟩
  simp only [evS] at h
  obtain ⟨r, e1, h⟩ := SO.of_ok h
  have XI : XObj X.base (W.CT C) bm := xobj_of I.ok.mod.kin hx
  have hB : veB.contains (.type "ValueError") = true := by decide +kernel
  obtain ⟨⟨N, nm, qn, bs, hd, sn, sb, ab, col, dd, k0, k1, k2, k3, k5, mN, oC, hN, hni⟩, tl⟩ := XI
  have hbase : bm.contains (.type "BaseException") = true := tl.hasType (by decide +kernel)
  have hse : starEach [arg] X.env = [(false, eval arg X.env)] := star1 hst
  have bk : ∀ {s2 : Shared} {H2 : Hp}, Inv X pins σ H2 s2 → ∀ b ob, X.base.get? b = some ob → s2.heap.get? b = some ob := fun I2 b ob e => (I2.bs b ob e).1
  refine wpAny_Raise_call_subU (Bn := "ValueError") (B := "ValueError") (newId := "ValueError.__new__") (C := W.CT C) (nm := nm) (q := qn) (N := N) (bs := bs) (bm := bm) (hdct := hd) (sn := sn) (sub := sb) (ab := ab) (col := col) (dd := dd)
    (k0 := k0) (k1 := k1) (k2 := k2) (k3 := k3) (k5 := k5) F.excBase_ValueError hB F.excBase_ValueError (mN := mN) hbase (I.ok.hd hc) (by rw [hse]; rfl) hni (ld_glob I hg hm ⟨rfl, ?_⟩ hdb)
  rw [hse]
  have ht : tD X W true (fun δ => ev o δ true ta) σ H fun _ H1 => Same H H1 := tD_iff.mpr ⟨me, B, δ, S, by rw [e1]; exact fun _ H1 z _ => z⟩
  refine Calls.evalArgs_plain (Calls.spliced_cons (thn (ha pins s σ H _ I ht) fun v s1 ⟨y, H1, I1, _, q1⟩ => Calls.spliced_nil ?_))
  refine ⟨rfl, by show 1 ≤ sizeLine; decide, bk I1 _ _ oC, hN.keeps (bk I1), tl.keeps (bk I1), fun h' a mx => ?_⟩
  obtain ⟨t, ho, tn, ht'⟩ := mx.there
  have un : Un (frs X.stack) [] H1 H1 s1.heap h' := ⟨fun b ob e _ _ _ => mx.keeps b ob e, fun b ob e _ _ _ => ⟨ob.slots, mx.keeps b ob e⟩, fun _ _ _ n _ => n, fun b ob e _ => ⟨ob, mx.keeps b ob e⟩, fun _ _ e => e, fun _ _ _ e => e, fun b pq e => ⟨#[], by rw [e]; simp⟩⟩
  have hn : H1 a = none := by
    cases q : H1 a with
    | none => rfl
    | some u =>
      obtain ⟨ob, e⟩ := there_of (I1.hok a u q)
      rw [mx.new] at e; cases e
  exact h pins σ H1 s1 I1 (S.mono q1) (vis_mono q1) a H1 { s1 with heap := h' } false (Fly.of I1 rfl I1.bare un (I1.hok.kept mx.keeps) mx.new hn ⟨_, _, ho, ⟨rfl, rfl⟩, rfl, Nat.lt_of_sub_pos (by exact Nat.zero_lt_succ 4), .inl ⟨rfl, rfl⟩⟩) (Same.refl _)
theorem Inv.track {pins : List (Addr × Obj)} {s s0 : Shared} {H0 : Hp} {a C : Addr} (I : Inv X pins σ H s) (I0 : Inv X pins σ H0 s0) (h0 : s0.heap.get? a = none) (hn : H a = none) (hx : IsExc C a s.heap) : Inv X pins σ (upd H a (.ext (IsExc C a))) s := by
  have hu : ∀ {b : Addr}, b ≠ a → upd H a (.ext (IsExc C a)) b = H b := fun h => upd_ne h
  have nloc : X.env.locals ≠ a := fun z => by
    obtain ⟨m, ⟨ob, _, _, e, _⟩, _⟩ := I0.loc
    rw [z, h0] at e; cases e
  have ncell : ∀ x c, X.env.cells.lookup x = some c → c ≠ a := fun x c e z => by
    obtain ⟨v, ob, q, _⟩ := I0.cell x c e
    rw [z, h0] at q; cases q
  have ntr : ∀ {b : Addr} {u : HO}, H b = some u → upd H a (.ext (IsExc C a)) b = some u := fun {b u} e => by
    rw [hu fun z => by rw [z, hn] at e; cases e]; exact e
  refine ⟨I.ok, I.os, I.bare, ⟨I.base.keep, I.base.slot, fun b ob e n hnx => ?_, I.base.there, fun b xs e => ntr (I.base.tups b xs e), fun b ob u e => ntr (I.base.frzs b ob u e), fun b pq e => ?_⟩, I.loc, I.cell, by rw [hu nloc]; exact I.free, fun x c e => by rw [hu (ncell x c e)]; exact I.freeC x c e, fun p hp => ?_, fun b ob e => ?_, I.len⟩
  · rw [hu fun z => by
      subst z
      obtain ⟨o', q⟩ := I0.base.there b ob e hnx
      rw [h0] at q; cases q]
    exact I.base.free b ob e n hnx
  · obtain ⟨m, q⟩ := I.base.tbls b pq e
    exact ⟨m, ntr q⟩
  · obtain ⟨e1, e2, e3⟩ := I.pin p hp
    obtain ⟨q1, _⟩ := I0.pin p hp
    exact ⟨e1, by rw [hu fun z => by rw [z, h0] at q1; cases q1]; exact e2, e3⟩
  · by_cases hb : b = a
    · subst hb
      rw [upd_same] at e
      cases e
      obtain ⟨ox, vs, x1, x2, x3⟩ := hx
      exact ⟨⟨ox, vs, x1, x2, x3⟩, ⟨ox, x1⟩, fun h1 h2 ⟨o1, v1, y1, y2, y3⟩ k => ⟨o1, v1, k o1 y1, y2, y3⟩⟩
    · rw [hu hb] at e
      exact (I.hok b ob e).stay (fun _ _ _ q => q) (fun _ q => ntr q) fun _ _ q => ntr q
theorem forget_ok {M : Model} {A : Around} {E : Value → Shared → Prop} {pins : List (Addr × Obj)} {s : Shared} {j : Nat} {n : Str} {v : V} {Q : Unit → Shared → Prop} (I : Inv X pins σ H s) (hN : X.N.Nodup) (hj : X.N[j]? = some n) (hl : X.env.scope.names.lookup n = some .local)
    (hv : σ[j]? = some (some v)) (h : ∀ s', Inv X pins (σ.set j none) H s' → Q () s') : wpAny M A (unbindName X.env n) Q E s := by
  obtain ⟨m, hn, hm⟩ := id I.loc
  obtain ⟨u, _, lk⟩ := hm j n v hj hv (.inl hl)
  have hmn : m n = some u := by
    rcases lk with ⟨_, e⟩ | ⟨k, _⟩
    · exact e
    · have k : X.env.scope.names.lookup n = some .cell ∨ X.env.scope.names.lookup n = some .free := k
      rw [hl] at k
      rcases k with k | k <;> cases k
  have hcls : (X.env.scope.kind == .class || (X.env.scope.kind == .module && X.env.locals != X.env.globals)) = false := by rw [I.ok.kind]; rfl
  refine wpAny_unbindName_local hl hn hmn hcls fun h' u' hn' hs => h _ ?_
  obtain ⟨oL, _, _, hoL, _⟩ := id hn
  have below : ∀ b o, X.s₀.heap.get? b = some o → b ≠ X.env.locals := fun b o e => Nat.ne_of_lt (Nat.lt_of_lt_of_le (Heap.lt_size e) I.ok.above)
  refine ⟨I.ok, I.os, I.bare, ⟨fun b o e n hb hx => ?_, fun b o e n hb hx => ?_, I.base.free, fun b o e hx => ?_, I.base.tups, I.base.frzs, I.base.tbls⟩, ⟨_, hn', fun i y w e1 e2 e3 => ?_⟩, fun y c e => ?_, I.free, I.freeC, fun p hp => ?_, fun b ob e => ?_, by simpa using I.len⟩
  · rw [hs.2 b (below b o e)]; exact I.base.keep b o e n hb hx
  · obtain ⟨sl, q⟩ := I.base.slot b o e n hb hx
    exact ⟨sl, by rw [hs.2 b (below b o e)]; exact q⟩
  · obtain ⟨o', q⟩ := I.base.there b o e hx
    exact ⟨o', by rw [hs.2 b (below b o e)]; exact q⟩
  · have hij : i ≠ j := fun z => by
      subst z
      rw [List.getElem?_set_self (List.getElem?_eq_some_iff.mp hv).1] at e2
      cases e2
    rw [List.getElem?_set_ne (Ne.symm hij)] at e2
    obtain ⟨u1, r1, q⟩ := hm i y w e1 e2 e3
    refine ⟨u1, r1, ?_⟩
    rcases q with ⟨k, e⟩ | ⟨k, c, e, z⟩
    · have hy : y ≠ n := fun z => hij (nodup_ix hN e1 (z ▸ hj))
      exact .inl ⟨k, by simp [hy, e]⟩
    · exact .inr ⟨k, c, e, z.sameBut hs (I.cne y c e)⟩
  · obtain ⟨v', z⟩ := I.cell y c e
    exact ⟨v', z.sameBut hs (I.cne y c e)⟩
  · obtain ⟨e1, e2, e3, e4⟩ := I.pin p hp
    exact ⟨by rw [hs.2 _ e3]; exact e1, e2, e3, e4⟩
  · refine (I.hok b ob e).stay (fun c w' hc q => ?_) (fun _ q => q) fun _ _ q => q
    have hne : c ≠ X.env.locals := by
      rintro rfl
      rcases hc with rfl | hc
      · rw [I.free] at e; cases e
      · rw [I.free] at hc; cases hc
    rw [hs.2 c hne]; exact q
noncomputable abbrev cxT (X : Cx) (pn : List (Addr × Obj)) (E : Value → Shared → Prop) : Cx := { X with pn := pn, xe := E }
noncomputable abbrev cxM (X : Cx) (pn : List (Addr × Obj)) (v : Value) : Cx := { X with A := X.A.mark (some v), calm := false, pn := pn, xe := fun _ _ => False }
theorem ok_T {pn : List (Addr × Obj)} {E : Value → Shared → Prop} (ok : X.Ok) : (cxT X pn E).Ok := ⟨ok.mod, ok.kind, ok.glob, ok.blt, ok.above, ok.inj, ok.has, ok.cab, ok.hd, ok.frames, ok.stk, ok.exf, ok.bs, ok.bsz, ok.noex, ok.exfs, ok.funs, ok.frf⟩
theorem ok_T' {pn : List (Addr × Obj)} {E : Value → Shared → Prop} (ok : (cxT X pn E).Ok) : X.Ok := ⟨ok.mod, ok.kind, ok.glob, ok.blt, ok.above, ok.inj, ok.has, ok.cab, ok.hd, ok.frames, ok.stk, ok.exf, ok.bs, ok.bsz, ok.noex, ok.exfs, ok.funs, ok.frf⟩
theorem ok_M {pn : List (Addr × Obj)} {v : Value} (ok : X.Ok) : (cxM X pn v).Ok := ⟨ok.mod, ok.kind, ok.glob, ok.blt, ok.above, ok.inj, ok.has, ok.cab, fun z => (nomatch z), ok.frames, ok.stk, ok.exf, ok.bs, ok.bsz, ok.noex, ok.exfs, ok.funs, ok.frf⟩
section
variable {pins : List (Addr × Obj)} {s : Shared} {E : Value → Shared → Prop} {v : Value}
theorem inv_T (I : Inv X pins σ H s) : Inv (cxT X (X.pn ++ pins) E) [] σ H s := ⟨ok_T I.ok, I.os, I.bare, I.base, I.loc, I.cell, I.free, I.freeC, fun p hp => I.pin p (by simpa using hp), I.hok, I.len⟩
theorem inv_T' {ps : List (Addr × Obj)} (I : Inv (cxT X (X.pn ++ pins) E) ps σ H s) : Inv X pins σ H s := ⟨ok_T' I.ok, I.os, I.bare, I.base, I.loc, I.cell, I.free, I.freeC, fun p hp => I.pin p (List.mem_append_left _ hp), I.hok, I.len⟩
theorem inv_M (I : Inv X pins σ H s) : Inv (cxM X (X.pn ++ pins) v) [] σ H s := ⟨ok_M I.ok, I.os, I.bare, I.base, I.loc, I.cell, I.free, I.freeC, fun p hp => I.pin p (by simpa using hp), I.hok, I.len⟩
theorem inv_M' (ok : X.Ok) (I : Inv (cxM X (X.pn ++ pins) v) [] σ H s) : Inv X pins σ H s := ⟨ok, I.os, I.bare, I.base, I.loc, I.cell, I.free, I.freeC, fun p hp => I.pin p (by simpa using hp), I.hok, I.len⟩
end
theorem SR.re {Y : Cx} (S : SR X W me B H σ δ) (hk : Y.K = X.K) (h0 : Y.H₀ = X.H₀) : SR Y W me B H σ δ := ⟨by rw [hk]; exact S.kf, S.len, S.sh, by rw [h0]; exact S.ow, S.mi, S.apart, by rw [h0]; exact S.same, S.soft, S.gone, S.live⟩
theorem Fly.re {Y : Cx} {H' : Hp} {s s' : Shared} {cls : Value} {a : Addr} {tr : Bool} (F : Fly X H s cls a H' s' tr) (h1 : Y.stack = X.stack) (h2 : Y.prog = X.prog) (h3 : Y.w = X.w) (h4 : Y.base = X.base) : Fly Y H s cls a H' s' tr :=
  ⟨F.os, F.bare, by rw [h1]; exact F.un, by rw [h2, h3]; exact F.hok, F.newE, F.freeE, by rw [h1, h4]; exact F.ff, by rw [h1]; exact F.fr, F.exc⟩
theorem Fly.here {pins : List (Addr × Obj)} {H' : Hp} {s s' : Shared} {cls : Value} {a : Addr} {tr : Bool} (I : Inv X pins σ H s) (F : Fly X H s cls a H' s' tr) : Inv X pins σ H' s' := I.call' F.os F.un F.hok F.bare (fun b z => absurd z (by simp))
theorem SR.forget (j : Nat) (S : SR X W me B H σ δ) : SR X W me B H (σ.set j none) (δ.set j none) ∧ Same (vis H (Hid B σ δ)) (vis H (Hid B (σ.set j none) (δ.set j none))) := by
  have gd : ∀ {i : Nat} {q : Slot}, (δ.set j none)[i]? = some (some q) → i ≠ j ∧ δ[i]? = some (some q) := fun {i q} e => by
    by_cases hi : i = j
    · subst hi
      rw [List.getElem?_set] at e
      simp at e
    · exact ⟨hi, by rw [List.getElem?_set_ne (Ne.symm hi)] at e; exact e⟩
  have gs : ∀ {i : Nat}, i ≠ j → (σ.set j none)[i]? = σ[i]? := fun hi => List.getElem?_set_ne (Ne.symm hi)
  have hol : ∀ {i : Nat} {a : Addr}, Holds1 (σ.set j none) (δ.set j none) i a → Holds1 σ δ i a := fun {i a} ⟨⟨w, d, h1, h2⟩, h3⟩ => by
    obtain ⟨hi, h1⟩ := gd h1
    rw [gs hi] at h3
    exact ⟨⟨w, d, h1, h2⟩, h3⟩
  have hid : ∀ b, Hid B (σ.set j none) (δ.set j none) b → Hid B σ δ b := fun b hb => hb.elim .inl fun ⟨i, z⟩ => .inr ⟨i, hol z⟩
  have sm : Same (vis H (Hid B σ δ)) (vis H (Hid B (σ.set j none) (δ.set j none))) := vis_sub hid
  refine ⟨⟨S.kf, by simp [S.len], fun i d h => ?_, fun i d h => ?_, fun i d h => ?_, fun i k a h1 h2 => S.apart i k a (hol h1) (hol h2), S.same, S.soft, S.gone, S.live⟩, sm⟩
  · obtain ⟨hi, h⟩ := gd h
    obtain ⟨v, q1, q2⟩ := S.sh i d h
    exact ⟨v, by rw [gs hi]; exact q1, q2.mono sm⟩
  · obtain ⟨hi, h⟩ := gd h
    obtain ⟨a, q1, q2, q3⟩ := S.ow i d h
    exact ⟨a, by rw [gs hi]; exact q1, q2.mono (fun _ z => z) sm, q3⟩
  · obtain ⟨hi, h⟩ := gd h
    obtain ⟨q0, a, q1, q2, q3, q4⟩ := S.mi i d h
    exact ⟨q0, a, q1, by rw [gs hi]; exact q2, q3.mono (fun _ z => z) sm, q4⟩
theorem ds_try {body : List Stmt} {cx n : Str} {st : Stmt} {b : SL} {su : S} {c j : Nat} {np hpos pos : Pos} (hN : X.N.Nodup) (hj : X.N[j]? = some n) (hl : X.env.scope.names.lookup n = some .local) (hfn : X.fn n = true)
    (hst : X.stack = X.env :: X.outer) (hfr : X.env.frame = some X.env.locals) (hg : Gl X cx) (hm : X.mg cx = some (.ref (W.CT c))) (hdb : (cx == ("__debug__" : Str)) = false)
    (hx : ∀ c', o.sub c' c = true → ∃ bP bC, xIn X.K (W.CT c) = some bP ∧ xIn X.K (W.CT c') = some bC ∧ (Value.ref (W.CT c') :: bC).contains (.ref (W.CT c)) = true)
    (hb : ∀ pn E, PassesOwn (model X.prog X.w) X.A X.env E → PSs (cxT X pn E) body (tS (cxT X pn E) W (evSs o b))) (hs : ∀ pn v, PS (cxM X pn v) st (tS (cxM X pn v) W (evS o su))) :
    PS X (.Try body [.ExceptHandler (some (.Name cx np)) (some n) [st] hpos] [] [] pos) (tS X W (evS o (.try_ b c (some j) (.cons su .nil)))) := by
  intro pins s σ H D I ⟨me, B, δ, S, h⟩
  have hX : Top X X.env.locals := ⟨hst, hfr, I.ok.frames⟩
  refine wpAny_Try_except ?_
  have S0 : ∀ {E : Value → Shared → Prop}, SR (cxT X (X.pn ++ pins) E) W me B H σ δ := fun {E} => S.re rfl rfl
  have thru : ∀ (r : SO), evSs o b δ = r → (∀ c δ', r ≠ .ex c δ') → AfterS X W me B (vis H (Hid B σ δ)) r D → wpAny (model X.prog X.w) X.A (execs body X.env) (fun f s₁ => match f with | .next => wpAny (model X.prog X.w) X.A (execs [] X.env) (SP X pins D) X.xe s₁ | f => SP X pins D f s₁) (fun e s₁ => wpAny (model X.prog X.w) X.A (noteFrame e X.env) (fun _ s₂ => wpAny (model X.prog X.w) X.A (setFlight e none) (fun _ s₃ => wpAny (model X.prog X.w) X.A (handleBy e X.env [.ExceptHandler (some (.Name cx np)) (some n) [st] hpos]) (SP X pins D) X.xe s₃) X.xe s₂) X.xe s₁) s := fun r er hne ha => by
    refine wpAny_mono (hb (X.pn ++ pins) (fun _ _ => False) PassesOwn.never [] s σ H D (inv_T I) ⟨me, B, δ, S0, ?_⟩) (fun f s1 q => ?_) fun _ _ z => z.elim
    · rw [er]
      cases r with
      | nx δ1 => exact fun σ H S z => ha σ H (S.re rfl rfl) z
      | bk δ1 => exact fun σ H S z => ha σ H (S.re rfl rfl) z
      | ct δ1 => exact fun σ H S z => ha σ H (S.re rfl rfl) z
      | rt w d δ1 => exact fun v σ H S z => ha v σ H (S.re rfl rfl) z
      | ex c δ1 => exact absurd rfl (hne c δ1)
      | stuck => exact ha
    · cases f with
      | next => obtain ⟨σ', H', I', q⟩ := q; exact pss_nil pins s1 σ' H' D (inv_T' I') q
      | brk => obtain ⟨σ', H', I', q⟩ := q; exact ⟨σ', H', inv_T' I', q⟩
      | cont => obtain ⟨σ', H', I', q⟩ := q; exact ⟨σ', H', inv_T' I', q⟩
      | ret u => obtain ⟨v, σ', H', I', r, q⟩ := q; exact ⟨v, σ', H', inv_T' I', r, q⟩
  simp only [evS] at h
  cases er : evSs o b δ with
  | nx δ1 => rw [er] at h; exact thru _ er (fun _ _ z => nomatch z) h
  | bk δ1 => rw [er] at h; exact thru _ er (fun _ _ z => nomatch z) h
  | ct δ1 => rw [er] at h; exact thru _ er (fun _ _ z => nomatch z) h
  | rt w d δ1 => rw [er] at h; exact thru _ er (fun _ _ z => nomatch z) h
  | stuck => rw [er] at h; exact h.elim
  | ex c' δ1 =>
    rw [er] at h
    simp only at h
    split at h
    case isFalse => exact h.elim
    case isTrue hsub =>
    obtain ⟨r, e1, h⟩ := orStuck_ok h
    cases e2 : setSlot δ1 j false (.err c') with
    | none => rw [e2] at e1; cases e1
    | some δ2 =>
    rw [e2] at e1
    simp only [Option.map_some, Option.some.injEq] at e1
    obtain ⟨hjl, rfl⟩ := setSlot_ok e2
    obtain ⟨bP, bC, xP, xC, hcon⟩ := hx c' hsub
    let XT : Value → Shared → Prop := fun e s1 => ∃ σ1 H1 s0 a H' tr, e = .ref a ∧ Inv X pins σ1 H1 s0 ∧ SR X W me B H1 σ1 δ1 ∧ Same (vis H (Hid B σ δ)) (vis H1 (Hid B σ1 δ1)) ∧ Fly X H1 s0 (.ref (W.CT c')) a H' s1 tr ∧ Same H1 H'
    have hpass : PassesOwn (model X.prog X.w) X.A X.env XT := passes_of hX fun e s1 ⟨σ1, H1, s0, a, H', tr, z, i1, i2, i3, i4, i5⟩ => ⟨H1, s0, _, a, H', tr, z, i4, fun h' F' => ⟨σ1, H1, s0, a, H', true, z, i1, i2, i3, F', i5⟩⟩
    refine wpAny_mono (hb (X.pn ++ pins) XT hpass [] s σ H { D with nx := fun _ _ => False } (inv_T I) ⟨me, B, δ, S0, ?_⟩) (fun f s1 q => ?_) fun e s1 ⟨σ1, H1, s0, a, H', tr, z, I1, S1, sm1, F1, sm2⟩ => ?_
    · rw [er]
      exact fun ps σ1 H1 s0 I1 S1 sm a H' s' tr F sm' => ⟨σ1, H1, s0, a, H', tr, rfl, inv_T' I1, S1.re rfl rfl, sm, F.re rfl rfl rfl rfl, sm'⟩
    · cases f with
      | next => obtain ⟨σ', H', I', q⟩ := q; exact q.elim
      | brk => obtain ⟨σ', H', I', q⟩ := q; exact ⟨σ', H', inv_T' I', q⟩
      | cont => obtain ⟨σ', H', I', q⟩ := q; exact ⟨σ', H', inv_T' I', q⟩
      | ret u => obtain ⟨v, σ', H', I', r, q⟩ := q; exact ⟨v, σ', H', inv_T' I', r, q⟩
    subst z
    refine note_ok hX F1 fun h2 F2 => flight_ok F2 fun h3 F3 => ?_
    have J3 := F3.here I1
    refine wpAny_handleBy_cons (codeAny_handlers_test ?_) (by intro q; cases q)
    refine ld_glob (X := cxM X (X.pn ++ pins) (.ref a)) (inv_M J3) hg hm ?_ hdb
    obtain ⟨oe, vs, y1, y2, y3, _⟩ := F3.exc
    refine exc_match (xobj_of J3.kIn xP) (xobj_of J3.kIn xC) y1 y2.1 hcon ?_
    refine codeAny_handlers_suite_as ?_
    refine flight_ok (X := cxM X (X.pn ++ pins) (.ref a)) (F3.re rfl rfl rfl rfl) fun h4 F4 => ?_
    have F4' : Fly X H1 s0 (.ref (W.CT c')) a H' { s1 with heap := h4 } true := F4.re rfl rfl rfl rfl
    have J4 := F4'.here I1
    obtain ⟨oe', vs', z1, z2, z3, _⟩ := F4'.exc
    have J5 := Z.Inv.track J4 I1 F4'.newE F4'.freeE (C := W.CT c') ⟨oe', vs', z1, z2, z3⟩
    have sm5 : Same H1 (upd H' a (.ext (IsExc (W.CT c') a))) := fun b ob e => by
      have e' := sm2 b ob e
      rw [upd_ne fun z => by rw [z, F4'.freeE] at e'; cases e']
      exact e'
    have hnh : ¬ Hid B σ1 δ1 a := fun z => by
      obtain ⟨ob, q⟩ := S1.hidH z
      obtain ⟨o', q'⟩ := there_of (I1.hok a ob q)
      rw [F1.newE] at q'; cases q'
    have hres : Res W (Hid B σ1 δ1) false H1 (upd H' a (.ext (IsExc (W.CT c') a))) false (.err c') (.ref a) := .shared (by simp only [Rep]; exact ⟨a, rfl, vis_of upd_same hnh⟩)
    obtain ⟨S6, sm6⟩ := S1.store (i := j) sm5 hres hjl
    refine store_ok (X := cxM X (X.pn ++ pins) (.ref a)) (inv_M J5) hN hj (.inl hl) (v := .ref a) rfl (fun s6 I6 => ?_) (.inl hfn)
    have run := ds_cons (hs (X.pn ++ pins) (.ref a)) (ds_nil (X := cxM X (X.pn ++ pins) (.ref a)) (W := W) o)
    cases e3 : evSs o (.cons su .nil) (δ1.set j (some (if false = true then .ow else .sh, .err c'))) with
    | bk δ3 => rw [e3] at e1; subst e1; exact h.elim
    | ct δ3 => rw [e3] at e1; subst e1; exact h.elim
    | rt w d δ3 => rw [e3] at e1; subst e1; exact h.elim
    | ex c δ3 => rw [e3] at e1; subst e1; exact h.elim
    | stuck => rw [e3] at e1; subst e1; exact h.elim
    | nx δ3 =>
    rw [e3] at e1
    subst e1
    refine wpAny_mono (run [] s6 _ _ { nx := fun σ3 H3 => SR (cxM X (X.pn ++ pins) (.ref a)) W me B H3 σ3 δ3 ∧ Same (vis (upd H' a (.ext (IsExc (W.CT c') a))) (Hid B (σ1.set j (some (.ref a))) (δ1.set j (some (if false = true then .ow else .sh, .err c'))))) (vis H3 (Hid B σ3 δ3)), rt := fun _ _ => False } I6 ⟨me, B, _, S6.re rfl rfl, by rw [e3]; exact fun σ3 H3 S3 z => ⟨S3, z⟩⟩) (fun f s7 q => ?_) fun _ _ z => False.elim z
    cases f with
    | brk => obtain ⟨_, _, _, z⟩ := q; exact False.elim z
    | cont => obtain ⟨_, _, _, z⟩ := q; exact False.elim z
    | ret u => obtain ⟨_, _, _, _, _, z⟩ := q; exact False.elim z
    | next =>
      obtain ⟨σ3, H3, I7, S7, sm7⟩ := q
      have hj3 : j < σ3.length := by rw [I7.len]; exact (List.getElem?_eq_some_iff.mp hj).1
      refine wpAny_bind (wpAny_bindName (store_ok (X := X) (inv_M' I.ok I7) hN hj (.inl hl) (v := .non) rfl (fun s8 I8 => ?_) (.inl hfn)))
      unfold unbindBehindTheSuite
      refine wpAny_onRaise (forget_ok I8 hN hj hl (v := .non) (by rw [List.getElem?_set_self hj3]) fun s9 I9 => ?_)
      rw [List.set_set] at I9
      obtain ⟨S9, sm9⟩ := SR.forget j (SR.re (Y := X) S7 rfl rfl)
      exact ⟨_, H3, I9, h _ _ S9 (((sm1.trans sm6).trans sm7).trans sm9)⟩
end
end Z

namespace Z
open PySem PySem.Spec PyProof.Rows L2 PySem.W
structure XK1 (K : Frag) (D : Addr) : Prop where
  ga : findIn K (.ref D) "__getattribute__" = some (some (.builtin "BaseException.__getattribute__"))
  gt : findIn K (.ref D) "__getattr__" = some none
  fo : findObj K D none "__class__" = some (.bind (.builtin "getset_descriptor.__get__") (.builtin "object.__class__"))
  mo : mroIn K D (.type "object") = some true
  mb : mroIn K D (.type "BaseException") = some true
  cl : (clsIn K D).isSome = true
section
variable {prog : Program} {w : World} {A : Around} {E : Value → Shared → Prop} {s : Shared} {K : Frag} {x D : Addr} {ox : Obj}
theorem exc_ga {tk : Tok} {Q : Fin → Shared → Prop} (X : K.In s.heap) (I : InstAt s.heap x ox D none) (k : XK1 K D) (h : Q (.done (.ret (.ref D))) s) : wpAny (model prog w) A (Builtin.«object.__getattribute__» ⟨[.ref x, .str "__class__" tk], []⟩) Q E s := by
  obtain ⟨hh, g, d, t, os⟩ := s
  have L0 := I.type (M := model prog w)
  have L1 := looks_find (M := model prog w) X I k.fo
  unfold Builtin.«object.__getattribute__»
  refine wpAny_bind (wpAny_pure ?_)
  refine wpAny_bind (wpAny_pure ?_)
  refine wpAny_bind (L0.at ?_)
  refine wpAny_bind (L1.at ?_)
  show wpAny _ _ (do ret (← holding [Value.builtin "object.__class__"] (call (Value.builtin "getset_descriptor.__get__") [Value.builtin "object.__class__", .ref x, .ref D]))) _ _ _
  refine wpAny_bind (wpAny_holding (wpAny_call (class_get (ox := ox) (od := none) X I k.mo ?_)))
  exact wpAny_pure h
theorem exc_cls {Q : Option Value → Shared → Prop} (X : K.In s.heap) (I : InstAt s.heap x ox D none) (k : XK1 K D) (h : Q (some (.ref D)) { s with toks := s.toks + 1 }) : wpAny (model prog w) A (getAttr? (.ref x) "__class__") Q E s := by
  obtain ⟨hh, g, d, t, os⟩ := s
  have L0 := I.type (M := model prog w)
  have L1 := looks_findIn (M := model prog w) X k.ga
  have L2 := looks_findIn (M := model prog w) X k.gt
  have hb := F.excAttr_ValueError.ga.bind (.ref x)
  unfold getAttr? getAttrBy? getAttrBy
  refine wpAny_bind (wpAny_mkText (wpAny_bind (wpAny_attempt (wpAny_holding (wpAny_bind (L0.at (wpAny_bind (L1.at ?_))))))))
  show wpAny _ _ (if _ then _ else getAttrByItsOwn _ _ _ _ _ _) _ _ _
  have hne : (Value.builtin "BaseException.__getattribute__" == Value.builtin "object.__getattribute__") = false := by decide +kernel
  rw [if_neg (by rw [hne, Bool.and_false]; exact Bool.false_ne_true)]
  unfold getAttrByItsOwn hookBefore
  rw [if_pos (show onTheHeap (.ref D) = true from rfl)]
  refine wpAny_bind (L2.at (wpAny_bind (wpAny_attempt (wpAny_holding ?_))))
  show wpAny _ _ (boundAndCalled _ _ _) _ _ _
  unfold boundAndCalled
  rw [hb]
  refine wpAny_bind (wpAny_pure ?_)
  have LI : Looks (model prog w) hh (isInstance (.ref x) (.type "BaseException")) true := L0.andThen (looks_mroIn X k.mb)
  have hk : builtinKind "BaseException.__getattribute__" = some .slot := by decide +kernel
  have hs : splitId "BaseException.__getattribute__" = some ("BaseException", "__getattribute__") := by decide +kernel
  have ha : argsOk "BaseException.__getattribute__" ⟨.ref x :: [.str "__class__" t], []⟩ := F.args_bexc_ga (.ref x) (.str "__class__" t)
  refine wpAny_call ?_
  refine codeAny_call_builtin F.excAttr_ValueError.ga.plain F.entry_bexc_ga ?_
  refine check_slot (M := model prog w) (i := "BaseException.__getattribute__") (self := .ref x) (rest := [.str "__class__" t]) (kw := []) (owner := "BaseException") (n := "__getattribute__") hk hs LI ha ?_
  refine exc_ga (x := x) (ox := ox) (K := K) X I k ?_
  exact handed_on rfl (wpAny_pure h)
noncomputable def xNot (K : Frag) (D C : Addr) : Bool := decide (D ≠ C) && (clsIn K C).isSome && typeIn K (.ref C) == some (.type "type") && subIn K (.ref D) (.ref C) == some false
theorem ty_true {M : Model} {C : Addr} (X : K.In s.heap) (e : (clsIn K C).isSome = true) : Looks M s.heap (isType (.ref C)) true := by
  unfold clsIn at e
  split at e
  case h_2 => cases e
  case h_1 ho =>
  intro A' Q' E' s' kp q
  unfold isType loadHead
  exact wpAny_bind (wpAny_loadPart (kp _ _ (X _ _ ho)) (wpAny_pure q))
theorem exc_isn {c : Value} {dep : Int} {tk : Tok} {Q : Fin → Shared → Prop} (X : K.In s.heap) (I : InstAt s.heap x ox D none) (k : XK1 K D) (L1 : Looks (model prog w) s.heap (typeOf c) (.type "type")) (L2 : Looks (model prog w) s.heap (isType c) true)
    (hne : (Value.ref D == c) = false) (L4 : Looks (model prog w) s.heap (isSubtype (.ref D) c) false) (h : Q (.done (.ret (.bool false))) { s with toks := s.toks + 1 }) : wpAny (model prog w) A (Builtin.«isinstance.nested» ⟨[.ref x, c, .int dep tk], []⟩) Q E s := by
  have LD : Looks (model prog w) s.heap (isType (.ref D)) true := ty_true X k.cl
  obtain ⟨hh, g, d, t, os⟩ := s
  have L0 := I.type (M := model prog w)
  have L3 : Looks (model prog w) hh (isInstance (.ref x) c) false := L0.andThen L4
  unfold Builtin.«isinstance.nested»
  refine wpAny_bind (L0.at ?_)
  rw [if_neg (by rw [hne]; exact Bool.false_ne_true)]
  refine wpAny_bind (L1.at ?_)
  rw [if_pos (by decide)]
  k_delta "plainIsInstance"
  refine wpAny_bind (wpAny_bind (L2.at ?_))
  rw [if_neg (by decide)]
  refine wpAny_bind (L3.at ?_)
  rw [if_neg (by decide)]
  refine wpAny_bind (exc_cls X I k (wpAny_bind (LD.at ?_)))
  rw [if_neg (by decide)]
  refine wpAny_bind (wpAny_rule (L4.at ?_))
  exact wpAny_pure h
theorem exc_isy {T : String} {dep : Int} {tk : Tok} {Q : Fin → Shared → Prop} (X : K.In s.heap) (I : InstAt s.heap x ox D none) (hty : typeOf (.type T) = pure (.type "type")) (e : subIn K (.ref D) (.type T) = some true) (h : Q (.done (.ret (.bool true))) s) :
    wpAny (model prog w) A (Builtin.«isinstance.nested» ⟨[.ref x, .type T, .int dep tk], []⟩) Q E s := by
  have L1 : Looks (model prog w) s.heap (typeOf (.type T)) (.type "type") := Looks.of_pure hty
  have L2 : Looks (model prog w) s.heap (isType (.type T)) true := Looks.of_pure rfl
  have L4 : Looks (model prog w) s.heap (isSubtype (.ref D) (.type T)) true := looks_subIn X e
  obtain ⟨hh, g, d, t, os⟩ := s
  have L0 := I.type (M := model prog w)
  have L3 : Looks (model prog w) hh (isInstance (.ref x) (.type T)) true := L0.andThen L4
  unfold Builtin.«isinstance.nested»
  refine wpAny_bind (L0.at ?_)
  rw [if_neg (fun q => by cases beq_iff_eq.mp q)]
  refine wpAny_bind (L1.at ?_)
  rw [if_pos (by decide)]
  k_delta "plainIsInstance"
  refine wpAny_bind (wpAny_bind (L2.at ?_))
  rw [if_neg (by decide)]
  refine wpAny_bind (L3.at ?_)
  rw [if_pos rfl]
  exact wpAny_pure (wpAny_pure h)
theorem exc_isinst {C : Addr} {b : Bool} {Q : Value → Shared → Prop} (X : K.In s.heap) (I : InstAt s.heap x ox D none) (k : XK1 K D) (e : (if b then PySem.W.isIn K (.ref D) C else xNot K D C) = true) (h : ∀ tk, Q (.bool b) { s with toks := tk }) : wpAny (model prog w) A (call (.builtin "isinstance") [.ref x, .ref C]) Q E s := by
  cases b with
  | true => exact isi_call (t := .ref D) X (fun M => I.type) e (by intro z; cases z) (h s.toks)
  | false =>
    unfold xNot at e
    simp only [Bool.false_eq_true, if_false, Bool.and_eq_true, decide_eq_true_eq, beq_iff_eq] at e
    obtain ⟨⟨⟨e0, e1⟩, e2⟩, e3⟩ := e
    refine call_isinstance_of ?_ (by intro z; cases z)
    exact exc_isn X I k (looks_typeIn X e2) (ty_true X e1) (Bool.eq_false_iff.mpr fun q => e0 (Value.ref.inj (beq_iff_eq.mp q))) (looks_subIn X e3) (h _)
theorem exc_isve {Q : Value → Shared → Prop} (X : K.In s.heap) (I : InstAt s.heap x ox D none) (e : subIn K (.ref D) (.type "ValueError") = some true) (h : Q (.bool true) s) : wpAny (model prog w) A (call (.builtin "isinstance") [.ref x, .type "ValueError"]) Q E s :=
  call_isinstance_of (exc_isy X I (by kernel_rfl) e h) (by intro z; cases z)
end
end Z

namespace Z
open PySem PySem.Spec PyProof.Rows L2
structure XFacts (K : PySem.W.Frag) (mg : Str → Option Value) (W : Wd) (sub : Nat → Nat → Bool) (cl : Str → Option Nat) : Prop where
  gc : ∀ x c, cl x = some c → mg x = some (.ref (W.CT c)) ∧ ∃ bm, xIn K (W.CT c) = some bm
  gx : ∀ c, sub c c = true → XK1 K (W.CT c) ∧ PySem.W.subIn K (.ref (W.CT c)) (.type "ValueError") = some true
  gp : ∀ x c c', cl x = some c' → sub c c = true → (if sub c c' then PySem.W.isIn K (.ref (W.CT c)) (W.CT c') else xNot K (W.CT c) (W.CT c')) = true
  gh : ∀ x c c', cl x = some c' → sub c c' = true → ∃ bC, xIn K (W.CT c) = some bC ∧ (Value.ref (W.CT c) :: bC).contains (.ref (W.CT c')) = true
section
variable {X : Cx} {W : Wd} {lk : Bool} {o : Orc} {a : Expr} {fa : Dst → R (Bool × D)} {p pos : Pos}
theorem inst_of {pins : List (Addr × Obj)} {σ : L2.St} {H : Hp} {s : Shared} {ad C : Addr} (I : Inv X pins σ H s) (h : H ad = some (.ext (IsExc C ad))) : ∃ ox, PySem.W.InstAt s.heap ad ox C none := by
  obtain ⟨⟨ox, vs, e1, ⟨e2, e3⟩, e4⟩, _, _⟩ := I.hok ad _ h
  refine ⟨ox, e1, e2, ?_, ?_⟩
  · unfold PySem.W.notCls; rw [e4]
  · rw [e3]; trivial
theorem call_isX : CallR X (.builtin "isinstance") (fun xs H Q => ∃ ad C C' b, xs = [.ref ad, .ref C'] ∧ H ad = some (.ext (IsExc C ad)) ∧ XK1 X.K C ∧ (if b then PySem.W.isIn X.K (.ref C) C' else xNot X.K C C') = true ∧ Q (.bl b) H) := by
  intro pins s σ H xs us Q I r h
  obtain ⟨ad, C, C', b, rfl, h1, h2, h3, q⟩ := h
  obtain ⟨u1, u2, rfl, r1, r2⟩ := vals2 r
  cases r1
  cases r2
  obtain ⟨ox, J⟩ := inst_of I h1
  exact exc_isinst I.kIn J h2 h3 fun tk => ⟨.bl b, H, I.tok _, rfl, q⟩
theorem call_isV : CallR X (.builtin "isinstance") (fun xs H Q => ∃ ad C, xs = [.ref ad, .ty "ValueError"] ∧ H ad = some (.ext (IsExc C ad)) ∧ PySem.W.subIn X.K (.ref C) (.type "ValueError") = some true ∧ Q (.bl true) H) := by
  intro pins s σ H xs us Q I r h
  obtain ⟨ad, C, rfl, h1, h2, q⟩ := h
  obtain ⟨u1, u2, rfl, r1, r2⟩ := vals2 r
  cases r1
  cases r2
  obtain ⟨ox, J⟩ := inst_of I h1
  exact exc_isve I.kIn J h2 ⟨.bl true, H, I, rfl, q⟩
theorem d_isinX {cl : Str → Option Nat} {cn : Str} {c' : Nat} {p2 : Pos} (xf : XFacts X.K X.mg W o.sub cl) (hcl : cl cn = some c') (hg : Gl X "isinstance") (hm : X.mg "isinstance" = none) (hg2 : Gl X cn) (hd2 : (cn == ("__debug__" : Str)) = false)
    (ha : PE X a (tD X W true fa)) (he : starEach [a, .Name cn p2] X.env = (false, eval a X.env) :: starEach [.Name cn p2] X.env) :
    PE X (.Call (.Name "isinstance" p) [a, .Name cn p2] [] pos) (tD X W lk fun δ => (fa δ).bind fun x => .of ((isD o (.cls c') x.2).map fun t => (false, .bl t))) := by
  obtain ⟨hm2, _⟩ := xf.gc cn c' hcl
  refine PE.imp (pe_callB call_isX hg hm PyProof.Rows.boot_isinstance (pa_cons ha (pa_cons (pe_glob (v := .ref (W.CT c')) hg2 hm2 rfl hd2) pa_nil) he) (by decide) (by decide) he rfl) fun σ H Q h => ?_
  obtain ⟨me, B, δ, S, h⟩ := tD_iff.mp h
  refine tD.mono (part S h) fun v H1 ⟨r1, e1, S1, s1, t1, _, h1⟩ => ?_
  cases e3 : r1.2 with
  | err c =>
    rw [e3] at h1 t1
    cases e4 : o.sub c c with
    | false =>
      simp only [isD, e4, Bool.false_eq_true, if_false, Option.map_none, R.of] at h1
      exact h1.elim
    | true =>
      simp only [isD, e4, if_true, Option.map_some, R.of] at h1
      simp only [RepT, Rep] at t1
      obtain ⟨ad, rfl, t2⟩ := t1
      have t3 : H1 ad = some (.ext (IsExc (W.CT c) ad)) := vis_le _ _ t2
      exact ⟨ad, W.CT c, W.CT c', o.sub c c', rfl, t3, (xf.gx c e4).1, xf.gp cn c c' hcl e4, h1 _ H1 (Same.refl _) res_bl⟩
  | _ => rw [e3] at h1; exact h1.elim
theorem d_isinV {cl : Str → Option Nat} {p2 : Pos} (xf : XFacts X.K X.mg W o.sub cl) (hg : Gl X "isinstance") (hm : X.mg "isinstance" = none) (hg2 : Gl X "ValueError") (hm2 : X.mg "ValueError" = none)
    (ha : PE X a (tD X W true fa)) (he : starEach [a, .Name "ValueError" p2] X.env = (false, eval a X.env) :: starEach [.Name "ValueError" p2] X.env) :
    PE X (.Call (.Name "isinstance" p) [a, .Name "ValueError" p2] [] pos) (tD X W lk fun δ => (fa δ).bind fun x => .of ((isD o .valueError x.2).map fun t => (false, .bl t))) := by
  refine PE.imp (pe_callB call_isV hg hm PyProof.Rows.boot_isinstance (pa_cons ha (pa_cons (pe_bltn (v := .ty "ValueError") hg2 hm2 (by kernel_rfl) rfl (by decide +kernel) (by decide +kernel)) pa_nil) he) (by decide) (by decide) he rfl) fun σ H Q h => ?_
  obtain ⟨me, B, δ, S, h⟩ := tD_iff.mp h
  refine tD.mono (part S h) fun v H1 ⟨r1, e1, S1, s1, t1, _, h1⟩ => ?_
  cases e3 : r1.2 with
  | err c =>
    rw [e3] at h1 t1
    cases e4 : o.sub c c with
    | false =>
      simp only [isD, e4, Bool.false_eq_true, if_false, Option.map_none, R.of] at h1
      exact h1.elim
    | true =>
      simp only [isD, e4, if_true, Option.map_some, R.of] at h1
      simp only [RepT, Rep] at t1
      obtain ⟨ad, rfl, t2⟩ := t1
      have t3 : H1 ad = some (.ext (IsExc (W.CT c) ad)) := vis_le _ _ t2
      exact ⟨ad, W.CT c, rfl, t3, (xf.gx c e4).2, h1 _ H1 (Same.refl _) res_bl⟩
  | _ => rw [e3] at h1; exact h1.elim
theorem d_fstr {ta : T} {cs : Str} {k : Nat} {p1 p2 : Pos} (hl : cs.length ≤ 1000) (ha : ∀ lk, PE X a (tD X W lk fun δ => ev o δ lk ta)) :
    PE X (.JoinedStr [.FormattedValue a (-1) none p1, .Constant (.str cs) k p2] pos) (tD X W lk fun δ => ev o δ lk (.fstr (.cons ta (.cons (.cst (.str cs.cps.toList)) .nil)))) := by
  intro pins s σ H Q I h
  obtain ⟨me, B, δ, S, h⟩ := tD_iff.mp h
  have e0 : ev o δ lk (.fstr (.cons ta (.cons (.cst (.str cs.cps.toList)) .nil))) = (ev o δ (lkOwn δ ta) ta).bind fun x => .of ((fstrD [x.2, .str cs.cps.toList]).bind fun t => if size t.length then some (false, .str t) else none) := by
    have hc : lkOwn δ (T.cst (.str cs.cps.toList)) = false := rfl
    rw [ev, evL, evL, evL, hc]
    cases ev o δ (lkOwn δ ta) ta <;> rfl
  rw [e0] at h
  cases e1 : ev o δ (lkOwn δ ta) ta with
  | stuck => rw [e1] at h; exact h.elim
  | exc c => rw [e1] at h; exact h.elim
  | ok r =>
  rw [e1] at h
  have h : After X W lk σ H (Hid B σ δ) (.of ((fstrD [r.2, .str cs.cps.toList]).bind fun t => if size t.length then some (false, .str t) else none)) Q := h
  cases e2 : r.2 with
  | str x =>
    rw [e2] at h
    simp only [fstrD, Option.map_some, Option.bind_some, List.append_nil] at h
    cases e3 : size (x ++ cs.cps.toList).length with
    | false => rw [e3] at h; exact h.elim
    | true =>
    rw [e3] at h
    have hz : (x ++ cs.cps.toList).length ≤ 16777216 := of_decide_eq_true e3
    have h : ∀ v H', Same H H' → Res W (Hid B σ δ) lk H H' false (.str (x ++ cs.cps.toList)) v → Q v H' := h
    have ht : tD X W (lkOwn δ ta) (fun δ' => ev o δ' (lkOwn δ ta) ta) σ H fun v H1 => v = .str (strV x) ∧ Same H H1 := tD_iff.mpr ⟨me, B, δ, S, by
      show After X W (lkOwn δ ta) σ H (Hid B σ δ) (ev o δ (lkOwn δ ta) ta) _
      rw [e1]
      intro v H1 z q
      have q' := q.look
      rw [e2] at q'
      exact ⟨(repT_str q').1, z⟩⟩
    refine JoinedStr_many (joinParts_cons (FormattedValue_plain (thn (ha (lkOwn δ ta) pins s σ H _ I ht) fun v s1 ⟨y, H1, I1, r1, q1, q2⟩ => ?_)))
    subst q1
    obtain ⟨t, rfl⟩ := r1
    have l1 : (strV x).length ≤ sizeLine := by
      rw [sizeLine_eq]; simp only [strV, Str.length, List.size_toArray]
      simp only [List.length_append] at hz; omega
    have hz2 : x.length + cs.cps.size ≤ 16777216 := by simpa using hz
    have s1' : (Str.empty ++ strV x).length ≤ sizeLine := by rw [strLen_append]; simp only [Str.empty, Str.length, strV, sizeLine_eq, Array.size_empty, List.size_toArray, List.length_nil]; omega
    have s2' : (Str.empty ++ strV x ++ cs).length ≤ sizeLine := by rw [strLen_append, strLen_append]; simp only [Str.empty, Str.length, strV, sizeLine_eq, Array.size_empty, List.size_toArray, List.length_nil]; omega
    have eo : Str.empty ++ strV x ++ cs = strV (x ++ cs.cps.toList) := by
      have e : (#[] ++ x.toArray) ++ cs.cps = (x ++ cs.cps.toList).toArray := by simp
      exact congrArg Str.mk e
    refine formatField_str (fun t' tk => ⟨s1', joinParts_cons (Calls.Constant_str ⟨s2', joinParts_nil ?_ s2'⟩)⟩) l1
    refine ⟨.str (Str.empty ++ strV x ++ cs), H1, I1.tok _, ⟨_, rfl⟩, h _ H1 q2 (.shared ?_)⟩
    simp only [Rep]
    exact ⟨by rw [eo], hz⟩
  | _ => rw [e2] at h; simp only [fstrD, Option.bind_none, R.of] at h; exact h.elim
end
end Z

namespace L2
open PySem PySem.Spec PyProof.Rows
section
variable {X : Cx}
theorem vals_bools {ys : List Bool} : ∀ {us : List Value}, Vals (ys.map V.bl) us → us = ys.map Value.bool := by
  induction ys with
  | nil => intro us h; cases h; rfl
  | cons y ys ih =>
    intro us h
    rw [List.map_cons] at h
    cases h with
    | cons r t => cases r; rw [ih t]; rfl
theorem old_kept {s : Shared} {h' : Heap} {ob : Obj} (hk : ∀ b x, b ∉ [s.heap.objs.size] → (s.heap.push ob).get? b = some x → h'.get? b = some x) : ∀ b x, s.heap.get? b = some x → h'.get? b = some x :=
  fun b x e => hk b x (fun z => absurd (Heap.lt_size e) (by rw [List.mem_singleton.mp z]; exact Nat.lt_irrefl _)) (Heap.get?_push_of_some _ e)
theorem call_allB (hc : X.calm = true) : CallR X (.builtin "all") (fun xs H Q => ∃ (c : Addr) (bs : List Bool), xs = [.ref c] ∧ SqL X.K H c (bs.map V.bl) ∧ Q (.bl (bs.all id)) H) := by
  intro pins s σ H xs us Q I r h
  obtain ⟨c, bs, rfl, hq, q⟩ := h
  obtain ⟨u, rfl, rx⟩ := vals1 r
  cases rx
  obtain ⟨its, rv, pl, hz⟩ := I.list hq
  have eits := vals_bools rv
  subst eits
  have hl : s.heap.IsList c (bs.map Value.bool).toArray := pl.isList
  have hlt : c < s.heap.objs.size := by obtain ⟨_, e, _⟩ := hl; exact Heap.lt_size e
  refine call_all_walk (wpAny_pyIter_list hl ?_)
  refine ⟨s.heap.objs.size, [s.heap.objs.size, c], [s.heap.objs.size], (bs.map Value.bool).toArray.size, _, _, fun i => (bs[i]?).getD true, rfl, Walks.list (A := X.A.in1) (I.ok.hd hc) _ c (Nat.ne_of_lt hlt) _,
    ⟨⟨_, Heap.get?_push_size _ rfl, rfl, rfl⟩, hl.push _⟩, fun i v s' Q' E' hP hQ => ?_, fun h' tk hk => ?_⟩
  · have hP : (bs.map Value.bool)[i]? = some v := by simpa using hP
    rw [List.getElem?_map] at hP
    cases e : bs[i]? with
    | none => rw [e] at hP; cases hP
    | some b =>
      rw [e] at hP
      cases hP
      simp only [e, Option.getD_some] at hQ
      exact wpAny_truthy_bool hQ
  · have e : ((List.range (bs.map Value.bool).toArray.size).all fun i => (bs[i]?).getD true) = bs.all id := by
      rw [List.size_toArray, List.length_map, Bool.eq_iff_iff, List.all_eq_true, List.all_eq_true]
      constructor
      · intro h b hb
        obtain ⟨i, hi, rfl⟩ := List.getElem_of_mem hb
        have := h i (List.mem_range.mpr hi)
        simpa [List.getElem?_eq_getElem hi] using this
      · intro h i hi
        have hi := List.mem_range.mp hi
        simpa [List.getElem?_eq_getElem hi] using h _ (List.getElem_mem hi)
    rw [e]
    exact ⟨.bl (bs.all id), H, I.kept (old_kept hk), rfl, q⟩
section
variable {prog : Program} {w : World} {A : Around} {E : Value → Shared → Prop} {s : Shared}
end
theorem strs_vals : ∀ {ss : List Str} {its : List Value}, Vals (ss.map V.str) its → StrsAre its ss
  | [], its, h => by cases h; exact .nil
  | x :: ss, its, h => by
    rw [List.map_cons] at h
    cases h with
    | cons r t =>
      obtain ⟨tk, rfl⟩ := r
      exact .cons x tk (strs_vals t)
end
end L2

namespace Z
open PySem PySem.Spec PyProof.Rows L2
section
variable {X : Cx} {W : Wd} {lk lk' : Bool} {σ : L2.St} {H H1 H' : Hp} {me : Option Addr} {B : Addr → Prop} {δ : Dst} {Q Q' : VK} {a b c : Expr} {pos p pos' apos cpos : Pos} {o : Orc} {fa fb fc : Dst → R (Bool × D)}
theorem d_meth1 {T id : String} {name : Str} {r : V → List V → Hp → VK → Prop} {g : D → D → R (Bool × D)} (pa : PlainAttrs T) (slot : PySem.Slot T name id) (hty : typeOf (.builtin id) = pure (.type "method_descriptor")) (hm : MtR X id r)
    (hs : Sem2 W (fun x y H Q => r x [y] H Q) g) (hn : NoExc2 g) (hk : ∀ dx, (∀ dy, g dx dy = .stuck) ∨ ∀ (H G : Hp) (x : V), Same G H → RepT W H G dx x → tyV X.K T x H)
    (ha : PE X a (tD X W true fa)) (hb : PE X b (tD X W true fb)) (hbase : plainBase a = true) (hst : isStar1 b = false) (hline : (apos.endLine == cpos.line) = true) :
    PE X (.Call (.Attribute a name apos) [b] [] cpos) (tD X W lk fun δ => (fa δ).bind fun x => (fb δ).bind fun y => g x.2 y.2) := by
  refine PE.imp (pe_bm pa slot hty hm ha (pa_cons hb pa_nil (star1 hst)) (base_of hbase) (few1 hst) hline (star1 hst) rfl) fun σ H Q h => ?_
  obtain ⟨me, B, δ, S, h⟩ := tD_iff.mp h
  refine tD.mono (part S h) fun v H1 ⟨r1, e1, S1, s1, t1, _, h1⟩ => ?_
  rcases hk r1.2 with hk | hk
  · refine absurd h1 fun h1 => ?_
    cases e2 : fb δ with
    | ok r2 => rw [e2] at h1; simp only [R.bind, hk] at h1; exact h1.elim
    | exc c => rw [e2] at h1; exact h1.elim
    | stuck => rw [e2] at h1; exact h1.elim
  · refine ⟨hk H1 _ v vis_le t1, ?_⟩
    refine tD.mono (part (g := fun y => g r1.2 y.2) S1 h1) fun u H2 ⟨r2, e2, S2, s2, t2, _, h2⟩ => ?_
    cases e : g r1.2 r2.2 with
    | ok r =>
      rw [e] at h2
      exact hs lk (Hid B σ δ) H2 v u r1.2 r2.2 Q r.1 r.2 S2.softH S2.know (t1.mono s2 (vis_mono s2)) t2 e h2
    | exc c => exact absurd e (hn _ _ _)
    | stuck => rw [e] at h2; exact h2.elim
theorem strs_reps {G : Hp} : ∀ {l : List D} {x : List (List Nat)} {vs : List V}, strsOf l = some x → Reps W G l vs → vs = x.map fun y => V.str (strV y)
  | [], x, vs, h, r => by
    simp only [strsOf, Option.some.injEq] at h
    subst h
    cases vs with
    | nil => rfl
    | cons _ _ => simp only [Reps] at r
  | d :: l, x, [], h, r => by simp only [Reps] at r
  | d :: l, x, v :: vs, h, r => by
    cases d with
    | str y =>
      simp only [strsOf] at h
      cases e : strsOf l with
      | none => rw [e] at h; cases h
      | some x' =>
        rw [e] at h
        cases h
        simp only [Reps, Rep] at r
        rw [r.1.1, strs_reps e r.2]
        rfl
    | _ => simp [strsOf] at h
noncomputable def rJoin (K : PySem.W.Frag) : V → List V → Hp → VK → Prop := fun x vs H Q => ∃ (z : Str) (c : Addr) (ys : List Str), x = .str z ∧ vs = [.ref c] ∧ SqL K H c (ys.map V.str) ∧ (ys.map (·.length)).sum + ys.length * z.length ≤ 16777216 ∧ Q (.str (PySem.Txt.join z ys)) H
theorem mt_join : MtR X "str.join" (rJoin X.K) := by
  intro pins s σ H x vs v us Q I rx rv h
  obtain ⟨z, c, ys, rfl, rfl, hq, hz, q⟩ := h
  obtain ⟨t, rfl⟩ := rx
  obtain ⟨u, rfl, ru⟩ := rv.one
  cases ru
  obtain ⟨its, r, pl, _⟩ := I.list hq
  refine PyProof.Rows.join_list pl.isList (by simpa using strs_vals r) hz fun t' k => ?_
  exact ⟨.str (PySem.Txt.join z ys), H, I.tok k, ⟨t', rfl⟩, q⟩
theorem join_strV (sep : List Nat) : ∀ x : List (List Nat), Str.join (strV sep) (x.map strV) = strV (joinS sep x)
  | [] => rfl
  | [_] => rfl
  | y :: z :: l => by
    show strV y ++ strV sep ++ Str.join (strV sep) ((z :: l).map strV) = _
    rw [join_strV sep (z :: l), strV_append, strV_append]
    rfl
theorem join_codes (sep : List Nat) (x : List (List Nat)) : PySem.Txt.join (strV sep) (x.map strV) = strV (joinS sep x) := by
  have e0 : PySem.Txt.join (strV sep) (x.map strV) = Str.join (strV sep) (x.map strV) := PySem.StrLaws.glued_eq_join _ _
  rw [e0, join_strV]
theorem joinS_len (sep : List Nat) : ∀ x : List (List Nat), (joinS sep x).length ≤ (x.map List.length).sum + x.length * sep.length
  | [] => by simp [joinS]
  | [y] => by simp [joinS]
  | y :: z :: l => by
    have := joinS_len sep (z :: l)
    simp only [joinS, List.length_append, List.map_cons, List.sum_cons, List.length_cons] at this ⊢
    rw [Nat.add_mul, Nat.one_mul]
    omega
theorem sem_join (hk : W.K = X.K) : Sem2 W (fun x y H Q => rJoin X.K x [y] H Q) (m1D .join) := by
  intro lk P H x y dx dy Q w d hS hK hx hy e k
  cases dx <;> cases dy <;> first | exact nope e | exact nopeR e | simp only [m1D] at e
  rename_i sep l
  cases e1 : strsOf l with
  | none => rw [e1] at e; cases e
  | some xs =>
    rw [e1] at e
    simp only [Option.bind_some] at e
    split at e
    · rename_i hz
      cases e
      obtain ⟨rfl, hl⟩ := repT_str hx
      obtain ⟨c, vs, rfl, q1, q2⟩ := hy
      have ev := strs_reps e1 q2
      subst ev
      have hz' : (xs.map List.length).sum + xs.length * sep.length ≤ 16777216 := by simpa [size] using hz
      refine ⟨strV sep, c, xs.map strV, rfl, rfl, ?_, ?_, ?_⟩
      · rw [List.map_map]; exact hk ▸ q1
      · rw [List.map_map, List.length_map, strV_len]
        have : ((fun z : Str => z.length) ∘ strV) = List.length := funext fun z => strV_len z
        rw [this]; exact hz'
      · rw [join_codes]
        exact k _ H (Same.refl H) (res_str (Nat.le_trans (joinS_len sep xs) hz'))
    · cases e
theorem join_noexc : NoExc2 (m1D .join) := by
  intro x y c
  show (match x, y with | .str sep, .lst l => R.of ((strsOf l).bind fun x => if size ((x.map List.length).sum + x.length * sep.length) then some (false, D.str (joinS sep x)) else none) | _, _ => R.stuck) ≠ .exc c
  split
  · exact of_noexc
  · intro z; cases z
theorem join_kind (dx : D) : (∀ dy, m1D .join dx dy = .stuck) ∨ ∀ (H G : Hp) (x : V), Same G H → RepT W H G dx x → tyV X.K "str" x H := by
  cases dx with
  | str s => exact .inr fun H G x _ h => by rw [(repT_str h).1]; rfl
  | _ => exact .inl fun dy => by simp only [m1D]
theorem m2_of {e f ob : Expr} {m : Str} (hb : plainBase ob = true) (h1 : isStar1 e = false) (h2 : isStar1 f = false) (hl : (apos.endLine == cpos.line) = true) : M2 X ob m apos e f cpos := by
  have e2 : starEach [f] X.env = [(false, eval f X.env)] := star1 h2
  have e1 : starEach [e, f] X.env = [(false, eval e X.env), (false, eval f X.env)] := by rw [star1 h1, e2]
  refine ⟨base_of hb, ?_, hl, ?_⟩
  · rw [e1]; rfl
  · rw [e1]; rfl
theorem flat_rep {G : Hp} {d : D} {x : V} (h : flatD d = true) (r : RepT W H G d x) : flatV x = true := by
  cases d with
  | str s => rw [(repT_str r).1]; rfl
  | non => simp only [RepT, Rep] at r; subst r; rfl
  | bl b => simp only [RepT, Rep] at r; subst r; rfl
  | int i => simp only [RepT, Rep] at r; subst r; rfl
  | _ => simp [flatD] at h
theorem eqS_flat {y x : D} {t : Bool} (h : eqS y x = some t) : flatD y = true ∧ flatD x = true := by
  cases y <;> cases x <;> simp [eqS] at h <;> exact ⟨rfl, rfl⟩
theorem eqS_eqV {G G' : Hp} {dy dx : D} {y x : V} {t : Bool} (h : eqS dy dx = some t) (ry : RepT W H G dy y) (rx : RepT W H G' dx x) : eqV y x = t := by
  cases dy <;> cases dx <;> first | exact nope h | exact nopeR h | simp only [eqS] at h
  all_goals simp only [Option.some.injEq] at h
  all_goals (first | (have ry := (repT_str ry).1) | (simp only [RepT, Rep] at ry))
  all_goals (first | (have rx := (repT_str rx).1) | (simp only [RepT, Rep] at rx))
  all_goals subst ry
  all_goals subst rx
  all_goals (rw [← h])
  all_goals first
    | rfl
    | simp [eqV]
  all_goals (rw [Bool.eq_iff_iff]; simp only [beq_iff_eq, decide_eq_true_eq]; exact ⟨fun z => strV_inj z, fun z => by rw [z]⟩)
theorem inS_ok {G G' : Hp} {dx : D} {x : V} (rx : RepT W G G' dx x) : ∀ {l : List D} {vs : List V} {t : Bool}, inS dx l = some t → Reps W G l vs → vs.all flatV = true ∧ inV x vs = t
  | [], [], t, h, _ => by
    simp only [inS, Option.some.injEq] at h
    subst h
    exact ⟨rfl, rfl⟩
  | [], _ :: _, _, _, r => by simp only [Reps] at r
  | _ :: _, [], _, _, r => by simp only [Reps] at r
  | d :: l, v :: vs, t, h, r => by
    simp only [Reps] at r
    simp only [inS] at h
    cases e1 : eqS d dx with
    | none => rw [e1] at h; cases h
    | some s1 =>
      cases e2 : inS dx l with
      | none => rw [e1, e2] at h; cases h
      | some s2 =>
        rw [e1, e2] at h
        cases h
        obtain ⟨k1, k2⟩ := inS_ok rx e2 r.2
        have rt : RepT W G G d v := r.1.top (Same.refl _)
        refine ⟨?_, ?_⟩
        · rw [List.all_cons, k1, Bool.and_true]
          exact flat_rep (eqS_flat e1).1 rt
        · show (eqV v x || inV x vs) = _
          rw [k2, eqS_eqV e1 rt rx]
theorem flat_any {G G' H' : Hp} {d : D} {x : V} (h : flatD d = true) (r : RepT W H G d x) : RepT W H' G' d x := by
  cases d with
  | str s => simpa only [RepT, Rep] using r
  | non => simpa only [RepT, Rep] using r
  | bl b => simpa only [RepT, Rep] using r
  | int i => simpa only [RepT, Rep] using r
  | _ => simp [flatD] at h
noncomputable def seqIn (neg : Bool) (x y : D) : R (Bool × D) := match y with
  | .lst l => .of ((if flatD x then inS x l else none).map fun t => (false, .bl (if neg then !t else t)))
  | .tup l => .of ((if flatD x then inS x l else none).map fun t => (false, .bl (if neg then !t else t)))
  | _ => .stuck
theorem sem_inseq (neg : Bool) (hk : W.K = X.K) : Sem2 W (rIn X.K neg) (seqIn neg) := by
  intro lk P H x y dx dy Q w d hS hK hx hy e k
  cases dy <;> first | exact nope e | exact nopeR e | simp only [seqIn] at e
  · rename_i l
    by_cases hf : flatD dx = true
    · rw [if_pos hf] at e
      cases e1 : inS dx l with
      | none => rw [e1] at e; cases e
      | some t =>
        rw [e1] at e
        cases e
        simp only [RepT, Rep] at hy
        obtain ⟨c, vs, rfl, q1, q2⟩ := hy
        obtain ⟨k1, k2⟩ := inS_ok (flat_any (G' := H) hf hx) e1 q2
        refine ⟨c, vs, rfl, .inr (hk ▸ same_tup vis_le q1), flat_rep hf hx, k1, ?_⟩
        rw [k2]
        exact k _ H (Same.refl H) res_bl
    · rw [if_neg hf] at e; cases e
  · rename_i l
    by_cases hf : flatD dx = true
    · rw [if_pos hf] at e
      cases e1 : inS dx l with
      | none => rw [e1] at e; cases e
      | some t =>
        rw [e1] at e
        cases e
        obtain ⟨c, vs, rfl, q1, q2⟩ := hy
        obtain ⟨k1, k2⟩ := inS_ok (flat_any (G' := H) hf hx) e1 q2
        refine ⟨c, vs, rfl, .inl (hk ▸ q1), flat_rep hf hx, k1, ?_⟩
        rw [k2]
        exact k _ H (Same.refl H) res_bl
    · rw [if_neg hf] at e; cases e
theorem look_mem : ∀ {ks : List DK} {vs : List D} {x : DK}, ks.length = vs.length → ((look ks vs x).isSome = decide (x ∈ ks))
  | [], [], _, _ => by simp [look]
  | [], _ :: _, _, h => by simp at h
  | _ :: _, [], _, h => by simp at h
  | k :: ks, v :: vs, x, h => by
    simp only [look]
    by_cases hk : k = x
    · subst hk; simp
    · rw [if_neg hk, look_mem (by simpa using h)]
      simp [Ne.symm hk]
theorem seqIn_noexc (neg : Bool) : NoExc2 (seqIn neg) := by
  intro x y c
  cases y <;> simp only [seqIn] <;> first | exact of_noexc | (intro z; cases z)
noncomputable def opIn (neg : Bool) : O2 := if neg then .notin else .in
theorem opIn_seq (neg : Bool) (x y : D) (h : ∀ ks vs, y ≠ .dct ks vs) (h' : ∀ t, y ≠ .str t) : o2 (opIn neg) x y = seqIn neg x y := by
  cases neg <;> cases y <;> simp only [opIn, if_true, Bool.false_eq_true, if_false, o2, isIn, seqIn] <;> first | rfl | (exact absurd rfl (h _ _)) | (exact absurd rfl (h' _)) | skip
noncomputable def rInS (neg : Bool) : R2 := fun x y H Q => ∃ i j, x = .str i ∧ y = .str j ∧ Q (.bl (if neg then !(!(Builtin.Str.occurrences j i 0 j.length 1).isEmpty) else !(Builtin.Str.occurrences j i 0 j.length 1).isEmpty)) H
theorem in_read (neg : Bool) (hk : W.K = X.K) (h : tD X W lk (fun δ => (fa δ).bind fun x => (fb δ).bind fun y => o2 (opIn neg) x.2 y.2) σ H Q) :
    tOp (rIn X.K neg) (tD X W true fa) (tD X W true fb) σ H Q ∨ (fun σ H Q => tD X W true fa σ H fun y H1 => tD X W true fb σ H1 fun x H2 => ∃ a o, x = .ref a ∧ DGet H2 a y o ∧ Q (.bl (if neg then !o.isSome else o.isSome)) H2) σ H Q ∨ tOp (rInS neg) (tD X W true fa) (tD X W true fb) σ H Q := by
  obtain ⟨me, B, δ, S, h⟩ := tD_iff.mp h
  by_cases hs : ∃ r t, fb δ = .ok r ∧ r.2 = .str t
  · obtain ⟨r, t, e, e2⟩ := hs
    refine .inr (.inr ?_)
    refine tD.mono (part S h) fun v H1 ⟨r1, e1, S1, s1, t1, _, h1⟩ => ?_
    refine tD.mono (part (g := fun y => o2 (opIn neg) r1.2 y.2) S1 h1) fun u H2 ⟨r2, e3, S2, s2, t2, _, h2⟩ => ?_
    have : r2 = r := by rw [e] at e3; cases e3; rfl
    subst this
    rw [e2] at t2 h2
    have hc : ∃ c, r1.2 = .str [c] := by
      cases e4 : r1.2 with
      | str z =>
        cases z with
        | nil => rw [e4] at h2; cases neg <;> exact h2.elim
        | cons c z =>
          cases z with
          | nil => exact ⟨c, rfl⟩
          | cons _ _ => rw [e4] at h2; cases neg <;> exact h2.elim
      | _ => rw [e4] at h2; cases neg <;> exact h2.elim
    obtain ⟨c, e4⟩ := hc
    rw [e4] at h2
    have t1 := t1.mono s2 (vis_mono s2)
    rw [e4] at t1
    simp only [RepT, Rep] at t1 t2
    refine ⟨strV [c], strV t, t1.1, t2.1, ?_⟩
    have ef : (!(Builtin.Str.occurrences (strV t) (strV [c]) 0 (strV t).length 1).isEmpty) = decide (c ∈ t) := by
      rw [show strV [c] = ⟨#[c]⟩ from rfl, PySem.StrLaws.found_one]; rfl
    rw [ef]
    have h2 : After X W lk σ H2 (Hid B σ δ) (.ok (false, .bl (if neg then !decide (c ∈ t) else decide (c ∈ t)))) Q := by
      cases neg <;> exact h2
    exact h2 _ H2 (Same.refl _) res_bl
  by_cases hd : ∃ r ks vs, fb δ = .ok r ∧ r.2 = .dct ks vs
  · obtain ⟨r, ks, vs, e, e2⟩ := hd
    refine .inr (.inl ?_)
    refine tD.mono (part S h) fun v H1 ⟨r1, e1, S1, s1, t1, _, h1⟩ => ?_
    refine tD.mono (part (g := fun y => o2 (opIn neg) r1.2 y.2) S1 h1) fun u H2 ⟨r2, e3, S2, s2, t2, _, h2⟩ => ?_
    have : r2 = r := by rw [e] at e3; cases e3; rfl
    subst this
    rw [e2] at t2 h2
    obtain ⟨ad, kvs, rfl, q1, q2, q3, q4⟩ := t2
    cases e4 : keyOf r1.2 with
    | none =>
      refine absurd h2 fun h2 => ?_
      cases neg <;> simp only [opIn, if_true, Bool.false_eq_true, if_false, o2, isIn, e4] at h2 <;> exact h2.elim
    | some kx =>
      have h2 : After X W lk σ H2 (Hid B σ δ) (.ok (false, .bl (if neg then !decide (kx ∈ ks) else decide (kx ∈ ks)))) Q := by
        cases neg <;> simpa only [opIn, if_true, Bool.false_eq_true, if_false, o2, isIn, e4, Option.map_some, R.of] using h2
      have hl : ks.length = vs.length := by
        have h1 := congrArg List.length q2
        simp only [List.length_map] at h1
        have h3 := q4.length
        simp only [List.length_map] at h3
        omega
      have hv : (valV kvs (keyV kx)).isSome = decide (kx ∈ ks) := by
        rw [← look_mem (x := kx) hl]
        cases e5 : look ks vs kx with
        | some d => obtain ⟨w, p1, _⟩ := look_val q2 q4 e5; rw [p1]; rfl
        | none => rw [look_none q2 q4 e5]; rfl
      refine ⟨ad, valV kvs (keyV kx), rfl, ?_, ?_⟩
      · rw [key_rep e4 (t1.mono s2 (vis_mono s2))]
        obtain ⟨ep, q1⟩ := q1; exact DGet.k q1
      · rw [hv]
        exact h2 _ H2 (Same.refl _) res_bl
  · refine .inl (tOp_of (lk := lk) (sem_inseq neg hk) (seqIn_noexc neg) ?_)
    refine tD_iff.mpr ⟨me, B, δ, S, ?_⟩
    have e : ((fa δ).bind fun x => (fb δ).bind fun y => seqIn neg x.2 y.2) = ((fa δ).bind fun x => (fb δ).bind fun y => o2 (opIn neg) x.2 y.2) := by
      congr 1
      funext x
      cases e3 : fb δ with
      | ok r =>
        show seqIn neg x.2 r.2 = o2 (opIn neg) x.2 r.2
        rw [opIn_seq neg x.2 r.2 (fun ks vs z => hd ⟨r, ks, vs, e3, z⟩) fun t z => hs ⟨r, t, e3, z⟩]
      | exc c => rfl
      | stuck => rfl
    show After X W lk σ H (Hid B σ δ) ((fa δ).bind fun x => (fb δ).bind fun y => seqIn neg x.2 y.2) Q
    rw [e]
    exact h
theorem PT.or {e : Expr} {t t' : TT} (h : PT X e t) (h' : PT X e t') : PT X e (fun σ H Q => t σ H Q ∨ t' σ H Q) := by
  intro pins s σ H Q I q
  rcases q with q | q
  · exact h pins s σ H Q I q
  · exact h' pins s σ H Q I q
theorem in_bl (neg : Bool) : ∀ x y r, o2 (opIn neg) x y = .ok r → ∃ b, r = (false, .bl b) := by
  intro x y r h
  cases neg with
  | false =>
    simp only [opIn, Bool.false_eq_true, if_false, o2] at h
    cases e : isIn x y with
    | none => rw [e] at h; cases h
    | some b => rw [e] at h; cases h; exact ⟨_, rfl⟩
  | true =>
    simp only [opIn, if_true, o2] at h
    cases e : isIn x y with
    | none => rw [e] at h; cases h
    | some b => rw [e] at h; cases h; exact ⟨_, rfl⟩
theorem d_in (hk : W.K = X.K) (hu : X.A.units + 1 < cLine) (ha : PE X a (tD X W true fa)) (hb : PE X b (tD X W true fb)) (hm : behindInMarks .In b = false) :
    (∀ lk, PE X (.Compare a [.In] [b] pos) (tD X W lk fun δ => (fa δ).bind fun x => (fb δ).bind fun y => o2 .in x.2 y.2)) ∧ PT X (.Compare a [.In] [b] pos) (tT X W fun δ => (fa δ).bind fun x => (fb δ).bind fun y => o2 .in x.2 y.2) := by
  refine ⟨fun lk => PE.imp (PE.or (pe_cmpR op_in_seq ha hb hm) (PE.or (pe_cmp (pc_din hu ha hb) hm) (pe_cmpR op_in_str ha hb hm))) fun σ H Q h => in_read false hk h, PT.imp (PT.or (pt_cmpR op_in_seq ha hb hm) (PT.or (pt_cmp (pc_din hu ha hb) hm) (pt_cmpR op_in_str ha hb hm))) fun σ H Q h => ?_⟩
  exact in_read (lk := true) false hk (tT_tD (fun δ r e => by
    obtain ⟨y, _, e⟩ := bind_bl e
    obtain ⟨z, _, e⟩ := bind_bl e
    exact in_bl false _ _ _ e) h)
theorem d_notin (hk : W.K = X.K) (hu : X.A.units + 1 < cLine) (ha : PE X a (tD X W true fa)) (hb : PE X b (tD X W true fb)) (hm : behindInMarks .NotIn b = false) :
    (∀ lk, PE X (.Compare a [.NotIn] [b] pos) (tD X W lk fun δ => (fa δ).bind fun x => (fb δ).bind fun y => o2 .notin x.2 y.2)) ∧ PT X (.Compare a [.NotIn] [b] pos) (tT X W fun δ => (fa δ).bind fun x => (fb δ).bind fun y => o2 .notin x.2 y.2) := by
  refine ⟨fun lk => PE.imp (PE.or (pe_cmpR op_notIn_seq ha hb hm) (PE.or (pe_cmp (pc_dnotin hu ha hb) hm) (pe_cmpR op_notin_str ha hb hm))) fun σ H Q h => in_read true hk h, PT.imp (PT.or (pt_cmpR op_notIn_seq ha hb hm) (PT.or (pt_cmp (pc_dnotin hu ha hb) hm) (pt_cmpR op_notin_str ha hb hm))) fun σ H Q h => ?_⟩
  exact in_read (lk := true) true hk (tT_tD (fun δ r e => by
    obtain ⟨y, _, e⟩ := bind_bl e
    obtain ⟨z, _, e⟩ := bind_bl e
    exact in_bl true _ _ _ e) h)
end
end Z

namespace Z
open PySem PySem.Spec PyProof.Rows L2
section
variable {X : Cx} {pins : List (Addr × Obj)} {σ : L2.St} {H : Hp} {s : Shared} {a : Addr} {kvs : List (Key × V)} {k : Key} {u : Value} {A : Around} {E : Value → Shared → Prop}
theorem d_popE {v : V} {ep : Nat} {Q : Value → Shared → Prop} (I : Inv X pins σ H s) (e : H a = some (.dK kvs ep)) (ry : L2.RelV (kV k) u) (l : valV kvs k = some v)
    (h : ∀ w' s' ep', Inv X pins σ (upd H a (.dK (dropK kvs k) ep')) s' → L2.RelV v w' → Q w' s') : wpAny (model X.prog X.w) A (call (.builtin "dict.pop") [.ref a, u]) Q E s := by
  obtain ⟨z, hd, vs, rel, dd⟩ := dk_of I.hok e
  obtain ⟨w', hw, rw'⟩ := RelO.some_of (v := v) (o := valueAt vs k) (by rw [← l]; exact rel.val k)
  have hp : (keyPart u).isSome = true := by
    cases k with
    | inl i => obtain ⟨t, q⟩ := (show ∃ t, u = Value.int i t from ry); subst q; rfl
    | inr x => obtain ⟨t, q⟩ := (show ∃ t, u = Value.str x t from ry); subst q; rfl
  refine call_meetsIn PySem.F.slot_dict_pop dd.typeIs PySem.F.entry_dict_pop (PySem.F.args_dict_pop_2 _ _) (meets_dict_pop_there (mixKind X.prog X.w) a (kV_is ry) [] (.inl rfl) hp)
    ⟨vs, w', dd, by rw [← rel.length]; exact z, hw, fun h' dd' hs => ?_⟩
  have he : ∃ q, h'.get? a = some q := let ⟨q, _, _, hq, _⟩ := dd'; ⟨q, hq⟩
  obtain ⟨ep2, dd'⟩ := dd'.dictAt
  exact h w' _ ep2 (d_write I (by rw [e]; exact True.intro) hs he (dk_new (Nat.le_trans (dropK_le kvs k) z) hd (rel.drop k) dd')) rw'
end
noncomputable def tPopE (td ty : TE) : TE := fun σ H Q => td σ H fun x H1 => ∃ a, x = .ref a ∧ IsD H1 a ∧ ty σ H1 fun y H2 => ∃ kvs k v ep, H2 a = some (.dK kvs ep) ∧ y = kV k ∧ valV kvs k = some v ∧ ∀ ep', Q v (upd H2 a (.dK (dropK kvs k) ep'))
section
variable {X : Cx} {o e : Expr} {apos cpos : Pos} {td ty : TE}
theorem pe_popE (ho : PE X o td) (he : PE X e ty) (m : L2.M1 X o "pop" apos e cpos) : PE X (.Call (.Attribute o "pop" apos) [e] [] cpos) (tPopE td ty) := by
  intro pins s σ H Q I h
  refine wpAny_Call_method m.base m.few m.line PySem.F.plainAttrs_dict PySem.F.slot_dict_pop PySem.F.type_dict_pop (thn (ho pins s σ H _ I h) fun u s1 ⟨x, H1, I1, rx, a, ex, d, q1⟩ => ?_)
  subst ex
  obtain rfl : u = Value.ref a := rx
  obtain ⟨t1, t2, _⟩ := isD_at I1 d
  refine ⟨t1, t2, ?_⟩
  rw [m.trees]
  refine Calls.callWith_builtin rfl (Calls.evalArgs_plain (Calls.spliced_cons (thn (he pins s1 σ H1 _ I1 q1) fun iv s2 ⟨y, H2, I2, ry, kvs, k, v, ep, ea, ey, l, q2⟩ => Calls.spliced_nil ?_)))
  subst ey
  exact d_popE I2 ea ry l fun w' s3 ep' I3 rw' => ⟨v, _, I3, rw', q2 ep'⟩
end
section
variable {W : Wd}
theorem drop_id {kvs : List (Key × V)} {k : Key} (h : k ∉ kvs.map (·.1)) : dropK kvs k = kvs := by
  unfold dropK
  refine List.filter_eq_self.mpr fun p hp => ?_
  simp only [ne_eq, decide_not, Bool.not_eq_true', decide_eq_false_iff_not]
  exact fun e => h (e ▸ List.mem_map.mpr ⟨p, hp, rfl⟩)
theorem drop_both {G : Hp} {x : DK} : ∀ {ks : List DK} {vs : List D} {kvs : List (Key × V)}, kvs.map (·.1) = ks.map keyV → ks.Nodup → Reps W G vs (kvs.map (·.2)) →
    (dropK kvs (keyV x)).map (·.1) = (dropKs ks x).map keyV ∧ Reps W G (dropV ks vs x) ((dropK kvs (keyV x)).map (·.2))
  | [], vs, [], _, _, r => by
    cases vs with
    | nil => exact ⟨rfl, by simp only [dropV, dropK, List.filter_nil, List.map_nil, Reps]⟩
    | cons _ _ => simp only [List.map_nil, Reps] at r
  | [], _, _ :: _, e, _, _ => by simp at e
  | _ :: _, _, [], e, _, _ => by simp at e
  | _ :: _, [], _ :: _, _, _, r => by simp only [List.map_cons, Reps] at r
  | k :: ks, d :: vs, (k', v) :: kvs, e, hn, r => by
    simp only [List.map_cons, List.cons.injEq] at e
    simp only [List.map_cons, Reps] at r
    obtain ⟨e1, e2⟩ := e
    subst e1
    have hn' := List.nodup_cons.mp hn
    simp only [dropKs, dropV]
    by_cases hk : k = x
    · subst hk
      have hni : keyV k ∉ kvs.map (·.1) := by
        rw [e2]
        intro hm
        obtain ⟨y, hy, hyk⟩ := List.mem_map.mp hm
        exact hn'.1 (keyV_inj hyk ▸ hy)
      rw [if_pos rfl, if_pos rfl, dropK_pos rfl, drop_id hni]
      exact ⟨e2, r.2⟩
    · have hne : ¬ keyV k = keyV x := fun z => hk (keyV_inj z)
      obtain ⟨i1, i2⟩ := drop_both (x := x) e2 hn'.2 r.2
      rw [if_neg hk, if_neg hk, dropK_neg hne]
      simp only [List.map_cons, Reps]
      exact ⟨by rw [i1], r.1, i2⟩
theorem dropKs_sub : ∀ {ks : List DK} {x y : DK}, y ∈ dropKs ks x → y ∈ ks
  | k :: ks, x, y, h => by
    simp only [dropKs] at h
    split at h
    · exact List.mem_cons_of_mem _ h
    · rcases List.mem_cons.mp h with rfl | h
      · exact List.mem_cons_self
      · exact List.mem_cons_of_mem _ (dropKs_sub h)
theorem dropKs_nodup : ∀ {ks : List DK} {x : DK}, ks.Nodup → (dropKs ks x).Nodup
  | [], _, _ => by simp [dropKs]
  | k :: ks, x, h => by
    have h' := List.nodup_cons.mp h
    simp only [dropKs]
    split
    · exact h'.2
    · exact List.nodup_cons.mpr ⟨fun z => h'.1 (dropKs_sub z), dropKs_nodup h'.2⟩
end
section
variable {X : Cx} {W : Wd} {o : Orc} {p apos cpos pos pos' : Pos}
theorem ds_pop1 {i j : Nat} {x y : Str} {e : Expr} {te : T} (hN : X.N.Nodup) (hj : X.N[j]? = some y) (hy : Loc X.env.scope y) (hf : X.fn y = true ∨ X.env.scope.names.lookup y = some .local)
    (hv : PE X (.Name x p) (tVar i)) (he : PE X e (tD X W true fun δ => ev o δ true te)) (m : L2.M1 X (.Name x p) "pop" apos e cpos)
    (hs : swapsWith (.Call (.Attribute (.Name x p) "pop" apos) [e] [] cpos) (some (.Name y pos')) pos.line X.env = pure false) :
    PS X (.Assign [.Name y pos'] (.Call (.Attribute (.Name x p) "pop" apos) [e] [] cpos) pos) (tS X W (evS o (.pop1 (some j) i te))) := by
  refine PS.imp (ps_set hN hj hy (pe_popE hv he m) hs hf) fun En σ H ⟨me, B, δ, S, h⟩ => ?_
  simp only [evS] at h
  obtain ⟨r, e2, h⟩ := SO.of_ok h
  obtain ⟨q, e4, h⟩ := orStuck_ok h
  cases e5 : ownD δ i with
  | none => rw [e5] at e4; cases e4
  | some c =>
  obtain ⟨w, d⟩ := c
  rw [e5] at e4
  simp only [Option.bind_some] at e4
  cases d with
  | dct ks vs =>
    simp only at e4
    cases e7 : keyOf r.2 with
    | none => rw [e7] at e4; cases e4
    | some kx =>
    rw [e7] at e4
    simp only [Option.bind_some] at e4
    cases e8 : look ks vs kx with
    | none => rw [e8] at e4; cases e4
    | some dv =>
    rw [e8] at e4
    simp only [Option.bind_some] at e4
    split at e4
    · cases e4
    · rename_i hij
      cases e9 : setSlot (δ.set i (some (w, .dct (dropKs ks kx) (dropV ks vs kx)))) j false dv with
      | none => rw [e9] at e4; cases e4
      | some δ' =>
      rw [e9] at e4
      cases e4
      obtain ⟨hjl, rfl⟩ := setSlot_ok e9
      obtain ⟨_, _, ad, o3, ⟨kvs0, ⟨ep0, q0⟩, _⟩, _⟩ := S.own e5
      refine ⟨_, o3, ad, rfl, .inl ⟨kvs0, ep0, .inl q0⟩, tD_iff.mpr ⟨me, B, δ, S, ?_⟩⟩
      rw [e2]
      intro v H1 s1 q1
      have S1 := S.mono s1
      obtain ⟨o1, o2, ad', o3', ⟨kvs, ⟨ep, k1⟩, k2, k3, k4⟩, o5, o6⟩ := S1.own e5
      rw [o3] at o3'; cases o3'
      obtain ⟨u, hu, ru⟩ := look_val k2 k4 e8
      refine ⟨kvs, keyV kx, u, ep, k1, key_rep e7 q1.look, hu, fun ep' => ?_⟩
      obtain ⟨p1, p2⟩ := drop_both (x := kx) k2 k3.1 k4
      obtain ⟨S3, s3⟩ := S1.write (u := .dK (dropK kvs (keyV kx)) ep') (d' := .dct (dropKs ks kx) (dropV ks vs kx)) o1 o2 o3 o5 o6 ⟨_, ⟨ep', upd_same⟩, p1, ⟨dropKs_nodup k3.1, fun z hz => k3.2 z (dropKs_sub hz)⟩, p2⟩
      obtain ⟨S4, s4⟩ := S3.store (w := false) (d := dv) (v := u) (Same.refl _) (.shared (ru.mono s3)) hjl
      exact h _ _ S4 (((vis_mono s1).trans s3).trans s4)
  | _ => cases e4
end
end Z

namespace Z
open PySem PySem.Spec PyProof.Rows L2
section
variable {X : Cx} {W : Wd} {lk lk' : Bool} {σ : L2.St} {H H1 H' : Hp} {me : Option Addr} {B : Addr → Prop} {δ : Dst} {Q Q' : VK} {a b c : Expr} {pos p pos' apos cpos : Pos} {o : Orc} {fa fb fc : Dst → R (Bool × D)}
theorem bools_reps {G : Hp} : ∀ {l : List D} {x : List Bool} {vs : List V}, boolsOf l = some x → Reps W G l vs → vs = x.map V.bl
  | [], x, vs, h, r => by
    simp only [boolsOf, Option.some.injEq] at h
    subst h
    cases vs with
    | nil => rfl
    | cons _ _ => simp only [Reps] at r
  | d :: l, x, [], h, r => by simp only [Reps] at r
  | d :: l, x, v :: vs, h, r => by
    cases d with
    | bl y =>
      simp only [boolsOf] at h
      cases e : boolsOf l with
      | none => rw [e] at h; cases h
      | some x' =>
        rw [e] at h
        cases h
        simp only [Reps, Rep] at r
        rw [r.1, bools_reps e r.2]
        rfl
    | _ => simp [boolsOf] at h
theorem sem_all (hk : W.K = X.K) : Sem1 W (fun xs H Q => ∃ (c : Addr) (bs : List Bool), xs = [.ref c] ∧ SqL X.K H c (bs.map V.bl) ∧ Q (.bl (bs.all id)) H) (b1D .all) := by
  intro lk P H x dx Q w d hS hK hx e k
  cases dx <;> first | exact nope e | exact nopeR e | simp only [b1D] at e
  rename_i l
  cases e1 : boolsOf l with
  | none => rw [e1] at e; cases e
  | some bs =>
    rw [e1] at e
    cases e
    obtain ⟨c, vs, rfl, q1, q2⟩ := hx
    have := bools_reps e1 q2
    subst this
    exact ⟨c, bs, rfl, hk ▸ q1, k _ H (Same.refl H) res_bl⟩
theorem sem_tuple (hk : W.K = X.K) : Sem1 W (fun xs H Q => ∃ p ys, xs = [.ref p] ∧ ((SqL X.K H p ys ∧ ∀ l, H l = none → Q (.ref l) (upd H l (.tup ys))) ∨ (SqT X.K H p ys ∧ Q (.ref p) H))) (b1D .tuple) := by
  intro lk P H x dx Q w d hS hK hx e k
  cases dx <;> first | exact nope e | exact nopeR e | simp only [b1D] at e
  · cases e
    have hx' := hx
    simp only [RepT, Rep] at hx
    obtain ⟨c, vs, rfl, q1, q2⟩ := hx
    exact ⟨c, vs, rfl, .inr ⟨hk ▸ same_tup vis_le q1, k _ H (Same.refl H) (.shared hx')⟩⟩
  · cases e
    obtain ⟨c, vs, rfl, q1, q2⟩ := hx
    exact ⟨c, vs, rfl, .inl ⟨hk ▸ q1, fun l hl => k _ _ (Same.upd hl) (res_newT hl q2 hK)⟩⟩
theorem res_newD {P : Addr → Prop} {q : Addr} {ks : List DK} {vs : List D} {kvs : List (Key × V)} {ep : Nat} (hn : H q = none) (h1 : kvs.map (·.1) = ks.map keyV) (h2 : KsOk ks) (h : Reps W (vis H P) vs (kvs.map (·.2))) : Res W P lk H (upd H q (.dK kvs ep)) true (.dct ks vs) (.ref q) := by
  unfold Res
  rw [if_pos rfl]
  refine ⟨q, rfl, hn, kvs, ⟨ep, upd_same⟩, h1, h2, h.mono fun b o e => ?_⟩
  obtain ⟨e1, e2⟩ := vis_some e
  have hb : b ≠ q := ne_of_none e1 hn
  refine vis_of (by rw [upd_ne hb]; exact e1) fun z => ?_
  rcases z with z | z
  · exact e2 z
  · exact hb z
end
end Z

namespace Z
open PySem PySem.Spec PyProof.Rows L2
section
variable {X : Cx} {W : Wd} {lk lk' : Bool} {σ : L2.St} {H H1 H' : Hp} {me : Option Addr} {B : Addr → Prop} {δ : Dst} {Q Q' : VK} {a b c : Expr} {pos p pos' apos cpos px spos : Pos} {o : Orc}
theorem d_dnew0 : PE X (.Dict [] [] pos) (tD X W lk fun δ => ev o δ lk (.dnew [] .nil)) := by
  refine PE.imp pe_dnewK fun σ H Q h => ?_
  obtain ⟨me, B, δ, S, h⟩ := tD_iff.mp h
  simp only [ev, evL, R.bind] at h
  obtain ⟨_, h⟩ := after_chk h
  intro q ep hq
  exact h _ _ (Same.upd hq) (res_newD hq rfl ⟨List.nodup_nil, fun x hx => by simp at hx⟩ (by simp only [List.map_nil, Reps]))
noncomputable def Itd (a : Addr) (kvs : List (Key × V)) (ep : Nat) : It := ⟨fun i H => H a = some (.dK kvs ep) ∧ i < kvs.length, fun i H x H' => H' = H ∧ ∃ p, kvs[i]? = some p ∧ x = kV p.1, fun i H => H a = some (.dK kvs ep) ∧ kvs.length ≤ i⟩
theorem is_kV {P : Program} {w : World} {k : Key} {u : Value} (h : (mixKind P w).is k u = true) : RelV (kV k) u := by
  rcases keyIs_shape (show keyIs k u = true from h) with ⟨i, t, rfl, rfl⟩ | ⟨x, t, rfl, rfl⟩
  · exact ⟨t, rfl⟩
  · exact ⟨t, rfl⟩
theorem turn_dict {P : Program} {w : World} {K : PySem.W.Frag} {tg : Expr} (a it : Addr) (kvs : List (Key × V)) (ep : Nat) : Turn P w K tg (Itd a kvs ep) [it] it (fun i h => h.IsKeyIter it a i kvs.length ep) where
  mem := by simp
  obj := fun i h st b hb => by
    have e : b = it := by simpa using hb
    subst e
    obtain ⟨o, e, c, d⟩ := st
    exact ⟨o, e, fun v z => by rw [d] at z; cases z⟩
  keep := fun i h h' st k => st.at fun o e => k it (by simp) o e
  item := by
    intro X hP hw hK hc i pins s σ H E I hf st hg
    subst hP hw hK
    obtain ⟨hq, hi⟩ := hg
    obtain ⟨_, lo, vs, rel, dd⟩ := (show ObjOk X.prog X.w H s.heap a (.dK kvs ep) from I.hok a _ hq)
    obtain ⟨f0, f1, f2, f3, f4, f5⟩ := hf it (by simp)
    have hl : kvs.length = vs.length := rel.length
    have hx : vs[i]? = some (vs[i]'(by omega)) := by simp
    have hkeys := rel.keys
    rw [hl] at st ⊢
    refine wpAny_pyNext_dict_item st dd (k := (vs[i]'(by omega)).1) (v := (vs[i]'(by omega)).2) hx fun key h' hkey st' sb => ?_
    have I1 : Inv X pins σ H { s with heap := h' } := I.turned (t' := s.toks) (fun b o hb e => (sb.2 b hb).trans e) f0 f1 f3 f4 f5
    obtain ⟨o, e, c, d⟩ := id st'
    have ek : (kvs[i]).1 = (vs[i]'(by omega)).1 := by
      have := congrArg (fun l => l[i]?) hkeys
      simpa [hi, show i < vs.length by omega] using this
    exact ⟨key, rfl, go_of (s := { s with heap := h' }) e c d (by decide) ⟨kV (kvs[i]).1, H, I1, by rw [ek]; exact is_kV hkey, ⟨rfl, kvs[i], by simp, rfl⟩, st', fun b hb => (hf b hb).1⟩⟩
  done := by
    intro X hP hw hK hc i pins s σ H E I hf st hg
    subst hP hw hK
    obtain ⟨hq, hi⟩ := hg
    obtain ⟨_, lo, vs, rel, dd⟩ := (show ObjOk X.prog X.w H s.heap a (.dK kvs ep) from I.hok a _ hq)
    obtain ⟨f0, f1, f2, f3, f4, f5⟩ := hf it (by simp)
    have hl : kvs.length = vs.length := rel.length
    rw [hl] at st
    exact wpAny_pyNext_dict_end (I.ok.hd hc) st dd (by simp; omega) fun h' eb => ⟨rfl, I.turned (t' := s.toks) (fun b o hb e => eb b o hb e) f0 f1 f3 f4 f5⟩
  self := fun _ _ _ _ _ st h => wpAny_pyIter_keyiter st h
noncomputable def iDct (tl : TE) : L2.TI := fun σ H R => tl σ H fun x H1 => ∃ a kvs ep, x = .ref a ∧ H1 a = some (.dK kvs ep) ∧ R (Itd a kvs ep) H1
theorem pi_dict {tg l : Expr} {tl : TE} (hl : PE X l tl) : PI X tg l (iDct tl) := by
  intro pins s σ H R I h
  refine thn (hl pins s σ H _ I h) fun v s1 ⟨x, H1, I1, r1, q1⟩ => ?_
  obtain ⟨a, kvs, ep, e, hq, q⟩ := q1
  subst e
  cases r1
  obtain ⟨_, lo, vs, rel, dd⟩ := (show ObjOk X.prog X.w H1 s1.heap a (.dK kvs ep) from I1.hok a _ hq)
  have hlen : kvs.length = vs.length := rel.length
  refine wpAny_pyIter_dict lo dd ?_
  refine ⟨s1.heap.objs.size, [s1.heap.objs.size], _, _, H1, rfl, I1.kept (t' := s1.toks) fun b o e => Heap.get?_push_of_some _ e, turn_dict a _ kvs ep, ⟨_, Heap.get?_push_size _ rfl, rfl, by rw [hlen]; rfl⟩, fun b hb => ?_, q⟩
  have e : b = s1.heap.objs.size := by simpa using hb
  subst e
  exact I1.fpOk (Nat.le_refl _) (I1.hok.fresh (Nat.le_refl _))
theorem yields_dict {H2 : Hp} {a : Addr} {kvs : List (Key × V)} {ep : Nat} (h : H2 a = some (.dK kvs ep)) : Yields (Itd a kvs ep) H2 (kvs.map fun p => kV p.1) where
  go := fun i H' s hi => ⟨s _ _ h, by simpa using hi⟩
  yld := fun i H' x H'' s _ ⟨e, p, e1, e2⟩ => ⟨e, by rw [List.getElem?_map, e1, e2]; rfl⟩
  stop := fun H' s => ⟨s _ _ h, by simp⟩
theorem reps_keys {G : Hp} : ∀ {ks : List DK} {kvs : List (Key × V)}, kvs.map (·.1) = ks.map keyV → (∀ x, DK.s x ∈ ks → x.length ≤ 16777216) → Reps W G (ks.map keyD) (kvs.map fun p => kV p.1)
  | [], [], _, _ => by simp only [List.map_nil, Reps]
  | [], _ :: _, e, _ => by simp at e
  | _ :: _, [], e, _ => by simp at e
  | k :: ks, p :: kvs, e, h => by
    simp only [List.map_cons, List.cons.injEq] at e
    simp only [List.map_cons, Reps]
    refine ⟨?_, reps_keys e.2 fun x hx => h x (List.mem_cons_of_mem _ hx)⟩
    rw [e.1]
    cases k with
    | i n => simp only [keyD, keyV, kV, Rep]
    | s x => simp only [keyD, keyV, kV, Rep]; exact ⟨trivial, h x List.mem_cons_self⟩
noncomputable def Itx (x : Str) : It := ⟨fun i _ => i < x.cps.size, fun i H v H' => H' = H ∧ ∃ c, x.cps[i]? = some c ∧ v = .str ⟨#[c]⟩, fun i _ => x.cps.size ≤ i⟩
theorem next_str {P : Program} {w : World} {A : Around} {E : Value → Shared → Prop} {s : Shared} {it : Addr} {x : Str} {t : Tok} {i c : Nat} {Q : Option Value → Shared → Prop} (hit : s.heap.IsStrIter it (strIterType x) x t i) (hx : x.cps[i]? = some c)
    (hQ : ∀ h', h'.IsStrIter it (strIterType x) x t (i + 1) → Heap.SameBut it s.heap h' → Q (some (.str ⟨#[c]⟩ s.toks)) { s with heap := h', toks := s.toks + 1 }) : wpAny (model P w) A (pyNext (.ref it)) Q E s := by
  unfold strIterType at hit hQ
  split at hit
  · exact wpAny_pyNext_ascii_item hit hx (by simpa only [*, if_true] using hQ)
  · exact wpAny_pyNext_wide_item hit hx (by simpa only [*, if_false, Bool.false_eq_true] using hQ)
theorem end_str {P : Program} {w : World} {A : Around} {E : Value → Shared → Prop} {s : Shared} {it : Addr} {x : Str} {t : Tok} {i : Nat} {Q : Option Value → Shared → Prop} (hh : A.handled = none) (hit : s.heap.IsStrIter it (strIterType x) x t i) (hx : x.cps[i]? = none)
    (hQ : ∀ h', Heap.ExtBut it s.heap h' → Q none { s with heap := h' }) : wpAny (model P w) A (pyNext (.ref it)) Q E s := by
  unfold strIterType at hit
  split at hit
  · exact wpAny_pyNext_ascii_end hh hit hx hQ
  · exact wpAny_pyNext_wide_end hh hit hx hQ
theorem turn_str {P : Program} {w : World} {K : PySem.W.Frag} {tg : Expr} (it : Addr) (x : Str) (t : Tok) : Turn P w K tg (Itx x) [it] it (fun i h => h.IsStrIter it (strIterType x) x t i) where
  mem := by simp
  obj := fun i h st b hb => by
    have e : b = it := by simpa using hb
    subst e
    obtain ⟨o, e, c, d⟩ := st
    exact ⟨o, e, fun v z => by rw [d] at z; cases z⟩
  keep := fun i h h' st k => by
    obtain ⟨o, e, r⟩ := st
    exact ⟨o, k it (by simp) o e, r⟩
  item := by
    intro X hP hw hK hc i pins s σ H E I hf st hg
    subst hP hw hK
    have hg : i < x.cps.size := hg
    obtain ⟨f0, f1, f2, f3, f4, f5⟩ := hf it (by simp)
    have hx : x.cps[i]? = some x.cps[i] := by simp [hg]
    refine next_str st hx fun h' st' sb => ?_
    have I1 : Inv X pins σ H { s with heap := h', toks := s.toks + 1 } := I.turned (t' := s.toks + 1) (fun b o hb e => (sb.2 b hb).trans e) f0 f1 f3 f4 f5
    obtain ⟨o, e, c, d⟩ := id st'
    have hn : ["enumerate", "zip", "dict_itemiterator", "dict_reverseitemiterator", "odict_iterator", "itertools.zip_longest", "itertools.pairwise"].contains (strIterType x) = false := by unfold strIterType; split <;> decide
    exact ⟨_, rfl, go_of (s := { s with heap := h', toks := s.toks + 1 }) e c d hn ⟨.str ⟨#[x.cps[i]]⟩, H, I1, ⟨_, rfl⟩, ⟨rfl, _, hx, rfl⟩, st', fun b hb => (hf b hb).1⟩⟩
  done := by
    intro X hP hw hK hc i pins s σ H E I hf st hg
    subst hP hw hK
    have hg : x.cps.size ≤ i := hg
    obtain ⟨f0, f1, f2, f3, f4, f5⟩ := hf it (by simp)
    exact end_str (I.ok.hd hc) st (by simp; omega) fun h' eb => ⟨rfl, I.turned (t' := s.toks) (fun b o hb e => eb b o hb e) f0 f1 f3 f4 f5⟩
  self := fun _ _ _ _ _ st h => by
    unfold strIterType at st
    split at st
    · exact wpAny_pyIter_striter_ascii st h
    · exact wpAny_pyIter_striter_wide st h
noncomputable def iStr (tl : TE) : L2.TI := fun σ H R => tl σ H fun x H1 => ∃ y, x = .str y ∧ R (Itx y) H1
theorem pi_str {tg l : Expr} {tl : TE} (hl : PE X l tl) : PI X tg l (iStr tl) := by
  intro pins s σ H R I h
  refine thn (hl pins s σ H _ I h) fun v s1 ⟨x, H1, I1, r1, q1⟩ => ?_
  obtain ⟨y, e, q⟩ := q1
  subst e
  obtain ⟨t, rfl⟩ := r1
  refine wpAny_pyIter_strU ?_
  refine ⟨s1.heap.objs.size, [s1.heap.objs.size], _, _, H1, rfl, I1.kept (t' := s1.toks) fun b o e => Heap.get?_push_of_some _ e, turn_str _ y t, ⟨_, Heap.get?_push_size _ rfl, rfl, rfl⟩, fun b hb => ?_, q⟩
  have e : b = s1.heap.objs.size := by simpa using hb
  subst e
  exact I1.fpOk (Nat.le_refl _) (I1.hok.fresh (Nat.le_refl _))
theorem yields_str {H2 : Hp} (x : List Nat) : Yields (Itx (strV x)) H2 (x.map fun c => .str (strV [c])) where
  go := fun i H' s hi => by
    show i < (strV x).cps.size
    simpa [strV] using hi
  yld := fun i H' v H'' s _ ⟨e, c, e1, e2⟩ => ⟨e, by
    have e3 : x[i]? = some c := by simpa [strV] using e1
    rw [List.getElem?_map, e3, e2]; rfl⟩
  stop := fun H' s => by
    show (strV x).cps.size ≤ _
    simp [strV]
theorem reps_signs {G : Hp} : ∀ (x : List Nat), Reps W G (x.map fun c => D.str [c]) (x.map fun c => .str (strV [c]))
  | [] => by simp only [List.map_nil, Reps]
  | c :: x => by
    simp only [List.map_cons, Reps]
    refine ⟨?_, reps_signs x⟩
    simp only [Rep]
    exact ⟨trivial, by simp⟩
noncomputable def WalkR (X : Cx) (W : Wd) (o : Orc) (it : TI) (wi : L2.TI) : Prop := ∀ σ H (K : It → Hp → Prop), (∃ me B δ l, SR X W me B H σ δ ∧ evI o δ true it = .ok l ∧ ∀ J H2, Same H H2 → Ylds W J H2 (vis H2 (Hid B σ δ)) l → K J H2) → wi σ H K
section
variable {scope : Scope} {N : List Str} {elt tg iter : Expr} {ifs : List Expr} {m : Nat} {caps : List Nat} {tup : Bool} {g : TG} {it : TI} {tc te : T}
structure CompIn (X : Cx) (W : Wd) (o : Orc) (scope : Scope) (N : List Str) (elt tg iter : Expr) (ifs : List Expr) (m : Nat) (caps : List Nat) (tup : Bool) (g : TG) (it : TI) (tc te : T) : Prop where
  hk : W.K = X.K
  hx : X.xe = Never
  hc : X.calm = true
  B : Blk scope
  C : Caps X scope N m caps
  hm : tup = false → m = 1
  hi : ∃ wi, PI X tg iter wi ∧ WalkR X W o it wi
  hg : ∀ fp pins s H, PG (cxC X scope N fp pins s H) tg g
  hr : ∀ H0, TgR { X with H₀ := H0 } W (List.range m) tup g
  ht : ∀ fp pins s H, PIf (cxC X scope N fp pins s H) ifs (tT (cxC X scope N fp pins s H) W fun δ => ev o δ true tc)
  he : ∀ fp pins s H, PE (cxC X scope N fp pins s H) elt (tD (cxC X scope N fp pins s H) W false fun δ => ev o δ false te)
  hs : ∀ x, foldedSetIterable iter X.env x = pure x
theorem PIf.imp {t t' : TT} {ifs : List Expr} (h : PIf X ifs t) (i : ∀ σ H Q, t' σ H Q → t σ H Q) : PIf X ifs t' := fun pins s σ H Q I hw => h pins s σ H Q I (i σ H Q hw)
theorem d_comp (A : CompIn X W o scope N elt tg iter ifs m caps tup g it tc te) : PE X (.ListComp elt [⟨tg, iter, ifs, 0⟩] scope pos) (tD X W lk fun δ => ev o δ lk (.comp caps m tup it tc te)) := by
  obtain ⟨wi, h1, h2⟩ := A.hi
  refine PE.imp (pe_comp (tc := fun H0 => tT { X with H₀ := H0 } W fun δ => ev o δ true tc) (te := fun H0 => tD { X with H₀ := H0 } W false fun δ => ev o δ false te) A.hx A.hc A.B A.C h1 A.hg (fun fp pins s H => PIf.imp (A.ht fp pins s H) fun σ H' Q h => tT.cx (X := { X with H₀ := H }) rfl rfl h) (fun fp pins s H => PE.imp (A.he fp pins s H) fun σ H' Q h => tD.cx (X := { X with H₀ := H }) rfl rfl h) A.hs) fun σ H Q h => ?_
  exact comp_read A.hk A.hm h2 A.hr h
theorem d_setC {i : Nat} {x : Str} {bsw : Bool} (A : CompIn X W o scope N elt tg iter ifs m caps tup g it tc te) (hN : X.N.Nodup) (hi : X.N[i]? = some x) (hx : Loc X.env.scope x) (hf : X.fn x = true ∨ X.env.scope.names.lookup x = some .local)
    (hb : bsw = true → X.env.scope.names.lookup x = some .local) (hsw : swapsWith (.ListComp elt [⟨tg, iter, ifs, 0⟩] scope pos) (some (.Name x px)) spos.line X.env = pure bsw) :
    PS X (.Assign [.Name x px] (.ListComp elt [⟨tg, iter, ifs, 0⟩] scope pos) spos) (tS X W (evS o (.set i (.comp caps m tup it tc te)))) := by
  cases bsw with
  | false => exact d_set hN hi hx (d_comp A) hsw hf
  | true =>
    obtain ⟨wi, h1, h2⟩ := A.hi
    refine PS.imp (ps_compSet (tc := fun H0 => tT { X with H₀ := H0 } W fun δ => ev o δ true tc) (te := fun H0 => tD { X with H₀ := H0 } W false fun δ => ev o δ false te) A.hx A.hc A.B A.C h1 A.hg (fun fp pins s H => PIf.imp (A.ht fp pins s H) fun σ H' Q h => tT.cx (X := { X with H₀ := H }) rfl rfl h) (fun fp pins s H => PE.imp (A.he fp pins s H) fun σ H' Q h => tD.cx (X := { X with H₀ := H }) rfl rfl h) A.hs hN hi (hb rfl) hsw) fun D σ H ⟨me, B, δ, S, h⟩ => ?_
    refine comp_read (lk := false) A.hk A.hm h2 A.hr ?_
    simp only [evS] at h
    obtain ⟨S1, e1⟩ := S.evF o (.comp caps m tup it tc te)
    obtain ⟨r, e2, h⟩ := SO.of_ok h
    obtain ⟨q, e3, h⟩ := orStuck_ok h
    cases e4 : setSlot (evF o δ (.comp caps m tup it tc te)).1 i r.1 r.2 with
    | none => rw [e4] at e3; cases e3
    | some δ' =>
      rw [e4] at e3
      cases e3
      obtain ⟨h1, rfl⟩ := setSlot_ok e4
      refine tD_iff.mpr ⟨me, B, _, S1, ?_⟩
      rw [← e1, e2]
      intro v H' s q
      obtain ⟨S2, s2⟩ := S1.store s q h1
      exact h _ _ S2 ((vis_sub (evF_sub o (.comp caps m tup it tc te))).trans s2)
end
end
end Z

namespace Z
open PySem PySem.Spec PyProof.Rows L2
section
variable {prog : Program} {w : World} {A : Around} {E : Value → Shared → Prop} {s : Shared}
end
end Z

namespace Z
open PySem PySem.Spec PyProof.Rows L2
section
variable {X : Cx} {pins : List (Addr × Obj)} {σ : L2.St} {H : Hp} {s : Shared} {h' : Heap} {fp : List Addr}
end
section
variable {X : Cx} {elts : List Expr} {x1 : Nat} {tpos p cpos : Pos}
end
end Z

namespace Z
open PySem PySem.Spec PyProof.Rows L2
open AutoSeq1 (wpAny_loadPart')
section
variable {prog : Program} {w : World} {A : Around} {E : Value → Shared → Prop} {s : Shared} {K : Type} [DecidableEq K] {knd : KeyKind prog w K}
end
section
variable {X : Cx} {elts : List Expr} {x1 : Nat} {tpos p cpos : Pos} {tg : Expr}
end
end Z

namespace Z
open PySem PySem.Spec PyProof.Rows L2
section
variable {X : Cx} {W : Wd} {lk : Bool} {σ : L2.St} {H H1 H' : Hp} {me : Option Addr} {B : Addr → Prop} {δ : Dst} {o : Orc} {p cpos pos tpos : Pos} {tg : Expr}
noncomputable def top (lk : Bool) (H2 : Hp) (P : Addr → Prop) : Hp := if lk = true then H2 else vis H2 P
noncomputable def WalkL (X : Cx) (W : Wd) (o : Orc) (lk : Bool) (it : TI) (wi : L2.TI) : Prop := ∀ σ H (K : It → Hp → Prop), (∃ me B δ l, SR X W me B H σ δ ∧ evI o δ lk it = .ok l ∧ ∀ J H2, Same H H2 → Ylds W J (top lk H2 (Hid B σ δ)) (vis H2 (Hid B σ δ)) l → K J H2) → wi σ H K
theorem WalkL.comp {it : TI} {wi : L2.TI} (h : WalkL X W o true it wi) : WalkR X W o it wi := fun σ H K ⟨me, B, δ, l, S, e, k⟩ => h σ H K ⟨me, B, δ, l, S, e, fun J H2 s y => k J H2 s (by simpa [top] using y)⟩
theorem top_le {H2 : Hp} {P : Addr → Prop} : Same (top lk H2 P) H2 := by
  unfold top; split
  · exact Same.refl _
  · exact vis_le
theorem res_lst {H' : Hp} {P : Addr → Prop} {w : Bool} {l : List D} {v : V} (h : Res W P lk H H' w (.lst l) v) (hp : ∀ a, P a → ∃ u, H a = some u) : ∃ a xs, v = .ref a ∧ SqL W.K (top lk H' P) a xs ∧ Reps W (vis H' P) l xs := by
  cases lk with
  | true =>
    obtain ⟨a, xs, rfl, q1, q2⟩ := h.look
    exact ⟨a, xs, rfl, by simpa [top] using q1, q2⟩
  | false =>
    have := h.keep hp
    simp only [Rep] at this
    obtain ⟨a, xs, rfl, q1, q2⟩ := this
    exact ⟨a, xs, rfl, by simpa [top] using q1, q2⟩
theorem res_dct {H' : Hp} {P : Addr → Prop} {w : Bool} {ks : List DK} {vs : List D} {v : V} (h : Res W P lk H H' w (.dct ks vs) v) (hp : ∀ a, P a → ∃ u, H a = some u) : ∃ a kvs ep, v = .ref a ∧ top lk H' P a = some (.dK kvs ep) ∧ Reps W (vis H' P) (ks.map keyD) (kvs.map fun p => kV p.1) := by
  cases lk with
  | true =>
    obtain ⟨a, kvs, rfl, ⟨ep, q1⟩, q2, q3, q4⟩ := h.look
    exact ⟨a, kvs, ep, rfl, by simpa [top] using q1, reps_keys q2 q3.2⟩
  | false =>
    have := h.keep hp
    simp only [Rep] at this
    obtain ⟨a, kvs, rfl, ⟨ep, q1⟩, q2, q3, q4⟩ := this
    exact ⟨a, kvs, ep, rfl, by simpa [top] using q1, reps_keys q2 q3.2⟩
theorem res_tup {H' : Hp} {P : Addr → Prop} {w : Bool} {l : List D} {v : V} (h : Res W P lk H H' w (.tup l) v) : ∃ a xs, v = .ref a ∧ SqT W.K (vis H' P) a xs ∧ Reps W (vis H' P) l xs := by
  have := h.look
  simp only [RepT, Rep] at this
  exact this
theorem tup_top {K : PySem.W.Frag} {H2 : Hp} {P : Addr → Prop} {a : Addr} {xs : List V} (h : SqT K (vis H2 P) a xs) : SqT K (top lk H2 P) a xs := by
  unfold top; split
  · exact same_tup vis_le h
  · exact h
theorem w_val {iter : Expr} {t : T} (hk : W.K = X.K) (he : PE X iter (tD X W lk fun δ => ev o δ lk t)) : ∃ wi, PI X tg iter wi ∧ WalkL X W o lk (.val t) wi := by
  refine ⟨_, PI.or (PI.or (PI.or (pi_list he) (pi_tup he)) (pi_dict he)) (pi_str he), fun σ H K ⟨me, B, δ, l, S, e, k⟩ => ?_⟩
  simp only [evI] at e
  cases e1 : ev o δ lk t with
  | exc c => rw [e1] at e; cases e
  | stuck => rw [e1] at e; cases e
  | ok r =>
  rw [e1] at e
  simp only [R.bind] at e
  cases e2 : r.2 with
  | lst l' =>
    rw [e2] at e
    cases e
    refine .inl (.inl (.inl (tD_iff.mpr ⟨me, B, δ, S, ?_⟩)))
    rw [e1]
    intro v H1 s q
    rw [e2] at q
    obtain ⟨c, xs, rfl, q1, q2⟩ := res_lst q S.know
    exact ⟨c, rfl, ⟨xs, hk ▸ top_le.seq q1⟩, k _ _ s (.of (yields_list (hk ▸ q1)) q2)⟩
  | tup l' =>
    rw [e2] at e
    cases e
    refine .inl (.inl (.inr (tD_iff.mpr ⟨me, B, δ, S, ?_⟩)))
    rw [e1]
    intro v H1 s q
    rw [e2] at q
    obtain ⟨c, xs, rfl, q1, q2⟩ := res_tup q
    exact ⟨c, rfl, ⟨xs, hk ▸ same_tup vis_le q1⟩, k _ _ s (.of (yields_tup (hk ▸ tup_top q1)) q2)⟩
  | dct ks vs =>
    rw [e2] at e
    cases e
    refine .inl (.inr (tD_iff.mpr ⟨me, B, δ, S, ?_⟩))
    rw [e1]
    intro v H1 s q
    rw [e2] at q
    obtain ⟨c, kvs, ep, rfl, q1, q2⟩ := res_dct q S.know
    exact ⟨c, kvs, ep, rfl, top_le _ _ q1, k _ _ s (.of (yields_dict q1) q2)⟩
  | str x =>
    rw [e2] at e
    cases e
    refine .inr (tD_iff.mpr ⟨me, B, δ, S, ?_⟩)
    rw [e1]
    intro v H1 s q
    have q := q.look
    rw [e2] at q
    simp only [RepT, Rep] at q
    obtain ⟨rfl, q1⟩ := q
    exact ⟨_, rfl, k _ _ s (.of (yields_str x) (reps_signs x))⟩
  | _ => rw [e2] at e; cases e
theorem w_rng1 {e1 : Expr} {t : T} (hgl : Gl X "range") (hm : X.mg "range" = none) (h1 : PE X e1 (tD X W true fun δ => ev o δ true t)) (hst : isStar1 e1 = false) : ∃ wi, PI X tg (.Call (.Name "range" p) [e1] [] cpos) wi ∧ WalkL X W o lk (.rng1 t) wi := by
  refine ⟨_, pi_range1 hgl hm (pa_cons h1 pa_nil (star1 hst)) (star1 hst), fun σ H K ⟨me, B, δ, l, S, e, k⟩ => ?_⟩
  simp only [evI] at e
  refine tD_iff.mpr ⟨me, B, δ, S, ?_⟩
  cases e3 : ev o δ true t with
  | ok r =>
    rw [e3] at e
    simp only [R.bind] at e
    cases e4 : r.2 with
    | int n =>
      rw [e4] at e
      obtain ⟨hc1, e⟩ := chk_ok e
      cases e
      intro v H1 s1 q1
      have q1 := q1.look
      rw [e4] at q1
      have hn := inR_ok hc1
      have := repT_int q1
      subst this
      refine ⟨n, rfl, by omega, by omega, k _ _ s1 (.of (yields_range 0 n.toNat) ?_)⟩
      have e5 : rngD 0 n = (List.range n.toNat).map fun (k : Nat) => D.int (0 + (k : Int)) := by unfold rngD; rw [Int.sub_zero]
      rw [e5]
      exact rng_reps 0 n.toNat
    | _ => rw [e4] at e; cases e
  | exc c => rw [e3] at e; cases e
  | stuck => rw [e3] at e; cases e
theorem for_walk {is : List Nat} {tup : Bool} {g : TG} (hg : TgOk X W tg is tup g) {sb : SL} {En : Ends} {l : List D} {J : It} (S : SR X W me B H σ δ) (Y : Ylds W J (vis H (Hid B σ δ)) (vis H (Hid B σ δ)) l)
    (h : AfterS X W me B (vis H (Hid B σ δ)) (forGo (evSs o sb) is tup l δ) En) :
    ∃ Wv : Nat → Nat → L2.St → Hp → Prop, (∃ m, Wv 0 m σ H) ∧ ∀ i m σ H, Wv i m σ H →
      (J.stop i H ∧ En.nx σ H) ∨ (J.go i H ∧ ∃ N : L2.St → Hp → Prop, (∀ σ' H', N σ' H' → ∃ m', m' < m ∧ Wv (i + 1) m' σ' H') ∧ ∀ x H', J.yld i H x H' → g x σ H' fun σ2 H2 => tS X W (evSs o sb) { En with nx := N, ct := N, bk := En.nx } σ2 H2) := by
  let Pv : Nat → L2.St → Hp → Prop := fun i σ' H' => ∃ δ', SR X W me B H' σ' δ' ∧ Same (vis H (Hid B σ δ)) (vis H' (Hid B σ' δ')) ∧ AfterS X W me B (vis H' (Hid B σ' δ')) (forGo (evSs o sb) is tup (l.drop i) δ') En
  refine ⟨fun i m σ' H' => m = l.length - i ∧ i ≤ l.length ∧ Pv i σ' H', ⟨l.length, rfl, Nat.zero_le _, δ, S, Same.refl _, h⟩, ?_⟩
  rintro i m σ' H' ⟨rfl, hi, δ', S', s', h'⟩
  by_cases hlt : i < l.length
  · refine .inr ⟨Y.go i H' (s'.trans vis_le) hlt, Pv (i + 1), fun σ2 H2 q => ⟨l.length - (i + 1), by omega, rfl, hlt, q⟩, fun x H'' y => ?_⟩
    obtain ⟨d, ed⟩ : ∃ d, l[i]? = some d := ⟨_, List.getElem?_eq_getElem hlt⟩
    obtain ⟨sy, rd⟩ := (Y.yld i H' x H'' d (s'.trans vis_le) ed y).rep s' S'.know
    have hd : l.drop i = d :: l.drop (i + 1) := by
      obtain ⟨hi, e⟩ := List.getElem?_eq_some_iff.mp ed
      rw [List.drop_eq_getElem_cons hi, e]
    rw [hd] at h'
    simp only [forGo] at h'
    have S'' := S'.mono sy
    have sv : Same (vis H' (Hid B σ' δ')) (vis H'' (Hid B σ' δ')) := vis_mono sy
    replace h' := AfterS.mono h' sv
    cases e2 : takes is.length tup d with
    | none => simp only [e2] at h'; exact h'.elim
    | some ds =>
      simp only [e2] at h'
      cases e3 : setSlots δ' is ds with
      | none => simp only [e3] at h'; exact h'.elim
      | some δ1 =>
        simp only [e3] at h'
        refine hg.2 S'' rd e2 e3 fun σ1 S1 s1 => ⟨me, B, δ1, S1, ?_⟩
        have h' := AfterS.mono h' s1
        cases e4 : evSs o sb δ1 with
        | nx δ2 => rw [e4] at h'; exact fun σ2 H2 S2 s2 => ⟨δ2, S2, ((s'.trans sv).trans s1).trans s2, AfterS.mono h' s2⟩
        | ct δ2 => rw [e4] at h'; exact fun σ2 H2 S2 s2 => ⟨δ2, S2, ((s'.trans sv).trans s1).trans s2, AfterS.mono h' s2⟩
        | bk δ2 => rw [e4] at h'; exact h'
        | rt w d δ2 => rw [e4] at h'; exact h'
        | ex c δ2 => rw [e4] at h'; exact h'
        | stuck => rw [e4] at h'; exact h'.elim
  · have e : i = l.length := by omega
    subst e
    refine .inl ⟨Y.stop H' (s'.trans vis_le), ?_⟩
    rw [List.drop_length] at h'
    simp only [forGo, AfterS] at h'
    exact h' σ' H' S' (Same.refl _)
theorem share_it (S : SR X W me B H σ δ) (it : TI) : SR X W me B H σ (shareIt δ it) ∧ Same (vis H (Hid B σ δ)) (vis H (Hid B σ (shareIt δ it))) := by
  have one : ∀ i, SR X W me B H σ (Z.share1 δ i) ∧ Same (vis H (Hid B σ δ)) (vis H (Hid B σ (Z.share1 δ i))) := fun i => ⟨S.share1 i, vis_sub (share1_sub i)⟩
  unfold shareIt
  split
  · exact one _
  · exact one _
  · exact ⟨S, Same.refl _⟩
theorem ds_forW {iter : Expr} {body : List Stmt} {is : List Nat} {tup : Bool} {g : TG} {it : TI} {sb : SL} (hp : PassesOwn (model X.prog X.w) X.A X.env X.xe) (hc : X.calm = true) (hg : TgOk X W tg is tup g) (hi : ∃ wi, PI X tg iter wi ∧ WalkL X W o false it wi)
    (hb : PSs X body (tS X W (evSs o sb))) (hs : ∀ x, foldedSetIterable iter X.env x = pure x) : PS X (.For tg iter body [] pos) (tS X W (evS o (.for_ is tup it sb))) := by
  obtain ⟨wi, h1, h2⟩ := hi
  refine PS.imp (ps_for hp hc h1 hg.1 hb hs) fun En σ H ⟨me, B, δ, S, h⟩ => ?_
  simp only [evS] at h
  obtain ⟨S1, s1⟩ := share_it S it
  obtain ⟨l, e, h⟩ := SO.of_ok h
  refine h2 σ H _ ⟨me, B, _, l, S1, e, fun J H2 s y => ?_⟩
  have y' : Ylds W J (vis H2 (Hid B σ (shareIt δ it))) (vis H2 (Hid B σ (shareIt δ it))) l := by simpa [top] using y
  exact for_walk hg (S1.mono s) y' (AfterS.mono h (s1.trans (vis_mono s)))
end
end Z

namespace Z
open PySem PySem.Spec PyProof.Rows L2
section
variable {prog : Program} {w : World} {A : Around} {E : Value → Shared → Prop} {s : Shared} {R : Result → Shared → Prop}
end
section
variable {X : Cx} {W : Wd} {lk : Bool} {σ : L2.St} {H H1 H' : Hp} {me : Option Addr} {B : Addr → Prop} {δ : Dst} {o : Orc} {p cpos pos kp : Pos} {a b : Expr}
end
end Z

namespace Z
open PySem PySem.Spec PyProof.Rows L2
section
variable {prog : Program} {w : World} {A : Around} {E : Value → Shared → Prop} {s : Shared} {R : Result → Shared → Prop}
end
section
variable {X : Cx} {W : Wd} {lk : Bool} {σ : L2.St} {H H1 H' : Hp} {me : Option Addr} {B : Addr → Prop} {δ : Dst} {o : Orc} {p cpos pos kp : Pos} {a b : Expr}
theorem numText_eq (i : Int) : strV (numText i) = Str.ofString (toString i) := by
  rw [Str.ofString_eq_toList]
  unfold strV numText figs
  cases i with
  | ofNat n => simp [toString, Nat.repr, Int.repr]
  | negSucc n =>
    have h : Int.negSucc n < 0 := Int.negSucc_lt_zero n
    rw [if_pos h]
    simp [toString, Nat.repr, Int.repr]
theorem sem_intD : Sem1 W (fun xs H Q => (∃ i, xs = [.int i] ∧ Q (.int i) H) ∨ ∃ k, xs = [.bl k] ∧ Q (.int (if k then 1 else 0)) H) (b1D .int) := by
  intro lk P H x dx Q w d hS hK hx e k
  cases dx <;> simp only [b1D] at e <;> first | (cases e; done) | skip
  · rename_i b
    cases e
    simp only [RepT, Rep] at hx
    exact .inr ⟨b, by rw [hx], k _ H (Same.refl H) (.shared (by simp only [Rep]))⟩
  · rename_i i
    cases e
    exact .inl ⟨i, by rw [repT_int hx], k _ H (Same.refl H) (.shared (by simp only [Rep]))⟩
end
end Z

namespace Z
open PySem PySem.Spec PyProof.Rows L2
section
variable {X : Cx} {W : Wd} {lk : Bool} {o : Orc} {a : Expr} {pos : Pos}
theorem d_fstrI {ta : T} {cs : Str} {k : Nat} {p1 p2 : Pos} (hl : cs.length ≤ 1000) (ha : ∀ lk, PE X a (tD X W lk fun δ => ev o δ lk ta)) :
    PE X (.JoinedStr [.Constant (.str cs) k p2, .FormattedValue a (-1) none p1] pos) (tD X W lk fun δ => ev o δ lk (.fstr (.cons (.cst (.str cs.cps.toList)) (.cons ta .nil)))) := by
  intro pins s σ H Q I h
  obtain ⟨me, B, δ, S, h⟩ := tD_iff.mp h
  have e0 : ev o δ lk (.fstr (.cons (.cst (.str cs.cps.toList)) (.cons ta .nil))) = (ev o δ (lkOwn δ ta) ta).bind fun x => .of ((fstrD [.str cs.cps.toList, x.2]).bind fun t => if size t.length then some (false, .str t) else none) := by
    have hc : lkOwn δ (T.cst (.str cs.cps.toList)) = false := rfl
    rw [ev, evL, evL, evL, hc]
    show ((R.ok (false, D.str cs.cps.toList)).bind fun x => (((ev o δ (lkOwn δ ta) ta).bind fun x => (R.ok (false, ([] : List D))).bind fun y => R.ok (lkOwn δ ta || y.1, x.2 :: y.2)).bind fun y => R.ok (false || y.1, x.2 :: y.2))).bind _ = _
    cases ev o δ (lkOwn δ ta) ta <;> rfl
  rw [e0] at h
  cases e1 : ev o δ (lkOwn δ ta) ta with
  | stuck => rw [e1] at h; exact h.elim
  | exc c => rw [e1] at h; exact h.elim
  | ok r =>
  rw [e1] at h
  have h : After X W lk σ H (Hid B σ δ) (.of ((fstrD [.str cs.cps.toList, r.2]).bind fun t => if size t.length then some (false, .str t) else none)) Q := h
  have l0 : (Str.empty ++ cs).length ≤ sizeLine := by rw [strLen_append]; simp only [Str.empty, Str.length, sizeLine_eq, Array.size_empty] at hl ⊢; omega
  cases e2 : r.2 with
  | int i =>
    rw [e2] at h
    by_cases e4 : i.natAbs.log2 < 1920
    case neg => rw [show fstrD [.str cs.cps.toList, .int i] = if i.natAbs.log2 < 1920 then some (cs.cps.toList ++ numText i) else none from rfl, if_neg e4] at h; exact h.elim
    rw [show fstrD [.str cs.cps.toList, .int i] = if i.natAbs.log2 < 1920 then some (cs.cps.toList ++ numText i) else none from rfl, if_pos e4] at h
    cases e3 : size (cs.cps.toList ++ numText i).length with
    | false => simp only [Option.bind_some, e3] at h; exact h.elim
    | true =>
    simp only [Option.bind_some, e3] at h
    have hz : (cs.cps.toList ++ numText i).length ≤ 16777216 := of_decide_eq_true e3
    have h : ∀ v H', Same H H' → Res W (Hid B σ δ) lk H H' false (.str (cs.cps.toList ++ numText i)) v → Q v H' := h
    have ht : tD X W (lkOwn δ ta) (fun δ' => ev o δ' (lkOwn δ ta) ta) σ H fun v H1 => v = .int i ∧ Same H H1 := tD_iff.mpr ⟨me, B, δ, S, by
      show After X W (lkOwn δ ta) σ H (Hid B σ δ) (ev o δ (lkOwn δ ta) ta) _
      rw [e1]
      intro v H1 z q
      have q' := q.look
      rw [e2] at q'
      simp only [RepT, Rep] at q'
      exact ⟨q', z⟩⟩
    refine JoinedStr_many (joinParts_cons (Calls.Constant_str ⟨l0, joinParts_cons (FormattedValue_plain ?_)⟩))
    refine thn (ha (lkOwn δ ta) pins _ σ H _ (I.tok _) ht) fun v s1 ⟨y, H1, I1, r1, q1, q2⟩ => ?_
    subst q1
    obtain ⟨t, rfl⟩ := r1
    have en := numText_eq i
    have eo : Str.empty ++ cs ++ Str.ofString (toString i) = strV (cs.cps.toList ++ numText i) := by
      rw [← en]
      have e : (#[] ++ cs.cps) ++ (numText i).toArray = (cs.cps.toList ++ numText i).toArray := by
        apply Array.ext'
        simp
      exact congrArg Str.mk e
    have s2' : (Str.empty ++ cs ++ Str.ofString (toString i)).length ≤ sizeLine := by
      rw [eo, sizeLine_eq]; simp only [strV, Str.length, List.size_toArray]; exact hz
    refine formatField_int_small e4 ⟨s2', joinParts_nil ?_ s2'⟩
    refine ⟨.str (Str.empty ++ cs ++ Str.ofString (toString i)), H1, (I1.tok _).tok _, ⟨_, rfl⟩, h _ H1 q2 (.shared ?_)⟩
    simp only [Rep]
    exact ⟨by rw [eo], hz⟩
  | str x =>
    rw [e2] at h
    rw [show fstrD [.str cs.cps.toList, .str x] = some (cs.cps.toList ++ (x ++ [])) from rfl, List.append_nil] at h
    cases e3 : size (cs.cps.toList ++ x).length with
    | false => simp only [Option.bind_some, e3] at h; exact h.elim
    | true =>
    simp only [Option.bind_some, e3] at h
    have hz : (cs.cps.toList ++ x).length ≤ 16777216 := of_decide_eq_true e3
    have h : ∀ v H', Same H H' → Res W (Hid B σ δ) lk H H' false (.str (cs.cps.toList ++ x)) v → Q v H' := h
    have ht : tD X W (lkOwn δ ta) (fun δ' => ev o δ' (lkOwn δ ta) ta) σ H fun v H1 => v = .str (strV x) ∧ Same H H1 := tD_iff.mpr ⟨me, B, δ, S, by
      show After X W (lkOwn δ ta) σ H (Hid B σ δ) (ev o δ (lkOwn δ ta) ta) _
      rw [e1]
      intro v H1 z q
      have q' := q.look
      rw [e2] at q'
      exact ⟨(repT_str q').1, z⟩⟩
    refine JoinedStr_many (joinParts_cons (Calls.Constant_str ⟨l0, joinParts_cons (FormattedValue_plain ?_)⟩))
    refine thn (ha (lkOwn δ ta) pins _ σ H _ (I.tok _) ht) fun v s1 ⟨y, H1, I1, r1, q1, q2⟩ => ?_
    subst q1
    obtain ⟨t, rfl⟩ := r1
    have eo : Str.empty ++ cs ++ strV x = strV (cs.cps.toList ++ x) := by
      have e : (#[] ++ cs.cps) ++ x.toArray = (cs.cps.toList ++ x).toArray := by
        apply Array.ext'
        simp
      exact congrArg Str.mk e
    have s2' : (Str.empty ++ cs ++ strV x).length ≤ sizeLine := by
      rw [eo, sizeLine_eq]; simp only [strV, Str.length, List.size_toArray]; exact hz
    have l1 : (strV x).length ≤ sizeLine := by
      rw [sizeLine_eq]; simp only [strV, Str.length, List.size_toArray]
      simp only [List.length_append] at hz; omega
    refine formatField_str (fun t' tk => ⟨s2', joinParts_nil ?_ s2'⟩) l1
    refine ⟨.str (Str.empty ++ cs ++ strV x), H1, (I1.tok _).tok _, ⟨_, rfl⟩, h _ H1 q2 (.shared ?_)⟩
    simp only [Rep]
    exact ⟨by rw [eo], hz⟩
  | _ => rw [e2] at h; exact h.elim
end
end Z

namespace Z
open PySem PySem.Spec PyProof.Rows L2
section
variable {X : Cx} {W : Wd}
end
end Z

namespace Z
open PySem PySem.Spec PyProof.Rows L2
section
variable {X : Cx} {W : Wd} {lk : Bool} {σ : L2.St} {H H1 H' : Hp} {me : Option Addr} {B : Addr → Prop} {δ : Dst} {o : Orc} {p px cpos pos : Pos} {a b : Expr}
noncomputable def KDct (P : Program) (w : World) (W : Wd) (ad : Addr) (ks : List DK) (vs : List D) : Prop := ∃ kvs : List (Key × Value), (∀ h : Heap, W.K.In h → h.DictOf (mixKind P w) ad kvs) ∧ ∀ x d, look ks vs x = some d → ∃ (u : Value) (v : V), valueAt kvs (keyV x) = some u ∧ RelV v u ∧ ∀ G, Rep W G d v
end
end Z

namespace Z
open PySem PySem.Spec PyProof.Rows L2
noncomputable def ft_maxd : Bool := false
noncomputable def ft_mind : Bool := false
noncomputable def ft_max2 : Bool := false
noncomputable def ft_rng2 : Bool := false
noncomputable def ft_rng3 : Bool := false
noncomputable def ft_zip : Bool := false
noncomputable def ft_enum : Bool := false
noncomputable def ft_get2 : Bool := false
noncomputable def ft_kidx : Bool := false
noncomputable def ft_join : Bool := true
noncomputable def ft_dcst : Bool := false
noncomputable def ft_any : Bool := false
noncomputable def ft_sum : Bool := false
noncomputable def ft_list : Bool := false
noncomputable def ft_dict : Bool := false
noncomputable def ft_sorted : Bool := false
noncomputable def ft_all : Bool := true
noncomputable def ft_str : Bool := false
noncomputable def ft_int : Bool := true
section
variable {X : Cx} {W : Wd} {lk : Bool} {o : Orc} {p px cpos pos kp apos tpos : Pos} {a b c tg : Expr}
theorem f_maxd (hft : ft_maxd = true) {ta tb : T} (hk : W.K = X.K) (hc : X.calm = true) (hg : Gl X "max") (hm : X.mg "max" = none) (ha : PE X a (tD X W true fun δ => ev o δ true ta)) (hb : PE X b (tD X W true fun δ => ev o δ true tb)) (hst : isStar1 a = false) :
    PE X (.Call (.Name "max" p) [a] [⟨some "default", b, kp⟩] cpos) (tD X W lk fun δ => ev o δ lk (.b2 .maxd ta tb)) := absurd hft (by decide)
theorem f_mind (hft : ft_mind = true) {ta tb : T} (hk : W.K = X.K) (hc : X.calm = true) (hg : Gl X "min") (hm : X.mg "min" = none) (ha : PE X a (tD X W true fun δ => ev o δ true ta)) (hb : PE X b (tD X W true fun δ => ev o δ true tb)) (hst : isStar1 a = false) :
    PE X (.Call (.Name "min" p) [a] [⟨some "default", b, kp⟩] cpos) (tD X W lk fun δ => ev o δ lk (.b2 .mind ta tb)) := absurd hft (by decide)
theorem f_max2 (hft : ft_max2 = true) {ta tb : T} (hc : X.calm = true) (hg : Gl X "max") (hm : X.mg "max" = none) (ha : PE X a (tD X W true fun δ => ev o δ true ta)) (hb : PE X b (tD X W true fun δ => ev o δ true tb)) (hst1 : isStar1 a = false) (hst2 : isStar1 b = false) :
    PE X (.Call (.Name "max" p) [a, b] [] cpos) (tD X W lk fun δ => ev o δ lk (.b2 .max ta tb)) := absurd hft (by decide)
theorem f_rng2 (hft : ft_rng2 = true) {e1 e2 : Expr} {t1 t2 : T} (hgl : Gl X "range") (hm : X.mg "range" = none) (h1 : PE X e1 (tD X W true fun δ => ev o δ true t1)) (h2 : PE X e2 (tD X W true fun δ => ev o δ true t2)) (hst1 : isStar1 e1 = false) (hst2 : isStar1 e2 = false) :
    ∃ wi, PI X tg (.Call (.Name "range" p) [e1, e2] [] cpos) wi ∧ WalkL X W o lk (.rng2 t1 t2) wi := absurd hft (by decide)
theorem f_rng3 (hft : ft_rng3 = true) {e1 e2 e3 : Expr} {t1 t2 t3 : T} (hgl : Gl X "range") (hm : X.mg "range" = none) (h1 : PE X e1 (tD X W true fun δ => ev o δ true t1)) (h2 : PE X e2 (tD X W true fun δ => ev o δ true t2)) (h3 : PE X e3 (tD X W true fun δ => ev o δ true t3)) (hst1 : isStar1 e1 = false) (hst2 : isStar1 e2 = false) (hst3 : isStar1 e3 = false) :
    ∃ wi, PI X tg (.Call (.Name "range" p) [e1, e2, e3] [] cpos) wi ∧ WalkL X W o lk (.rng3 t1 t2 t3) wi := absurd hft (by decide)
theorem f_zip (hft : ft_zip = true) {es : List Expr} {x1 : Nat} {e1 e2 : Expr} {t1 t2 : T} (hk : W.K = X.K) (hgl : Gl X "zip") (hm : X.mg "zip" = none) (h1 : PE X e1 (tD X W true fun δ => ev o δ true t1)) (h2 : PE X e2 (tD X W true fun δ => ev o δ true t2)) (hst1 : isStar1 e1 = false) (hst2 : isStar1 e2 = false) :
    ∃ wi, PI X (.Tuple es x1 tpos) (.Call (.Name "zip" p) [e1, e2] [] cpos) wi ∧ WalkL X W o lk (.zip t1 t2) wi := absurd hft (by decide)
theorem f_enum (hft : ft_enum = true) {es : List Expr} {x1 : Nat} {e1 : Expr} {t : T} (hk : W.K = X.K) (hgl : Gl X "enumerate") (hm : X.mg "enumerate" = none) (h1 : PE X e1 (tD X W lk fun δ => ev o δ lk t)) (hst : isStar1 e1 = false) : ∃ wi, PI X (.Tuple es x1 tpos) (.Call (.Name "enumerate" p) [e1] [] cpos) wi ∧ WalkL X W o lk (.enum t) wi := absurd hft (by decide)
theorem f_get2 (hft : ft_get2 = true) {ta tb tc : T} (hu : X.A.units + 1 < cLine) (ha : PE X a (tD X W true fun δ => ev o δ true ta)) (hb : PE X b (tD X W true fun δ => ev o δ true tb)) (hc : PE X c (tD X W false fun δ => ev o δ false tc)) (m : M2 X a "get" apos b c cpos) :
    PE X (.Call (.Attribute a "get" apos) [b, c] [] cpos) (tD X W lk fun δ => ev o δ lk (.get2 ta tb tc)) := absurd hft (by decide)
theorem f_kidx (hft : ft_kidx = true) {x : Str} {ad : Addr} {ks : List DK} {vs : List D} {ti : T} (hk : W.K = X.K) (hd : KDct X.prog X.w W ad ks vs) (hg : Gl X x) (hm : X.mg x = some (.ref ad)) (hdb : (x == ("__debug__" : Str)) = false) (hi : PE X b (tD X W true fun δ => ev o δ true ti)) (hs : NoSl b) :
    PE X (.Subscript (.Name x px) b pos) (tD X W lk fun δ => ev o δ lk (.kidx ks vs ti)) := absurd hft (by decide)
theorem f_list (hft : ft_list = true) (hk : W.K = X.K) (hc : X.calm = true) : ∃ r, CallR X (.type "list") r ∧ Sem1 W r (b1D .list) := absurd hft (by decide)
theorem f_dict (hft : ft_dict = true) (hk : W.K = X.K) (hc : X.calm = true) : ∃ r, CallR X (.type "dict") r ∧ Sem1 W r (b1D .dict) := absurd hft (by decide)
theorem f_all (hft : ft_all = true) (hk : W.K = X.K) (hc : X.calm = true) : ∃ r, CallR X (.builtin "all") r ∧ Sem1 W r (b1D .all) := ⟨_, call_allB hc, sem_all hk⟩
theorem f_any (hft : ft_any = true) (hk : W.K = X.K) (hc : X.calm = true) : ∃ r, CallR X (.builtin "any") r ∧ Sem1 W r (b1D .any) := absurd hft (by decide)
theorem f_sum (hft : ft_sum = true) (hk : W.K = X.K) (hc : X.calm = true) : ∃ r, CallR X (.builtin "sum") r ∧ Sem1 W r (b1D .sum) := absurd hft (by decide)
theorem f_str (hft : ft_str = true) (hk : W.K = X.K) (hc : X.calm = true) : ∃ r, CallR X (.type "str") r ∧ Sem1 W r (b1D .str) := absurd hft (by decide)
theorem f_int (hft : ft_int = true) (hk : W.K = X.K) (hc : X.calm = true) : ∃ r, CallR X (.type "int") r ∧ Sem1 W r (b1D .int) := ⟨_, call_int1, sem_intD⟩
theorem f_sorted (hft : ft_sorted = true) (hk : W.K = X.K) (hc : X.calm = true) : ∃ r, CallR X (.builtin "sorted") r ∧ Sem1 W r (b1D .sorted) := absurd hft (by decide)
theorem f_join (hft : ft_join = true) {ta tb : T} (hk : W.K = X.K) (ha : PE X a (tD X W true fun δ => ev o δ true ta)) (hb : PE X b (tD X W true fun δ => ev o δ true tb)) (h2 : plainBase a = true) (hst : isStar1 b = false) (h1 : (apos.endLine == cpos.line) = true) : PE X (.Call (.Attribute a "join" apos) [b] [] cpos) (tD X W lk fun δ => ev o δ lk (.m1 .join ta tb)) := by
  have q := d_meth1 (lk := lk) PySem.F.plainAttrs_str PySem.F.slot_str_join PySem.F.type_str_join mt_join (sem_join hk) join_noexc join_kind ha hb h2 hst h1
  have e : (fun δ => ev o δ lk (.m1 .join ta tb)) = fun δ => (ev o δ true ta).bind fun x => (ev o δ true tb).bind fun y => m1D .join x.2 y.2 := funext fun δ => by simp only [ev]
  rw [e]
  exact q
end
end Z

namespace Z
open PySem PySem.Spec PyProof.Rows L2
inductive Gk where
  | fn (i np : Nat)
  | cls (c : Nat)
  | val (d : D)
  | dct (ks : List DK) (vs : List D)
  | mark (l : List Nat)
structure Tc where
  N : List Str
  sc : Scope
  gl : List (Str × Gk)
noncomputable def nameIx : List Str → Str → Option Nat
  | [], _ => none
  | y :: l, x => if y = x then some 0 else (nameIx l x).map (· + 1)
theorem nameIx_get : ∀ {N : List Str} {x : Str} {i : Nat}, nameIx N x = some i → N[i]? = some x
  | [], _, _, h => by simp [nameIx] at h
  | y :: l, x, i, h => by
    simp only [nameIx] at h
    split at h
    · rename_i e
      cases h
      simp [e]
    · cases e : nameIx l x with
      | none => rw [e] at h; cases h
      | some j =>
        rw [e] at h
        cases h
        simpa using nameIx_get e
noncomputable def ixs (N : List Str) : List Str → Option (List Nat)
  | [] => some []
  | x :: l => (nameIx N x).bind fun i => (ixs N l).map fun r => i :: r
theorem ixs_get {N : List Str} : ∀ {l : List Str} {r : List Nat} {j k : Nat}, ixs N l = some r → r[j]? = some k → ∃ x, l[j]? = some x ∧ N[k]? = some x
  | [], r, j, k, h, e => by
    simp only [ixs, Option.some.injEq] at h
    subst h
    simp at e
  | x :: l, r, j, k, h, e => by
    simp only [ixs] at h
    cases e1 : nameIx N x with
    | none => rw [e1] at h; cases h
    | some i =>
      cases e2 : ixs N l with
      | none => simp [e1, e2] at h
      | some r' =>
        simp [e1, e2] at h
        subst h
        cases j with
        | zero => simp at e; subst e; exact ⟨x, rfl, nameIx_get e1⟩
        | succ j =>
          obtain ⟨y, h1, h2⟩ := ixs_get e2 (by simpa using e)
          exact ⟨y, by simpa using h1, h2⟩
theorem ixs_len {N : List Str} : ∀ {l : List Str} {r : List Nat}, ixs N l = some r → r.length = l.length
  | [], r, h => by simp only [ixs, Option.some.injEq] at h; subst h; rfl
  | x :: l, r, h => by
    simp only [ixs] at h
    cases e1 : nameIx N x with
    | none => rw [e1] at h; cases h
    | some i =>
      cases e2 : ixs N l with
      | none => simp [e1, e2] at h
      | some r' => simp [e1, e2] at h; subst h; simp [ixs_len e2]
noncomputable def visB (sc : Scope) (x : Str) : Bool := (match sc.names.lookup x with | some .local => true | some .cell => true | some .free => true | _ => false) && !(x == ("__debug__" : Str)) && !(x == ("__classdict__" : Str))
noncomputable def locB (sc : Scope) (x : Str) : Bool := match sc.names.lookup x with | some .local => true | some .cell => true | _ => false
noncomputable def glB (sc : Scope) (x : Str) : Bool := decide (sc.names.lookup x = some .globalImplicit)
noncomputable def trOp : Operator → Option O2
  | .Add => some .add
  | .Sub => some .sub
  | .Mult => some .mul
  | .FloorDiv => some .fdiv
  | .Mod => some .mod
  | .Pow => some .pow
  | _ => none
noncomputable def trCmp : CmpOp → Option O2
  | .Eq => some .eq
  | .NotEq => some .ne
  | .Lt => some .lt
  | .LtE => some .le
  | .Gt => some .gt
  | .GtE => some .ge
  | .Is => some .is
  | .IsNot => some .isnot
  | .In => some .in
  | .NotIn => some .notin
noncomputable def trConst : Const → Option D
  | .none => some .non
  | .bool b => some (.bl b)
  | .int i => some (.int i)
  | .str s => if s.length ≤ 1000000 then some (.str s.cps.toList) else none
  | _ => none
noncomputable def trTy (x : Str) : Option Ty :=
  if x = "int" then some .int else if x = "bool" then some .bool else if x = "str" then some .str else if x = "tuple" then some .tup else if x = "list" then some .lst else if x = "dict" then some .dct else none
noncomputable def trL (f : Expr → Option T) : List Expr → Option TL
  | [] => some .nil
  | e :: es => (f e).bind fun t => (trL f es).map fun l => .cons t l
noncomputable def trB (f : Expr → Option T) (k : T → T → T) : List Expr → Option T
  | [] => none
  | [e] => f e
  | e :: es => (f e).bind fun t => (trB f k es).map fun u => k t u
noncomputable def trOpt (f : Expr → Option T) : Option Expr → Option T
  | none => some (.cst .non)
  | some e => (f e).bind fun t => match t with
    | .cst .non => none
    | t => some t
noncomputable def isSlice : Expr → Bool
  | .Slice _ _ _ _ => true
  | _ => false
noncomputable def isSet : Expr → Bool
  | .Set .. => true
  | _ => false
noncomputable def fn1 (x : Str) : Option B1 :=
  if x = "abs" then some .abs else if x = "len" then some .len else if x = "tuple" then some .tuple else if x = "list" ∧ ft_list = true then some .list else if x = "dict" ∧ ft_dict = true then some .dict else
  if x = "all" ∧ ft_all = true then some .all else if x = "any" ∧ ft_any = true then some .any else if x = "sum" ∧ ft_sum = true then some .sum else if x = "sorted" ∧ ft_sorted = true then some .sorted else if x = "str" ∧ ft_str = true then some .str else if x = "int" ∧ ft_int = true then some .int else none
noncomputable def trCall (tc : Tc) (f : Expr → Option T) (x : Str) (args : List Expr) : Option T :=
  if glB tc.sc x && !(x == ("__debug__" : Str)) && !(args.any isStar1) then (match tc.gl.lookup x with
    | some (.fn i np) => if args.length = np ∧ args ≠ [] then (trL f args).map fun l => .call i l else none
    | some _ => none
    | none => match args with
      | [a] => (fn1 x).bind fun b => (f a).map fun t => .b1 b t
      | [a, b] => if x = "max" ∧ ft_max2 = true then (f a).bind fun t => (f b).map fun u => .b2 .max t u else (match b with
        | .Name y _ => if x = "isinstance" ∧ glB tc.sc y = true ∧ (tc.gl.lookup y).isNone = true then (if y = "ValueError" then (f a).map fun t => .isin t .valueError else (f a).bind fun t => (trTy y).map fun ty => .isin t ty) else
          if x = "isinstance" ∧ glB tc.sc y = true ∧ (y == ("__debug__" : Str)) = false then (match tc.gl.lookup y with
          | some (.cls c) => (f a).map fun t => .isin t (.cls c)
          | _ => none) else none
        | _ => none)
      | _ => none) else none
noncomputable def trMaxd (tc : Tc) (f : Expr → Option T) (x : Str) (a b : Expr) : Option T := if x = "max" ∧ ft_maxd = true ∧ glB tc.sc "max" = true ∧ (tc.gl.lookup ("max" : Str)).isNone = true ∧ isStar1 a = false then (f a).bind fun t => (f b).map fun u => .b2 .maxd t u else
  if x = "min" ∧ ft_mind = true ∧ glB tc.sc "min" = true ∧ (tc.gl.lookup ("min" : Str)).isNone = true ∧ isStar1 a = false then (f a).bind fun t => (f b).map fun u => .b2 .mind t u else none
noncomputable def dctOf (tc : Tc) (e : Expr) : Option (List DK × List D) := match e with
  | .Name x _ => if ft_kidx && glB tc.sc x && !(x == ("__debug__" : Str)) then (match tc.gl.lookup x with | some (.dct ks vs) => some (ks, vs) | _ => none) else none
  | _ => none
noncomputable def trCs : List Expr → Option (List D)
  | [] => some []
  | .Constant c _ _ :: l => (trConst c).bind fun d => (trCs l).map fun r => d :: r
  | _ => none
noncomputable def trKs : List (Option Expr) → Option (List DK)
  | [] => some []
  | some (.Constant c _ _) :: l => (trConst c).bind fun d => (keyOf d).bind fun k => (trKs l).map fun r => k :: r
  | _ => none
noncomputable def cstL : List D → TL
  | [] => .nil
  | d :: l => .cons (.cst d) (cstL l)
noncomputable def trDct (ks : List (Option Expr)) (vs : List Expr) : Option T := (trKs ks).bind fun k => (trCs vs).bind fun d => if k.length = d.length ∧ k.length ≤ 15 ∧ k ≠ [] ∧ k.Nodup then some (.dnew k (cstL d)) else none
noncomputable def isTupE : Expr → Bool
  | .Tuple .. => true
  | _ => false
noncomputable def trMeth (f : Expr → Option T) (a : Expr) (name : Str) (args : List Expr) (ok : Bool) : Option T :=
  if ok && plainBase a && !(args.any isStar1) then (match args with
    | [b] => if name = "join" ∧ ft_join = true then (f a).bind fun ta => (f b).map fun tb => .m1 .join ta tb else none
    | [b, c] => if name = "get" ∧ ft_get2 = true then (f a).bind fun ta => (f b).bind fun tb => (f c).map fun tc => .get2 ta tb tc else none
    | _ => none) else none
noncomputable def trI (tc : Tc) (f : Expr → Option T) (tp : Bool) (e : Expr) : Option TI := match e with
  | .Call (.Name x _) [a] [] _ => if x = "range" then (if glB tc.sc "range" && (tc.gl.lookup ("range" : Str)).isNone && !isStar1 a then (f a).map .rng1 else none) else
    if x = "enumerate" then (if ft_enum && tp && glB tc.sc "enumerate" && (tc.gl.lookup ("enumerate" : Str)).isNone && !isStar1 a then (f a).map .enum else none) else (f e).map .val
  | .Call (.Name x _) [a, b] [] _ => if x = "range" then (if ft_rng2 && glB tc.sc "range" && (tc.gl.lookup ("range" : Str)).isNone && !isStar1 a && !isStar1 b then (f a).bind fun ta => (f b).map fun tb => .rng2 ta tb else none) else
    if x = "zip" then (if ft_zip && tp && glB tc.sc "zip" && (tc.gl.lookup ("zip" : Str)).isNone && !isStar1 a && !isStar1 b then (f a).bind fun ta => (f b).map fun tb => .zip ta tb else none) else (f e).map .val
  | .Call (.Name x _) [a, b, c] [] _ => if x = "range" then (if ft_rng3 && glB tc.sc "range" && (tc.gl.lookup ("range" : Str)).isNone && !isStar1 a && !isStar1 b && !isStar1 c then (f a).bind fun ta => (f b).bind fun tb => (f c).map fun td => .rng3 ta tb td else none) else (f e).map .val
  | e => if isSet e then none else (f e).map .val
noncomputable def tgList : List Expr → Option (List Str)
  | [] => some []
  | .Name x _ :: es => (tgList es).map fun l => x :: l
  | _ => none
noncomputable def tgNames : Expr → Option (List Str × Bool)
  | .Name x _ => some ([x], false)
  | .Tuple es _ _ => (tgList es).map fun l => (l, true)
  | _ => none
noncomputable def frees (scope : Scope) : List Str := (scope.names.filter fun y => y.2 == .free).map (·.1)
noncomputable def relabelS (scope sc : Scope) : Scope := { scope with names := scope.names.map fun (n, k) => if (k == .free && sc.kind == .function && sc.names.lookup n == some .cell) then (n, .cell) else (n, k) }
noncomputable def blkB (scope : Scope) : Bool := decide (scope.kind = .function) && scope.names.all fun y => !(y.2 == .cell) && (!(y.2 == .local) || decide (scope.names.lookup y.1 = some .local)) && (!(y.2 == .free) || decide (scope.names.lookup y.1 = some .free))
noncomputable def okBlk (tc : Tc) (scope : Scope) (tn cn : List Str) : Bool := blkB scope && decide (tn ++ cn).Nodup && (tn.all fun x => decide (scope.names.lookup x = some .local)) &&
  cn.all fun x => decide (tc.sc.names.lookup x = some .cell) || decide (tc.sc.names.lookup x = some .free)
noncomputable def trIfs (f : Expr → Option T) : List Expr → Option T
  | [] => some (.cst (.bl true))
  | [c] => f c
  | _ => none
noncomputable def trComp (tc : Tc) (f : Tc → Expr → Option T) (elt tg iter : Expr) (ifs : List Expr) (scope : Scope) : Option T :=
  (tgNames tg).bind fun q => if okBlk tc scope q.1 (frees scope) then
    (ixs tc.N (frees scope)).bind fun caps => (trI tc (f tc) (isTupE tg) iter).bind fun it => (trIfs (f ⟨q.1 ++ frees scope, relabelS scope tc.sc, tc.gl⟩) ifs).bind fun c =>
      (f ⟨q.1 ++ frees scope, relabelS scope tc.sc, tc.gl⟩ elt).map fun e => .comp caps q.1.length q.2 it c e else none
noncomputable def trJ (f : Expr → Option T) (vs : List Expr) : Option T := match vs with
  | [.FormattedValue a cv none _, .Constant (.str s) _ _] => if cv = -1 ∧ s.length ≤ 1000 then (f a).map fun t => .fstr (.cons t (.cons (.cst (.str s.cps.toList)) .nil)) else none
  | [.Constant (.str s) _ _, .FormattedValue a cv none _] => if cv = -1 ∧ s.length ≤ 1000 then (f a).map fun t => .fstr (.cons (.cst (.str s.cps.toList)) (.cons t .nil)) else none
  | _ => none
noncomputable def trEb (f : Tc → Expr → Option T) (tc : Tc) (e : Expr) : Option T := match e with
  | .Name x _ => if visB tc.sc x then (nameIx tc.N x).map .var else if glB tc.sc x && !(x == ("__debug__" : Str)) then (match tc.gl.lookup x with | some (.val d) => some (.cst d) | _ => none) else none
  | .IfExp c a b _ => (f tc c).bind fun tc' => (f tc a).bind fun ta => (f tc b).map fun tb => .ite tc' ta tb
  | .Constant c _ _ => (trConst c).map .cst
  | .BinOp a op b _ => (trOp op).bind fun p => (f tc a).bind fun ta => (f tc b).map fun tb => .op2 p ta tb
  | .UnaryOp .Not a _ => (f tc a).map .not
  | .UnaryOp .USub a _ => (f tc a).map .neg
  | .Compare a [op] [b] _ => if behindInMarks op b then none else (trCmp op).bind fun p => (f tc a).bind fun ta => (f tc b).map fun tb => .op2 p ta tb
  | .BoolOp .And vs _ => trB (f tc) .and vs
  | .BoolOp .Or vs _ => trB (f tc) .or vs
  | .Tuple es _ _ => if es.any isStar1 then none else (trL (f tc) es).map .tup
  | .List es _ => if es.any isStar1 then none else (trL (f tc) es).map .lst
  | .Dict [] [] _ => some (.dnew [] .nil)
  | .Dict (k0 :: ks) vs _ => if ft_dcst then trDct (k0 :: ks) vs else none
  | .Subscript a (.Slice lo hi none _) _ => (f tc a).bind fun t => (trOpt (f tc) lo).bind fun l => (trOpt (f tc) hi).map fun h => .slc t l h
  | .Subscript a b _ => if isSlice b then none else (match dctOf tc a with
    | some q => (f tc b).map fun i => .kidx q.1 q.2 i
    | none => (f tc a).bind fun t => (f tc b).map fun i => .idx t i)
  | .Call (.Name x _) args [] _ => trCall tc (f tc) x args
  | .Call (.Name x _) [a] [⟨some kw, b, _⟩] _ => if kw = "default" then trMaxd tc (f tc) x a b else none
  | .Call (.Attribute a name apos) args [] cpos => trMeth (f tc) a name args (apos.endLine == cpos.line)
  | .JoinedStr vs _ => trJ (f tc) vs
  | .ListComp elt [g] scope _ => if g.is_async = 0 then trComp tc f elt g.target g.iter g.ifs scope else none
  | _ => none
noncomputable def trE : Nat → Tc → Expr → Option T
  | 0, _, _ => none
  | k + 1, tc, e => trEb (fun tc' e' => trE k tc' e') tc e
theorem trE_succ {k : Nat} {tc : Tc} {e : Expr} : trE (k + 1) tc e = trEb (trE k) tc e := rfl
theorem trE_comp {k : Nat} {tc : Tc} {elt : Expr} {g : Comprehension} {scope : Scope} {pos : Pos} : trE (k + 1) tc (.ListComp elt [g] scope pos) = if g.is_async = 0 then trComp tc (fun tc' e => trE k tc' e) elt g.target g.iter g.ifs scope else none := rfl
theorem trE_name {k : Nat} {tc : Tc} {x : Str} {pos : Pos} : trE (k + 1) tc (.Name x pos) = if visB tc.sc x then (nameIx tc.N x).map .var else if glB tc.sc x && !(x == ("__debug__" : Str)) then (match tc.gl.lookup x with | some (.val d) => some (.cst d) | _ => none) else none := rfl
noncomputable def bltNames : List Str := ["abs", "len", "isinstance", "int", "bool", "str", "tuple", "list", "dict", "all", "any", "sorted", "range", "max", "zip", "enumerate", "sum", "min", "ValueError"]
noncomputable def clOf (gl : List (Str × Gk)) (x : Str) : Option Nat := match gl.lookup x with
  | some (.cls c) => some c
  | _ => none
structure Fits (X : Cx) (W : Wd) (tc : Tc) (o : Orc) (k : Nat) : Prop where
  N : X.N = tc.N
  nd : tc.N.Nodup
  sc : X.env.scope = tc.sc
  K : W.K = X.K
  room : Room k X.A
  calm : X.calm = true
  gf : ∀ x i np, tc.gl.lookup x = some (.fn i np) → ∃ f fd ps, X.mg x = some (.ref f) ∧ PySem.W.keepIn X.K (.ref f) = true ∧ Binds X.K fd ps [] ∧ FnOk X.prog X.w X.K X.mg X.base CX0 k f fd ps (spFn W (o.fn i) np)
  gb : ∀ x, x ∈ bltNames → tc.gl.lookup x = none → X.mg x = none
  gv : ∀ x d, tc.gl.lookup x = some (.val d) → ∃ u v, X.mg x = some u ∧ RelV v u ∧ ∀ G, Rep W G d v
  gd : ∀ x ks vs, tc.gl.lookup x = some (.dct ks vs) → ∃ ad, X.mg x = some (.ref ad) ∧ KDct X.prog X.w W ad ks vs
  xf : XFacts X.K X.mg W o.sub (clOf tc.gl)
theorem Fits.comp {X : Cx} {W : Wd} {tc : Tc} {o : Orc} {k : Nat} (F : Fits X W tc o k) {scope : Scope} {N : List Str} (hN : N.Nodup) (fp : List Addr) (pins : List (Addr × Obj)) (s : Shared) (H : Hp) : Fits (cxC X scope N fp pins s H) W ⟨N, relabelS scope tc.sc, tc.gl⟩ o k where
  N := rfl
  nd := hN
  sc := by
    show relabel scope X.env = _
    rw [← F.sc]
    rfl
  K := F.K
  room := F.room
  calm := F.calm
  gf := F.gf
  gb := F.gb
  gv := F.gv
  gd := F.gd
  xf := F.xf
theorem trL_len {f : Expr → Option T} {o : Orc} : ∀ {es : List Expr} {l : TL}, trL f es = some l → ∀ δ r, evL o δ l = .ok r → r.2.length = es.length
  | [], l, h, δ, r, e => by
    simp only [trL, Option.some.injEq] at h
    subst h
    simp only [evL] at e
    cases e; rfl
  | x :: es, l, h, δ, r, e => by
    simp only [trL] at h
    cases e1 : f x with
    | none => rw [e1] at h; cases h
    | some t =>
      rw [e1] at h
      cases e2 : trL f es with
      | none => simp [e2] at h
      | some l' =>
        simp [e2] at h
        subst h
        simp only [evL] at e
        cases e3 : ev o δ (lkOwn δ t) t with
        | ok y =>
          rw [e3] at e
          cases e4 : evL o δ l' with
          | ok z =>
            simp only [e4, R.bind] at e
            cases e
            simp [trL_len e2 δ z e4]
          | exc c => simp only [e4, R.bind] at e; cases e
          | stuck => simp only [e4, R.bind] at e; cases e
        | exc c => rw [e3] at e; cases e
        | stuck => rw [e3] at e; cases e
theorem star_any {es : List Expr} {env : Env} {pos : Pos} (h : es.any isStar1 = false) : (backTo pos (starEach es env)).any (·.1) = false := by
  induction es with
  | nil => rfl
  | cons e es ih =>
    simp only [List.any_cons, Bool.or_eq_false_iff] at h
    rw [star1 h.1]
    show (false || (backTo pos (starEach es env)).any (·.1)) = false
    rw [ih h.2]; rfl
section
variable {X : Cx} {W : Wd} {tc : Tc} {o : Orc} {k : Nat}
theorem tD_ev {e : Expr} {t : T} {lk : Bool} {f : Dst → R (Bool × D)} (h : PE X e (tD X W lk f)) (hf : ∀ δ, f δ = ev o δ lk t) : PE X e (tD X W lk fun δ => ev o δ lk t) := by
  have : f = fun δ => ev o δ lk t := funext hf
  rw [← this]; exact h
theorem tT_ev {e : Expr} {t : T} {f : Dst → R (Bool × D)} (h : PT X e (tT X W f)) (hf : ∀ δ, f δ = ev o δ true t) : PT X e (tT X W fun δ => ev o δ true t) := by
  have : f = fun δ => ev o δ true t := funext hf
  rw [← this]; exact h
theorem visB_ok {x : Str} (F : Fits X W tc o k) (h : visB tc.sc x = true) : Vis X.env.scope x ∧ (x == ("__debug__" : Str)) = false ∧ (x == ("__classdict__" : Str)) = false := by
  unfold visB at h
  simp only [Bool.and_eq_true, Bool.not_eq_true'] at h
  refine ⟨?_, h.1.2, h.2⟩
  rw [F.sc]
  unfold Vis
  have h1 := h.1.1
  split at h1
  · rename_i e; exact .inl e
  · rename_i e; exact .inr (.inl e)
  · rename_i e; exact .inr (.inr e)
  · cases h1
theorem args_ok {f : Expr → Option T} (hf : ∀ e t, f e = some t → ∀ lk, PE X e (tD X W lk fun δ => ev o δ lk t)) : ∀ {es : List Expr} {l : TL}, trL f es = some l → es.any isStar1 = false → PA X es (tL X W fun δ => evL o δ l)
  | [], l, h, _ => by
    simp only [trL, Option.some.injEq] at h
    subst h
    exact da_nil o
  | x :: es, l, h, hs => by
    simp only [trL] at h
    simp only [List.any_cons, Bool.or_eq_false_iff] at hs
    cases e1 : f x with
    | none => rw [e1] at h; cases h
    | some t =>
      rw [e1] at h
      cases e2 : trL f es with
      | none => simp [e2] at h
      | some l' =>
        simp [e2] at h
        subst h
        exact da_cons (hf x t e1) (args_ok hf e2 hs.2) (star1 hs.1)
noncomputable def Bl (x : R (Bool × D)) : Prop := ∀ r, x = .ok r → ∃ b, r = (false, .bl b)
theorem bl_ok {b : Bool} : Bl (.ok (false, .bl b)) := fun _ h => by cases h; exact ⟨_, rfl⟩
theorem bl_st : Bl .stuck := fun _ h => nomatch h
theorem bl_of {x : Option Bool} {f : Bool → Bool} : Bl (.of (x.map fun t => (false, .bl (f t)))) := by cases x <;> first | exact bl_st | exact bl_ok
theorem o2_bl {p : O2} (hp : p = .eq ∨ p = .ne ∨ p = .lt ∨ p = .le ∨ p = .gt ∨ p = .ge ∨ p = .is ∨ p = .isnot) : ∀ x y r, o2 p x y = .ok r → ∃ b, r = (false, .bl b) := by
  intro x y
  show Bl (o2 p x y)
  rcases hp with rfl | rfl | rfl | rfl | rfl | rfl | rfl | rfl
  · exact bl_of (f := id)
  · exact bl_of (f := not)
  iterate 4
    · cases x <;> first | exact bl_st | (cases y <;> first | exact bl_st | exact bl_ok)
  iterate 2
    · cases y <;> first | exact bl_st | (cases x <;> first | exact bl_ok | exact bl_st)
theorem bin_ok (F : Fits X W tc o k) {a b : Expr} {op : Operator} {p : O2} {ta tb : T} {pos : Pos} (h : trOp op = some p) (ha : PE X a (tD X W true fun δ => ev o δ true ta)) (hb : PE X b (tD X W true fun δ => ev o δ true tb)) (lk : Bool) :
    PE X (.BinOp a op b pos) (tD X W lk fun δ => ev o δ lk (.op2 p ta tb)) := by
  have fin : ∀ {r : R2}, OpR X (binaryOp op) r → Sem2 W r (o2 p) → PE X (.BinOp a op b pos) (tD X W lk fun δ => ev o δ lk (.op2 p ta tb)) := fun h1 h2 => tD_ev (d_op2 h1 h2 (o2_noexc p) ha hb) fun δ => by simp only [ev]
  cases op <;> simp [trOp] at h <;> subst h
  · exact fin op_addAll (sem_add F.K)
  · exact fin op_sub sem_sub
  · exact fin op_mulZ sem_mul
  · exact fin op_modN sem_mod
  · exact fin op_pow sem_pow
  · exact fin op_fdivZ sem_fdiv
theorem cmp_ok (F : Fits X W tc o k) {a b : Expr} {op : CmpOp} {p : O2} {ta tb : T} {pos : Pos} (h : trCmp op = some p) (hm : behindInMarks op b = false) (ha : PE X a (tD X W true fun δ => ev o δ true ta)) (hb : PE X b (tD X W true fun δ => ev o δ true tb)) :
    (∀ lk, PE X (.Compare a [op] [b] pos) (tD X W lk fun δ => ev o δ lk (.op2 p ta tb))) ∧ PT X (.Compare a [op] [b] pos) (tT X W fun δ => ev o δ true (.op2 p ta tb)) := by
  have fin : ∀ {r : R2}, OpR X (compareOp op) r → Sem2 W r (o2 p) → (∀ x y r, o2 p x y = .ok r → ∃ b, r = (false, .bl b)) →
      (∀ lk, PE X (.Compare a [op] [b] pos) (tD X W lk fun δ => ev o δ lk (.op2 p ta tb))) ∧ PT X (.Compare a [op] [b] pos) (tT X W fun δ => ev o δ true (.op2 p ta tb)) := fun h1 h2 h4 =>
    ⟨fun lk => tD_ev (d_cmp h1 h2 (o2_noexc p) ha hb hm) fun δ => by simp only [ev], tT_ev (dt_cmp h1 h2 (o2_noexc p) h4 ha hb hm) fun δ => by simp only [ev]⟩
  cases op <;> simp [trCmp] at h <;> subst h
  · exact fin (OpR.or op_eq (OpR.or (op_deepEq F.K F.room.units) (op_dctEq (Nat.lt_of_le_of_lt (Nat.le_add_right _ _) F.room.units)))) sem_eq (o2_bl (by simp))
  · exact fin (OpR.or op_ne (OpR.or (op_deepNe F.K F.room.units) (op_dctNe (Nat.lt_of_le_of_lt (Nat.le_add_right _ _) F.room.units)))) sem_ne (o2_bl (by simp))
  · exact fin op_ltAll sem_lt (o2_bl (by simp))
  · exact fin op_leAll sem_le (o2_bl (by simp))
  · exact fin op_gt sem_gt (o2_bl (by simp))
  · exact fin op_ge sem_ge (o2_bl (by simp))
  · exact fin (OpR.or op_isN op_isB) sem_is (o2_bl (by simp))
  · exact fin (OpR.or op_notN op_notB) sem_isnot (o2_bl (by simp))
  · obtain ⟨h1, h2⟩ := d_in (pos := pos) F.K (hu_of F.room) ha hb hm
    exact ⟨fun lk => tD_ev (h1 lk) fun δ => by simp only [ev], tT_ev h2 fun δ => by simp only [ev]⟩
  · obtain ⟨h1, h2⟩ := d_notin (pos := pos) F.K (hu_of F.room) ha hb hm
    exact ⟨fun lk => tD_ev (h1 lk) fun δ => by simp only [ev], tT_ev h2 fun δ => by simp only [ev]⟩
end
end Z

namespace Z
open PySem PySem.Spec PyProof.Rows L2
theorem f_dct (hft : ft_dcst = true) {X : Cx} {W : Wd} {o : Orc} {ks : List (Option Expr)} {vs : List Expr} {t : T} {pos : Pos} (h : trDct ks vs = some t) (lk : Bool) : PE X (.Dict ks vs pos) (tD X W lk fun δ => ev o δ lk t) := absurd hft (by decide)
end Z

namespace Z
open PySem PySem.Spec PyProof.Rows L2
section
variable {X : Cx} {W : Wd} {tc : Tc} {o : Orc} {k : Nat}
noncomputable def Right (X : Cx) (W : Wd) (o : Orc) (e : Expr) (t : T) : Prop := (∀ lk, PE X e (tD X W lk fun δ => ev o δ lk t)) ∧ PT X e (tT X W fun δ => ev o δ true t)
theorem and_ev (δ : Dst) (lk : Bool) (a b : T) : ((ev o δ true a).bind fun x => andD x.2 (ev o δ true b)) = ev o δ lk (.and a b) := by
  simp only [ev]
  rfl
theorem or_ev (δ : Dst) (lk : Bool) (a b : T) : ((ev o δ true a).bind fun x => orD x.2 (ev o δ true b)) = ev o δ lk (.or a b) := by
  simp only [ev]
  rfl
theorem bool_and {f : Expr → Option T} {pos : Pos} (hf : ∀ e t, f e = some t → Right X W o e t) : ∀ {vs : List Expr} {t : T}, trB f .and vs = some t →
    (∀ lk, PE X (.BoolOp .And vs pos) (tD X W lk fun δ => ev o δ lk t)) ∧ PW X (.BoolOp .And vs pos) (tT X W fun δ => ev o δ true t)
  | [], t, h => by simp [trB] at h
  | [e], t, h => by
    simp only [trB] at h
    exact ⟨fun lk => d_one ((hf e t h).1 lk), wt_one (hf e t h).2⟩
  | e :: e' :: es, t, h => by
    simp only [trB] at h
    cases e1 : f e with
    | none => rw [e1] at h; cases h
    | some u =>
      rw [e1] at h
      cases e2 : trB f .and (e' :: es) with
      | none => simp [e2] at h
      | some v =>
        simp [e2] at h
        subst h
        obtain ⟨h1, h2⟩ := bool_and hf e2
        exact ⟨fun lk => tD_ev (d_and ((hf e u e1).1 true) (h1 true)) fun δ => and_ev δ lk u v, by
          have := wt_and (hf e u e1).2 h2
          rw [show (fun δ => (ev o δ true u).bind fun x => andD x.2 (ev o δ true v)) = fun δ => ev o δ true (.and u v) from funext fun δ => and_ev δ true u v] at this
          exact this⟩
theorem bool_or {f : Expr → Option T} {pos : Pos} (hf : ∀ e t, f e = some t → Right X W o e t) : ∀ {vs : List Expr} {t : T}, trB f .or vs = some t →
    (∀ lk, PE X (.BoolOp .Or vs pos) (tD X W lk fun δ => ev o δ lk t)) ∧ PW X (.BoolOp .Or vs pos) (tT X W fun δ => ev o δ true t)
  | [], t, h => by simp [trB] at h
  | [e], t, h => by
    simp only [trB] at h
    exact ⟨fun lk => d_one ((hf e t h).1 lk), wt_one (hf e t h).2⟩
  | e :: e' :: es, t, h => by
    simp only [trB] at h
    cases e1 : f e with
    | none => rw [e1] at h; cases h
    | some u =>
      rw [e1] at h
      cases e2 : trB f .or (e' :: es) with
      | none => simp [e2] at h
      | some v =>
        simp [e2] at h
        subst h
        obtain ⟨h1, h2⟩ := bool_or hf e2
        exact ⟨fun lk => tD_ev (d_or ((hf e u e1).1 true) (h1 true)) fun δ => or_ev δ lk u v, by
          have := wt_or (hf e u e1).2 h2
          rw [show (fun δ => (ev o δ true u).bind fun x => orD x.2 (ev o δ true v)) = fun δ => ev o δ true (.or u v) from funext fun δ => or_ev δ true u v] at this
          exact this⟩
theorem right_val {e : Expr} {t : T} (h : ∀ lk, PE X e (tD X W lk fun δ => ev o δ lk t)) (he : ∀ whole, isTrue e X.env whole = (do let v ← whole; standAt e.pos; holding [v] (truthy v))) : Right X W o e t := ⟨h, dt_val (h true) he⟩
theorem opt_ok {f : Expr → Option T} (hf : ∀ e t, f e = some t → Right X W o e t) {e : Option Expr} {t : T} (h : trOpt f e = some t) : IsO t e X W o := by
  cases e with
  | none =>
    simp only [trOpt, Option.some.injEq] at h
    exact .inl ⟨rfl, h.symm⟩
  | some e =>
    simp only [trOpt] at h
    cases e1 : f e with
    | none => rw [e1] at h; cases h
    | some u =>
      rw [e1] at h
      simp only [Option.bind_some] at h
      split at h
      · cases h
      · rename_i hne
        cases h
        exact .inr ⟨e, rfl, fun z => hne z, (hf e t e1).1⟩
theorem glB_ok (F : Fits X W tc o k) {x : Str} (h : glB tc.sc x = true) : Gl X x := by
  unfold glB at h
  have := of_decide_eq_true h
  show X.env.scope.names.lookup x = _
  rw [F.sc]; exact this
theorem trTy_ok {y : Str} {ty : Ty} (h : trTy y = some ty) : ∃ T, tyName ty = some T ∧ bootBuiltins y = some (.type T) ∧ y ≠ "__name__" ∧ (y == ("__debug__" : Str)) = false ∧ y ∈ bltNames := by
  unfold trTy at h
  split at h
  · rename_i e; cases h; subst e; exact ⟨"int", rfl, by kernel_rfl, by decide +kernel, by decide +kernel, by decide +kernel⟩
  · split at h
    · rename_i e; cases h; subst e; exact ⟨"bool", rfl, by kernel_rfl, by decide +kernel, by decide +kernel, by decide +kernel⟩
    · split at h
      · rename_i e; cases h; subst e; exact ⟨"str", rfl, by kernel_rfl, by decide +kernel, by decide +kernel, by decide +kernel⟩
      · split at h
        · rename_i e; cases h; subst e; exact ⟨"tuple", rfl, by kernel_rfl, by decide +kernel, by decide +kernel, by decide +kernel⟩
        · split at h
          · rename_i e; cases h; subst e; exact ⟨"list", rfl, by kernel_rfl, by decide +kernel, by decide +kernel, by decide +kernel⟩
          · split at h
            · rename_i e; cases h; subst e; exact ⟨"dict", rfl, by kernel_rfl, by decide +kernel, by decide +kernel, by decide +kernel⟩
            · cases h
set_option maxHeartbeats 1000000 in
theorem fn1_ok (F : Fits X W tc o k) {x : Str} {b : B1} {a : Expr} {u : T} {p pos : Pos} {lk : Bool} (h : fn1 x = some b) (hg : Gl X x) (e : tc.gl.lookup x = none) (ha : PE X a (tD X W true fun δ => ev o δ true u)) (hst : isStar1 a = false) :
    PE X (.Call (.Name x p) [a] [] pos) (tD X W lk fun δ => ev o δ lk (.b1 b u)) := by
  have fb : ∀ {id : String} {r : List V → Hp → VK → Prop}, CallR X (.builtin id) r → Sem1 W r (b1D b) → bootBuiltins x = some (.builtin id) → x ≠ "__name__" → (x == ("__debug__" : Str)) = false → x ∈ bltNames → PE X (.Call (.Name x p) [a] [] pos) (tD X W lk fun δ => ev o δ lk (.b1 b u)) :=
    fun h1 h2 h3 h4 h5 h6 => tD_ev (d_b1 h1 h2 (b1_noexc b) hg (F.gb _ h6 e) h3 ha h4 h5 (star1 hst)) fun δ => by simp only [ev]
  have ft : ∀ {id : String} {r : List V → Hp → VK → Prop}, CallR X (.type id) r → Sem1 W r (b1D b) → bootBuiltins x = some (.type id) → x ≠ "__name__" → (x == ("__debug__" : Str)) = false → x ∈ bltNames → PE X (.Call (.Name x p) [a] [] pos) (tD X W lk fun δ => ev o δ lk (.b1 b u)) :=
    fun h1 h2 h3 h4 h5 h6 => tD_ev (d_ty1 h1 h2 (b1_noexc b) hg (F.gb _ h6 e) h3 ha h4 h5 (star1 hst)) fun δ => by simp only [ev]
  unfold fn1 at h
  split at h
  · rename_i ex; subst ex; cases h
    exact fb call_abs sem_abs PyProof.Rows.boot_abs (by decide +kernel) (by decide +kernel) (by decide +kernel)
  split at h
  · rename_i ex; subst ex; cases h
    exact fb (CallR.or (CallR.or call_len_seq call_len_str) call_lenD) (sem_len F.K) PySem.boot_len (by decide +kernel) (by decide +kernel) (by decide +kernel)
  split at h
  · rename_i ex; subst ex; cases h
    exact ft call_tuple_of (sem_tuple F.K) (by kernel_rfl) (by decide +kernel) (by decide +kernel) (by decide +kernel)
  split at h
  · rename_i ex; obtain ⟨rfl, hq⟩ := ex; cases h
    obtain ⟨r, c1, c2⟩ := f_list (X := X) (W := W) hq F.K F.calm
    exact ft c1 c2 (by kernel_rfl) (by decide +kernel) (by decide +kernel) (by decide +kernel)
  split at h
  · rename_i ex; obtain ⟨rfl, hq⟩ := ex; cases h
    obtain ⟨r, c1, c2⟩ := f_dict (X := X) (W := W) hq F.K F.calm
    exact ft c1 c2 (by kernel_rfl) (by decide +kernel) (by decide +kernel) (by decide +kernel)
  split at h
  · rename_i ex; obtain ⟨rfl, hq⟩ := ex; cases h
    obtain ⟨r, c1, c2⟩ := f_all (X := X) (W := W) hq F.K F.calm
    exact fb c1 c2 (by kernel_rfl) (by decide +kernel) (by decide +kernel) (by decide +kernel)
  split at h
  · rename_i ex; obtain ⟨rfl, hq⟩ := ex; cases h
    obtain ⟨r, c1, c2⟩ := f_any (X := X) (W := W) hq F.K F.calm
    exact fb c1 c2 (by kernel_rfl) (by decide +kernel) (by decide +kernel) (by decide +kernel)
  split at h
  · rename_i ex; obtain ⟨rfl, hq⟩ := ex; cases h
    obtain ⟨r, c1, c2⟩ := f_sum (X := X) (W := W) hq F.K F.calm
    exact fb c1 c2 (by kernel_rfl) (by decide +kernel) (by decide +kernel) (by decide +kernel)
  split at h
  · rename_i ex; obtain ⟨rfl, hq⟩ := ex; cases h
    obtain ⟨r, c1, c2⟩ := f_sorted (X := X) (W := W) hq F.K F.calm
    exact fb c1 c2 PyProof.Rows.boot_sorted (by decide +kernel) (by decide +kernel) (by decide +kernel)
  split at h
  · rename_i ex; obtain ⟨rfl, hq⟩ := ex; cases h
    obtain ⟨r, c1, c2⟩ := f_str (X := X) (W := W) hq F.K F.calm
    exact ft c1 c2 (by kernel_rfl) (by decide +kernel) (by decide +kernel) (by decide +kernel)
  split at h
  · rename_i ex; obtain ⟨rfl, hq⟩ := ex; cases h
    obtain ⟨r, c1, c2⟩ := f_int (X := X) (W := W) hq F.K F.calm
    exact ft c1 c2 (by kernel_rfl) (by decide +kernel) (by decide +kernel) (by decide +kernel)
  · cases h
theorem call_ok (F : Fits X W tc o k) {f : Expr → Option T} (hf : ∀ e t, f e = some t → Right X W o e t) {x : Str} {args : List Expr} {t : T} {p pos : Pos} (h : trCall tc f x args = some t) (lk : Bool) :
    PE X (.Call (.Name x p) args [] pos) (tD X W lk fun δ => ev o δ lk t) := by
  unfold trCall at h
  split at h
  · rename_i hc
    simp only [Bool.and_eq_true, Bool.not_eq_true'] at hc
    obtain ⟨⟨hg, hdb⟩, hst⟩ := hc
    have hg := glB_ok F hg
    split at h
    · rename_i i np e
      split at h
      · rename_i hn
        cases e1 : trL f args with
        | none => rw [e1] at h; cases h
        | some l =>
          rw [e1] at h
          cases h
          obtain ⟨fa, fd, ps, h1, h2, h3, h4⟩ := F.gf x i np e
          cases args with
          | nil => exact absurd rfl hn.2
          | cons a as =>
            have hst' := hst
            simp only [List.any_cons, Bool.or_eq_false_iff] at hst'
            exact d_call (fun δ r e => by rw [trL_len e1 δ r e]; exact hn.1) h4 F.room hg h1 h2 h3 (args_ok (fun e t h => (hf e t h).1) e1 hst) hdb (star1 hst'.1) (star_any hst'.2)
      · cases h
    · cases h
    · rename_i e
      split at h
      · rename_i a
        simp only [List.any_cons, List.any_nil, Bool.or_false] at hst
        cases e0 : fn1 x with
        | none => rw [e0] at h; cases h
        | some b =>
          rw [e0] at h
          cases e1 : f a with
          | none => simp [e1] at h
          | some u =>
            simp [e1] at h
            subst h
            exact fn1_ok F e0 hg e ((hf a u e1).1 true) hst
      · rename_i a b
        simp only [List.any_cons, List.any_nil, Bool.or_false, Bool.or_eq_false_iff] at hst
        split at h
        · rename_i ex
          obtain ⟨rfl, hq⟩ := ex
          cases e1 : f a with
          | none => rw [e1] at h; cases h
          | some u =>
            cases e2 : f b with
            | none => simp [e1, e2] at h
            | some u2 =>
              simp [e1, e2] at h
              subst h
              exact f_max2 hq F.calm hg (F.gb _ (by decide +kernel) e) ((hf a u e1).1 true) ((hf b u2 e2).1 true) hst.1 hst.2
        · split at h
          · rename_i y py
            split at h
            · rename_i hc2
              obtain ⟨ex, hgy, hly⟩ := hc2
              subst ex
              split at h
              · rename_i ey
                subst ey
                cases e1 : f a with
                | none => rw [e1] at h; cases h
                | some u =>
                  rw [e1] at h
                  cases h
                  exact tD_ev (d_isinV (o := o) F.xf hg (F.gb _ (by decide +kernel) e) (glB_ok F hgy) (F.gb _ (by decide +kernel) (by simpa using hly)) ((hf a u e1).1 true) (star1 hst.1)) fun δ => by simp only [ev]
              cases e1 : f a with
              | none => rw [e1] at h; cases h
              | some u =>
                rw [e1] at h
                cases e2 : trTy y with
                | none => simp [e2] at h
                | some ty =>
                  simp [e2] at h
                  subst h
                  obtain ⟨T, hT, hb, hn, hd, hm⟩ := trTy_ok e2
                  have hly : tc.gl.lookup y = none := by simpa using hly
                  exact tD_ev (d_isin (o := o) F.K hT hg (F.gb _ (by decide +kernel) e) (glB_ok F hgy) (F.gb _ hm hly) hb hn hd ((hf a u e1).1 true) (star1 hst.1)) fun δ => by simp only [ev]
            · split at h
              · rename_i hc2
                obtain ⟨ex, hgy, hdy⟩ := hc2
                subst ex
                split at h
                · rename_i c ec
                  cases e1 : f a with
                  | none => rw [e1] at h; cases h
                  | some u =>
                    rw [e1] at h
                    cases h
                    exact tD_ev (d_isinX (o := o) F.xf (show clOf tc.gl y = some c by unfold clOf; rw [ec]) hg (F.gb _ (by decide +kernel) e) (glB_ok F hgy) hdy ((hf a u e1).1 true) (star1 hst.1)) fun δ => by simp only [ev]
                · cases h
              · cases h
          · cases h
      · cases h
  · cases h
theorem maxd_ok (F : Fits X W tc o k) {f : Expr → Option T} (hf : ∀ e t, f e = some t → Right X W o e t) {x : Str} {a b : Expr} {t : T} {p pos kp : Pos} (h : trMaxd tc f x a b = some t) (lk : Bool) : PE X (.Call (.Name x p) [a] [⟨some "default", b, kp⟩] pos) (tD X W lk fun δ => ev o δ lk t) := by
  unfold trMaxd at h
  split at h
  · rename_i hc
    obtain ⟨rfl, hq, hg, hl, hst⟩ := hc
    cases e1 : f a with
    | none => rw [e1] at h; cases h
    | some u =>
      cases e2 : f b with
      | none => simp [e1, e2] at h
      | some u2 =>
        simp [e1, e2] at h
        subst h
        exact f_maxd hq F.K F.calm (glB_ok F hg) (F.gb _ (by decide +kernel) (by simpa using hl)) ((hf a u e1).1 true) ((hf b u2 e2).1 true) hst
  split at h
  · rename_i hc
    obtain ⟨rfl, hq, hg, hl, hst⟩ := hc
    cases e1 : f a with
    | none => rw [e1] at h; cases h
    | some u =>
      cases e2 : f b with
      | none => simp [e1, e2] at h
      | some u2 =>
        simp [e1, e2] at h
        subst h
        exact f_mind hq F.K F.calm (glB_ok F hg) (F.gb _ (by decide +kernel) (by simpa using hl)) ((hf a u e1).1 true) ((hf b u2 e2).1 true) hst
  · cases h
theorem meth_ok (F : Fits X W tc o k) {f : Expr → Option T} (hf : ∀ e t, f e = some t → Right X W o e t) {a : Expr} {name : Str} {args : List Expr} {ok : Bool} {t : T} {apos cpos : Pos} (h : trMeth f a name args ok = some t) (hok : ok = (apos.endLine == cpos.line)) (lk : Bool) :
    PE X (.Call (.Attribute a name apos) args [] cpos) (tD X W lk fun δ => ev o δ lk t) := by
  unfold trMeth at h
  split at h
  · rename_i hc
    simp only [Bool.and_eq_true, Bool.not_eq_true'] at hc
    obtain ⟨⟨h1, h2⟩, hst⟩ := hc
    rw [hok] at h1
    split at h
    · rename_i b
      simp only [List.any_cons, List.any_nil, Bool.or_false] at hst
      split at h
      · rename_i ex
        obtain ⟨rfl, hq⟩ := ex
        cases e1 : f a with
        | none => rw [e1] at h; cases h
        | some ta =>
          cases e2 : f b with
          | none => simp [e1, e2] at h
          | some tb =>
            simp [e1, e2] at h
            subst h
            exact f_join hq F.K ((hf a ta e1).1 true) ((hf b tb e2).1 true) h2 hst h1
      · cases h
    · rename_i b c
      simp only [List.any_cons, List.any_nil, Bool.or_false, Bool.or_eq_false_iff] at hst
      split at h
      · rename_i ex
        obtain ⟨rfl, hq⟩ := ex
        cases e1 : f a with
        | none => rw [e1] at h; cases h
        | some ta =>
          cases e2 : f b with
          | none => simp [e1, e2] at h
          | some tb =>
            cases e3 : f c with
            | none => simp [e1, e2, e3] at h
            | some tcc =>
              simp [e1, e2, e3] at h
              subst h
              exact f_get2 hq (hu_of F.room) ((hf a ta e1).1 true) ((hf b tb e2).1 true) ((hf c tcc e3).1 false) (m2_of h2 hst.1 hst.2 h1)
      · cases h
    · cases h
  · cases h
theorem folded_no {e : Expr} {env : Env} (h : isSet e = false) (x : Value) : foldedSetIterable e env x = pure x := by
  cases e <;> first | rfl | (simp [isSet] at h)
theorem range_mem : ("range" : Str) ∈ bltNames := by decide +kernel
theorem zip_mem : ("zip" : Str) ∈ bltNames := by decide +kernel
theorem enum_mem : ("enumerate" : Str) ∈ bltNames := by decide +kernel
theorem tupE {tg : Expr} (h : isTupE tg = true) : ∃ es x1 p, tg = .Tuple es x1 p := by
  cases tg <;> first | (simp [isTupE] at h; done) | exact ⟨_, _, _, rfl⟩
theorem iter_ok (F : Fits X W tc o k) {f : Expr → Option T} (hf : ∀ e t, f e = some t → Right X W o e t) {e : Expr} {it : TI} (tg : Expr) (h : trI tc f (isTupE tg) e = some it) (lk : Bool) : (∃ wi, PI X tg e wi ∧ WalkL X W o lk it wi) ∧ ∀ x, foldedSetIterable e X.env x = pure x := by
  have val : isSet e = false → (f e).map TI.val = some it → (∃ wi, PI X tg e wi ∧ WalkL X W o lk it wi) ∧ ∀ x, foldedSetIterable e X.env x = pure x := fun hs h => by
    cases e1 : f e with
    | none => rw [e1] at h; cases h
    | some t =>
      rw [e1] at h
      cases h
      exact ⟨w_val F.K ((hf e t e1).1 lk), folded_no hs⟩
  unfold trI at h
  split at h
  · rename_i x px a pc
    split at h
    · rename_i ex
      subst ex
      split at h
      · rename_i hc
        simp only [Bool.and_eq_true, Bool.not_eq_true', Option.isNone_iff_eq_none] at hc
        cases e1 : f a with
        | none => rw [e1] at h; cases h
        | some t =>
          rw [e1] at h
          cases h
          exact ⟨w_rng1 (glB_ok F hc.1.1) (F.gb _ range_mem hc.1.2) ((hf a t e1).1 true) hc.2, fun _ => rfl⟩
      · cases h
    · split at h
      · rename_i ex
        subst ex
        split at h
        · rename_i hc
          simp only [Bool.and_eq_true, Bool.not_eq_true', Option.isNone_iff_eq_none] at hc
          obtain ⟨es, x1, p, rfl⟩ := tupE hc.1.1.1.2
          cases e1 : f a with
          | none => rw [e1] at h; cases h
          | some t =>
            rw [e1] at h
            cases h
            exact ⟨f_enum hc.1.1.1.1 F.K (glB_ok F hc.1.1.2) (F.gb _ enum_mem hc.1.2) ((hf a t e1).1 lk) hc.2, fun _ => rfl⟩
        · cases h
      · exact val rfl h
  · rename_i x px a b pc
    split at h
    · rename_i ex
      subst ex
      split at h
      · rename_i hc
        simp only [Bool.and_eq_true, Bool.not_eq_true', Option.isNone_iff_eq_none] at hc
        cases e1 : f a with
        | none => rw [e1] at h; cases h
        | some t =>
          cases e2 : f b with
          | none => simp [e1, e2] at h
          | some t2 =>
            simp [e1, e2] at h
            subst h
            exact ⟨f_rng2 hc.1.1.1.1 (glB_ok F hc.1.1.1.2) (F.gb _ range_mem hc.1.1.2) ((hf a t e1).1 true) ((hf b t2 e2).1 true) hc.1.2 hc.2, fun _ => rfl⟩
      · cases h
    · split at h
      · rename_i ex
        subst ex
        split at h
        · rename_i hc
          simp only [Bool.and_eq_true, Bool.not_eq_true', Option.isNone_iff_eq_none] at hc
          obtain ⟨es, x1, p, rfl⟩ := tupE hc.1.1.1.1.2
          cases e1 : f a with
          | none => rw [e1] at h; cases h
          | some t =>
            cases e2 : f b with
            | none => simp [e1, e2] at h
            | some t2 =>
              simp [e1, e2] at h
              subst h
              exact ⟨f_zip hc.1.1.1.1.1 F.K (glB_ok F hc.1.1.1.2) (F.gb _ zip_mem hc.1.1.2) ((hf a t e1).1 true) ((hf b t2 e2).1 true) hc.1.2 hc.2, fun _ => rfl⟩
        · cases h
      · exact val rfl h
  · rename_i x px a b c pc
    split at h
    · rename_i ex
      subst ex
      split at h
      · rename_i hc
        simp only [Bool.and_eq_true, Bool.not_eq_true', Option.isNone_iff_eq_none] at hc
        cases e1 : f a with
        | none => rw [e1] at h; cases h
        | some t =>
          cases e2 : f b with
          | none => simp [e1, e2] at h
          | some t2 =>
            cases e3 : f c with
            | none => simp [e1, e2, e3] at h
            | some t3 =>
              simp [e1, e2, e3] at h
              subst h
              exact ⟨f_rng3 hc.1.1.1.1.1 (glB_ok F hc.1.1.1.1.2) (F.gb _ range_mem hc.1.1.1.2) ((hf a t e1).1 true) ((hf b t2 e2).1 true) ((hf c t3 e3).1 true) hc.1.1.2 hc.1.2 hc.2, fun _ => rfl⟩
      · cases h
    · exact val rfl h
  · split at h
    · cases h
    · rename_i hs
      exact val (by simpa using hs) h
theorem blk_of {scope : Scope} (h : blkB scope = true) : Blk scope := by
  unfold blkB at h
  simp only [Bool.and_eq_true, decide_eq_true_eq, List.all_eq_true, Bool.or_eq_true, Bool.not_eq_true'] at h
  refine ⟨h.1, fun y hy z => ?_, fun y hy z => ?_, fun y hy z => ?_⟩
  · have := (h.2 y hy).1.1
    rw [z] at this
    cases this
  · rcases (h.2 y hy).1.2 with q | q
    · rw [z] at q; cases q
    · exact q
  · rcases (h.2 y hy).2 with q | q
    · rw [z] at q; cases q
    · exact q
theorem frees_mem {scope : Scope} {x : Str} : x ∈ frees scope ↔ (x, NameKind.free) ∈ scope.names := by
  unfold frees
  constructor
  · intro h
    obtain ⟨y, hy, rfl⟩ := List.mem_map.mp h
    obtain ⟨h1, h2⟩ := List.mem_filter.mp hy
    have : y.2 = .free := by simpa using h2
    rw [← this]; exact h1
  · exact fun h => List.mem_map.mpr ⟨_, List.mem_filter.mpr ⟨h, by simp⟩, rfl⟩
theorem tgL_pg {X' : Cx} {tl : List Str} (hN : X'.N.Nodup) (hloc : ∀ x ∈ tl, X'.env.scope.names.lookup x = some .local) : ∀ {es : List Expr} {l : List Str} {i : Nat}, tgList es = some l → (∀ (j : Nat) x, l[j]? = some x → X'.N[i + j]? = some x ∧ x ∈ tl) →
    PGs X' es (gNames (List.range' i l.length)) ∧ (assignEach es X'.env).length = l.length ∧ (assignEach es X'.env).findIdx? (·.1) = none
  | [], l, i, h, _ => by
    simp only [tgList, Option.some.injEq] at h
    subst h
    exact ⟨pgs_nil, rfl, rfl⟩
  | e :: es, l, i, h, hl => by
    cases e <;> first | exact nope h | simp only [tgList] at h
    rename_i x p
    cases e1 : tgList es with
    | none => rw [e1] at h; cases h
    | some l' =>
      rw [e1] at h
      cases h
      obtain ⟨h1, h2, h3⟩ := tgL_pg hN hloc (i := i + 1) e1 fun j y hj => by
        have := hl (j + 1) y (by simpa using hj)
        rw [show i + (j + 1) = i + 1 + j by omega] at this
        exact this
      obtain ⟨k1, k2⟩ := hl 0 x rfl
      rw [Nat.add_zero] at k1
      have kl := hloc x k2
      refine ⟨?_, ?_, ?_⟩
      · rw [List.length_cons, List.range'_succ]
        exact pgs_cons (pg_name hN k1 (.inl kl) (.inr kl)) h1
      · show (assignEach es X'.env).length + 1 = _
        rw [h2]; rfl
      · show List.findIdx? (·.1) ((false, assign (.Name x p) X'.env) :: assignEach es X'.env) = none
        rw [List.findIdx?_cons, h3]; rfl
theorem gTup_range {K : PySem.W.Frag} {n : Nat} : gTup K n (gNames (List.range n)) = gTup K (List.range n).length (gNames (List.range n)) := by rw [List.length_range]
theorem comp_in (hx : X.xe = fun _ _ => False) (F : Fits X W tc o k) {f : Tc → Expr → Option T} (hf : ∀ (X' : Cx) (tc' : Tc), (X'.xe = fun _ _ => False) → Fits X' W tc' o k → ∀ e t, f tc' e = some t → Right X' W o e t) {elt tg iter : Expr} {ifs : List Expr} {scope : Scope} {t : T} (h : trComp tc f elt tg iter ifs scope = some t) :
    ∃ N m caps tup g it c e, t = .comp caps m tup it c e ∧ CompIn X W o scope N elt tg iter ifs m caps tup g it c e := by
  unfold trComp at h
  cases e1 : tgNames tg with
  | none => rw [e1] at h; cases h
  | some q =>
  obtain ⟨tn, tup⟩ := q
  rw [e1] at h
  simp only [Option.bind_some] at h
  split at h
  · rename_i hb
    cases e2 : ixs tc.N (frees scope) with
    | none => rw [e2] at h; cases h
    | some caps =>
    cases e3 : trI tc (f tc) (isTupE tg) iter with
    | none => simp [e2, e3] at h
    | some it =>
    cases e4 : trIfs (f ⟨tn ++ frees scope, relabelS scope tc.sc, tc.gl⟩) ifs with
    | none => simp [e2, e3, e4] at h
    | some c =>
    cases e5 : f ⟨tn ++ frees scope, relabelS scope tc.sc, tc.gl⟩ elt with
    | none => simp [e2, e3, e4, e5] at h
    | some e =>
    simp [e2, e3, e4, e5] at h
    subst h
    unfold okBlk at hb
    simp only [Bool.and_eq_true, decide_eq_true_eq, List.all_eq_true, Bool.or_eq_true] at hb
    obtain ⟨⟨⟨b1, b2⟩, b3⟩, b4⟩ := hb
    have FC := fun fp pins s H => F.comp (scope := scope) b2 fp pins s H
    obtain ⟨⟨wi, hi1, hi2⟩, hs⟩ := iter_ok F (fun e t h => hf X tc hx F e t h) tg e3 true
    have hi : ∃ wi, PI X tg iter wi ∧ WalkR X W o it wi := ⟨wi, hi1, hi2.comp⟩
    have hloc : ∀ (X0 : Cx), X0.env = X.env → ∀ x ∈ tn, (relabel scope X.env).names.lookup x = some .local := fun _ _ x hx => lookup_relabel_local (b3 x hx)
    have hg : ∃ g, (∀ fp pins s H, PG (cxC X scope (tn ++ frees scope) fp pins s H) tg g) ∧ (∀ H0, TgR { X with H₀ := H0 } W (List.range tn.length) tup g) ∧ (tup = false → tn.length = 1) := by
      cases tg <;> first | exact nope e1 | simp only [tgNames] at e1
      · rename_i x p
        cases e1
        exact ⟨gName 0, fun fp pins s H => pg_name (X := cxC X scope ([x] ++ frees scope) fp pins s H) b2 rfl (.inl (hloc X rfl x List.mem_cons_self)) (.inr (hloc X rfl x List.mem_cons_self)), fun H0 => tgr_name, fun _ => rfl⟩
      · rename_i es kk p
        cases e6 : tgList es with
        | none => rw [e6] at e1; cases e1
        | some l =>
          rw [e6] at e1
          cases e1
          refine ⟨gTup X.K tn.length (gNames (List.range tn.length)), fun fp pins s H => ?_, fun H0 => ?_, fun z => by cases z⟩
          · obtain ⟨k1, k2, k3⟩ := tgL_pg (X' := cxC X scope (tn ++ frees scope) fp pins s H) (tl := tn) b2 (hloc X rfl) (i := 0) e6 fun j x hj => ⟨by
              rw [Nat.zero_add]
              show (tn ++ frees scope)[j]? = some x
              rw [List.getElem?_append_left (List.getElem?_eq_some_iff.mp hj).1]; exact hj, List.mem_of_getElem? hj⟩
            rw [← List.range_eq_range'] at k1
            exact pg_tup (X := cxC X scope (tn ++ frees scope) fp pins s H) F.calm k1 k2 k3
          · rw [gTup_range]
            exact tgr_tup (X := { X with H₀ := H0 }) F.K
    obtain ⟨g, g1, g2, g3⟩ := hg
    refine ⟨tn ++ frees scope, tn.length, caps, tup, g, it, c, e, rfl, F.K, hx, F.calm, blk_of b1, ⟨?_, fun j kk x hj hx => ?_, fun y hy hk => ?_⟩, g3, hi, g1, g2, fun fp pins s H => ?_, fun fp pins s H => (hf (cxC X scope (tn ++ frees scope) fp pins s H) _ hx (FC fp pins s H) elt e e5).1 false, hs⟩
    · rw [List.length_append, ixs_len e2]
    · obtain ⟨y, y1, y2⟩ := ixs_get e2 hj
      rw [List.getElem?_append_right (by omega), Nat.add_sub_cancel_left, y1] at hx
      cases hx
      have hm := List.mem_of_getElem? y1
      rw [F.N, F.sc]
      exact ⟨y2, (blk_of b1).fre _ (frees_mem.mp hm) rfl, b4 x hm⟩
    · rw [F.sc]
      exact b4 y.1 (frees_mem.mpr (by rw [← hk]; exact hy))
    · cases ifs with
      | nil =>
        simp only [trIfs, Option.some.injEq] at e4
        subst e4
        refine PIf.imp pif_nil fun σ H' Q ⟨me, B, δ, S, q⟩ => ?_
        simp only [ev, R.bind, truth, R.of] at q
        exact q H' (Same.refl _)
      | cons c1 rest =>
        cases rest with
        | nil =>
          simp only [trIfs] at e4
          exact pif_one (hf (cxC X scope (tn ++ frees scope) fp pins s H) _ hx (FC fp pins s H) c1 c e4).2
        | cons _ _ => simp [trIfs] at e4
  · cases h
theorem const_ok {c : Const} {d : D} {j : Nat} {pos : Pos} (h : trConst c = some d) (lk : Bool) : PE X (.Constant c j pos) (tD X W lk fun δ => ev o δ lk (.cst d)) := by
  cases c <;> first | exact nope h | simp only [trConst] at h
  · cases h; exact d_cst pe_non (fun G => by simp only [Rep]) o
  · cases h; exact d_cst pe_bl (fun G => by simp only [Rep]) o
  · cases h; exact d_cst pe_int (fun G => by simp only [Rep]) o
  · split at h
    · rename_i s hl
      cases h
      refine d_cst pe_str (fun G => ?_) o
      simp only [Rep, strV]
      refine ⟨trivial, ?_⟩
      have : s.cps.toList.length = s.length := by simp [Str.length]
      omega
    · cases h
theorem plainIx {b : Expr} (h : isSlice b = false) : PlainIx b := fun o i => by cases b <;> first | rfl | (simp [isSlice] at h)
theorem d_idx {a b : Expr} {ta tb : T} {pos : Pos} (F : Fits X W tc o k) (ha : PE X a (tD X W true fun δ => ev o δ true ta)) (hb : PE X b (tD X W true fun δ => ev o δ true tb)) (hs : isSlice b = false) (lk : Bool) :
    PE X (.Subscript a b pos) (tD X W lk fun δ => ev o δ lk (.idx ta tb)) := by
  have nosl : NoSl b := by intro x y; cases b <;> first | rfl | (simp [isSlice] at hs)
  refine PE.imp (PE.or (pe_ix ix_all ha hb (plainIx hs)) (pe_dget (hu_of F.room) ha hb nosl)) fun σ H Q h => ?_
  obtain ⟨me, B, δ, S, h⟩ := tD_iff.mp h
  simp only [ev] at h
  by_cases hd : ∃ r ks vs, ev o δ true ta = .ok r ∧ r.2 = .dct ks vs
  · obtain ⟨r, ks, vs, e, e2⟩ := hd
    refine .inr ?_
    refine tD.mono (part (fa := fun δ => ev o δ true ta) S h) fun v H1 ⟨r1, e1, S1, s1, t1, _, h1⟩ => ?_
    have : r1 = r := by rw [e] at e1; cases e1; rfl
    subst this
    refine tD.mono (part (fa := fun δ => ev o δ true tb) (g := fun y => idxD r1.2 y.2) S1 h1) fun u H2 ⟨r2, e3, S2, s2, t2, _, h2⟩ => ?_
    rw [e2] at t1 h2
    obtain ⟨a, kvs, rfl, q1, q2, q3, q4⟩ := t1
    simp only [idxD] at h2
    cases e4 : keyOf r2.2 with
    | none => rw [e4] at h2; exact h2.elim
    | some x =>
      rw [e4] at h2
      simp only [Option.bind_some] at h2
      cases e5 : look ks vs x with
      | none => rw [e5] at h2; exact h2.elim
      | some d =>
        rw [e5] at h2
        obtain ⟨v, h3, h4⟩ := look_val q2 (q4.mono (vis_mono s2)) e5
        refine ⟨a, v, rfl, ?_, h2 v H2 (Same.refl _) (.shared h4)⟩
        rw [key_rep e4 t2, ← h3]
        obtain ⟨ep, q1⟩ := q1; exact DGet.k (s2 _ _ q1)
  · refine .inl (tOp_of (lk := lk) (sem_idx F.K) (by intro x y c; cases x <;> simp only [seqIdx] <;> first | (intro z; cases z; done) | exact idxD_noexc _ _ _) ?_)
    refine tD_iff.mpr ⟨me, B, δ, S, ?_⟩
    have e : ((ev o δ true ta).bind fun x => (ev o δ true tb).bind fun y => seqIdx x.2 y.2) = ((ev o δ true ta).bind fun x => (ev o δ true tb).bind fun y => idxD x.2 y.2) := by
      cases e : ev o δ true ta with
      | ok r =>
        show ((ev o δ true tb).bind fun y => seqIdx r.2 y.2) = ((ev o δ true tb).bind fun y => idxD r.2 y.2)
        congr 1
        funext y
        cases e2 : r.2 with
        | dct ks vs => exact absurd ⟨r, ks, vs, e, e2⟩ hd
        | _ => rfl
      | exc c => rfl
      | stuck => rfl
    show After X W lk σ H (Hid B σ δ) ((ev o δ true ta).bind fun x => (ev o δ true tb).bind fun y => seqIdx x.2 y.2) Q
    rw [e]
    exact h
theorem joined_ok {f : Expr → Option T} (hf : ∀ e t, f e = some t → Right X W o e t) {vs : List Expr} {t : T} {pos : Pos} (h : trJ f vs = some t) (lk : Bool) : PE X (.JoinedStr vs pos) (tD X W lk fun δ => ev o δ lk t) := by
  unfold trJ at h
  split at h
  · split at h
    · rename_i a cv p1 cs kk p2 hc
      obtain ⟨rfl, hl⟩ := hc
      cases e1 : f a with
      | none => rw [e1] at h; cases h
      | some u =>
        rw [e1] at h
        cases h
        exact d_fstr hl fun lk => (hf a u e1).1 lk
    · cases h
  · split at h
    · rename_i cs kk p1 a cv p2 hc
      obtain ⟨rfl, hl⟩ := hc
      cases e1 : f a with
      | none => rw [e1] at h; cases h
      | some u =>
        rw [e1] at h
        cases h
        exact d_fstrI hl fun lk => (hf a u e1).1 lk
    · cases h
  · cases h
theorem sndE : ∀ (n : Nat) {X : Cx} {tc : Tc}, (X.xe = fun _ _ => False) → Fits X W tc o k → ∀ (e : Expr) (t : T), trE n tc e = some t → Right X W o e t := by
  intro n
  induction n with
  | zero => intro X tc hx F e t h; exact nope h
  | succ n ih' =>
    intro X tc hx F e t h
    have ih := fun e t h => ih' hx F e t h
    cases e with
    | Name x pos =>
      rw [trE_succ] at h; delta trEb at h; dsimp only at h
      split at h
      · rename_i hv
        obtain ⟨h1, h2, h3⟩ := visB_ok F hv
        cases e1 : nameIx tc.N x with
        | none => rw [e1] at h; cases h
        | some i =>
          rw [e1] at h
          cases h
          exact right_val (fun lk => d_var (by rw [F.N]; exact nameIx_get e1) h1 h2 h3 o) (fun _ => rfl)
      · split at h
        · rename_i hc
          simp only [Bool.and_eq_true, Bool.not_eq_true'] at hc
          split at h
          · rename_i d e1
            cases h
            obtain ⟨u, v, m1, m2, m3⟩ := F.gv x d e1
            exact right_val (fun lk => d_cst (pe_glob (glB_ok F hc.1) m1 m2 hc.2) m3 o) (fun _ => rfl)
          · cases h
        · cases h
    | IfExp c a b pos =>
      rw [trE_succ] at h; delta trEb at h; dsimp only at h
      cases e1 : trE n tc c with
      | none => rw [e1] at h; cases h
      | some u1 =>
        cases e2 : trE n tc a with
        | none => simp [e1, e2] at h
        | some u2 =>
          cases e3 : trE n tc b with
          | none => simp [e1, e2, e3] at h
          | some u3 =>
            simp [e1, e2, e3] at h
            subst h
            exact ⟨fun lk => d_ite (ih c u1 e1).2 ((ih a u2 e2).1 lk) ((ih b u3 e3).1 lk), dt_ite (ih c u1 e1).2 (ih a u2 e2).2 (ih b u3 e3).2⟩
    | Constant c j pos =>
      rw [trE_succ] at h; delta trEb at h; dsimp only at h
      cases e1 : trConst c with
      | none => rw [e1] at h; cases h
      | some d =>
        rw [e1] at h
        cases h
        exact right_val (fun lk => const_ok e1 lk) (fun _ => rfl)
    | BinOp a op b pos =>
      rw [trE_succ] at h; delta trEb at h; dsimp only at h
      cases e1 : trOp op with
      | none => rw [e1] at h; cases h
      | some p =>
        cases e2 : trE n tc a with
        | none => simp [e1, e2] at h
        | some ta =>
          cases e3 : trE n tc b with
          | none => simp [e1, e2, e3] at h
          | some tb =>
            simp [e1, e2, e3] at h
            subst h
            exact right_val (fun lk => bin_ok F e1 ((ih a ta e2).1 true) ((ih b tb e3).1 true) lk) (fun _ => rfl)
    | UnaryOp op a pos =>
      cases op <;> first | exact nope h | (rw [trE_succ] at h; delta trEb at h; dsimp only at h)
      all_goals
        cases e1 : trE n tc a with
        | none => rw [e1] at h; cases h
        | some ta =>
          rw [e1] at h
          cases h
          first
            | exact ⟨fun lk => tD_ev (d_not ((ih a ta e1).1 true)) fun δ => by simp only [ev], tT_ev (dt_not (ih a ta e1).2) fun δ => by simp only [ev]⟩
            | exact right_val (fun lk => d_neg ((ih a ta e1).1 true)) (fun _ => rfl)
    | Compare a ops cs pos =>
      match ops, cs, h with
      | [op], [b], h =>
        rw [trE_succ] at h; delta trEb at h; dsimp only at h
        split at h
        · cases h
        · rename_i hm
          cases e1 : trCmp op with
          | none => rw [e1] at h; cases h
          | some p =>
            cases e2 : trE n tc a with
            | none => simp [e1, e2] at h
            | some ta =>
              cases e3 : trE n tc b with
              | none => simp [e1, e2, e3] at h
              | some tb =>
                simp [e1, e2, e3] at h
                subst h
                exact cmp_ok F e1 (by simpa using hm) ((ih a ta e2).1 true) ((ih b tb e3).1 true)
      | [], _, h => exact nope h
      | _ :: _ :: _, _, h => exact nope h
      | [_], [], h => exact nope h
      | [_], _ :: _ :: _, h => exact nope h
    | BoolOp op vs pos =>
      cases op with
      | And =>
        rw [trE_succ] at h; delta trEb at h; dsimp only at h
        obtain ⟨h1, h2⟩ := bool_and (pos := pos) ih h
        exact ⟨h1, h2.pt⟩
      | Or =>
        rw [trE_succ] at h; delta trEb at h; dsimp only at h
        obtain ⟨h1, h2⟩ := bool_or (pos := pos) ih h
        exact ⟨h1, h2.pt⟩
    | Tuple es kk pos =>
      rw [trE_succ] at h; delta trEb at h; dsimp only at h
      split at h
      · cases h
      · rename_i hst
        cases e1 : trL (trE n tc) es with
        | none => rw [e1] at h; cases h
        | some l =>
          rw [e1] at h
          cases h
          exact right_val (fun lk => d_tup (args_ok (fun e t h => (ih e t h).1) e1 (by simpa using hst))) (fun _ => rfl)
    | List es pos =>
      rw [trE_succ] at h; delta trEb at h; dsimp only at h
      split at h
      · cases h
      · rename_i hst
        cases e1 : trL (trE n tc) es with
        | none => rw [e1] at h; cases h
        | some l =>
          rw [e1] at h
          cases h
          exact right_val (fun lk => d_lst (args_ok (fun e t h => (ih e t h).1) e1 (by simpa using hst))) (fun _ => rfl)
    | Dict ks vs pos =>
      match ks, vs, h with
      | [], [], h =>
        rw [trE_succ] at h; delta trEb at h; simp only [Option.some.injEq] at h
        subst h
        exact right_val (fun lk => d_dnew0) (fun _ => rfl)
      | [], _ :: _, h => exact nope h
      | k0 :: ks, vs, h =>
        rw [trE_succ] at h; delta trEb at h; dsimp only at h
        split at h
        · rename_i hq
          exact right_val (fun lk => f_dct hq h lk) (fun _ => rfl)
        · cases h
    | ListComp elt gens scope pos =>
      match gens, h with
      | [g], h =>
        rw [trE_succ] at h; delta trEb at h; dsimp only at h
        split at h
        · rename_i h0
          obtain ⟨tg, iter, ifs, as⟩ := g
          simp only at h0 h
          subst h0
          obtain ⟨N, m, caps, tup, g, it, c, e, rfl, A⟩ := comp_in hx F (fun X' tc' hx' F' e t h => ih' hx' F' e t h) h
          exact right_val (fun lk => d_comp A) (fun _ => rfl)
        · cases h
      | [], h => exact nope h
      | _ :: _ :: _, h => exact nope h
    | Subscript a b pos =>
      by_cases hs : ∃ lo hi p2, b = .Slice lo hi none p2
      · obtain ⟨lo, hi, p2, rfl⟩ := hs
        rw [trE_succ] at h; delta trEb at h; dsimp only at h
        cases e1 : trE n tc a with
        | none => rw [e1] at h; cases h
        | some ta =>
          cases e2 : trOpt (trE n tc) lo with
          | none => simp [e1, e2] at h
          | some tl =>
            cases e3 : trOpt (trE n tc) hi with
            | none => simp [e1, e2, e3] at h
            | some th =>
              simp [e1, e2, e3] at h
              subst h
              exact right_val (fun lk => tD_ev (d_slc sl_all (sem_slc F.K) ((ih a ta e1).1 true) (opt_ok ih e2) (opt_ok ih e3)) fun δ => by simp only [ev]) (fun _ => rfl)
      · have h' : (if isSlice b then none else (match dctOf tc a with
            | some q => (trE n tc b).map fun i => T.kidx q.1 q.2 i
            | none => (trE n tc a).bind fun t => (trE n tc b).map fun i => T.idx t i)) = some t := by
          cases b <;> first | exact h | skip
          rename_i lo hi st p2
          cases st with
          | none => exact absurd ⟨lo, hi, p2, rfl⟩ hs
          | some st => exact nope h
        cases hsl : isSlice b with
        | true => simp [hsl] at h'
        | false =>
          simp only [hsl, Bool.false_eq_true, if_false] at h'
          cases e0 : dctOf tc a with
          | some q =>
            rw [e0] at h'
            cases e2 : trE n tc b with
            | none => simp [e2] at h'
            | some tb =>
              simp [e2] at h'
              subst h'
              cases a <;> first | exact nope e0 | simp only [dctOf] at e0
              all_goals
                rename_i x px
                split at e0
                · rename_i hc
                  simp only [Bool.and_eq_true, Bool.not_eq_true'] at hc
                  split at e0
                  · rename_i ks vs e1
                    cases e0
                    obtain ⟨ad, m1, m2⟩ := F.gd x ks vs e1
                    exact right_val (fun lk => f_kidx hc.1.1 F.K m2 (glB_ok F hc.1.2) m1 hc.2 ((ih b tb e2).1 true) (by intro x y; cases b <;> first | rfl | (simp [isSlice] at hsl))) (fun _ => rfl)
                  · cases e0
                · cases e0
          | none =>
          rw [e0] at h'
          simp only at h'
          cases e1 : trE n tc a with
          | none => rw [e1] at h'; cases h'
          | some ta =>
            cases e2 : trE n tc b with
            | none => simp [e1, e2] at h'
            | some tb =>
              simp [e1, e2] at h'
              subst h'
              exact right_val (fun lk => d_idx F ((ih a ta e1).1 true) ((ih b tb e2).1 true) hsl lk) (fun _ => rfl)
    | Call f args kws pos =>
      match f, kws, h with
      | .Name x p, [], h =>
        rw [trE_succ] at h; delta trEb at h; dsimp only at h
        exact right_val (fun lk => call_ok F ih h lk) (fun _ => rfl)
      | .Attribute a name apos, [], h =>
        rw [trE_succ] at h; delta trEb at h; dsimp only at h
        exact right_val (fun lk => meth_ok F ih h rfl lk) (fun _ => rfl)
      | .Name x p, [kw], h =>
        match args, kw, h with
        | [a], ⟨some nm, b, kp⟩, h =>
          rw [trE_succ] at h; delta trEb at h; dsimp only at h
          split at h
          · rename_i ex
            subst ex
            exact right_val (fun lk => maxd_ok F ih h lk) (fun _ => rfl)
          · cases h
        | [_], ⟨none, _, _⟩, h => exact nope h
        | [], ⟨some _, _, _⟩, h | [], ⟨none, _, _⟩, h => exact nope h
        | _ :: _ :: _, ⟨some _, _, _⟩, h | _ :: _ :: _, ⟨none, _, _⟩, h => exact nope h
      | .Name x p, ⟨some _, _, _⟩ :: _ :: _, h | .Name x p, ⟨none, _, _⟩ :: _ :: _, h => rcases args with _ | ⟨_, _ | _⟩ <;> exact nope h
      | .Attribute .., _ :: _, h => exact nope h
      | .BoolOp .., _, h => exact nope h
      | .NamedExpr .., _, h => exact nope h
      | .BinOp .., _, h => exact nope h
      | .UnaryOp .., _, h => exact nope h
      | .Lambda .., _, h => exact nope h
      | .IfExp .., _, h => exact nope h
      | .Dict .., _, h => exact nope h
      | .Set .., _, h => exact nope h
      | .ListComp .., _, h => exact nope h
      | .SetComp .., _, h => exact nope h
      | .DictComp .., _, h => exact nope h
      | .GeneratorExp .., _, h => exact nope h
      | .Await .., _, h => exact nope h
      | .Yield .., _, h => exact nope h
      | .YieldFrom .., _, h => exact nope h
      | .Compare .., _, h => exact nope h
      | .Call .., _, h => exact nope h
      | .FormattedValue .., _, h => exact nope h
      | .JoinedStr .., _, h => exact nope h
      | .Constant .., _, h => exact nope h
      | .Subscript .., _, h => exact nope h
      | .Starred .., _, h => exact nope h
      | .List .., _, h => exact nope h
      | .Tuple .., _, h => exact nope h
      | .Slice .., _, h => exact nope h
    | JoinedStr vs pos =>
      rw [trE_succ] at h; delta trEb at h; dsimp only at h
      exact right_val (fun lk => joined_ok ih h lk) (fun _ => rfl)
    | _ => exact nope h
end
end Z

namespace Z
open PySem PySem.Spec PyProof.Rows L2
noncomputable def isComp : Expr → Bool
  | .ListComp .. => true
  | .SetComp .. => true
  | .DictComp .. => true
  | _ => false
noncomputable def trNames (tc : Tc) : List Expr → Option (List Nat)
  | [] => some []
  | .Name x _ :: es => if locB tc.sc x then (nameIx tc.N x).bind fun i => (trNames tc es).map fun l => i :: l else none
  | _ => none
noncomputable def trTg (tc : Tc) : Expr → Option (List Nat × Bool)
  | .Name x _ => if locB tc.sc x then (nameIx tc.N x).map fun i => ([i], false) else none
  | .Tuple es _ _ => (trNames tc es).map fun l => (l, true)
  | _ => none
noncomputable def trSs (f : Stmt → Option S) : List Stmt → Option SL
  | [] => some .nil
  | s :: ss => (f s).bind fun t => (trSs f ss).map fun l => .cons t l
noncomputable def isName : Expr → Bool
  | .Name .. => true
  | _ => false
noncomputable def isVar : T → Bool
  | .var _ => true
  | _ => false
noncomputable def depthE : Nat := 40
noncomputable def isComp1 : Expr → Bool
  | .ListComp _ [g] _ _ => decide (g.is_async = 0)
  | _ => false
noncomputable def trA (tc : Tc) (tgs : List Expr) (e : Expr) : Option S := match tgs with
  | [.Name x _] => if locB tc.sc x && (!isComp e || isComp1 e) then (nameIx tc.N x).bind fun i => (trE depthE tc e).map fun t => .set i t else none
  | [.Subscript (.Name x _) k _] => if visB tc.sc x && !isSlice k && !isComp e then (nameIx tc.N x).bind fun i => (trE depthE tc k).bind fun tk => (trE depthE tc e).map fun t => .seti i tk t else none
  | _ => none
noncomputable def trPop (tc : Tc) (tgs : List Expr) (e : Expr) : Option S := match tgs, e with
  | [.Name y _], .Call (.Attribute (.Name x _) m apos) [e] [] cpos => if m = "pop" then (if locB tc.sc y && visB tc.sc x && !isStar1 e && (apos.endLine == cpos.line) then (nameIx tc.N y).bind fun j => (nameIx tc.N x).bind fun i => (trE depthE tc e).map fun t => .pop1 (some j) i t else none) else none
  | _, _ => none
noncomputable def raisesB (tc : Tc) (i : Nat) : Bool := match tc.gl.lookup ("!" : Str) with
  | some (.mark l) => l.contains i
  | _ => false
noncomputable def trSx (tc : Tc) (tgs : List Expr) (e : Expr) : Option S := match tgs, e with
  | [.Name y _], .Call (.Name x _) args [] _ => (match tc.gl.lookup x with
    | some (.fn i np) => if raisesB tc i && locB tc.sc y && glB tc.sc x && !(x == ("__debug__" : Str)) && !(args.any isStar1) && decide (args.length = np) && !args.isEmpty then (nameIx tc.N y).bind fun j => (trL (trE depthE tc) args).map fun l => .setx j i l else none
    | _ => none)
  | _, _ => none
noncomputable def trA2 (tc : Tc) (tgs : List Expr) (e : Expr) : Option S := match trSx tc tgs e with
  | some t => some t
  | none => match trPop tc tgs e with
    | some t => some t
    | none => trA tc tgs e
noncomputable def trX (tc : Tc) (e : Expr) : Option S := match e with
  | .Call (.Attribute (.Name x _) m apos) [e] [] cpos => if m = "append" then (if visB tc.sc x && !isStar1 e && (apos.endLine == cpos.line) then (nameIx tc.N x).bind fun i => (trE depthE tc e).map fun t => .append i t else none) else none
  | .Call (.Attribute (.Name x _) m apos) [] [] cpos => if m = "clear" then (if visB tc.sc x && (apos.endLine == cpos.line) then (nameIx tc.N x).map fun i => .clear i else none) else none
  | .Call (.Name x _) args [] _ => (match tc.gl.lookup x with
    | some (.fn i np) => if glB tc.sc x && !(x == ("__debug__" : Str)) && !(args.any isStar1) && decide (args.length = np) && !args.isEmpty then (trL (trE depthE tc) args).map fun l => .expr (.call i l) else none
    | _ => none)
  | _ => none
noncomputable def trRaise (tc : Tc) (e : Option Expr) (cs : Option Expr) : Option S := match e, cs with
  | some (.Call (.Name x _) [a] [] _), none => if glB tc.sc x && !(x == ("__debug__" : Str)) && !isStar1 a then (clOf tc.gl x).bind fun c => (trE depthE tc a).map fun t => .raise c t else none
  | _, _ => none
noncomputable def trAs (tc : Tc) (n : Str) (st : Stmt) : Option S := match st with
  | .Assign [.Name y _] (.Name m _) _ => if m = n ∧ locB tc.sc y = true ∧ visB tc.sc n = true then (nameIx tc.N y).bind fun i => (nameIx tc.N n).map fun j => .set i (.var j) else none
  | _ => none
noncomputable def trTry (f : Stmt → Option S) (tc : Tc) (body : List Stmt) (hs : List ExceptHandler) : Option S := match hs with
  | [.ExceptHandler (some (.Name cx _)) (some n) [st] _] => if glB tc.sc cx && !(cx == ("__debug__" : Str)) && decide (tc.sc.names.lookup n = some .local) then
      (clOf tc.gl cx).bind fun c => (nameIx tc.N n).bind fun j => (trAs tc n st).bind fun su => (trSs f body).map fun b => .try_ b c (some j) (.cons su .nil) else none
  | _ => none
noncomputable def tlVar : TL → Bool
  | .nil => false
  | .cons (.var _) _ => true
  | .cons _ l => tlVar l
noncomputable def tlLst : TL → Bool
  | .nil => false
  | .cons (.lst l) r => tlVar l || tlLst r
  | .cons _ r => tlLst r
noncomputable def lstV : T → Bool
  | .not (.call _ l) => tlLst l
  | _ => false
noncomputable def trSb (f : Stmt → Option S) (tc : Tc) (st : Stmt) : Option S := match st with
  | .Assign tgs e _ => trA2 tc tgs e
  | .If c a b _ => (trE depthE tc c).bind fun t => (trSs f a).bind fun u => (trSs f b).map fun v => if lstV t then .ifq t u v else .ifs t u v
  | .For tg iter body [] _ => (trTg tc tg).bind fun g => (trI tc (trE depthE tc) (isTupE tg) iter).bind fun it => (trSs f body).map fun b => .for_ g.1 g.2 it b
  | .While c body [] _ => (trE depthE tc c).bind fun t => (trSs f body).map fun b => .while_ t b
  | .Return (some e) _ => (trE depthE tc e).bind fun t => if isVar t && !isName e then none else some (.ret t)
  | .Return none _ => some .retn
  | .Expr e _ => trX tc e
  | .Raise e c _ => trRaise tc e c
  | .Try body hs [] [] _ => trTry f tc body hs
  | .Pass _ => some .pass
  | .Break _ => some .brk
  | .Continue _ => some .cont
  | _ => none
noncomputable def trS : Nat → Tc → Stmt → Option S
  | 0, _, _ => none
  | n + 1, tc, st => some ((trSb (trS n tc) tc st).getD holeS)
theorem trS_hole {n : Nat} {tc : Tc} {st : Stmt} {t : S} (h : trS (n + 1) tc st = some t) : trSb (trS n tc) tc st = some t ∨ t = holeS := by
  have h : some ((trSb (trS n tc) tc st).getD holeS) = some t := h
  cases e : trSb (trS n tc) tc st with
  | none => rw [e] at h; cases h; exact .inr rfl
  | some u => rw [e] at h; cases h; exact .inl rfl
structure FitsS (X : Cx) (W : Wd) (tc : Tc) (o : Orc) (k : Nat) : Prop extends Fits X W tc o k where
  fn : ∀ x, X.fn x = true
  pass : PassesOwn (model X.prog X.w) X.A X.env X.xe
  stk : X.stack = X.env :: X.outer
  frm : X.env.frame = some X.env.locals
  gB : ∀ x i np, tc.gl.lookup x = some (.fn i np) → ∃ f fd ps, X.mg x = some (.ref f) ∧ PySem.W.keepIn X.K (.ref f) = true ∧ Binds X.K fd ps [] ∧ FnOk X.prog X.w X.K X.mg X.base (CXZ X.prog X.w X.base W) k f fd ps (spB W (o.fn i) np)
theorem Fits.nox {X : Cx} {W : Wd} {tc : Tc} {o : Orc} {k : Nat} (F : Fits X W tc o k) : Fits X.nox W tc o k := ⟨F.N, F.nd, F.sc, F.K, F.room, F.calm, F.gf, F.gb, F.gv, F.gd, F.xf⟩
theorem Right.lift {X : Cx} {W : Wd} {o : Orc} {e : Expr} {t : T} (h : Right X.nox W o e t) : Right X W o e t := ⟨fun lk => PE.lift (h.1 lk), PT.lift h.2⟩
theorem sndX (n : Nat) {X : Cx} {W : Wd} {tc : Tc} {o : Orc} {k : Nat} (F : Fits X W tc o k) (e : Expr) (t : T) (h : trE n tc e = some t) : Right X W o e t := Right.lift (sndE n rfl F.nox e t h)
section
variable {X : Cx} {W : Wd} {tc : Tc} {o : Orc} {k : Nat}
theorem locB_ok (F : Fits X W tc o k) {x : Str} (h : locB tc.sc x = true) : Loc X.env.scope x := by
  unfold locB at h
  rw [F.sc]
  unfold L2.Loc
  split at h
  · rename_i e; exact .inl e
  · rename_i e; exact .inr e
  · cases h
theorem passes (F : FitsS X W tc o k) : PassesOwn (model X.prog X.w) X.A X.env X.xe := F.pass
theorem set_noex {i : Nat} {e : T} : ∀ δ c δ', evS o (.set i e) δ ≠ .ex c δ' := fun δ c δ' h => by
  simp only [evS] at h
  cases e1 : (evF o δ e).2 with
  | ok r =>
    rw [e1] at h
    have h : orStuck ((setSlot (evF o δ e).1 i r.1 r.2).map .nx) = .ex c δ' := h
    cases e2 : setSlot (evF o δ e).1 i r.1 r.2 with
    | none => rw [e2] at h; cases h
    | some δ1 => rw [e2] at h; cases h
  | exc c => rw [e1] at h; cases h
  | stuck => rw [e1] at h; cases h
theorem swaps_no {e : Expr} {t : Option Expr} {l : Nat} {env : Env} (h : isComp e = false) : swapsWith e t l env = pure false := by
  cases e <;> first | rfl | (simp [isComp] at h)
theorem names_ok (F : FitsS X W tc o k) : ∀ {es : List Expr} {is : List Nat}, trNames tc es = some is → PGs X es (gNames is) ∧ (assignEach es X.env).length = is.length ∧ (assignEach es X.env).findIdx? (·.1) = none
  | [], is, h => by
    simp only [trNames, Option.some.injEq] at h
    subst h
    exact ⟨pgs_nil, rfl, rfl⟩
  | .Name x p :: es, is, h => by
    simp only [trNames] at h
    split at h
    · rename_i hl
      cases e1 : nameIx tc.N x with
      | none => rw [e1] at h; cases h
      | some i =>
        cases e2 : trNames tc es with
        | none => simp [e1, e2] at h
        | some l =>
          simp [e1, e2] at h
          subst h
          obtain ⟨h1, h2, h3⟩ := names_ok F e2
          refine ⟨pgs_cons (pg_name (by rw [F.N]; exact F.nd) (by rw [F.N]; exact nameIx_get e1) (locB_ok F.toFits hl) (.inl (F.fn x))) h1, ?_, ?_⟩
          · show (assignEach es X.env).length + 1 = _
            rw [h2]; rfl
          · show List.findIdx? (·.1) ((false, assign (.Name x p) X.env) :: assignEach es X.env) = none
            rw [List.findIdx?_cons, h3]; rfl
    · cases h
  | .BoolOp .. :: _, _, h => by simp [trNames] at h
  | .NamedExpr .. :: _, _, h => by simp [trNames] at h
  | .BinOp .. :: _, _, h => by simp [trNames] at h
  | .UnaryOp .. :: _, _, h => by simp [trNames] at h
  | .Lambda .. :: _, _, h => by simp [trNames] at h
  | .IfExp .. :: _, _, h => by simp [trNames] at h
  | .Dict .. :: _, _, h => by simp [trNames] at h
  | .Set .. :: _, _, h => by simp [trNames] at h
  | .ListComp .. :: _, _, h => by simp [trNames] at h
  | .SetComp .. :: _, _, h => by simp [trNames] at h
  | .DictComp .. :: _, _, h => by simp [trNames] at h
  | .GeneratorExp .. :: _, _, h => by simp [trNames] at h
  | .Await .. :: _, _, h => by simp [trNames] at h
  | .Yield .. :: _, _, h => by simp [trNames] at h
  | .YieldFrom .. :: _, _, h => by simp [trNames] at h
  | .Compare .. :: _, _, h => by simp [trNames] at h
  | .Call .. :: _, _, h => by simp [trNames] at h
  | .FormattedValue .. :: _, _, h => by simp [trNames] at h
  | .JoinedStr .. :: _, _, h => by simp [trNames] at h
  | .Constant .. :: _, _, h => by simp [trNames] at h
  | .Attribute .. :: _, _, h => by simp [trNames] at h
  | .Subscript .. :: _, _, h => by simp [trNames] at h
  | .Starred .. :: _, _, h => by simp [trNames] at h
  | .List .. :: _, _, h => by simp [trNames] at h
  | .Tuple .. :: _, _, h => by simp [trNames] at h
  | .Slice .. :: _, _, h => by simp [trNames] at h
theorem tg_ok (F : FitsS X W tc o k) {tg : Expr} {g : List Nat × Bool} (h : trTg tc tg = some g) : ∃ gg, TgOk X W tg g.1 g.2 gg := by
  cases tg <;> first | exact nope h | simp only [trTg] at h
  · split at h
    · rename_i hl
      rename_i x p
      cases e1 : nameIx tc.N x with
      | none => rw [e1] at h; cases h
      | some i =>
        rw [e1] at h
        cases h
        exact ⟨_, tg_name (by rw [F.N]; exact F.nd) (by rw [F.N]; exact nameIx_get e1) (locB_ok F.toFits hl) (.inl (F.fn x))⟩
    · cases h
  · rename_i es kk p
    cases e1 : trNames tc es with
    | none => rw [e1] at h; cases h
    | some l =>
      rw [e1] at h
      cases h
      obtain ⟨h1, h2, h3⟩ := names_ok F e1
      exact ⟨_, tg_tup F.K F.calm h1 h2 h3⟩
theorem sndSs {f : Stmt → Option S} (hf : ∀ s t, f s = some t → PS X s (tS X W (evS o t))) : ∀ {ss : List Stmt} {l : SL}, trSs f ss = some l → PSs X ss (tS X W (evSs o l))
  | [], l, h => by
    simp only [trSs, Option.some.injEq] at h
    subst h
    exact ds_nil o
  | s :: ss, l, h => by
    simp only [trSs] at h
    cases e1 : f s with
    | none => rw [e1] at h; cases h
    | some t =>
      rw [e1] at h
      cases e2 : trSs f ss with
      | none => simp [e2] at h
      | some l' =>
        simp [e2] at h
        subst h
        exact ds_cons (hf s t e1) (sndSs hf e2)
theorem assign_sub {o' k : Expr} {pp : Pos} {env : Env} (h : isSlice k = false) (v : Value) : assign (.Subscript o' k pp) env v = (do
      let ov ← holding [v] (eval o' env)
      let iv ← holding [v, ov] (eval k env)
      standAt pp
      holding [v, ov, iv] (setItem ov iv v)
      release [v, ov, iv] []) := by
  cases k <;> first | rfl | (simp [isSlice] at h)
theorem sole_no {o' k e : Expr} {pp : Pos} {l : Nat} {env : Env} (h : isComp e = false) : swapsWithSole [.Subscript o' k pp] e l env = pure false := by
  cases e <;> first | rfl | (simp [isComp] at h)
theorem stores_no {o' k e : Expr} {pp : Pos} {env : Env} : swappedStores [.Subscript o' k pp] e env = pure none := by
  cases e <;> rfl
theorem trA_ok (F : FitsS X W tc o k) {tgs : List Expr} {e : Expr} {t : S} {pos : Pos} (h : trA tc tgs e = some t) : PS X (.Assign tgs e pos) (tS X W (evS o t)) := by
  have E := fun e t h => sndX depthE F.toFits e t h
  unfold trA at h
  split at h
  · rename_i x px
    split at h
    · rename_i hc
      simp only [Bool.and_eq_true, Bool.or_eq_true, Bool.not_eq_true'] at hc
      cases e1 : nameIx tc.N x with
      | none => rw [e1] at h; cases h
      | some i =>
        cases e2 : trE depthE tc e with
        | none => simp [e1, e2] at h
        | some u =>
          simp [e1, e2] at h
          subst h
          have hnd : X.N.Nodup := by rw [F.N]; exact F.nd
          have hni : X.N[i]? = some x := by rw [F.N]; exact nameIx_get e1
          by_cases hcomp : isComp e = true
          · have hc1 : isComp1 e = true := by
              rcases hc.2 with z | z
              · rw [hcomp] at z; cases z
              · exact z
            unfold isComp1 at hc1
            split at hc1
            · rename_i elt g scope epos
              have hg0 : g.is_async = 0 := of_decide_eq_true hc1
              obtain ⟨tg, iter, ifs, as⟩ := g
              simp only at hg0
              subst hg0
              rw [show depthE = 39 + 1 from rfl, trE_comp, if_pos rfl] at e2
              obtain ⟨N, m, caps, tup, g, it, c, e, rfl, A⟩ := comp_in (X := X.nox) rfl F.toFits.nox (fun X' tc' hx' F' e t h => sndE 39 hx' F' e t h) e2
              refine PS.lift (d_setC (bsw := X.env.blockKind == .function && X.env.kindOf x == some .local && px.line == epos.line && !(scope.names.any fun (n, k) => n == x && (k == .local || k == .cell))) A hnd hni (locB_ok F.toFits hc.1) (.inl (F.fn x)) (fun hb => ?_) rfl) set_noex
              simp only [Bool.and_eq_true, beq_iff_eq] at hb
              exact hb.1.1.2
            · cases hc1
          · exact d_set hnd hni (locB_ok F.toFits hc.1) ((E e u e2).1 false) (swaps_no (by simpa using hcomp)) (.inl (F.fn x))
    · cases h
  · rename_i x p kx pos'
    split at h
    · rename_i hc
      simp only [Bool.and_eq_true, Bool.not_eq_true'] at hc
      obtain ⟨⟨hv, hsl⟩, hcp⟩ := hc
      cases e1 : nameIx tc.N x with
      | none => rw [e1] at h; cases h
      | some i =>
        cases e2 : trE depthE tc kx with
        | none => simp [e1, e2] at h
        | some tk =>
          cases e3 : trE depthE tc e with
          | none => simp [e1, e2, e3] at h
          | some u =>
            simp [e1, e2, e3] at h
            subst h
            obtain ⟨h1, h2, h3⟩ := visB_ok F.toFits hv
            exact ds_seti F.K (hu_of F.room) (pe_var (by rw [F.N]; exact nameIx_get e1) h1 h2 h3) ((E kx tk e2).1 true) ((E e u e3).1 false) (assign_sub hsl) (sole_no hcp) stores_no rfl
    · cases h
  · cases h
theorem trPop_ok (F : FitsS X W tc o k) {tgs : List Expr} {e : Expr} {t : S} {pos : Pos} (h : trPop tc tgs e = some t) : PS X (.Assign tgs e pos) (tS X W (evS o t)) := by
  have E := fun e t h => sndX depthE F.toFits e t h
  unfold trPop at h
  split at h
  · rename_i y py x p m apos e cpos
    split at h
    · rename_i ex
      subst ex
      split at h
      · rename_i hc
        simp only [Bool.and_eq_true, Bool.not_eq_true'] at hc
        obtain ⟨⟨⟨c1, c2⟩, c3⟩, c4⟩ := hc
        obtain ⟨h1, h2, h3⟩ := visB_ok F.toFits c2
        cases e0 : nameIx tc.N y with
        | none => rw [e0] at h; cases h
        | some j =>
        cases e1 : nameIx tc.N x with
        | none => simp [e0, e1] at h
        | some i =>
          cases e2 : trE depthE tc e with
          | none => simp [e0, e1, e2] at h
          | some u =>
            simp [e0, e1, e2] at h
            subst h
            exact ds_pop1 (by rw [F.N]; exact F.nd) (by rw [F.N]; exact nameIx_get e0) (locB_ok F.toFits c1) (.inl (F.fn y)) (pe_var (by rw [F.N]; exact nameIx_get e1) h1 h2 h3) ((E e u e2).1 true) ⟨base_of rfl, few1 c3, c4, by rw [star1 c3]; rfl⟩ (swaps_no rfl)
      · cases h
    · cases h
  · cases h
theorem trSx_ok (F : FitsS X W tc o k) {tgs : List Expr} {e : Expr} {t : S} {pos : Pos} (h : trSx tc tgs e = some t) : PS X (.Assign tgs e pos) (tS X W (evS o t)) := by
  have E := fun e t h => sndX depthE F.toFits e t h
  unfold trSx at h
  split at h
  · rename_i y py x p args cp
    split at h
    · rename_i i np ei
      split at h
      · rename_i hc
        simp only [Bool.and_eq_true, Bool.not_eq_true', decide_eq_true_eq] at hc
        obtain ⟨⟨⟨⟨⟨⟨hra, hl⟩, hg⟩, hdb⟩, hst⟩, hlen⟩, hne⟩ := hc
        cases e0 : nameIx tc.N y with
        | none => rw [e0] at h; cases h
        | some j =>
        cases e2 : trL (trE depthE tc) args with
        | none => simp [e0, e2] at h
        | some l =>
          simp [e0, e2] at h
          subst h
          cases args with
          | nil => cases hne
          | cons a as =>
            have hst' := hst
            simp only [List.any_cons, Bool.or_eq_false_iff] at hst'
            obtain ⟨fa, fd, ps, h1, h2, h3, h4⟩ := F.gB x i np ei
            obtain ⟨fa', fd', ps', g1, g2, g3, g4⟩ := F.gf x i np ei
            have hpa := args_ok (X := X) (W := W) (o := o) (fun e t h => (E e t h).1) e2 hst
            have hn : ∀ δ r, evL o δ l = .ok r → r.2.length = np := fun δ r e => by rw [trL_len e2 δ r e]; exact hlen
            exact ds_setx hn h4 F.room (glB_ok F.toFits hg) h1 h2 h3 hpa hdb (star1 hst'.1) (star_any hst'.2) (d_call hn g4 F.room (glB_ok F.toFits hg) g1 g2 g3 hpa hdb (star1 hst'.1) (star_any hst'.2)) (by rw [F.N]; exact F.nd) (by rw [F.N]; exact nameIx_get e0) (locB_ok F.toFits hl) (.inl (F.fn y))
      · cases h
    · cases h
  · cases h
theorem trA2_ok (F : FitsS X W tc o k) {tgs : List Expr} {e : Expr} {t : S} {pos : Pos} (h : trA2 tc tgs e = some t) : PS X (.Assign tgs e pos) (tS X W (evS o t)) := by
  unfold trA2 at h
  split at h
  · rename_i t' e1
    cases h
    exact trSx_ok F e1
  · split at h
    · rename_i t' e1
      cases h
      exact trPop_ok F e1
    · exact trA_ok F h
theorem trX_ok (F : FitsS X W tc o k) {e : Expr} {t : S} {pos : Pos} (h : trX tc e = some t) : PS X (.Expr e pos) (tS X W (evS o t)) := by
  have E := fun e t h => sndX depthE F.toFits e t h
  unfold trX at h
  split at h
  · rename_i x p m apos e cpos
    split at h
    · rename_i ex
      subst ex
      split at h
      · rename_i hc
        simp only [Bool.and_eq_true, Bool.not_eq_true'] at hc
        obtain ⟨h1, h2, h3⟩ := visB_ok F.toFits hc.1.1
        cases e1 : nameIx tc.N x with
        | none => rw [e1] at h; cases h
        | some i =>
          cases e2 : trE depthE tc e with
          | none => simp [e1, e2] at h
          | some u =>
            simp [e1, e2] at h
            subst h
            exact ds_append (pe_var (by rw [F.N]; exact nameIx_get e1) h1 h2 h3) ((E e u e2).1 false) hc.1.2 hc.2
      · cases h
    · cases h
  · rename_i x p m apos cpos
    split at h
    · rename_i ex
      subst ex
      split at h
      · rename_i hc
        simp only [Bool.and_eq_true] at hc
        obtain ⟨h1, h2, h3⟩ := visB_ok F.toFits hc.1
        cases e1 : nameIx tc.N x with
        | none => rw [e1] at h; cases h
        | some i =>
          rw [e1] at h
          cases h
          exact ds_clear (pe_var (by rw [F.N]; exact nameIx_get e1) h1 h2 h3) hc.2
      · cases h
    · cases h
  · rename_i x p args cp
    split at h
    · rename_i i np ei
      split at h
      · rename_i hc
        simp only [Bool.and_eq_true, Bool.not_eq_true', decide_eq_true_eq] at hc
        obtain ⟨⟨⟨⟨hg, hdb⟩, hst⟩, hlen⟩, hne⟩ := hc
        cases e2 : trL (trE depthE tc) args with
        | none => rw [e2] at h; cases h
        | some l =>
          rw [e2] at h
          cases h
          cases args with
          | nil => cases hne
          | cons a as =>
            have hst' := hst
            simp only [List.any_cons, Bool.or_eq_false_iff] at hst'
            obtain ⟨fa, fd, ps, h1, h2, h3, h4⟩ := F.gB x i np ei
            obtain ⟨fa', fd', ps', g1, g2, g3, g4⟩ := F.gf x i np ei
            have hpa := args_ok (X := X) (W := W) (o := o) (fun e t h => (E e t h).1) e2 hst
            have hn : ∀ δ r, evL o δ l = .ok r → r.2.length = np := fun δ r e => by rw [trL_len e2 δ r e]; exact hlen
            exact ds_exprX hn h4 F.room (glB_ok F.toFits hg) h1 h2 h3 hpa hdb (star1 hst'.1) (star_any hst'.2) (d_call hn g4 F.room (glB_ok F.toFits hg) g1 g2 g3 hpa hdb (star1 hst'.1) (star_any hst'.2))
      · cases h
    · cases h
  · cases h
theorem trRaise_ok (F : FitsS X W tc o k) {e cs : Option Expr} {t : S} {pos : Pos} (h : trRaise tc e cs = some t) : PS X (.Raise e cs pos) (tS X W (evS o t)) := by
  unfold trRaise at h
  split at h
  · rename_i x np a cpos
    split at h
    · rename_i hc
      simp only [Bool.and_eq_true, Bool.not_eq_true'] at hc
      obtain ⟨⟨hg, hdb⟩, hst⟩ := hc
      cases e1 : clOf tc.gl x with
      | none => rw [e1] at h; cases h
      | some c =>
        cases e2 : trE depthE tc a with
        | none => simp [e1, e2] at h
        | some u =>
          simp [e1, e2] at h
          subst h
          obtain ⟨hm, bm, hx⟩ := F.xf.gc x c e1
          exact ds_raise F.calm (glB_ok F.toFits hg) hm hx hdb ((sndX depthE F.toFits a u e2).1 true) hst
    · cases h
  · cases h
theorem FitsS.inT (F : FitsS X W tc o k) (pn : List (Addr × Obj)) (E : Value → Shared → Prop) (hp : PassesOwn (model X.prog X.w) X.A X.env E) : FitsS (cxT X pn E) W tc o k :=
  ⟨⟨F.N, F.nd, F.sc, F.K, F.room, F.calm, F.gf, F.gb, F.gv, F.gd, F.xf⟩, F.fn, hp, F.stk, F.frm, F.gB⟩
theorem trTry_ok (F : FitsS X W tc o k) {f : Stmt → Option S} (hf : ∀ {Y : Cx}, FitsS Y W tc o k → ∀ s t, f s = some t → PS Y s (tS Y W (evS o t))) {body : List Stmt} {hs : List ExceptHandler} {t : S} {pos : Pos} (h : trTry f tc body hs = some t) : PS X (.Try body hs [] [] pos) (tS X W (evS o t)) := by
  unfold trTry at h
  split at h
  · rename_i cx np n st hpos
    split at h
    · rename_i hc
      simp only [Bool.and_eq_true, Bool.not_eq_true', decide_eq_true_eq] at hc
      obtain ⟨⟨hg, hdb⟩, hl⟩ := hc
      cases e1 : clOf tc.gl cx with
      | none => rw [e1] at h; cases h
      | some c =>
      cases e2 : nameIx tc.N n with
      | none => simp [e1, e2] at h
      | some j =>
      cases e3 : trAs tc n st with
      | none => simp [e1, e2, e3] at h
      | some su =>
      cases e4 : trSs f body with
      | none => simp [e1, e2, e3, e4] at h
      | some b =>
      simp [e1, e2, e3, e4] at h
      subst h
      obtain ⟨hm, bP, hxP⟩ := F.xf.gc cx c e1
      have hnd : X.N.Nodup := by rw [F.N]; exact F.nd
      have hnj : X.N[j]? = some n := by rw [F.N]; exact nameIx_get e2
      refine ds_try hnd hnj (by rw [F.sc]; exact hl) (F.fn n) F.stk F.frm (glB_ok F.toFits hg) hm hdb (fun c' hsub => ?_) (fun pn E hp => sndSs (X := cxT X pn E) (hf (F.inT pn E hp)) e4) (fun pn v => ?_)
      · obtain ⟨bC, x1, x2⟩ := F.xf.gh cx c' c e1 hsub
        exact ⟨bP, bC, hxP, x1, x2⟩
      · unfold trAs at e3
        split at e3
        · rename_i y py m pm apos
          split at e3
          · rename_i hc
            obtain ⟨rfl, hly, hvn⟩ := hc
            cases e5 : nameIx tc.N y with
            | none => rw [e5] at e3; cases e3
            | some i =>
              rw [e5, e2] at e3
              cases e3
              obtain ⟨h1, h2, h3⟩ := visB_ok F.toFits hvn
              exact d_set (X := cxM X pn v) hnd (by rw [F.N]; exact nameIx_get e5) (locB_ok F.toFits hly) (d_var (X := cxM X pn v) hnj h1 h2 h3 o) (swaps_no rfl) (.inl (F.fn y))
          · cases e3
        · cases e3
    · cases h
  · cases h
theorem ds_hole {st : Stmt} : PS X st (tS X W (evS o holeS)) := fun pins s σ H D I hw => by
  obtain ⟨_, _, _, _, h⟩ := hw
  simp only [holeS, evS, ev, SO.of, AfterS] at h
theorem sndS : ∀ (n : Nat) {X : Cx} {tc : Tc}, FitsS X W tc o k → ∀ (st : Stmt) (t : S), trS n tc st = some t → PS X st (tS X W (evS o t)) := by
  intro n
  induction n with
  | zero => intro X tc F st t h; exact nope h
  | succ n ih' =>
    intro X tc F st t h0
    have ih := fun st t h => ih' F st t h
    have E := fun e t h => sndX depthE F.toFits e t h
    rcases trS_hole h0 with h | rfl
    case inr => exact ds_hole
    cases st with
    | Assign tgs e pos =>
      delta trSb at h; dsimp only at h
      exact trA2_ok F h
    | Raise e c pos =>
      delta trSb at h; dsimp only at h
      exact trRaise_ok F h
    | Try body hs orelse fin pos =>
      cases orelse with
      | cons _ _ => exact nope h
      | nil =>
        cases fin with
        | cons _ _ => exact nope h
        | nil =>
          delta trSb at h; dsimp only at h
          exact trTry_ok F (fun {Y} FY s t h => ih' FY s t h) h
    | Expr e pos =>
      delta trSb at h; dsimp only at h
      exact trX_ok F h
    | If c a b pos =>
      delta trSb at h; dsimp only at h
      cases e1 : trE depthE tc c with
      | none => rw [e1] at h; cases h
      | some u =>
        cases e2 : trSs (trS n tc) a with
        | none => simp [e1, e2] at h
        | some sa =>
          cases e3 : trSs (trS n tc) b with
          | none => simp [e1, e2, e3] at h
          | some sb =>
            simp only [e1, e2, e3, Option.bind_some, Option.map_some, Option.some.injEq] at h
            split at h
            · subst h; exact ds_ifq (E c u e1).2 (sndSs ih e2) (sndSs ih e3)
            · subst h; exact ds_if (E c u e1).2 (sndSs ih e2) (sndSs ih e3)
    | For tg iter body orelse pos =>
      cases orelse with
      | cons _ _ => exact nope h
      | nil =>
        delta trSb at h; dsimp only at h
        cases e1 : trTg tc tg with
        | none => rw [e1] at h; cases h
        | some g =>
          cases e2 : trI tc (trE depthE tc) (isTupE tg) iter with
          | none => simp [e1, e2] at h
          | some it =>
            cases e3 : trSs (trS n tc) body with
            | none => simp [e1, e2, e3] at h
            | some sb =>
              simp [e1, e2, e3] at h
              subst h
              obtain ⟨gg, hg⟩ := tg_ok F e1
              obtain ⟨hi, hs⟩ := iter_ok F.toFits E tg e2 false
              exact ds_forW (passes F) F.calm hg hi (sndSs ih e3) hs
    | While c body orelse pos =>
      cases orelse with
      | cons _ _ => exact nope h
      | nil =>
        delta trSb at h; dsimp only at h
        cases e1 : trE depthE tc c with
        | none => rw [e1] at h; cases h
        | some u =>
          cases e3 : trSs (trS n tc) body with
          | none => simp [e1, e3] at h
          | some sb =>
            simp [e1, e3] at h
            subst h
            exact ds_while (passes F) (E c u e1).2 (sndSs ih e3)
    | Return v pos =>
      cases v with
      | none =>
        delta trSb at h; simp only [Option.some.injEq] at h
        subst h
        exact ds_retn
      | some e =>
        delta trSb at h; dsimp only at h
        cases e1 : trE depthE tc e with
        | none => rw [e1] at h; cases h
        | some u =>
          rw [e1] at h
          simp only [Option.bind_some] at h
          split at h
          · cases h
          rename_i hc
          cases h
          by_cases hv : ∃ i, u = .var i
          · obtain ⟨i, rfl⟩ := hv
            cases e with
            | Name x px =>
              rw [show depthE = 39 + 1 from rfl, trE_name] at e1
              split at e1
              · rename_i hv
                obtain ⟨h1, h2, h3⟩ := visB_ok F.toFits hv
                cases e2 : nameIx tc.N x with
                | none => rw [e2] at e1; cases e1
                | some j =>
                  rw [e2] at e1
                  cases e1
                  exact ds_retv (by rw [F.N]; exact nameIx_get e2) h1 h2 h3
              · split at e1
                · split at e1 <;> cases e1
                · cases e1
            | _ => simp [isVar, isName] at hc
          · exact ds_ret (fun i z => hv ⟨i, z⟩) ((E e u e1).1 false)
    | Pass pos => delta trSb at h; simp only [Option.some.injEq] at h; subst h; exact ds_pass
    | Break pos => delta trSb at h; simp only [Option.some.injEq] at h; subst h; exact ds_brk
    | Continue pos => delta trSb at h; simp only [Option.some.injEq] at h; subst h; exact ds_cont
    | _ => exact nope h
end
end Z

namespace Z
open PySem PySem.Spec PyProof.Rows L2
structure Df where
  name : Str
  qual : Str
  st : Stmt
  N : List Str
  ps : List Str
  fd : Fd
noncomputable def glOf : Nat → List Df → List (Str × Gk)
  | _, [] => []
  | i, d :: l => (d.name, .fn i d.ps.length) :: glOf (i + 1) l
theorem glOf_get {x : Str} {j np : Nat} : ∀ {l : List Df} {i : Nat}, (glOf i l).lookup x = some (.fn j np) → ∃ d k, j = i + k ∧ l[k]? = some d ∧ d.name = x ∧ d.ps.length = np
  | [], _, h => by simp [glOf] at h
  | d :: l, i, h => by
    simp only [glOf, List.lookup_cons] at h
    cases e : (x == d.name) with
    | true =>
      rw [e] at h
      simp only [Option.some.injEq, Gk.fn.injEq] at h
      exact ⟨d, 0, by omega, rfl, (eq_of_beq e).symm, h.2⟩
    | false =>
      rw [e] at h
      obtain ⟨d', k, h1, h2, h3⟩ := glOf_get h
      exact ⟨d', k + 1, by omega, by simpa using h2, h3⟩
noncomputable def NoFn (cs : List (Str × Gk)) : Prop := ∀ p ∈ cs, ∀ i np, p.2 ≠ .fn i np
theorem lookup_append {α : Type} {x : Str} : ∀ {l m : List (Str × α)}, (l ++ m).lookup x = (l.lookup x).or (m.lookup x)
  | [], m => by simp
  | (y, g) :: l, m => by
    simp only [List.cons_append, List.lookup_cons]
    cases (x == y)
    · exact lookup_append
    · rfl
theorem lookup_mem {α : Type} {x : Str} {v : α} : ∀ {l : List (Str × α)}, l.lookup x = some v → (x, v) ∈ l
  | [], h => by simp at h
  | (y, g) :: l, h => by
    simp only [List.lookup_cons] at h
    cases e : (x == y) with
    | true =>
      rw [e] at h
      cases h
      have := eq_of_beq e
      subst this
      exact List.mem_cons_self
    | false => rw [e] at h; exact List.mem_cons_of_mem _ (lookup_mem h)
theorem glAll_get {x : Str} {j np : Nat} {l : List Df} {cs : List (Str × Gk)} (hc : NoFn cs) (h : (glOf 0 l ++ cs).lookup x = some (.fn j np)) : ∃ d k, j = 0 + k ∧ l[k]? = some d ∧ d.name = x ∧ d.ps.length = np := by
  rw [lookup_append] at h
  cases e : (glOf 0 l).lookup x with
  | some q =>
    rw [e] at h
    cases h
    exact glOf_get e
  | none =>
    rw [e] at h
    exact absurd rfl (hc _ (lookup_mem h) j np)
structure DfOk (gl : List (Str × Gk)) (d : Df) : Prop where
  sc : FnScope d.N d.ps (defScope d.st)
  np : d.ps.length = d.fd.np
  ns : d.N.length = d.fd.ns
  tr : trSs (trS 40 ⟨d.N, defScope d.st, gl⟩) (defBody d.st) = some d.fd.body ∨ d.fd.body = holeB
section
variable {P : Program} {w : World} {K : PySem.W.Frag} {mg : Str → Option Value} {base : Heap} {W : Wd} {p : Prg} {w0 : Nat} {gl : List (Str × Gk)}
noncomputable def DfAt (K : PySem.W.Frag) (mg : Str → Option Value) (d : Df) : Prop := ∃ f fd, Fun K d.name d.qual d.st f fd ∧ Binds K fd d.ps [] ∧ mg d.name = some (.ref f)
noncomputable def AllOk (P : Program) (w : World) (K : PySem.W.Frag) (mg : Str → Option Value) (base : Heap) (W : Wd) (p : Prg) (w0 : Nat) (gl : List (Str × Gk)) (n : Nat) : Prop :=
  ∀ x i np, gl.lookup x = some (.fn i np) → ∃ f fd ps, mg x = some (.ref f) ∧ PySem.W.keepIn K (.ref f) = true ∧ Binds K fd ps [] ∧ FnOk P w K mg base (CXZ P w base W) n f fd ps (spB W ((orc p w0 n).fn i) np)
theorem orc_sub (p : Prg) (w0 : Nat) : ∀ n, (orc p w0 n).sub = p.sub
  | 0 => rfl
  | _ + 1 => rfl
theorem hole_run (o : Orc) (np ns : Nat) (args : List D) : runFn o ⟨np, ns, holeB⟩ args = .stuck := by
  unfold runFn
  split
  · simp [holeB, holeS, evSs, evS, ev, SO.of]
  · rfl
theorem fn_step {d : Df} {i n : Nat} {f : Addr} {fd : FuncData} (hk : W.K = K) (F : Fun K d.name d.qual d.st f fd) (ok : DfOk gl d) (hi : p.fns[i]? = some d.fd) (ih : AllOk P w K mg base W p w0 gl n)
    (hgb : ∀ x ∈ bltNames, gl.lookup x = none → mg x = none) (hgv : ∀ x d, gl.lookup x = some (.val d) → ∃ u v, mg x = some u ∧ RelV v u ∧ ∀ G, Rep W G d v) (hgd : ∀ x ks vs, gl.lookup x = some (.dct ks vs) → ∃ ad, mg x = some (.ref ad) ∧ KDct P w W ad ks vs) (xf : XFacts K mg W p.sub (clOf gl)) : FnOk P w K mg base (CXZ P w base W) (n + 1) f fd d.ps (spB W ((orc p w0 (n + 1)).fn i) d.ps.length) := by
  have e : (orc p w0 (n + 1)).fn i = runFn (orc p w0 n) ⟨d.ps.length, d.N.length, d.fd.body⟩ := by
    funext a
    have e2 : d.fd = ⟨d.ps.length, d.N.length, d.fd.body⟩ := by
      rw [ok.np, ok.ns]
    show (match p.fns[i]? with | some d => runFn (orc p w0 n) d a | none => .stuck) = _
    rw [hi, ← e2]
  rw [e]
  rcases ok.tr with tr | hole
  case inr =>
    refine ⟨fun vs H Q E q => q.elim (·.1) (·.1), fun A outer s H args us vs Q E _ _ _ _ q => ?_⟩
    rcases q with ⟨_, _, _, _, _, _, r, e, _⟩ | ⟨_, _, _, _, _, _, r, e, _⟩ <;> (rw [hole, hole_run] at e; cases e)
  refine fn_soundX F ok.sc rfl rfl (fun cdv A outer s H E hr => ?_) hk
  have FT : FitsS (cxX P w K mg base W d.N d.qual d.st f cdv A outer s H E) W ⟨d.N, defScope d.st, gl⟩ (orc p w0 n) n :=
    ⟨⟨rfl, ok.sc.nd, rfl, hk, hr, rfl, fun x i np h => (let ⟨f, fd, ps, h1, h2, h3, h4⟩ := ih x i np h; ⟨f, fd, ps, h1, h2, h3, ok0 h4⟩), hgb, hgv, hgd, by rw [orc_sub]; exact xf⟩, fun _ => rfl, pass_body, rfl, rfl, ih⟩
  exact sndSs (sndS 40 FT) tr
theorem fns_all {ds : List Df} {cs : List (Str × Gk)} (hcs : NoFn cs) (hk : W.K = K) (hp : p.fns = ds.map (·.fd)) (hok : ∀ d ∈ ds, DfOk (glOf 0 ds ++ cs) d) (hat : ∀ d ∈ ds, DfAt K mg d) (hgb : ∀ x ∈ bltNames, (glOf 0 ds ++ cs).lookup x = none → mg x = none)
    (hgv : ∀ x d, (glOf 0 ds ++ cs).lookup x = some (.val d) → ∃ u v, mg x = some u ∧ RelV v u ∧ ∀ G, Rep W G d v) (hgd : ∀ x ks vs, (glOf 0 ds ++ cs).lookup x = some (.dct ks vs) → ∃ ad, mg x = some (.ref ad) ∧ KDct P w W ad ks vs) (xf : XFacts K mg W p.sub (clOf (glOf 0 ds ++ cs))) :
    ∀ n, AllOk P w K mg base W p w0 (glOf 0 ds ++ cs) n := by
  intro n
  induction n with
  | zero =>
    intro x i np h
    obtain ⟨d, k, h1, h2, h3, h4⟩ := glAll_get hcs h
    obtain ⟨f, fd, F, b, m⟩ := hat d (List.mem_of_getElem? h2)
    refine ⟨f, fd, d.ps, by rw [← h3]; exact m, F.kp, b, fun vs H Q E q => by rw [h4]; exact q.elim (·.1) (·.1), fun A outer s H args us vs Q E _ _ _ _ q => ?_⟩
    rcases q with ⟨_, _, _, _, _, _, r, e, _⟩ | ⟨_, _, _, _, _, _, r, e, _⟩ <;> cases e
  | succ n ih =>
    intro x i np h
    obtain ⟨d, k, h1, h2, h3, h4⟩ := glAll_get hcs h
    obtain ⟨f, fd, F, b, m⟩ := hat d (List.mem_of_getElem? h2)
    refine ⟨f, fd, d.ps, by rw [← h3]; exact m, F.kp, b, ?_⟩
    have := fn_step (i := i) hk F (hok d (List.mem_of_getElem? h2)) (by rw [hp, List.getElem?_map, h1, Nat.zero_add, h2]; rfl) ih hgb hgv hgd xf
    rw [h4] at this
    exact this
end
structure CsOk (P : Program) (w : World) (W : Wd) (mg : Str → Option Value) (q : Str × Gk) : Prop where
  val : ∀ d, q.2 = .val d → ∃ u v, mg q.1 = some u ∧ RelV v u ∧ ∀ G, Rep W G d v
  dct : ∀ ks vs, q.2 = .dct ks vs → ∃ ad, mg q.1 = some (.ref ad) ∧ KDct P w W ad ks vs
theorem glOf_noval {x : Str} {g : Gk} : ∀ {l : List Df} {i : Nat}, (glOf i l).lookup x = some g → ∃ j np, g = .fn j np
  | [], _, h => by simp [glOf] at h
  | d :: l, i, h => by
    simp only [glOf, List.lookup_cons] at h
    cases e : (x == d.name) with
    | true => rw [e] at h; cases h; exact ⟨_, _, rfl⟩
    | false => rw [e] at h; exact glOf_noval h
theorem cs_all {P : Program} {w : World} {W : Wd} {mg : Str → Option Value} {ds : List Df} {cs : List (Str × Gk)} (h : ∀ q ∈ cs, CsOk P w W mg q) : (∀ x d, (glOf 0 ds ++ cs).lookup x = some (.val d) → ∃ u v, mg x = some u ∧ RelV v u ∧ ∀ G, Rep W G d v) ∧
    ∀ x ks vs, (glOf 0 ds ++ cs).lookup x = some (.dct ks vs) → ∃ ad, mg x = some (.ref ad) ∧ KDct P w W ad ks vs := by
  have key : ∀ x g, (glOf 0 ds ++ cs).lookup x = some g → (∀ j np, g ≠ .fn j np) → (x, g) ∈ cs := fun x g e hn => by
    rw [lookup_append] at e
    cases e1 : (glOf 0 ds).lookup x with
    | some q =>
      rw [e1] at e
      cases e
      obtain ⟨j, np, rfl⟩ := glOf_noval e1
      exact absurd rfl (hn j np)
    | none => rw [e1] at e; exact lookup_mem e
  exact ⟨fun x d e => (h _ (key x _ e (by simp))).val d rfl, fun x ks vs e => (h _ (key x _ e (by simp))).dct ks vs rfl⟩
theorem any_ex {α : Type} {q : Option α} {p : α → Bool} (h : q.any p = true) : ∃ b, q = some b ∧ p b = true := by
  cases q with
  | none => cases h
  | some b => exact ⟨b, rfl, h⟩
noncomputable def ctOf (l : List Addr) (c : Nat) : Addr := l.getD c 0
theorem cl_all {P : Str → Nat → Prop} {ds : List Df} {cs : List (Str × Gk)} (h : ∀ q ∈ cs, ∀ c, q.2 = .cls c → P q.1 c) : ∀ x c, clOf (glOf 0 ds ++ cs) x = some c → P x c := fun x c e => by
  unfold clOf at e
  cases e0 : (glOf 0 ds ++ cs).lookup x with
  | none => rw [e0] at e; cases e
  | some g =>
    rw [e0] at e
    cases g with
    | cls c' =>
      cases e
      rw [lookup_append] at e0
      cases e1 : (glOf 0 ds).lookup x with
      | some q =>
        rw [e1] at e0
        cases e0
        obtain ⟨j, np, z⟩ := glOf_noval e1
        cases z
      | none => rw [e1] at e0; exact h _ (lookup_mem e0) c rfl
    | _ => cases e
theorem str_k {W : Wd} {x : List Nat} (h : x.length ≤ 1000) : ∀ G, Rep W G (.str x) (.str (strV x)) := fun G => by
  simp only [Rep]; exact ⟨trivial, by omega⟩
theorem reps_ints {W : Wd} {G : Hp} : ∀ ns : List Int, Reps W G (ns.map .int) (ns.map V.int)
  | [] => by simp only [List.map_nil, Reps]
  | n :: ns => by simp only [List.map_cons, Reps, Rep]; exact ⟨trivial, reps_ints ns⟩
noncomputable def spZ (K : PySem.W.Frag) (p : Prg) (n i : Nat) : Sp := fun vs H Q E => ∃ w0, ∀ CT, spFn ⟨K, CT⟩ ((orc p w0 n).fn i) 1 vs H Q E
theorem spZ_law {K : PySem.W.Frag} {p : Prg} {n i : Nat} {H : Hp} {a : Addr} {ns : List Int} (hp : ∃ w0, (orc p w0 n).fn i [.lst (ns.map .int)] = .ok (false, .bl true)) (hS : SqL K H a (ns.map V.int)) : spZ K p n i [.ref a] H (fun v _ => v = .bl true) fun _ _ _ => False := by
  obtain ⟨w0, e⟩ := hp
  refine ⟨w0, fun CT => ⟨rfl, fun _ => False, [.lst (ns.map .int)], fun _ z => z.elim, fun _ z => z.elim, ?_, _, e, fun v H' s q => ?_⟩⟩
  · simp only [Reps, Rep]
    refine ⟨⟨a, _, rfl, ?_, reps_ints ns⟩, trivial⟩
    have : Same H (vis H fun _ => False) := fun b o h => vis_of h fun z => z
    exact this.seq hS
  · have := q.look
    simp only [RepT, Rep] at this
    exact this
theorem walkZ {l : PySem.W.OpenLaw} {q : Program} {loose : List Str} {XP : (Str → Option Value) → Heap → Prop} {YP : World → Heap → Prop} {d : DefRec} {K : Params → PySem.W.Frag} {p : Prg} {n i : Nat} {x : Str}
    (hn : l.most = some 63) (hdf : d.params.defaults = []) (hr : Room n callerA) (hY : ∀ (w : World) (h : Heap), YP w h → (K w.params).In h)
    (F : ∀ (w : World) (mg : Str → Option Value) (fa : Addr) (h : Heap), (K w.params).In h → h.Ns mainGlobals mg → mg d.name = some (.ref fa) →
      ∃ (fd : FuncData) (CT : Nat → Addr), (∀ (s : Shared) (u : Value), BindsTo s fd ⟨[u], []⟩ [(x, u)]) ∧ ∀ (base : Heap) (w0 : Nat), FnOk l.prog w (K w.params) mg base CX0 n fa fd [x] (spFn ⟨K w.params, CT⟩ ((orc p w0 n).fn i) 1))
    (hp : ∀ ns : List Int, ns.length ≤ 63 → ∃ w0, (orc p w0 n).fn i [.lst (ns.map .int)] = .ok (false, .bl true)) :
    PySem.W.WalkO q loose XP YP l.row.toRowW d [] (fun f vs => PySem.call f vs) := by
  refine L2.walk_of (n := 63) (k := n) (x := x) (CX := fun _ => CX0) (sp := fun w => spZ (K w.params) p n i) hn (by decide) hdf hr hY (fun w mg fa h KX G hm => ?_) (fun w H a ns hl _ hS => spZ_law (hp ns hl) hS) fun _ _ _ _ _ z => z
  obtain ⟨fd, CT, hb, hF⟩ := F w mg fa h KX G hm
  refine ⟨fd, hb, fun base _ _ => ⟨fun vs H Q E ⟨w0, q⟩ => (hF base w0).len vs H Q E (q CT), fun A outer s H args us vs Q E hr he hb hv ⟨w0, hs⟩ => (hF base w0).run A outer s H args us vs Q E hr he hb hv (hs CT)⟩⟩
theorem us1 {α : Type} {P : List α → Prop} (h : ∀ a, P [a]) : ∀ us : List α, us.length = 1 → P us
  | [a], _ => h a
theorem us2 {α : Type} {P : List α → Prop} (h : ∀ a b, P [a, b]) : ∀ us : List α, us.length = 2 → P us
  | [a, b], _ => h a b
theorem us3 {α : Type} {P : List α → Prop} (h : ∀ a b c, P [a, b, c]) : ∀ us : List α, us.length = 3 → P us
  | [a, b, c], _ => h a b c
noncomputable def BindP (d : Df) : Prop := ∀ (kV doc pm : Value) (an : Option Addr) (cdv ct : Value) (us : List Value), us.length = d.ps.length → bindArgs (PySem.W.fnOf d.name d.qual (defArgs d.st) (defBody d.st) (defScope d.st) .none kV doc pm an cdv ct) ⟨us, []⟩ = pure (d.ps.zip us)
theorem bindP1 {d : Df} (hn : d.ps.length = 1) (h : ∀ (kV doc pm : Value) (an : Option Addr) (cdv ct : Value) (a : Value), bindArgs (PySem.W.fnOf d.name d.qual (defArgs d.st) (defBody d.st) (defScope d.st) .none kV doc pm an cdv ct) ⟨[a], []⟩ = pure (d.ps.zip [a])) : BindP d := fun kV doc pm an cdv ct us hl => us1 (P := fun us => bindArgs (PySem.W.fnOf d.name d.qual (defArgs d.st) (defBody d.st) (defScope d.st) .none kV doc pm an cdv ct) ⟨us, []⟩ = pure (d.ps.zip us)) (h kV doc pm an cdv ct) us (hl.trans hn)
theorem bindP2 {d : Df} (hn : d.ps.length = 2) (h : ∀ (kV doc pm : Value) (an : Option Addr) (cdv ct : Value) (a b : Value), bindArgs (PySem.W.fnOf d.name d.qual (defArgs d.st) (defBody d.st) (defScope d.st) .none kV doc pm an cdv ct) ⟨[a, b], []⟩ = pure (d.ps.zip [a, b])) : BindP d := fun kV doc pm an cdv ct us hl => us2 (P := fun us => bindArgs (PySem.W.fnOf d.name d.qual (defArgs d.st) (defBody d.st) (defScope d.st) .none kV doc pm an cdv ct) ⟨us, []⟩ = pure (d.ps.zip us)) (h kV doc pm an cdv ct) us (hl.trans hn)
theorem bindP3 {d : Df} (hn : d.ps.length = 3) (h : ∀ (kV doc pm : Value) (an : Option Addr) (cdv ct : Value) (a b c : Value), bindArgs (PySem.W.fnOf d.name d.qual (defArgs d.st) (defBody d.st) (defScope d.st) .none kV doc pm an cdv ct) ⟨[a, b, c], []⟩ = pure (d.ps.zip [a, b, c])) : BindP d := fun kV doc pm an cdv ct us hl => us3 (P := fun us => bindArgs (PySem.W.fnOf d.name d.qual (defArgs d.st) (defBody d.st) (defScope d.st) .none kV doc pm an cdv ct) ⟨us, []⟩ = pure (d.ps.zip us)) (h kV doc pm an cdv ct) us (hl.trans hn)
theorem df_mk {K : PySem.W.Frag} {h : Heap} {mg : Str → Option Value} {d : Df} {f : Addr} {od an : Option Addr} {sl : Array (Option Value)} {oc kV dc pm cd ct : Value} (X : K.In h) (G : h.Ns mainGlobals mg)
    (a : PySem.W.nsIn K mainGlobals d.name = some (some (.ref f))) (l : K.lookup f = some ⟨oc, od, .func (PySem.W.fnOf d.name d.qual (defArgs d.st) (defBody d.st) (defScope d.st) .none kV dc pm an cd ct), sl⟩) (c : PySem.W.codeIn K cd d.qual = true) (k : PySem.W.keepIn K (.ref f) = true)
    (hb : BindP d) : DfAt K mg d :=
  ⟨f, _, fun_mk l c k, (fun_mk (st := d.st) l c k).binds hb, PySem.W.mg_of X G a⟩
end Z

namespace KG
open Z
theorem evSs_nx {o : Orc} {s : S} {l : SL} {δ δ' : Dst} (h : evS o s δ = .nx δ') : evSs o (.cons s l) δ = evSs o l δ' := by simp only [evSs, h]
theorem fmod_range (a b : Int) (hb : 0 < b) : 0 ≤ a.fmod b ∧ a.fmod b < b := ⟨Int.fmod_nonneg_of_pos a hb, Int.fmod_lt_of_pos a hb⟩
noncomputable def L26 : List Nat := [97, 98, 99, 100, 101, 102, 103, 104, 105, 106, 107, 108, 109, 110, 111, 112, 113, 114, 115, 116, 117, 118, 119, 120, 121, 122]
noncomputable def S36 : List Nat := L26 ++ [48, 49, 50, 51, 52, 53, 54, 55, 56, 57]
theorem L26_len : L26.length = 26 := rfl
theorem S36_len : S36.length = 36 := rfl
noncomputable def lt (j : Int) : Nat := L26.getD (j.fmod 26).toNat 0
noncomputable def sg (j : Int) : Nat := S36.getD (j.fmod 36).toNat 0
theorem idx_str (x : List Nat) (j : Int) (h0 : 0 ≤ j) (h1 : j < x.length) : idxD (.str x) (.int j) = .ok (false, .str [x.getD j.toNat 0]) := by
  have hn : j.toNat < x.length := by omega
  simp only [idxD, place, if_pos h0, if_pos h1, Option.bind_some, R.of]
  rw [List.getElem?_eq_getElem hn]
  simp [List.getD_eq_getElem?_getD, List.getElem?_eq_getElem hn]
theorem idx_lt (j : Int) : idxD (.str L26) (.int (j.fmod 26)) = .ok (false, .str [lt j]) := by
  obtain ⟨h1, h2⟩ := fmod_range j 26 (by omega)
  exact idx_str L26 _ h1 (by rw [L26_len]; omega)
theorem idx_sg (j : Int) : idxD (.str S36) (.int (j.fmod 36)) = .ok (false, .str [sg j]) := by
  obtain ⟨h1, h2⟩ := fmod_range j 36 (by omega)
  exact idx_str S36 _ h1 (by rw [S36_len]; omega)
theorem comp_map {f c : List D → R (Bool × D)} {g : D → D} : ∀ {l : List D}, (∀ d ∈ l, c [d] = .ok (false, .bl true)) → (∀ d ∈ l, ∃ w, f [d] = .ok (w, g d)) → compGo f c 1 false l = .ok (l.map g)
  | [], _, _ => rfl
  | d :: l, hc, hf => by
    obtain ⟨w, e⟩ := hf d List.mem_cons_self
    have ih := comp_map (fun d h => hc d (List.mem_cons_of_mem _ h)) (fun d h => hf d (List.mem_cons_of_mem _ h))
    simp only [compGo, takes, Bool.false_eq_true, if_false, R.of, R.bind, hc d List.mem_cons_self, truth, if_true, e, ih, List.map_cons]
noncomputable def nmSize (cell base : Int) : Int := if (base.fdiv 8).fmod 2 = 1 then 1 + (base + cell).fmod 8 else 1 + base.fmod 8
noncomputable def nmRow (cell base : Int) : List Nat := ((List.range (nmSize cell base).toNat).map fun (k : Nat) => sg (base.fdiv 3 + 5 * (k : Int))).set 0 (lt (base.fdiv 3))
noncomputable def nmPlace (cell base : Int) : Int := (base.fdiv 16).fmod (nmSize cell base)
noncomputable def nmRow2 (cell base : Int) : List Nat := if nmPlace cell base = 0 then (nmRow cell base).set 0 (lt (base.fdiv 5 + cell)) else (nmRow cell base).set (nmPlace cell base).toNat (sg (base.fdiv 5 + cell))
noncomputable def wordsD : List (List Nat) := [[97, 110, 100], [111, 114], [110, 111, 116], [115, 111, 109, 101], [97, 108, 108], [97, 108, 105, 107, 101], [98, 121]]
noncomputable def nm (cell base : Int) : List Nat := if nmRow2 cell base ∈ wordsD then nmRow2 cell base ++ [57] else nmRow2 cell base
section
variable (o : Orc) (cell base : Int)
noncomputable def strD (l : List Nat) : List D := l.map fun c => .str [c]
theorem strsOf_strD : ∀ l : List Nat, strsOf (strD l) = some (l.map fun c => [c])
  | [] => rfl
  | c :: l => by
    have := strsOf_strD l
    simp only [strD, List.map_cons, strsOf] at this ⊢
    rw [this]; rfl
theorem joinS_ones : ∀ l : List Nat, joinS [] (l.map fun c => [c]) = l
  | [] => rfl
  | [c] => rfl
  | c :: d :: l => by
    have := joinS_ones (d :: l)
    simp only [List.map_cons, joinS] at this ⊢
    rw [this]; rfl
theorem sum_ones : ∀ l : List Nat, ((l.map fun c => [c]).map List.length).sum = l.length
  | [] => rfl
  | c :: l => by
    have := sum_ones l
    simp only [List.map_cons, List.sum_cons, List.length_cons, List.length_nil] at this ⊢
    omega
end
end KG

namespace KG
open Z
theorem runFn_at {o : Orc} {f : Fd} {args : List D} {w : Bool} {d : D} {δ0 : Dst} (ha : args.length = f.np) (h0 : args.map (fun d => some (Own.sh, d)) ++ List.replicate (f.ns - f.np) none = δ0) (h : ∃ δ, evSs o f.body δ0 = .rt w d δ) : runFn o f args = .ok (w, d) := by
  obtain ⟨δ, h⟩ := h
  simp only [runFn, ha, if_true, h0, h]
theorem stp {o : Orc} {s : S} {l : SL} {δ : Dst} {w : Bool} {d : D} (δ' : Dst) (h : evS o s δ = .nx δ') (k : ∃ δ1, evSs o l δ' = .rt w d δ1) : ∃ δ1, evSs o (.cons s l) δ = .rt w d δ1 := by
  obtain ⟨δ1, k⟩ := k
  exact ⟨δ1, (evSs_nx h).trans k⟩
theorem stpR {o : Orc} {s : S} {l : SL} {δ : Dst} {w : Bool} {d : D} {δ' : Dst} (h : evS o s δ = .rt w d δ') : ∃ δ1, evSs o (.cons s l) δ = .rt w d δ1 := ⟨δ', by simp only [evSs, h]⟩
noncomputable def isV : T → Bool
  | .var _ => true
  | _ => false
theorem retE {o : Orc} {δ : Dst} {e : T} (hv : isV e = false) : evS o (.ret e) δ = SO.of (evF o δ e).1 (evF o δ e).2 fun r => .rt r.1 r.2 (evF o δ e).1 := by cases e <;> first | rfl | exact nomatch hv
theorem forE {o : Orc} {δ δ1 : Dst} {tg : List Nat} {tp : Bool} {it : TI} {b : SL} (h : shareIt δ it = δ1) : evS o (.for_ tg tp it b) δ = SO.of δ1 (evI o δ1 false it) fun l => forGo (evSs o b) tg tp l δ1 := by subst h; simp only [evS]
noncomputable def cellFd : Fd := ⟨2, 2, (SL.cons (S.ifs (T.op2 .lt (T.var 1) (T.b1 .len (T.var 0))) (SL.cons (S.ret (T.idx (T.var 0) (T.var 1))) SL.nil) SL.nil) (SL.cons (S.ret (T.cst (D.int 0))) SL.nil))⟩
theorem cell_run (o : Orc) (ns : List Int) (k : Nat) : runFn o cellFd [.lst (ns.map .int), .int (k : Int)] = .ok (false, .int (ns.getD k 0)) := by
  by_cases h : k < ns.length
  · have h' : (k : Int) < (ns.length : Int) := by omega
    have h0 : (0 : Int) ≤ k := by omega
    simp [runFn, cellFd, evSs, evS, evF, ev, R.bind, o2, b1D, arith, truth, R.of, SO.of, h, h', idxD, place, h0, List.getD_eq_getElem?_getD, List.getElem?_eq_getElem h]
  · have h' : ¬ (k : Int) < (ns.length : Int) := by omega
    have h2 : ns[k]? = none := List.getElem?_eq_none (by omega)
    simp [runFn, cellFd, evSs, evS, evF, ev, R.bind, o2, b1D, arith, truth, R.of, SO.of, h, h', List.getD_eq_getElem?_getD, h2]
noncomputable def PR : List Int := [271828183, 314159269, 161803399, 141421357, 173205081, 223606797, 244948975, 264575131, 331662479, 360555127]
noncomputable def mixS0 : S := (S.set 3 (T.lst (TL.cons (T.cst (D.int 271828183)) (TL.cons (T.cst (D.int 314159269)) (TL.cons (T.cst (D.int 161803399)) (TL.cons (T.cst (D.int 141421357)) (TL.cons (T.cst (D.int 173205081)) TL.nil)))))))
noncomputable def mixS1 : S := (S.set 3 (T.op2 .add (T.var 3) (T.lst (TL.cons (T.cst (D.int 223606797)) (TL.cons (T.cst (D.int 244948975)) (TL.cons (T.cst (D.int 264575131)) (TL.cons (T.cst (D.int 331662479)) (TL.cons (T.cst (D.int 360555127)) TL.nil))))))))
noncomputable def mixS2 : S := (S.ret (T.op2 .mod (T.op2 .mod (T.op2 .mul (T.op2 .add (T.var 0) (T.cst (D.int 1))) (T.idx (T.var 3) (T.var 1))) (T.cst (D.int 1000000007))) (T.var 2)))
noncomputable def mixFd : Fd := ⟨3, 4, (SL.cons mixS0 (SL.cons mixS1 (SL.cons mixS2 SL.nil)))⟩
noncomputable def mixV (c : Int) (k : Nat) (m : Int) : Int := (((c + 1) * PR.getD k 0).fmod 1000000007).fmod m
theorem PR_bits : ∀ p ∈ PR, bits p ≤ 64 := by decide
theorem PR_bits' (k : Nat) (hk : k < 10) : bits (PR.getD k 0) ≤ 64 := by
  apply PR_bits
  rw [List.getD_eq_getElem?_getD, List.getElem?_eq_getElem (show k < PR.length from hk)]
  exact List.getElem_mem _
theorem idx_int (x : List Int) (k : Nat) (h : k < x.length) : idxD (.lst (x.map .int)) (.int (k : Int)) = .ok (false, .int (x.getD k 0)) := by
  have h0 : (0 : Int) ≤ k := by omega
  simp [idxD, place, h0, h, R.of, List.getD_eq_getElem?_getD, List.getElem?_eq_getElem h]
theorem mix2 (o : Orc) (c m : Int) (k : Nat) (hk : k < 10) (hm : m ≠ 0) : evS o mixS2 [some (.sh, .int c), some (.sh, .int k), some (.sh, .int m), some (.ow, .lst (PR.map .int))] = .rt false (.int (mixV c k m)) [some (.sh, .int c), some (.sh, .int k), some (.sh, .int m), some (.ow, .lst (PR.map .int))] := by
  have hi := idx_int PR k hk
  have hb := PR_bits' k hk
  unfold mixV
  generalize PR.getD k 0 = p at hi hb
  generalize PR.map D.int = L at hi
  have hm' : mulOk (c + 1) p = true := by simp [mulOk, hb]
  simp [mixS2, evS, evF, ev, R.bind, o2, arith, hi, R.chk, hm, hm', SO.of]
theorem mix_run (o : Orc) (c m : Int) (k : Nat) (hk : k < 10) (hm : m ≠ 0) : runFn o mixFd [.int c, .int (k : Int), .int m] = .ok (false, .int (mixV c k m)) := by
  refine runFn_at rfl (δ0 := [some (.sh, .int c), some (.sh, .int k), some (.sh, .int m), none]) rfl ?_
  refine stp (s := mixS0) [some (.sh, .int c), some (.sh, .int k), some (.sh, .int m), some (.ow, .lst [.int 271828183, .int 314159269, .int 161803399, .int 141421357, .int 173205081])] ?_ ?_
  · simp [mixS0, evS, evF, ev, evL, lkOwn, R.bind, R.chk, size, SO.of, setSlot, orStuck]
  refine stp (s := mixS1) [some (.sh, .int c), some (.sh, .int k), some (.sh, .int m), some (.ow, .lst (PR.map .int))] ?_ ?_
  · simp [mixS1, evS, evF, ev, evL, lkOwn, R.bind, R.chk, size, SO.of, setSlot, orStuck, o2, PR]
  exact stpR (mix2 o c m k hk hm)
theorem mixV_range (c : Int) (k : Nat) (m : Int) (hm : 0 < m) : 0 ≤ mixV c k m ∧ mixV c k m < m := fmod_range _ m hm
noncomputable def sameFd (ix : Nat) : Fd := ⟨2, 2, (SL.cons (S.ifs (T.isin (T.var 1) .tup) (SL.cons (S.ifs (T.or (T.not (T.isin (T.var 0) .tup)) (T.op2 .ne (T.b1 .len (T.var 0)) (T.b1 .len (T.var 1)))) (SL.cons (S.ret (T.cst (D.bl false))) SL.nil) SL.nil) (SL.cons (S.ret (T.b1 .all (T.comp [1, 0] 1 false (TI.rng1 (T.b1 .len (T.var 1))) (T.cst (D.bl true)) (T.call ix (TL.cons (T.idx (T.var 2) (T.var 0)) (TL.cons (T.idx (T.var 1) (T.var 0)) TL.nil)))))) SL.nil)) SL.nil) (SL.cons (S.ifs (T.isin (T.var 1) .str) (SL.cons (S.ret (T.and (T.isin (T.var 0) .str) (T.op2 .eq (T.var 0) (T.var 1)))) SL.nil) SL.nil) (SL.cons (S.ret (T.and (T.isin (T.var 0) .int) (T.and (T.not (T.isin (T.var 0) .bool)) (T.op2 .eq (T.var 0) (T.var 1))))) SL.nil)))⟩
theorem boolsOf_true : ∀ n : Nat, boolsOf (List.replicate n (.bl true)) = some (List.replicate n true)
  | 0 => rfl
  | n + 1 => by simp [List.replicate_succ, boolsOf, boolsOf_true n]
theorem idx_tup (x : List D) (k : Nat) (h : k < x.length) : idxD (.tup x) (.int (k : Int)) = .ok (false, x[k]) := by
  have h0 : (0 : Int) ≤ k := by omega
  simp [idxD, place, h0, h, R.of, List.getElem?_eq_getElem h]
theorem immL_repl : ∀ n : Nat, immL (List.replicate n (.bl true)) = true
  | 0 => rfl
  | n + 1 => by simp [List.replicate_succ, immL, D.imm, immL_repl n]
theorem same_tup (o : Orc) (ix : Nat) (l : List D) (hl : l.length ≤ 1000000) (h : ∀ d ∈ l, o.fn ix [d, d] = .ok (false, .bl true)) : runFn o (sameFd ix) [.tup l, .tup l] = .ok (false, .bl true) := by
  have hr : inR (l.length : Int) = true := by simp [inR]; omega
  have hcg : compGo (fun x => ev o ((x ++ [D.tup l, D.tup l]).map fun d => some (Own.sh, d)) false (T.call ix (TL.cons (T.idx (T.var 2) (T.var 0)) (TL.cons (T.idx (T.var 1) (T.var 0)) TL.nil)))) (fun x => ev o ((x ++ [D.tup l, D.tup l]).map fun d => some (Own.sh, d)) true (T.cst (D.bl true))) 1 false (rngD 0 l.length) = .ok (List.replicate l.length (.bl true)) := by
    rw [comp_map (g := fun d => .bl true)]
    · rw [List.map_const']; simp [rngD]
    · intro d _
      simp [ev]
    · intro d hd
      obtain ⟨k, hk, rfl⟩ := List.mem_map.mp hd
      have hk' : k < l.length := by have := List.mem_range.mp hk; omega
      refine ⟨false, ?_⟩
      simp [ev, evL, R.bind, idx_tup l k hk', lkOwn, h _ (List.getElem_mem hk'), lent]
  have hs : size l.length = true := by simp [size]; omega
  have he : ev o [some (.sh, .tup l), some (.sh, .tup l)] true (T.comp [1, 0] 1 false (TI.rng1 (T.b1 .len (T.var 1))) (T.cst (D.bl true)) (T.call ix (TL.cons (T.idx (T.var 2) (T.var 0)) (TL.cons (T.idx (T.var 1) (T.var 0)) TL.nil)))) = .ok (true, .lst (List.replicate l.length (.bl true))) := by
    rw [ev]
    have h1 : evI o [some (.sh, .tup l), some (.sh, .tup l)] true (TI.rng1 (T.b1 .len (T.var 1))) = .ok (rngD 0 l.length) := by simp [evI, ev, R.bind, R.chk, b1D, hr]
    have h2 : slotsD [some (.sh, .tup l), some (.sh, .tup l)] [1, 0] = some [.tup l, .tup l] := by simp [slotsD, slotD]
    rw [h1, h2]
    simp only [R.bind, R.of]
    rw [hcg]
    simp [R.chk, hs, immL_repl]
  refine runFn_at rfl (δ0 := [some (.sh, .tup l), some (.sh, .tup l)]) rfl ?_
  refine stpR (δ' := [some (.sh, .tup l), some (.sh, .tup l)]) ?_
  rw [evS]
  have hc : ((ev o [some (.sh, .tup l), some (.sh, .tup l)] true (T.isin (T.var 1) .tup)).bind fun x => R.of (truth x.2)) = .ok true := by simp [ev, R.bind, isD, R.of, truth]
  rw [hc]
  simp only [SO.of, if_true]
  rw [evSs_nx (δ' := [some (.sh, .tup l), some (.sh, .tup l)])]
  · have he2 : ev o [some (.sh, .tup l), some (.sh, .tup l)] false (T.b1 .all (T.comp [1, 0] 1 false (TI.rng1 (T.b1 .len (T.var 1))) (T.cst (D.bl true)) (T.call ix (TL.cons (T.idx (T.var 2) (T.var 0)) (TL.cons (T.idx (T.var 1) (T.var 0)) TL.nil))))) = .ok (false, .bl true) := by
      rw [ev, he]
      simp [R.bind, b1D, boolsOf_true, R.of]
    simp only [evSs, evS, evF, he2, SO.of]
  · simp [evSs, evS, ev, R.bind, isD, R.of, truth, SO.of, o2, eqA, eqS, boolD, b1D]
end KG

namespace KG
open Z
end KG

namespace KG
open Z
end KG

namespace KG
open Z
theorem orc_fn {P : Prg} {w n f : Nat} {d : Fd} {a : List D} (h : P.fns[f]? = some d) : (orc P w (n + 1)).fn f a = runFn (orc P w n) d a := by simp only [orc, h]
theorem cut_map {α β : Type} (f : α → β) (l : List α) (a b : Nat) : cut (l.map f) a b = (cut l a b).map f := by simp [cut, List.map_drop, List.map_take]
theorem comp_ofN {α : Type} {f c : List D → R (Bool × D)} {a g : α → D} : ∀ {l : List α}, (∀ d ∈ l, c [a d] = .ok (false, .bl true)) → (∀ d ∈ l, ∃ w, f [a d] = .ok (w, g d)) → compGo f c 1 false (l.map a) = .ok (l.map g)
  | [], _, _ => rfl
  | d :: l, hc, hf => by
    obtain ⟨w, h⟩ := hf d List.mem_cons_self
    have ih := comp_ofN (l := l) (fun x hx => hc x (List.mem_cons_of_mem _ hx)) (fun x hx => hf x (List.mem_cons_of_mem _ hx))
    simp only [List.map_cons, compGo, takes, Bool.false_eq_true, if_false, R.of, R.bind, hc d List.mem_cons_self, truth, if_true, h, ih]
theorem ev_comp (o : Orc) (δ : Dst) (lk : Bool) (it : TI) (caps : List Nat) (cs l r : List D) (m : Nat) (tg : Bool) (c e : T) (hI : evI o δ true it = .ok l) (hs : slotsD δ caps = some cs) (ho : (caps.all fun i => !isOwn δ i) = true) (hr : r.length ≤ 1000)
    (hc : compGo (fun x => ev o ((x ++ cs).map fun d => some (Own.sh, d)) false e) (fun x => ev o ((x ++ cs).map fun d => some (Own.sh, d)) true c) m tg l = .ok r) : ev o δ lk (T.comp caps m tg it c e) = .ok (true, .lst r) := by
  rw [ev, hI, hs]
  simp only [R.bind, R.of]
  rw [hc]
  have hz : size r.length = true := by simp [size]; omega
  simp only [ho, hz, R.chk]
  simp
theorem set_of {o : Orc} {δ δ' : Dst} {i : Nat} {e : T} {w : Bool} {d : D} (h : ev o δ false e = .ok (w, d)) (hs : setSlot δ i w d = some δ') : evS o (.set i e) δ = .nx δ' := by
  simp only [evS, evF, h, SO.of, hs, Option.map_some, orStuck]
theorem ifs_of {o : Orc} {δ : Dst} {c : T} {w b : Bool} {x y : SL} (h : ev o δ true c = .ok (w, .bl b)) : evS o (.ifs c x y) δ = if b = true then evSs o x δ else evSs o y δ := by
  simp only [evS, h, R.bind, truth, R.of, SO.of]
theorem slc_strT (w : List Nat) (m : Nat) : slcD (.str w) none (some (m : Int)) = some (false, .str (w.take m)) := by
  have : clip w.length (m : Int) = min m w.length := by unfold clip; rw [if_pos (Int.natCast_nonneg m), Int.toNat_natCast]
  simp only [slcD, lowOf, highOf, this, cut, List.drop_zero, List.take_eq_take_iff, Option.some.injEq, Prod.mk.injEq, D.str.injEq, true_and]
  exact Nat.min_assoc .. |>.trans (by rw [Nat.min_self])
theorem op2_ev {o : Orc} {δ : Dst} {lk : Bool} {p : O2} {a b : T} {w1 w2 : Bool} {x y : D} (ha : ev o δ true a = .ok (w1, x)) (hb : ev o δ true b = .ok (w2, y)) : ev o δ lk (T.op2 p a b) = o2 p x y := by
  simp only [ev, ha, hb, R.bind]
theorem cat_str {a b : List Nat} (h : a.length + b.length ≤ 1000) : o2 .add (.str a) (.str b) = .ok (false, .str (a ++ b)) := by
  have : size (a.length + b.length) = true := decide_eq_true (Nat.le_trans h (by decide))
  simp only [o2, this, R.chk, if_true]
theorem ev_var {o : Orc} {δ : Dst} {lk : Bool} {i : Nat} {d : D} (h : δ[i]? = some (some (.sh, d))) : ev o δ lk (T.var i) = .ok (false, d) := by simp only [ev, h]
theorem ev_cst {o : Orc} {δ : Dst} {lk : Bool} {d : D} : ev o δ lk (T.cst d) = .ok (false, d) := by simp only [ev]
theorem mulE {a b : Int} (h : mulOk a b = true) : o2 .mul (.int a) (.int b) = .ok (false, .int (a * b)) := by simp only [o2, arith, h, R.chk, if_true]
section
variable {o : Orc} {δ : Dst} {lk : Bool}
theorem evL_cons {t : T} {l : TL} {x : D} {xs : List D} {w : Bool} (hk : lkOwn δ t = false) (h : ev o δ false t = .ok (w, x)) (hl : evL o δ l = .ok (false, xs)) : evL o δ (.cons t l) = .ok (false, x :: xs) := by
  simp only [evL, hk, h, hl, R.bind, Bool.or_false]
theorem call_ev {f : Nat} {l : TL} {xs : List D} {w : Bool} {x : D} (hl : evL o δ l = .ok (false, xs)) (h : o.fn f xs = .ok (w, x)) : ev o δ lk (T.call f l) = .ok (w, x) := by
  simp only [ev, hl, R.bind, h, lent, Bool.false_eq_true, if_false]
theorem tup_ev {l : TL} {xs : List D} (hl : evL o δ l = .ok (false, xs)) (hz : size xs.length = true) : ev o δ lk (T.tup l) = .ok (false, .tup xs) := by
  simp only [ev, hl, R.bind, hz, Bool.not_false, Bool.and_self, R.chk, if_true]
theorem lst_ev {l : TL} {xs : List D} (hl : evL o δ l = .ok (false, xs)) (hz : size xs.length = true) : ev o δ lk (T.lst l) = .ok (true, .lst xs) := by
  simp only [ev, hl, R.bind, hz, Bool.not_false, Bool.and_self, R.chk, if_true]
theorem and_tt {a b : T} {w w' c : Bool} (ha : ev o δ true a = .ok (w, .bl true)) (hb : ev o δ true b = .ok (w', .bl c)) : ev o δ lk (T.and a b) = .ok (false, .bl c) := by simp only [ev, ha, hb, R.bind, boolD]
theorem and_f {a b : T} {w : Bool} (ha : ev o δ true a = .ok (w, .bl false)) : ev o δ lk (T.and a b) = .ok (false, .bl false) := by simp only [ev, ha, R.bind]
theorem ifN {c : T} {x : SL} {w : Bool} (h : ev o δ true c = .ok (w, .bl false)) : evS o (.ifs c x .nil) δ = .nx δ := by rw [ifs_of h]; rfl
theorem cat_lst {a b : List D} (h : a.length + b.length ≤ 1000) : o2 .add (.lst a) (.lst b) = .ok (true, .lst (a ++ b)) := by
  have : size (a.length + b.length) = true := decide_eq_true (Nat.le_trans h (by decide))
  simp only [o2, this, R.chk, if_true]
theorem retR {e : T} {w : Bool} {d : D} (h : ev o δ false e = .ok (w, d)) (hv : isV e = false) : evS o (.ret e) δ = .rt w d δ := by
  rw [retE hv]; simp only [evF, h, SO.of]
theorem ifR {c : T} {s : S} {l y : SL} {δ' : Dst} {w b : Bool} {d : D} (h : ev o δ true c = .ok (b, .bl true)) (k : evS o s δ = .rt w d δ') : evS o (.ifs c (.cons s l) y) δ = .rt w d δ' := by
  rw [ifs_of h]; simp only [if_true, evSs, k]
end
theorem slc_ev {o : Orc} {δ : Dst} {lk : Bool} {a lo hi : T} {w1 w2 w3 : Bool} {x y z : D} {l h : Option Int} {r : Bool × D} (ha : ev o δ true a = .ok (w1, x)) (hl : ev o δ true lo = .ok (w2, y)) (hh : ev o δ true hi = .ok (w3, z)) (bl : bnd lo y = some l) (bh : bnd hi z = some h) (hr : slcD x l h = some r) : ev o δ lk (T.slc a lo hi) = .ok r := by
  simp only [ev, ha, hl, hh, R.bind, bl, bh, Option.bind_some, hr, R.of]
theorem b1_ev {o : Orc} {δ : Dst} {lk : Bool} {b : B1} {a : T} {w1 : Bool} {x : D} (ha : ev o δ true a = .ok (w1, x)) : ev o δ lk (T.b1 b a) = b1D b x := by simp only [ev, ha, R.bind]
end KG

namespace P09
open Z
noncomputable def LET : List Nat := [97, 98, 99, 100, 101, 102, 103, 104, 105, 106, 107, 108, 109, 110, 111, 112, 113, 114, 115, 116, 117, 118, 119, 120, 121, 122]
noncomputable def FIG : List Nat := [48, 49, 50, 51, 52, 53, 54, 55, 56, 57]
noncomputable def SNG : List Nat := [40, 41, 44, 43, 45, 42, 61]
noncomputable def f0 : Fd := ⟨1, 4, (SL.cons (S.ifs (T.op2 .gt (T.b1 .len (T.var 0)) (T.cst (D.int 2000))) (SL.cons (S.raise 2 (T.cst (D.str [116, 111, 111, 32, 109, 97, 110, 121, 32, 115, 105, 103, 110, 115]))) SL.nil) SL.nil) (SL.cons (S.set 1 (T.cst (D.int 0))) (SL.cons (S.set 2 (T.cst (D.int 0))) (SL.cons (S.for_ [3] false (TI.val (T.var 0)) (SL.cons (S.set 1 (T.ite (T.op2 .in (T.var 3) (T.cst (D.str FIG))) (T.op2 .add (T.var 1) (T.cst (D.int 1))) (T.cst (D.int 0)))) (SL.cons (S.ifs (T.op2 .eq (T.var 3) (T.cst (D.str [40]))) (SL.cons (S.set 2 (T.op2 .add (T.var 2) (T.cst (D.int 1)))) SL.nil) (SL.cons (S.ifs (T.op2 .eq (T.var 3) (T.cst (D.str [41]))) (SL.cons (S.set 2 (T.op2 .sub (T.var 2) (T.cst (D.int 1)))) SL.nil) SL.nil) SL.nil)) (SL.cons (S.ifs (T.op2 .gt (T.var 1) (T.cst (D.int 60))) (SL.cons (S.raise 2 (T.cst (D.str [116, 111, 111, 32, 109, 97, 110, 121, 32, 102, 105, 103, 117, 114, 101, 115, 32, 98, 101, 104, 105, 110, 100, 32, 111, 110, 101, 32, 97, 110, 111, 116, 104, 101, 114]))) SL.nil) SL.nil) (SL.cons (S.ifs (T.op2 .gt (T.var 2) (T.cst (D.int 16))) (SL.cons (S.raise 2 (T.cst (D.str [116, 111, 111, 32, 109, 97, 110, 121, 32, 114, 111, 117, 110, 100, 32, 115, 105, 103, 110, 115, 32, 119, 105, 116, 104, 105, 110, 32, 111, 110, 101, 32, 97, 110, 111, 116, 104, 101, 114]))) SL.nil) SL.nil) SL.nil))))) SL.nil))))⟩
noncomputable def f1 : Fd := ⟨3, 4, (SL.cons (S.set 3 (T.var 1)) (SL.cons (S.while_ (T.and (T.op2 .lt (T.var 3) (T.b1 .len (T.var 0))) (T.op2 .in (T.idx (T.var 0) (T.var 3)) (T.var 2))) (SL.cons (S.set 3 (T.op2 .add (T.var 3) (T.cst (D.int 1)))) SL.nil)) (SL.cons (S.ret (T.var 3)) SL.nil)))⟩
noncomputable def f2 : Fd := ⟨2, 3, (SL.cons (S.set 2 (T.idx (T.var 0) (T.var 1))) (SL.cons (S.ifs (T.op2 .in (T.var 2) (T.cst (D.str LET))) (SL.cons (S.ret (T.call 1 (TL.cons (T.var 0) (TL.cons (T.var 1) (TL.cons (T.op2 .add (T.cst (D.str LET)) (T.cst (D.str FIG))) TL.nil))))) SL.nil) SL.nil) (SL.cons (S.ifs (T.op2 .in (T.var 2) (T.cst (D.str FIG))) (SL.cons (S.ret (T.call 1 (TL.cons (T.var 0) (TL.cons (T.var 1) (TL.cons (T.cst (D.str FIG)) TL.nil))))) SL.nil) SL.nil) (SL.cons (S.ifs (T.op2 .in (T.var 2) (T.cst (D.str SNG))) (SL.cons (S.ret (T.op2 .add (T.var 1) (T.cst (D.int 1)))) SL.nil) SL.nil) (SL.cons (S.ifs (T.op2 .in (T.slc (T.var 0) (T.var 1) (T.op2 .add (T.var 1) (T.cst (D.int 2)))) (T.tup (TL.cons (T.cst (D.str [62, 61])) (TL.cons (T.cst (D.str [60, 61])) TL.nil)))) (SL.cons (S.ret (T.op2 .add (T.var 1) (T.cst (D.int 2)))) SL.nil) SL.nil) (SL.cons (S.raise 1 (T.fstr (TL.cons (T.cst (D.str [110, 111, 32, 112, 105, 101, 99, 101, 32, 98, 101, 103, 105, 110, 115, 32, 119, 105, 116, 104, 32, 116, 104, 101, 32, 115, 105, 103, 110, 32, 97, 116, 32, 112, 108, 97, 99, 101, 32])) (TL.cons (T.var 1) TL.nil)))) SL.nil))))))⟩
noncomputable def f3 : Fd := ⟨1, 4, (SL.cons (S.expr (T.call 0 (TL.cons (T.var 0) TL.nil))) (SL.cons (S.set 1 (T.lst TL.nil)) (SL.cons (S.set 2 (T.cst (D.int 0))) (SL.cons (S.while_ (T.op2 .lt (T.var 2) (T.b1 .len (T.var 0))) (SL.cons (S.ifs (T.op2 .eq (T.idx (T.var 0) (T.var 2)) (T.cst (D.str [32]))) (SL.cons (S.set 2 (T.op2 .add (T.var 2) (T.cst (D.int 1)))) SL.nil) (SL.cons (S.setx 3 2 (TL.cons (T.var 0) (TL.cons (T.var 2) TL.nil))) (SL.cons (S.append 1 (T.slc (T.var 0) (T.var 2) (T.var 3))) (SL.cons (S.set 2 (T.var 3)) SL.nil)))) SL.nil)) (SL.cons (S.ret (T.var 1)) SL.nil)))))⟩
noncomputable def f4 : Fd := ⟨2, 2, (SL.cons (S.ifs (T.op2 .lt (T.var 1) (T.b1 .len (T.var 0))) (SL.cons (S.ret (T.idx (T.var 0) (T.var 1))) SL.nil) SL.nil) (SL.cons (S.ret (T.cst (D.int 0))) SL.nil))⟩
noncomputable def f5 : Fd := ⟨3, 4, (SL.cons (S.set 3 (T.lst (TL.cons (T.cst (D.int 271828183)) (TL.cons (T.cst (D.int 314159269)) (TL.cons (T.cst (D.int 161803399)) (TL.cons (T.cst (D.int 141421357)) (TL.cons (T.cst (D.int 173205081)) TL.nil))))))) (SL.cons (S.set 3 (T.op2 .add (T.var 3) (T.lst (TL.cons (T.cst (D.int 223606797)) (TL.cons (T.cst (D.int 244948975)) (TL.cons (T.cst (D.int 264575131)) (TL.cons (T.cst (D.int 331662479)) (TL.cons (T.cst (D.int 360555127)) TL.nil)))))))) (SL.cons (S.ret (T.op2 .mod (T.op2 .mod (T.op2 .mul (T.op2 .add (T.var 0) (T.cst (D.int 1))) (T.idx (T.var 3) (T.var 1))) (T.cst (D.int 1000000007))) (T.var 2))) SL.nil)))⟩
noncomputable def f6 : Fd := ⟨2, 4, (SL.cons (S.set 2 (T.cst (D.str LET))) (SL.cons (S.set 3 (T.cst (D.str FIG))) (SL.cons (S.ifs (T.op2 .eq (T.var 0) (T.cst (D.str []))) (SL.cons (S.ret (T.cst (D.bl false))) SL.nil) SL.nil) (SL.cons (S.ifs (T.op2 .in (T.idx (T.var 0) (T.cst (D.int 0))) (T.var 2)) (SL.cons (S.ret (T.or (T.op2 .in (T.idx (T.var 1) (T.cst (D.int 0))) (T.var 2)) (T.op2 .in (T.idx (T.var 1) (T.cst (D.int 0))) (T.var 3)))) SL.nil) SL.nil) (SL.cons (S.ifs (T.op2 .in (T.idx (T.var 0) (T.cst (D.int 0))) (T.var 3)) (SL.cons (S.ret (T.op2 .in (T.idx (T.var 1) (T.cst (D.int 0))) (T.var 3))) SL.nil) SL.nil) (SL.cons (S.ret (T.op2 .in (T.var 0) (T.tup (TL.cons (T.cst (D.str [60])) (TL.cons (T.cst (D.str [62])) TL.nil))))) SL.nil))))))⟩
noncomputable def f7 : Fd := ⟨2, 6, (SL.cons (S.set 2 (T.slc (T.cst (D.str [32, 32])) (T.cst D.non) (T.op2 .mod (T.var 1) (T.cst (D.int 3))))) (SL.cons (S.set 3 (T.cst (D.str []))) (SL.cons (S.for_ [4] false (TI.rng1 (T.b1 .len (T.var 0))) (SL.cons (S.set 5 (T.slc (T.cst (D.str [32, 32])) (T.cst D.non) (T.call 5 (TL.cons (T.op2 .add (T.var 1) (T.var 4)) (TL.cons (T.cst (D.int 0)) (TL.cons (T.cst (D.int 3)) TL.nil)))))) (SL.cons (S.ifs (T.and (T.op2 .eq (T.var 5) (T.cst (D.str []))) (T.call 6 (TL.cons (T.var 3) (TL.cons (T.idx (T.var 0) (T.var 4)) TL.nil)))) (SL.cons (S.set 5 (T.cst (D.str [32]))) SL.nil) SL.nil) (SL.cons (S.set 2 (T.op2 .add (T.op2 .add (T.var 2) (T.var 5)) (T.idx (T.var 0) (T.var 4)))) (SL.cons (S.set 3 (T.idx (T.var 0) (T.var 4))) SL.nil))))) (SL.cons (S.ret (T.op2 .add (T.var 2) (T.slc (T.cst (D.str [32, 32])) (T.cst D.non) (T.op2 .mod (T.op2 .fdiv (T.var 1) (T.cst (D.int 3))) (T.cst (D.int 3)))))) SL.nil))))⟩
noncomputable def f8 : Fd := ⟨1, 9, (SL.cons (S.set 1 (T.cst (D.str LET))) (SL.cons (S.set 2 (T.op2 .add (T.var 1) (T.cst (D.str FIG)))) (SL.cons (S.set 3 (T.op2 .mod (T.var 0) (T.cst (D.int 12)))) (SL.cons (S.set 4 (T.op2 .fdiv (T.var 0) (T.cst (D.int 12)))) (SL.cons (S.ifs (T.op2 .gt (T.var 3) (T.cst (D.int 6))) (SL.cons (S.ret (T.idx (T.lst (TL.cons (T.cst (D.str [40])) (TL.cons (T.cst (D.str [41])) (TL.cons (T.cst (D.str [44])) (TL.cons (T.cst (D.str [43])) (TL.cons (T.cst (D.str [45])) (TL.cons (T.cst (D.str [42])) (TL.cons (T.cst (D.str [61])) (TL.cons (T.cst (D.str [62, 61])) (TL.cons (T.cst (D.str [60, 61])) TL.nil)))))))))) (T.op2 .mod (T.var 4) (T.cst (D.int 9))))) SL.nil) SL.nil) (SL.cons (S.ifs (T.op2 .gt (T.var 3) (T.cst (D.int 3))) (SL.cons (S.set 5 (T.idx (T.var 1) (T.op2 .mod (T.var 4) (T.cst (D.int 26))))) (SL.cons (S.for_ [6] false (TI.rng1 (T.op2 .mod (T.op2 .fdiv (T.var 4) (T.cst (D.int 26))) (T.cst (D.int 12)))) (SL.cons (S.set 5 (T.op2 .add (T.var 5) (T.idx (T.var 2) (T.op2 .mod (T.op2 .add (T.var 4) (T.op2 .mul (T.op2 .mul (T.cst (D.int 7)) (T.var 6)) (T.var 6))) (T.cst (D.int 36)))))) SL.nil)) (SL.cons (S.ret (T.var 5)) SL.nil))) SL.nil) (SL.cons (S.set 7 (T.op2 .add (T.cst (D.int 1)) (T.op2 .mod (T.var 4) (T.cst (D.int 5))))) (SL.cons (S.ifs (T.op2 .eq (T.op2 .mod (T.op2 .fdiv (T.var 4) (T.cst (D.int 5))) (T.cst (D.int 6))) (T.cst (D.int 0))) (SL.cons (S.set 7 (T.op2 .add (T.cst (D.int 60)) (T.op2 .mod (T.var 4) (T.cst (D.int 2))))) SL.nil) SL.nil) (SL.cons (S.set 8 (T.cst (D.str []))) (SL.cons (S.for_ [6] false (TI.rng1 (T.var 7)) (SL.cons (S.set 8 (T.op2 .add (T.var 8) (T.idx (T.var 2) (T.op2 .add (T.cst (D.int 26)) (T.op2 .mod (T.op2 .add (T.op2 .fdiv (T.var 4) (T.cst (D.int 7))) (T.op2 .mul (T.op2 .mul (T.cst (D.int 3)) (T.var 6)) (T.var 6))) (T.cst (D.int 10))))))) SL.nil)) (SL.cons (S.ret (T.var 8)) SL.nil)))))))))))⟩
noncomputable def f9 : Fd := ⟨1, 2, (SL.cons (S.set 1 (T.lst (TL.cons (T.cst (D.str [65])) (TL.cons (T.cst (D.str [90])) (TL.cons (T.cst (D.str [46])) (TL.cons (T.cst (D.str [47])) (TL.cons (T.cst (D.str [58])) (TL.cons (T.cst (D.str [59])) (TL.cons (T.cst (D.str [33])) (TL.cons (T.cst (D.str [63])) (TL.cons (T.cst (D.str [35])) (TL.cons (T.cst (D.str [38])) (TL.cons (T.cst (D.str [39])) (TL.cons (T.cst (D.str [34])) (TL.cons (T.cst (D.str [91])) (TL.cons (T.cst (D.str [92])) (TL.cons (T.cst (D.str [93])) (TL.cons (T.cst (D.str [94])) (TL.cons (T.cst (D.str [123])) (TL.cons (T.cst (D.str [124])) (TL.cons (T.cst (D.str [125])) (TL.cons (T.cst (D.str [126])) TL.nil)))))))))))))))))))))) (SL.cons (S.set 1 (T.op2 .add (T.var 1) (T.lst (TL.cons (T.cst (D.str [10])) (TL.cons (T.cst (D.str [9])) (TL.cons (T.cst (D.str [36])) (TL.cons (T.cst (D.str [64])) (TL.cons (T.cst (D.str [60])) (TL.cons (T.cst (D.str [62])) TL.nil))))))))) (SL.cons (S.ret (T.idx (T.var 1) (T.op2 .mod (T.var 0) (T.cst (D.int 26))))) SL.nil)))⟩
noncomputable def f10 : Fd := ⟨2, 4, (SL.cons (S.ifs (T.op2 .gt (T.b1 .len (T.var 0)) (T.cst (D.int 2000))) (SL.cons (S.ret (T.cst (D.bl true))) SL.nil) SL.nil) (SL.cons (S.set 2 (T.cst (D.int 0))) (SL.cons (S.for_ [3] false (TI.val (T.var 1)) (SL.cons (S.ifs (T.op2 .eq (T.var 3) (T.cst (D.str [40]))) (SL.cons (S.set 2 (T.op2 .add (T.var 2) (T.cst (D.int 1)))) SL.nil) SL.nil) (SL.cons (S.ifs (T.op2 .eq (T.var 3) (T.cst (D.str [41]))) (SL.cons (S.set 2 (T.op2 .sub (T.var 2) (T.cst (D.int 1)))) SL.nil) SL.nil) (SL.cons (S.ifs (T.or (T.op2 .gt (T.var 2) (T.cst (D.int 16))) (T.op2 .gt (T.b1 .len (T.var 3)) (T.cst (D.int 60)))) (SL.cons (S.ret (T.cst (D.bl true))) SL.nil) SL.nil) SL.nil)))) (SL.cons (S.ret (T.cst (D.bl false))) SL.nil))))⟩
noncomputable def f11 : Fd := ⟨3, 5, (SL.cons (S.set 3 (T.comp [] 1 false (TI.val (T.var 0)) (T.cst (D.bl true)) (T.call 8 (TL.cons (T.var 0) TL.nil)))) (SL.cons (S.ifs (T.op2 .eq (T.op2 .mod (T.var 1) (T.cst (D.int 4))) (T.cst (D.int 1))) (SL.cons (S.set 3 (T.op2 .add (T.comp [] 1 false (TI.rng1 (T.op2 .add (T.cst (D.int 14)) (T.op2 .mod (T.op2 .fdiv (T.var 1) (T.cst (D.int 4))) (T.cst (D.int 5))))) (T.cst (D.bl true)) (T.cst (D.str [40]))) (T.var 3))) SL.nil) SL.nil) (SL.cons (S.ifs (T.op2 .eq (T.op2 .mod (T.var 2) (T.cst (D.int 3))) (T.cst (D.int 1))) (SL.cons (S.set 4 (T.op2 .mod (T.op2 .fdiv (T.var 2) (T.cst (D.int 3))) (T.op2 .add (T.b1 .len (T.var 3)) (T.cst (D.int 1))))) (SL.cons (S.set 3 (T.op2 .add (T.op2 .add (T.slc (T.var 3) (T.cst D.non) (T.var 4)) (T.lst (TL.cons (T.call 9 (TL.cons (T.op2 .fdiv (T.var 2) (T.cst (D.int 101))) TL.nil)) TL.nil))) (T.slc (T.var 3) (T.var 4) (T.cst D.non)))) SL.nil)) SL.nil) (SL.cons (S.ret (T.var 3)) SL.nil))))⟩
noncomputable def f12 : Fd := ⟨1, 3, (SL.cons (S.set 1 (T.cst D.non)) (SL.cons (S.try_ (SL.cons (S.expr (T.call 3 (TL.cons (T.var 0) TL.nil))) SL.nil) 0 (some 2) (SL.cons (S.set 1 (T.var 2)) SL.nil)) (SL.cons (S.ifs (T.op2 .is (T.var 1) (T.cst D.non)) (SL.cons (S.ret (T.cst (D.str [110, 111, 110, 101]))) SL.nil) SL.nil) (SL.cons (S.ifs (T.isin (T.var 1) (.cls 2)) (SL.cons (S.ret (T.idx (T.lst (TL.cons (T.cst (D.str [108, 111, 110, 103])) (TL.cons (T.cst (D.str [98, 111, 116, 104])) TL.nil))) (T.b1 .int (T.isin (T.var 1) (.cls 1))))) SL.nil) SL.nil) (SL.cons (S.ret (T.idx (T.lst (TL.cons (T.cst (D.str [111, 116, 104, 101, 114])) (TL.cons (T.cst (D.str [116, 101, 120, 116])) TL.nil))) (T.b1 .int (T.isin (T.var 1) (.cls 1))))) SL.nil)))))⟩
noncomputable def f13 : Fd := ⟨1, 6, (SL.cons (S.set 1 (T.call 4 (TL.cons (T.var 0) (TL.cons (T.cst (D.int 0)) TL.nil)))) (SL.cons (S.set 2 (T.call 4 (TL.cons (T.var 0) (TL.cons (T.cst (D.int 1)) TL.nil)))) (SL.cons (S.set 3 (T.call 11 (TL.cons (T.slc (T.var 0) (T.cst (D.int 3)) (T.cst (D.int 53))) (TL.cons (T.var 1) (TL.cons (T.var 2) TL.nil))))) (SL.cons (S.set 4 (T.call 7 (TL.cons (T.var 3) (TL.cons (T.call 4 (TL.cons (T.var 0) (TL.cons (T.cst (D.int 2)) TL.nil))) TL.nil)))) (SL.cons (S.ifs (T.op2 .eq (T.op2 .mod (T.op2 .fdiv (T.var 1) (T.cst (D.int 4))) (T.cst (D.int 8))) (T.cst (D.int 2))) (SL.cons (S.set 4 (T.op2 .add (T.var 4) (T.m1 .join (T.cst (D.str [])) (T.comp [] 1 false (TI.rng1 (T.op2 .sub (T.op2 .add (T.cst (D.int 1999)) (T.op2 .mod (T.var 2) (T.cst (D.int 4)))) (T.b1 .len (T.var 4)))) (T.cst (D.bl true)) (T.cst (D.str [32])))))) SL.nil) SL.nil) (SL.cons (S.ifs (T.call 10 (TL.cons (T.var 4) (TL.cons (T.var 3) TL.nil))) (SL.cons (S.ret (T.op2 .eq (T.call 12 (TL.cons (T.var 4) TL.nil)) (T.cst (D.str [108, 111, 110, 103])))) SL.nil) SL.nil) (SL.cons (S.ifs (T.op2 .eq (T.op2 .mod (T.var 2) (T.cst (D.int 3))) (T.cst (D.int 1))) (SL.cons (S.ret (T.op2 .eq (T.call 12 (TL.cons (T.var 4) TL.nil)) (T.cst (D.str [116, 101, 120, 116])))) SL.nil) SL.nil) (SL.cons (S.set 5 (T.call 3 (TL.cons (T.var 4) TL.nil))) (SL.cons (S.ifs (T.or (T.not (T.isin (T.var 5) .lst)) (T.or (T.not (T.b1 .all (T.comp [] 1 false (TI.val (T.var 5)) (T.cst (D.bl true)) (T.isin (T.var 0) .str)))) (T.op2 .ne (T.var 5) (T.var 3)))) (SL.cons (S.ret (T.cst (D.bl false))) SL.nil) SL.nil) (SL.cons (S.clear 5) (SL.cons (S.ret (T.op2 .eq (T.call 3 (TL.cons (T.var 4) TL.nil)) (T.var 3))) SL.nil)))))))))))⟩
noncomputable def meth : Nat → List Nat → Option Nat
  | _, _ => none
noncomputable def init : Nat → Option Nat
  | _ => none
noncomputable def sub : Nat → Nat → Bool
  | 1, 1 => true
  | 1, 0 => true
  | 2, 2 => true
  | 2, 0 => true
  | _, _ => false
noncomputable def prg : Prg := ⟨[f0, f1, f2, f3, f4, f5, f6, f7, f8, f9, f10, f11, f12, f13], meth, init, sub⟩
noncomputable def lawIx : Nat := 13
end P09

namespace K9
open Z KG P09
theorem while_t {c : Dst → R (Bool × D)} {b : Dst → SO} {n : Nat} {δ δ' : Dst} {w : Bool} (hc : c δ = .ok (w, .bl true)) (hb : b δ = .nx δ') : whileGo c b (n + 1) δ = whileGo c b n δ' := by
  simp only [whileGo, hc, R.bind, truth, R.of, SO.of, if_true, hb]
theorem while_f {c : Dst → R (Bool × D)} {b : Dst → SO} {n : Nat} {δ : Dst} {w : Bool} (hc : c δ = .ok (w, .bl false)) : whileGo c b (n + 1) δ = .nx δ := by
  simp only [whileGo, hc, R.bind, truth, R.of, SO.of, Bool.false_eq_true, if_false]
theorem while_x {c : Dst → R (Bool × D)} {b : Dst → SO} {n k : Nat} {δ δ' : Dst} {w : Bool} (hc : c δ = .ok (w, .bl true)) (hb : b δ = .ex k δ') : whileGo c b (n + 1) δ = .ex k δ' := by
  simp only [whileGo, hc, R.bind, truth, R.of, SO.of, if_true, hb]
theorem runFn_ex {o : Orc} {f : Fd} {args : List D} {c : Nat} {δ0 : Dst} (ha : args.length = f.np) (h0 : args.map (fun d => some (Own.sh, d)) ++ List.replicate (f.ns - f.np) none = δ0) (h : ∃ δ, evSs o f.body δ0 = .ex c δ) : runFn o f args = .exc c := by
  obtain ⟨δ, h⟩ := h
  simp only [runFn, ha, if_true, h0, h]
theorem stpX {o : Orc} {s : S} {l : SL} {δ : Dst} {c : Nat} (δ' : Dst) (h : evS o s δ = .nx δ') (k : ∃ δ1, evSs o l δ' = .ex c δ1) : ∃ δ1, evSs o (.cons s l) δ = .ex c δ1 := by
  obtain ⟨δ1, k⟩ := k
  exact ⟨δ1, (evSs_nx h).trans k⟩
theorem stpE {o : Orc} {s : S} {l : SL} {δ : Dst} {c : Nat} {δ' : Dst} (h : evS o s δ = .ex c δ') : ∃ δ1, evSs o (.cons s l) δ = .ex c δ1 := ⟨δ', by simp only [evSs, h]⟩
theorem ix {x : List Nat} {k c : Nat} (h : x[k]? = some c) : idxD (.str x) (.int (k : Int)) = .ok (false, .str [c]) := by
  have hk := (List.getElem?_eq_some_iff.mp h).1
  have h0 : (0 : Int) ≤ k := by omega
  have h1 : (k : Int) < x.length := by omega
  simp only [idxD, place, h0, h1, if_true, Int.toNat_natCast, Option.bind_some, h, Option.map_some, R.of]
theorem o_in (c : Nat) (y : List Nat) : o2 .in (.str [c]) (.str y) = .ok (false, .bl (decide (c ∈ y))) := rfl
theorem o_lt (a b : Int) : o2 .lt (.int a) (.int b) = .ok (false, .bl (decide (a < b))) := rfl
theorem o_gt (a b : Int) : o2 .gt (.int a) (.int b) = .ok (false, .bl (decide (b < a))) := rfl
theorem o_eqS (a b : List Nat) : o2 .eq (.str a) (.str b) = .ok (false, .bl (decide (a = b))) := rfl
theorem o_add (a b : Int) : o2 .add (.int a) (.int b) = .ok (false, .int (a + b)) := rfl
theorem len_ev {o : Orc} {δ : Dst} {lk : Bool} {i : Nat} {x : List Nat} (h : δ[i]? = some (some (.sh, .str x))) : ev o δ lk (T.b1 .len (T.var i)) = .ok (false, .int x.length) := (b1_ev (ev_var h)).trans rfl
theorem idx_ev {o : Orc} {δ : Dst} {lk : Bool} {a i : T} {w1 w2 : Bool} {x y : D} (ha : ev o δ true a = .ok (w1, x)) (hi : ev o δ true i = .ok (w2, y)) : ev o δ lk (T.idx a i) = idxD x y := by simp only [ev, ha, hi, R.bind]
noncomputable def tw (sg l : List Nat) : List Nat := l.takeWhile fun c => decide (c ∈ sg)
theorem tw_in {sg l : List Nat} {c : Nat} (h : c ∈ sg) : tw sg (c :: l) = c :: tw sg l := by simp [tw, h]
theorem tw_out {sg l : List Nat} {c : Nat} (h : c ∉ sg) : tw sg (c :: l) = [] := by simp [tw, h]
noncomputable def rC : T := (T.and (T.op2 .lt (T.var 3) (T.b1 .len (T.var 0))) (T.op2 .in (T.idx (T.var 0) (T.var 3)) (T.var 2)))
noncomputable def rB : SL := (SL.cons (S.set 3 (T.op2 .add (T.var 3) (T.cst (D.int 1)))) SL.nil)
theorem r_while (o : Orc) (x sg : List Nat) (s1 : Option Slot) : ∀ (n : Nat) (rest pre : List Nat), x = pre ++ rest → rest.length < n →
    whileGo (fun δ => ev o δ true rC) (evSs o rB) n [some (.sh, .str x), s1, some (.sh, .str sg), some (.sh, .int (pre.length : Int))] = .nx [some (.sh, .str x), s1, some (.sh, .str sg), some (.sh, .int ((pre.length + (tw sg rest).length : Nat) : Int))]
  | 0, _, _, _, h => absurd h (Nat.not_lt_zero _)
  | n + 1, [], pre, hx, _ => by
    refine while_f (w := false) (and_f (w := false) ((op2_ev (ev_var rfl) (len_ev rfl)).trans ((o_lt _ _).trans ?_)))
    rw [decide_eq_false (by rw [hx]; simp)]
  | n + 1, c :: r, pre, hx, hn => by
    have hc : x[pre.length]? = some c := by rw [hx]; simp
    have hl : pre.length < x.length := (List.getElem?_eq_some_iff.mp hc).1
    have e1 : ev o [some (.sh, .str x), s1, some (.sh, .str sg), some (.sh, .int (pre.length : Int))] true rC = .ok (false, .bl (decide (c ∈ sg))) := by
      refine and_tt (w := false) (w' := false) ((op2_ev (ev_var rfl) (len_ev rfl)).trans ((o_lt _ _).trans ?_)) ((op2_ev ((idx_ev (ev_var rfl) (ev_var rfl)).trans (ix hc)) (ev_var rfl)).trans (o_in c sg))
      rw [decide_eq_true (by omega)]
    by_cases h : c ∈ sg
    · rw [decide_eq_true h] at e1
      have ih := r_while o x sg s1 n r (pre ++ [c]) (by rw [hx]; simp) (by simp at hn; omega)
      have e2 : evSs o rB [some (.sh, .str x), s1, some (.sh, .str sg), some (.sh, .int (pre.length : Int))] = .nx [some (.sh, .str x), s1, some (.sh, .str sg), some (.sh, .int ((pre ++ [c]).length : Int))] := by
        rw [rB, evSs_nx (set_of ((op2_ev (ev_var rfl) ev_cst).trans (o_add _ _)) rfl)]
        simp [evSs]
      rw [while_t e1 e2, ih, tw_in h]
      have : (pre ++ [c]).length + (tw sg r).length = pre.length + (c :: tw sg r).length := by simp; omega
      rw [this]
    · rw [decide_eq_false h] at e1
      rw [while_f e1, tw_out h]
      simp
theorem run_end (o : Orc) (x sg pre rest : List Nat) (hx : x = pre ++ rest) (hw : x.length < o.w) : runFn o f1 [.str x, .int (pre.length : Int), .str sg] = .ok (false, .int ((pre.length + (tw sg rest).length : Nat) : Int)) := by
  refine runFn_at rfl (δ0 := [some (.sh, .str x), some (.sh, .int (pre.length : Int)), some (.sh, .str sg), none]) rfl ?_
  refine stp [some (.sh, .str x), some (.sh, .int (pre.length : Int)), some (.sh, .str sg), some (.sh, .int (pre.length : Int))] (set_of (ev_var rfl) rfl) ?_
  refine stp _ (show evS o (.while_ rC rB) _ = _ from (r_while o x sg _ o.w rest pre hx (by rw [hx] at hw; simp at hw; omega))) ?_
  exact stpR (δ' := [some (.sh, .str x), some (.sh, .int (pre.length : Int)), some (.sh, .str sg), some (.sh, .int ((pre.length + (tw sg rest).length : Nat) : Int))]) rfl
noncomputable def peV (rest : List Nat) : Option Nat := match rest with
  | [] => none
  | c :: r => if c ∈ LET then some (tw (LET ++ FIG) rest).length else if c ∈ FIG then some (tw FIG rest).length else if c ∈ SNG then some 1 else if rest.take 2 = [62, 61] ∨ rest.take 2 = [60, 61] then some 2 else none
noncomputable def peR (p : Nat) : Option Nat → R (Bool × D)
  | some n => .ok (false, .int ((p + n : Nat) : Int))
  | none => .exc 1
theorem clip_nat (n m : Nat) : clip n (m : Int) = min m n := by unfold clip; rw [if_pos (Int.natCast_nonneg m), Int.toNat_natCast]
theorem cut_mid {α : Type} (pre r : List α) (m : Nat) : cut (pre ++ r) (min pre.length (pre ++ r).length) (min (pre.length + m) (pre ++ r).length) = r.take m := by
  unfold cut
  rw [Nat.min_eq_left (show pre.length ≤ (pre ++ r).length by simp)]
  have : (pre ++ r).take (min (pre.length + m) (pre ++ r).length) = pre ++ r.take m := by
    rw [← List.take_eq_take_min]
    rw [List.take_append, List.take_of_length_le (by omega)]
    congr 2
    omega
  rw [this]
  simp
theorem slc_mid (pre r : List Nat) (m : Nat) : slcD (.str (pre ++ r)) (some (pre.length : Int)) (some ((pre.length + m : Nat) : Int)) = some (false, .str (r.take m)) := by
  simp only [slcD, lowOf, highOf, clip_nat]
  rw [cut_mid]
theorem in2 (x : List Nat) : o2 .in (.str x) (.tup [.str [62, 61], .str [60, 61]]) = .ok (false, .bl (decide (x = [62, 61] ∨ x = [60, 61]))) := by
  have : isIn (.str x) (.tup [.str [62, 61], .str [60, 61]]) = some (decide ([62, 61] = x) || (decide ([60, 61] = x) || false)) := rfl
  simp only [o2, this, Option.map_some, R.of]
  congr 3
  rw [Bool.or_false, ← Bool.decide_or]
  exact decide_eq_decide.mpr ⟨fun h => h.imp Eq.symm Eq.symm, fun h => h.imp Eq.symm Eq.symm⟩
theorem cat36 : o2 .add (.str LET) (.str FIG) = .ok (false, .str (LET ++ FIG)) := cat_str (by decide)
theorem msg_ok (o : Orc) (δ : Dst) (lk : Bool) (m : List Nat) (p : Nat) (h : δ[1]? = some (some (.sh, .int (p : Int)))) (hm : m.length ≤ 100) (hp : p ≤ 10000) : ∃ t, ev o δ lk (T.fstr (TL.cons (T.cst (D.str m)) (TL.cons (T.var 1) TL.nil))) = .ok (false, .str t) := by
  have hL : evL o δ (TL.cons (T.cst (D.str m)) (TL.cons (T.var 1) TL.nil)) = .ok (false, [.str m, .int (p : Int)]) := evL_cons rfl ev_cst (evL_cons (by simp only [lkOwn, isOwn, h]) (ev_var h) rfl)
  have h2 : (p : Int).natAbs.log2 < 1920 := by
    have : (p : Int).natAbs < 2 ^ 14 := by simp; omega
    by_cases h0 : (p : Int).natAbs = 0
    · rw [h0]; decide
    · have := (Nat.log2_lt h0).mpr this
      omega
  have hf : fstrD [.str m, .int (p : Int)] = some (m ++ numText p) := by
    show (if (p : Int).natAbs.log2 < 1920 then some (m ++ numText p) else none) = _
    rw [if_pos h2]
  have hn : (numText (p : Int)).length ≤ 10000 := by
    unfold numText
    rw [if_neg (by omega)]
    simp only [figs, List.length_map]
    have : (Nat.toDigits 10 (p : Int).natAbs).length ≤ 10000 := by
      have hq : (p : Int).natAbs < 10 ^ 5 := by simp; omega
      have := Nat.length_toDigits_le_iff (b := 10) (k := 5) (n := (p : Int).natAbs) (by decide) (by decide)
      have := this.mpr hq
      omega
    exact this
  have hz : size (m ++ numText (p : Int)).length = true := by simp [size]; omega
  refine ⟨m ++ numText p, ?_⟩
  rw [ev, hL]
  simp only [R.bind, hf, Option.bind_some, hz, if_true, R.of]
end K9

namespace K9
open Z KG P09
theorem ifF {o : Orc} {δ : Dst} {c : T} {x : SL} {w b : Bool} (h : ev o δ true c = .ok (w, .bl b)) (hb : b = false) : evS o (.ifs c x .nil) δ = .nx δ := by subst hb; exact ifN h
theorem ifT {o : Orc} {δ δ' : Dst} {c : T} {s : S} {l y : SL} {w w' b : Bool} {d : D} (h : ev o δ true c = .ok (w, .bl b)) (hb : b = true) (k : evS o s δ = .rt w' d δ') : evS o (.ifs c (.cons s l) y) δ = .rt w' d δ' := by subst hb; exact ifR h k
theorem ite_ev {o : Orc} {δ : Dst} {lk : Bool} {c a e : T} {w b : Bool} {r : R (Bool × D)} (hc : ev o δ true c = .ok (w, .bl b)) (h : ev o δ lk (if b then a else e) = r) : ev o δ lk (T.ite c a e) = r := by
  cases b <;> (simp only [ev, hc, R.bind, truth, R.of]; exact h)
theorem raise_ev {o : Orc} {δ : Dst} {c : Nat} {e : T} {r : Bool × D} (h : ev o δ true e = .ok r) : evS o (.raise c e) δ = .ex c δ := by simp only [evS, h, SO.of]
theorem piece_end (o : Orc) (x pre rest : List Nat) (c : Nat) (r : List Nat) (hx : x = pre ++ rest) (hr : rest = c :: r) (hl : pre.length ≤ 10000)
    (h1 : ∀ sg, o.fn 1 [.str x, .int (pre.length : Int), .str sg] = .ok (false, .int ((pre.length + (tw sg rest).length : Nat) : Int))) : runFn o f2 [.str x, .int (pre.length : Int)] = peR pre.length (peV rest) := by
  have hc : x[pre.length]? = some c := by rw [hx, hr]; simp
  have s0 : evS o (S.set 2 (T.idx (T.var 0) (T.var 1))) [some (.sh, .str x), some (.sh, .int (pre.length : Int)), none] = .nx [some (.sh, .str x), some (.sh, .int (pre.length : Int)), some (.sh, .str [c])] := set_of ((idx_ev (ev_var rfl) (ev_var rfl)).trans (ix hc)) rfl
  have t : ∀ sg : List Nat, ev o [some (.sh, .str x), some (.sh, .int (pre.length : Int)), some (.sh, .str [c])] true (T.op2 .in (T.var 2) (T.cst (D.str sg))) = .ok (false, .bl (decide (c ∈ sg))) := fun sg => (op2_ev (ev_var rfl) ev_cst).trans (o_in c sg)
  have n0 : peV rest = if c ∈ LET then some (tw (LET ++ FIG) rest).length else if c ∈ FIG then some (tw FIG rest).length else if c ∈ SNG then some 1 else if rest.take 2 = [62, 61] ∨ rest.take 2 = [60, 61] then some 2 else none := by rw [hr]; rfl
  rw [n0]
  by_cases a1 : c ∈ LET
  · rw [if_pos a1]
    refine runFn_at rfl rfl (stp _ s0 (stpR (ifT (t LET) (decide_eq_true a1) (retR (call_ev (evL_cons rfl (ev_var rfl) (evL_cons rfl (ev_var rfl) (evL_cons rfl ((op2_ev ev_cst ev_cst).trans cat36) rfl))) (h1 _)) rfl))))
  rw [if_neg a1]
  by_cases a2 : c ∈ FIG
  · rw [if_pos a2]
    refine runFn_at rfl rfl (stp _ s0 (stp _ (ifF (t LET) (decide_eq_false a1)) (stpR (ifT (t FIG) (decide_eq_true a2) (retR (call_ev (evL_cons rfl (ev_var rfl) (evL_cons rfl (ev_var rfl) (evL_cons rfl ev_cst rfl))) (h1 _)) rfl)))))
  rw [if_neg a2]
  by_cases a3 : c ∈ SNG
  · rw [if_pos a3]
    refine runFn_at rfl rfl (stp _ s0 (stp _ (ifF (t LET) (decide_eq_false a1)) (stp _ (ifF (t FIG) (decide_eq_false a2)) (stpR (ifT (t SNG) (decide_eq_true a3) (retR ((op2_ev (ev_var rfl) ev_cst).trans (o_add _ _)) rfl))))))
  rw [if_neg a3]
  have u : ev o [some (.sh, .str x), some (.sh, .int (pre.length : Int)), some (.sh, .str [c])] true (T.op2 .in (T.slc (T.var 0) (T.var 1) (T.op2 .add (T.var 1) (T.cst (D.int 2)))) (T.tup (TL.cons (T.cst (D.str [62, 61])) (TL.cons (T.cst (D.str [60, 61])) TL.nil)))) = .ok (false, .bl (decide (rest.take 2 = [62, 61] ∨ rest.take 2 = [60, 61]))) :=
    (op2_ev (slc_ev (ev_var rfl) (ev_var rfl) ((op2_ev (ev_var rfl) ev_cst).trans (o_add _ _)) rfl rfl (by rw [hx]; exact slc_mid pre rest 2)) (tup_ev (xs := [.str [62, 61], .str [60, 61]]) (evL_cons rfl ev_cst (evL_cons rfl ev_cst rfl)) rfl)).trans (in2 _)
  by_cases a4 : rest.take 2 = [62, 61] ∨ rest.take 2 = [60, 61]
  · rw [if_pos a4]
    refine runFn_at rfl rfl (stp _ s0 (stp _ (ifF (t LET) (decide_eq_false a1)) (stp _ (ifF (t FIG) (decide_eq_false a2)) (stp _ (ifF (t SNG) (decide_eq_false a3)) (stpR (ifT u (decide_eq_true a4) (retR ((op2_ev (ev_var rfl) ev_cst).trans (o_add _ _)) rfl)))))))
  rw [if_neg a4]
  obtain ⟨m, hm⟩ := msg_ok o [some (.sh, .str x), some (.sh, .int (pre.length : Int)), some (.sh, .str [c])] true [110, 111, 32, 112, 105, 101, 99, 101, 32, 98, 101, 103, 105, 110, 115, 32, 119, 105, 116, 104, 32, 116, 104, 101, 32, 115, 105, 103, 110, 32, 97, 116, 32, 112, 108, 97, 99, 101, 32] pre.length rfl (by decide) hl
  exact runFn_ex rfl rfl (stpX _ s0 (stpX _ (ifF (t LET) (decide_eq_false a1)) (stpX _ (ifF (t FIG) (decide_eq_false a2)) (stpX _ (ifF (t SNG) (decide_eq_false a3)) (stpX _ (ifF u (decide_eq_false a4)) (stpE (raise_ev hm)))))))
noncomputable def run' (r : Int) (c : Nat) : Int := if c ∈ FIG then r + 1 else 0
noncomputable def dp (d : Int) (c : Nat) : Int := if c = 40 then d + 1 else if c = 41 then d - 1 else d
noncomputable def chk : List Nat → Int → Int → Bool
  | [], _, _ => false
  | c :: l, r, d => decide (60 < run' r c) || (decide (16 < dp d c) || chk l (run' r c) (dp d c))
noncomputable def cB (m m' : List Nat) : SL := (SL.cons (S.set 1 (T.ite (T.op2 .in (T.var 3) (T.cst (D.str FIG))) (T.op2 .add (T.var 1) (T.cst (D.int 1))) (T.cst (D.int 0)))) (SL.cons (S.ifs (T.op2 .eq (T.var 3) (T.cst (D.str [40]))) (SL.cons (S.set 2 (T.op2 .add (T.var 2) (T.cst (D.int 1)))) SL.nil) (SL.cons (S.ifs (T.op2 .eq (T.var 3) (T.cst (D.str [41]))) (SL.cons (S.set 2 (T.op2 .sub (T.var 2) (T.cst (D.int 1)))) SL.nil) SL.nil) SL.nil)) (SL.cons (S.ifs (T.op2 .gt (T.var 1) (T.cst (D.int 60))) (SL.cons (S.raise 2 (T.cst (D.str m))) SL.nil) SL.nil) (SL.cons (S.ifs (T.op2 .gt (T.var 2) (T.cst (D.int 16))) (SL.cons (S.raise 2 (T.cst (D.str m'))) SL.nil) SL.nil) SL.nil))))
theorem evSs_ex {o : Orc} {s : S} {l : SL} {δ δ' : Dst} {c : Nat} (h : evS o s δ = .ex c δ') : evSs o (.cons s l) δ = .ex c δ' := by simp only [evSs, h]
theorem one_eq (c k : Nat) : decide ([c] = [k]) = decide (c = k) := decide_eq_decide.mpr (by simp)
theorem c_body (o : Orc) (m m' : List Nat) (X : Option Slot) (r d : Int) (c : Nat) : evSs o (cB m m') [X, some (.sh, .int r), some (.sh, .int d), some (.sh, .str [c])] = if 60 < run' r c ∨ 16 < dp d c then .ex 2 [X, some (.sh, .int (run' r c)), some (.sh, .int (dp d c)), some (.sh, .str [c])] else .nx [X, some (.sh, .int (run' r c)), some (.sh, .int (dp d c)), some (.sh, .str [c])] := by
  have s1 : evS o (S.set 1 (T.ite (T.op2 .in (T.var 3) (T.cst (D.str FIG))) (T.op2 .add (T.var 1) (T.cst (D.int 1))) (T.cst (D.int 0)))) [X, some (.sh, .int r), some (.sh, .int d), some (.sh, .str [c])] = .nx [X, some (.sh, .int (run' r c)), some (.sh, .int d), some (.sh, .str [c])] := by
    refine set_of (w := false) (d := .int (run' r c)) (ite_ev ((op2_ev (ev_var rfl) ev_cst).trans (o_in c FIG)) ?_) rfl
    unfold run'
    by_cases h : c ∈ FIG
    · rw [if_pos (decide_eq_true h), if_pos h]; exact (op2_ev (ev_var rfl) ev_cst).trans (o_add _ _)
    · rw [if_neg (by simp [h]), if_neg h]; exact ev_cst
  have e1 : ∀ k : Nat, ev o [X, some (.sh, .int (run' r c)), some (.sh, .int d), some (.sh, .str [c])] true (T.op2 .eq (T.var 3) (T.cst (D.str [k]))) = .ok (false, .bl (decide (c = k))) := fun k => ((op2_ev (ev_var rfl) ev_cst).trans (o_eqS _ _)).trans (by rw [one_eq])
  have s2 : evS o (S.ifs (T.op2 .eq (T.var 3) (T.cst (D.str [40]))) (SL.cons (S.set 2 (T.op2 .add (T.var 2) (T.cst (D.int 1)))) SL.nil) (SL.cons (S.ifs (T.op2 .eq (T.var 3) (T.cst (D.str [41]))) (SL.cons (S.set 2 (T.op2 .sub (T.var 2) (T.cst (D.int 1)))) SL.nil) SL.nil) SL.nil)) [X, some (.sh, .int (run' r c)), some (.sh, .int d), some (.sh, .str [c])] = .nx [X, some (.sh, .int (run' r c)), some (.sh, .int (dp d c)), some (.sh, .str [c])] := by
    rw [ifs_of (e1 40)]
    unfold dp
    by_cases h : c = 40
    · rw [if_pos (decide_eq_true h), if_pos h, evSs_nx (set_of ((op2_ev (ev_var rfl) ev_cst).trans (o_add _ _)) rfl)]; rfl
    · rw [if_neg (by simp [h]), if_neg h]
      by_cases h' : c = 41
      · rw [if_pos h']
        have : evS o (S.ifs (T.op2 .eq (T.var 3) (T.cst (D.str [41]))) (SL.cons (S.set 2 (T.op2 .sub (T.var 2) (T.cst (D.int 1)))) SL.nil) SL.nil) [X, some (.sh, .int (run' r c)), some (.sh, .int d), some (.sh, .str [c])] = .nx [X, some (.sh, .int (run' r c)), some (.sh, .int (d - 1)), some (.sh, .str [c])] := by
          rw [ifs_of (e1 41), if_pos (decide_eq_true h'), evSs_nx (set_of ((op2_ev (ev_var rfl) ev_cst).trans (show o2 .sub (.int d) (.int 1) = .ok (false, .int (d - 1)) from rfl)) rfl)]; rfl
        rw [evSs_nx this]; rfl
      · rw [if_neg h', evSs_nx (ifF (e1 41) (decide_eq_false h'))]; rfl
  rw [cB, evSs_nx s1, evSs_nx s2]
  have e2 : ev o [X, some (.sh, .int (run' r c)), some (.sh, .int (dp d c)), some (.sh, .str [c])] true (T.op2 .gt (T.var 1) (T.cst (D.int 60))) = .ok (false, .bl (decide (60 < run' r c))) := (op2_ev (ev_var rfl) ev_cst).trans (o_gt _ _)
  have e3 : ev o [X, some (.sh, .int (run' r c)), some (.sh, .int (dp d c)), some (.sh, .str [c])] true (T.op2 .gt (T.var 2) (T.cst (D.int 16))) = .ok (false, .bl (decide (16 < dp d c))) := (op2_ev (ev_var rfl) ev_cst).trans (o_gt _ _)
  by_cases h1 : 60 < run' r c
  · rw [if_pos (.inl h1), evSs_ex]
    rw [ifs_of e2, if_pos (decide_eq_true h1), evSs_ex (raise_ev ev_cst)]
  rw [evSs_nx (ifF e2 (decide_eq_false h1))]
  by_cases h2 : 16 < dp d c
  · rw [if_pos (.inr h2), evSs_ex]
    rw [ifs_of e3, if_pos (decide_eq_true h2), evSs_ex (raise_ev ev_cst)]
  rw [evSs_nx (ifF e3 (decide_eq_false h2)), if_neg (by simp [h1, h2])]
  rfl
theorem c_for (o : Orc) (m m' : List Nat) (X : Option Slot) : ∀ (l : List Nat) (r d : Int) (s : Option Slot), ∃ δ, forGo (evSs o (cB m m')) [3] false (l.map fun c => .str [c]) [X, some (.sh, .int r), some (.sh, .int d), s] = if chk l r d then .ex 2 δ else .nx δ
  | [], r, d, s => ⟨_, rfl⟩
  | c :: l, r, d, s => by
    have hb := c_body o m m' X r d c
    have hs : setSlots [X, some (.sh, .int r), some (.sh, .int d), s] [3] [.str [c]] = some [X, some (.sh, .int r), some (.sh, .int d), some (.sh, .str [c])] := by simp [setSlots, setSlot]
    by_cases h : 60 < run' r c ∨ 16 < dp d c
    · rw [if_pos h] at hb
      refine ⟨[X, some (.sh, .int (run' r c)), some (.sh, .int (dp d c)), some (.sh, .str [c])], ?_⟩
      have hk : chk (c :: l) r d = true := by unfold chk; rcases h with h | h <;> simp [h]
      simp only [List.map_cons, forGo, takes, Bool.false_eq_true, if_false, hs, hb, hk, if_true]
    · rw [if_neg h] at hb
      obtain ⟨δ, ih⟩ := c_for o m m' X l (run' r c) (dp d c) (some (.sh, .str [c]))
      refine ⟨δ, ?_⟩
      have hk : chk (c :: l) r d = chk l (run' r c) (dp d c) := by rw [chk, decide_eq_false (fun z => h (.inl z)), decide_eq_false (fun z => h (.inr z))]; rfl
      simp only [List.map_cons, forGo, takes, Bool.false_eq_true, if_false, hs, hb, hk]
      exact ih
noncomputable def tooL (x : List Nat) : Bool := decide (2000 < x.length) || chk x 0 0
theorem check_run (o : Orc) (x : List Nat) : runFn o f0 [.str x] = if tooL x then .exc 2 else .ok (false, .non) := by
  have e0 : ev o [some (.sh, .str x), none, none, none] true (T.op2 .gt (T.b1 .len (T.var 0)) (T.cst (D.int 2000))) = .ok (false, .bl (decide (2000 < x.length))) := ((op2_ev (len_ev rfl) ev_cst).trans (o_gt _ _)).trans (by congr 3; exact decide_eq_decide.mpr (by omega))
  by_cases h : 2000 < x.length
  · have : tooL x = true := by simp [tooL, h]
    rw [this]
    refine runFn_ex rfl rfl (stpE (c := 2) (δ' := [some (.sh, .str x), none, none, none]) ?_)
    show evS o (S.ifs _ _ _) [some (.sh, .str x), none, none, none] = _
    rw [ifs_of e0, if_pos (decide_eq_true h), evSs_ex (raise_ev ev_cst)]
  · have ht : tooL x = chk x 0 0 := by simp [tooL, h]
    rw [ht]
    obtain ⟨δ, hf⟩ := c_for o [116, 111, 111, 32, 109, 97, 110, 121, 32, 102, 105, 103, 117, 114, 101, 115, 32, 98, 101, 104, 105, 110, 100, 32, 111, 110, 101, 32, 97, 110, 111, 116, 104, 101, 114] [116, 111, 111, 32, 109, 97, 110, 121, 32, 114, 111, 117, 110, 100, 32, 115, 105, 103, 110, 115, 32, 119, 105, 116, 104, 105, 110, 32, 111, 110, 101, 32, 97, 110, 111, 116, 104, 101, 114] (some (.sh, .str x)) x 0 0 none
    have e3 : evS o (S.for_ [3] false (TI.val (T.var 0)) (cB [116, 111, 111, 32, 109, 97, 110, 121, 32, 102, 105, 103, 117, 114, 101, 115, 32, 98, 101, 104, 105, 110, 100, 32, 111, 110, 101, 32, 97, 110, 111, 116, 104, 101, 114] [116, 111, 111, 32, 109, 97, 110, 121, 32, 114, 111, 117, 110, 100, 32, 115, 105, 103, 110, 115, 32, 119, 105, 116, 104, 105, 110, 32, 111, 110, 101, 32, 97, 110, 111, 116, 104, 101, 114])) [some (.sh, .str x), some (.sh, .int 0), some (.sh, .int 0), none] = if chk x 0 0 then .ex 2 δ else .nx δ := by
      rw [forE (δ1 := [some (.sh, .str x), some (.sh, .int 0), some (.sh, .int 0), none]) rfl]
      have : evI o [some (.sh, .str x), some (.sh, .int 0), some (.sh, .int 0), none] false (TI.val (T.var 0)) = .ok (x.map fun c => .str [c]) := by
        rw [evI, ev_var rfl]; rfl
      rw [this]
      exact hf
    generalize hcB : cB _ _ = CB at e3
    have eb : f0.body = SL.cons (S.ifs (T.op2 .gt (T.b1 .len (T.var 0)) (T.cst (D.int 2000))) (SL.cons (S.raise 2 (T.cst (D.str [116, 111, 111, 32, 109, 97, 110, 121, 32, 115, 105, 103, 110, 115]))) SL.nil) SL.nil) (SL.cons (S.set 1 (T.cst (D.int 0))) (SL.cons (S.set 2 (T.cst (D.int 0))) (SL.cons (S.for_ [3] false (TI.val (T.var 0)) CB) SL.nil))) := by subst hcB; rfl
    have hbody : evSs o f0.body [some (.sh, .str x), none, none, none] = if chk x 0 0 then .ex 2 δ else .nx δ := by
      rw [eb, evSs_nx (ifF e0 (decide_eq_false h)), evSs_nx (set_of ev_cst rfl), evSs_nx (set_of ev_cst rfl)]
      show evSs o (SL.cons (S.for_ [3] false (TI.val (T.var 0)) CB) SL.nil) [some (.sh, .str x), some (.sh, .int 0), some (.sh, .int 0), none] = _
      rw [evSs, e3]
      cases chk x 0 0 <;> rfl
    have hr : runFn o f0 [.str x] = match evSs o f0.body [some (.sh, .str x), none, none, none] with
      | .rt w d _ => .ok (w, d)
      | .nx _ => .ok (false, .non)
      | .ex c _ => .exc c
      | _ => .stuck := rfl
    rw [hr, hbody]
    cases chk x 0 0 <;> rfl
end K9

namespace K9
open Z KG P09
noncomputable def Word (p : List Nat) : Prop := ∃ c r, p = c :: r ∧ c ∈ LET ∧ (∀ a ∈ r, a ∈ LET ++ FIG) ∧ p.length ≤ 60
noncomputable def Num (p : List Nat) : Prop := p ≠ [] ∧ ∀ a ∈ p, a ∈ FIG
noncomputable def Sgn (p : List Nat) : Prop := (∃ c, c ∈ SNG ∧ p = [c]) ∨ p = [62, 61] ∨ p = [60, 61]
noncomputable def Good (p : List Nat) : Prop := Word p ∨ Num p ∨ Sgn p
noncomputable def ALI : List Nat := [65, 90, 46, 47, 58, 59, 33, 63, 35, 38, 39, 34, 91, 92, 93, 94, 123, 124, 125, 126, 10, 9, 36, 64, 60, 62]
noncomputable def Ali (p : List Nat) : Prop := ∃ a, a ∈ ALI ∧ p = [a]
noncomputable def partedH (l : List Nat) (c : Nat) : Bool := match l with
  | [] => false
  | a :: _ => if a ∈ LET then decide (c ∈ LET) || decide (c ∈ FIG) else if a ∈ FIG then decide (c ∈ FIG) else decide (l = [60]) || decide (l = [62])
noncomputable def Fit (p t : List Nat) : Prop := ∀ c r, t = c :: r → c = 32 ∨ partedH p c = false
inductive Txt : List Nat → List (List Nat) → Prop
  | nil : Txt [] []
  | blank {t : List Nat} {row : List (List Nat)} : Txt t row → Txt (32 :: t) row
  | piece {p t : List Nat} {row : List (List Nat)} : (Good p ∨ Ali p) → Fit p t → Txt t row → Txt (p ++ t) (p :: row)
theorem fig_let : ∀ a ∈ FIG, a ∉ LET := by decide
theorem sng_let : ∀ a ∈ SNG, a ∉ LET ∧ a ∉ FIG := by decide
theorem ali_no : ∀ a ∈ ALI, a ∉ LET ∧ a ∉ FIG ∧ a ∉ SNG ∧ a ≠ 32 ∧ a ≠ 40 ∧ a ≠ 41 := by decide
theorem tw_all {sg p t : List Nat} (h : ∀ a ∈ p, a ∈ sg) (ht : ∀ c r, t = c :: r → c ∉ sg) : tw sg (p ++ t) = p := by
  induction p with
  | nil =>
    cases t with
    | nil => rfl
    | cons c r => exact tw_out (ht c r rfl)
  | cons a p ih => rw [List.cons_append, tw_in (h a List.mem_cons_self), ih fun b hb => h b (List.mem_cons_of_mem _ hb)]
theorem pe_good {p t : List Nat} (hp : Good p) (hf : Fit p t) : peV (p ++ t) = some p.length := by
  rcases hp with ⟨c, r, rfl, hc, hr, _⟩ | ⟨hne, ha⟩ | hs
  · have : tw (LET ++ FIG) (c :: r ++ t) = c :: r := by
      refine tw_all (fun a h => ?_) fun c' r' e => ?_
      · rcases List.mem_cons.mp h with rfl | h
        · exact List.mem_append_left _ hc
        · exact hr a h
      · rcases hf c' r' e with rfl | h
        · decide
        · simp only [partedH, if_pos hc, Bool.or_eq_false_iff, decide_eq_false_iff_not] at h
          simp [h.1, h.2]
    show (if c ∈ LET then some (tw (LET ++ FIG) (c :: r ++ t)).length else _) = _
    rw [if_pos hc, this]
  · cases p with
    | nil => exact absurd rfl hne
    | cons c r =>
      have hc := ha c List.mem_cons_self
      have hl := fig_let c hc
      have : tw FIG (c :: r ++ t) = c :: r := by
        refine tw_all ha fun c' r' e => ?_
        rcases hf c' r' e with rfl | h
        · decide
        · simp only [partedH, if_neg hl, if_pos hc, decide_eq_false_iff_not] at h
          exact h
      show (if c ∈ LET then _ else if c ∈ FIG then some (tw FIG (c :: r ++ t)).length else _) = _
      rw [if_neg hl, if_pos hc, this]
  · rcases hs with ⟨c, hc, rfl⟩ | rfl | rfl
    · obtain ⟨h1, h2⟩ := sng_let c hc
      show (if c ∈ LET then _ else if c ∈ FIG then _ else if c ∈ SNG then some 1 else _) = _
      rw [if_neg h1, if_neg h2, if_pos hc]; rfl
    · rfl
    · rfl
theorem pe_ali {p t : List Nat} (hp : Ali p) (hf : Fit p t) : peV (p ++ t) = none := by
  obtain ⟨a, ha, rfl⟩ := hp
  obtain ⟨h1, h2, h3, _⟩ := ali_no a ha
  show (if a ∈ LET then _ else if a ∈ FIG then _ else if a ∈ SNG then some 1 else if List.take 2 (a :: t) = [62, 61] ∨ List.take 2 (a :: t) = [60, 61] then some 2 else none) = _
  rw [if_neg h1, if_neg h2, if_neg h3, if_neg]
  intro z
  cases t with
  | nil => simp at z
  | cons c r =>
    have z : (a = 62 ∧ c = 61) ∨ (a = 60 ∧ c = 61) := by simpa using z
    rcases z with ⟨rfl, rfl⟩ | ⟨rfl, rfl⟩ <;> rcases hf 61 r rfl with h | h <;> revert h <;> decide
theorem good_hd {p : List Nat} (h : Good p ∨ Ali p) : ∃ c r, p = c :: r ∧ c ≠ 32 := by
  have l32 : ∀ a ∈ LET, a ≠ 32 := by decide
  have f32 : ∀ a ∈ FIG, a ≠ 32 := by decide
  have s32 : ∀ a ∈ SNG, a ≠ 32 := by decide
  rcases h with (⟨c, r, rfl, hc, _⟩ | ⟨hne, ha⟩ | ⟨c, hc, rfl⟩ | rfl | rfl) | ⟨a, ha, rfl⟩
  · exact ⟨c, r, rfl, l32 c hc⟩
  · cases p with
    | nil => exact absurd rfl hne
    | cons c r => exact ⟨c, r, rfl, f32 c (ha c List.mem_cons_self)⟩
  · exact ⟨c, [], rfl, s32 c hc⟩
  · exact ⟨62, [61], rfl, by decide⟩
  · exact ⟨60, [61], rfl, by decide⟩
  · exact ⟨a, [], rfl, (ali_no a ha).2.2.2.1⟩
noncomputable def pC : T := (T.op2 .lt (T.var 2) (T.b1 .len (T.var 0)))
noncomputable def pB : SL := (SL.cons (S.ifs (T.op2 .eq (T.idx (T.var 0) (T.var 2)) (T.cst (D.str [32]))) (SL.cons (S.set 2 (T.op2 .add (T.var 2) (T.cst (D.int 1)))) SL.nil) (SL.cons (S.setx 3 2 (TL.cons (T.var 0) (TL.cons (T.var 2) TL.nil))) (SL.cons (S.append 1 (T.slc (T.var 0) (T.var 2) (T.var 3))) (SL.cons (S.set 2 (T.var 3)) SL.nil)))) SL.nil)
noncomputable abbrev St (x : List Nat) (F : List D) (p : Nat) (e : Option Slot) : Dst := [some (.sh, .str x), some (.ow, .lst F), some (.sh, .int (p : Int)), e]
section
variable {o : Orc} {x : List Nat}
theorem setx_ok {δ δ' : Dst} {i f : Nat} {l : TL} {xs : List D} {w : Bool} {d : D} (hl : evL o δ l = .ok (false, xs)) (h : o.fn f xs = .ok (w, d)) (hs : setSlot δ i w d = some δ') : evS o (.setx i f l) δ = .nx δ' := by
  simp only [evS, hl, SO.of, h, R.bind, lent, Bool.false_eq_true, if_false, SO.ofX, hs, Option.map_some, orStuck]
theorem setx_ex {δ : Dst} {i f c : Nat} {l : TL} {xs : List D} (hl : evL o δ l = .ok (false, xs)) (h : o.fn f xs = .exc c) : evS o (.setx i f l) δ = .ex c δ := by
  simp only [evS, hl, SO.of, h, R.bind, SO.ofX]
theorem p_test (F : List D) (e : Option Slot) (pre r : List Nat) (c : Nat) (hx : x = pre ++ c :: r) : ev o (St x F pre.length e) true (T.op2 .eq (T.idx (T.var 0) (T.var 2)) (T.cst (D.str [32]))) = .ok (false, .bl (decide (c = 32))) :=
  ((op2_ev ((idx_ev (ev_var rfl) (ev_var rfl)).trans (ix (c := c) (by rw [hx]; simp))) ev_cst).trans (o_eqS _ _)).trans (by rw [one_eq])
theorem p_blank (F : List D) (e : Option Slot) (pre t : List Nat) (hx : x = pre ++ 32 :: t) : evSs o pB (St x F pre.length e) = .nx (St x F (pre ++ [32]).length e) := by
  have h1 : evS o (S.ifs (T.op2 .eq (T.idx (T.var 0) (T.var 2)) (T.cst (D.str [32]))) (SL.cons (S.set 2 (T.op2 .add (T.var 2) (T.cst (D.int 1)))) SL.nil) (SL.cons (S.setx 3 2 (TL.cons (T.var 0) (TL.cons (T.var 2) TL.nil))) (SL.cons (S.append 1 (T.slc (T.var 0) (T.var 2) (T.var 3))) (SL.cons (S.set 2 (T.var 3)) SL.nil)))) (St x F pre.length e) = .nx (St x F (pre ++ [32]).length e) := by
    rw [ifs_of (p_test F e pre t 32 hx), if_pos (by decide), evSs_nx (set_of ((op2_ev (ev_var rfl) ev_cst).trans (o_add _ _)) rfl)]
    simp [evSs, St]
  rw [pB, evSs_nx h1]
  rfl
theorem p_else (F : List D) (e : Option Slot) (pre r : List Nat) (c : Nat) (hx : x = pre ++ c :: r) (hc : c ≠ 32) : evSs o pB (St x F pre.length e) = match evSs o (SL.cons (S.setx 3 2 (TL.cons (T.var 0) (TL.cons (T.var 2) TL.nil))) (SL.cons (S.append 1 (T.slc (T.var 0) (T.var 2) (T.var 3))) (SL.cons (S.set 2 (T.var 3)) SL.nil))) (St x F pre.length e) with | .nx δ => .nx δ | r => r := by
  rw [pB, evSs, ifs_of (p_test F e pre r c hx), if_neg (by simp [hc])]
  cases evSs o _ (St x F pre.length e) <;> rfl
theorem p_args (F : List D) (e : Option Slot) (p : Nat) : evL o (St x F p e) (TL.cons (T.var 0) (TL.cons (T.var 2) TL.nil)) = .ok (false, [.str x, .int (p : Int)]) := evL_cons rfl (ev_var rfl) (evL_cons rfl (ev_var rfl) rfl)
theorem p_bad (F : List D) (e : Option Slot) (pre r : List Nat) (c : Nat) (hx : x = pre ++ c :: r) (hc : c ≠ 32) (h : o.fn 2 [.str x, .int (pre.length : Int)] = .exc 1) : evSs o pB (St x F pre.length e) = .ex 1 (St x F pre.length e) := by
  rw [p_else F e pre r c hx hc, evSs_ex (setx_ex (p_args F e _) h)]
theorem p_piece (F : List D) (e : Option Slot) (pre p t : List Nat) (hx : x = pre ++ (p ++ t)) (hp : ∃ c r, p = c :: r ∧ c ≠ 32) (hF : F.length ≤ 100000) (h : o.fn 2 [.str x, .int (pre.length : Int)] = .ok (false, .int ((pre.length + p.length : Nat) : Int))) :
    ∃ e', evSs o pB (St x F pre.length e) = .nx (St x (F ++ [.str p]) (pre ++ p).length e') := by
  obtain ⟨c, r, hpe, hc⟩ := hp
  refine ⟨some (.sh, .int ((pre.length + p.length : Nat) : Int)), ?_⟩
  rw [p_else F e pre (r ++ t) c (by rw [hx, hpe]; rfl) hc]
  have s1 : evS o (S.setx 3 2 (TL.cons (T.var 0) (TL.cons (T.var 2) TL.nil))) (St x F pre.length e) = .nx (St x F pre.length (some (.sh, .int ((pre.length + p.length : Nat) : Int)))) := setx_ok (p_args F e _) h rfl
  have hsl : ev o (St x F pre.length (some (.sh, .int ((pre.length + p.length : Nat) : Int)))) false (T.slc (T.var 0) (T.var 2) (T.var 3)) = .ok (false, .str p) := by
    refine slc_ev (ev_var rfl) (ev_var rfl) (ev_var rfl) rfl rfl ?_
    rw [hx, slc_mid]
    simp
  have hz : size (F.length + 1) = true := by simp [size]; omega
  have s2 : evS o (S.append 1 (T.slc (T.var 0) (T.var 2) (T.var 3))) (St x F pre.length (some (.sh, .int ((pre.length + p.length : Nat) : Int)))) = .nx (St x (F ++ [.str p]) pre.length (some (.sh, .int ((pre.length + p.length : Nat) : Int)))) := by
    have ho : ownD (St x F pre.length (some (.sh, .int ((pre.length + p.length : Nat) : Int)))) 1 = some (.ow, .lst F) := rfl
    simp only [evS, evF, hsl, SO.of, ho, Option.bind_some, hz, if_true, orStuck]
    rfl
  rw [evSs_nx s1, evSs_nx s2, evSs_nx (set_of (ev_var rfl) rfl)]
  simp [evSs, St]
theorem p_cond (F : List D) (e : Option Slot) (p : Nat) : ev o (St x F p e) true pC = .ok (false, .bl (decide (p < x.length))) := ((op2_ev (ev_var rfl) (len_ev rfl)).trans (o_lt _ _)).trans (by congr 3; exact decide_eq_decide.mpr (by omega))
variable (hpe : ∀ (pre rest : List Nat) (c : Nat) (r : List Nat), x = pre ++ rest → rest = c :: r → o.fn 2 [.str x, .int (pre.length : Int)] = peR pre.length (peV rest))
include hpe
theorem walk_ok {rest : List Nat} {row : List (List Nat)} (h : Txt rest row) : (∀ p ∈ row, Good p) → ∀ (pre : List Nat) (F : List D) (e : Option Slot) (n : Nat), x = pre ++ rest → rest.length < n → F.length + row.length ≤ 100000 →
    ∃ e', whileGo (fun δ => ev o δ true pC) (evSs o pB) n (St x F pre.length e) = .nx (St x (F ++ row.map .str) x.length e') := by
  induction h with
  | nil =>
    intro _ pre F e n hx hn _
    obtain ⟨n, rfl⟩ : ∃ m, n = m + 1 := ⟨n - 1, by omega⟩
    refine ⟨e, ?_⟩
    have hl : pre.length = x.length := by rw [hx]; simp
    rw [while_f (w := false) (by rw [p_cond, decide_eq_false (by omega)]), hl]
    simp
  | @blank t row h ih =>
    intro hg pre F e n hx hn hF
    obtain ⟨n, rfl⟩ : ∃ m, n = m + 1 := ⟨n - 1, by omega⟩
    have hl : pre.length < x.length := by rw [hx]; simp
    rw [while_t (w := false) (by rw [p_cond, decide_eq_true hl]) (p_blank F e pre t hx)]
    exact ih hg (pre ++ [32]) F e n (by rw [hx]; simp) (by simp at hn; omega) hF
  | @piece p t row hk hf h ih =>
    intro hg pre F e n hx hn hF
    obtain ⟨n, rfl⟩ : ∃ m, n = m + 1 := ⟨n - 1, by omega⟩
    obtain ⟨c, r, hc, h32⟩ := good_hd hk
    have hl : pre.length < x.length := by rw [hx, hc]; simp
    have h2 := hpe pre (p ++ t) c (r ++ t) hx (by rw [hc]; rfl)
    rw [pe_good (hg p List.mem_cons_self) hf] at h2
    obtain ⟨e', h3⟩ := p_piece (o := o) F e pre p t hx ⟨c, r, hc, h32⟩ (by simp at hF; omega) h2
    rw [while_t (w := false) (by rw [p_cond, decide_eq_true hl]) h3]
    obtain ⟨e2, h4⟩ := ih (fun q hq => hg q (List.mem_cons_of_mem _ hq)) (pre ++ p) (F ++ [.str p]) e' n (by rw [hx]; simp) (by rw [hc] at hn; simp at hn; omega) (by simp at hF ⊢; omega)
    exact ⟨e2, by rw [h4]; simp⟩
theorem walk_bad {rest : List Nat} {row : List (List Nat)} (h : Txt rest row) : ∀ (R1 R2 : List (List Nat)) (a : List Nat), row = R1 ++ a :: R2 → (∀ p ∈ R1, Good p) → Ali a → ∀ (pre : List Nat) (F : List D) (e : Option Slot) (n : Nat), x = pre ++ rest → rest.length < n → F.length + row.length ≤ 100000 →
    ∃ δ, whileGo (fun δ => ev o δ true pC) (evSs o pB) n (St x F pre.length e) = .ex 1 δ := by
  induction h with
  | nil =>
    intro R1 R2 a hr
    cases R1 <;> cases hr
  | @blank t row h ih =>
    intro R1 R2 a hr hg ha pre F e n hx hn hF
    obtain ⟨n, rfl⟩ : ∃ m, n = m + 1 := ⟨n - 1, by omega⟩
    have hl : pre.length < x.length := by rw [hx]; simp
    rw [while_t (w := false) (by rw [p_cond, decide_eq_true hl]) (p_blank F e pre t hx)]
    exact ih R1 R2 a hr hg ha (pre ++ [32]) F e n (by rw [hx]; simp) (by simp at hn; omega) hF
  | @piece p t row hk hf h ih =>
    intro R1 R2 a hr hg ha pre F e n hx hn hF
    obtain ⟨n, rfl⟩ : ∃ m, n = m + 1 := ⟨n - 1, by omega⟩
    obtain ⟨c, r, hc, h32⟩ := good_hd hk
    have hl : pre.length < x.length := by rw [hx, hc]; simp
    have h2 := hpe pre (p ++ t) c (r ++ t) hx (by rw [hc]; rfl)
    cases R1 with
    | nil =>
      obtain ⟨rfl, rfl⟩ : p = a ∧ row = R2 := by simpa using hr
      rw [pe_ali ha hf] at h2
      exact ⟨_, while_x (w := false) (by rw [p_cond, decide_eq_true hl]) (p_bad F e pre (r ++ t) c (by rw [hx, hc]; rfl) h32 h2)⟩
    | cons q R1 =>
      obtain ⟨rfl, rfl⟩ : p = q ∧ row = R1 ++ a :: R2 := by simpa using hr
      rw [pe_good (hg p List.mem_cons_self) hf] at h2
      obtain ⟨e', h3⟩ := p_piece (o := o) F e pre p t hx ⟨c, r, hc, h32⟩ (by simp at hF; omega) h2
      rw [while_t (w := false) (by rw [p_cond, decide_eq_true hl]) h3]
      exact ih R1 R2 a rfl (fun q hq => hg q (List.mem_cons_of_mem _ hq)) ha (pre ++ p) (F ++ [.str p]) e' n (by rw [hx]; simp) (by rw [hc] at hn; simp at hn; omega) (by simp at hF ⊢; omega)
end
section
variable {o : Orc} {x : List Nat}
theorem check_ex {δ : Dst} {f c : Nat} {l : TL} {xs : List D} (hl : evL o δ l = .ok (false, xs)) (h : o.fn f xs = .exc c) : evS o (.expr (.call f l)) δ = .ex c δ := by simp only [evS, hl, SO.of, h, R.bind, SO.ofX]
theorem check_nx {δ : Dst} {f : Nat} {l : TL} {xs : List D} {w : Bool} {d : D} (hl : evL o δ l = .ok (false, xs)) (h : o.fn f xs = .ok (w, d)) : evS o (.expr (.call f l)) δ = .nx δ := by simp only [evS, hl, SO.of, h, R.bind, lent, Bool.false_eq_true, if_false, SO.ofX]
theorem pieces_long (h0 : o.fn 0 [.str x] = .exc 2) : runFn o f3 [.str x] = .exc 2 := runFn_ex rfl rfl (stpE (check_ex (evL_cons rfl (ev_var rfl) rfl) h0))
theorem pieces_ok {row : List (List Nat)} (h0 : o.fn 0 [.str x] = .ok (false, .non)) (hpe : ∀ (pre rest : List Nat) (c : Nat) (r : List Nat), x = pre ++ rest → rest = c :: r → o.fn 2 [.str x, .int (pre.length : Int)] = peR pre.length (peV rest)) (ht : Txt x row) (hg : ∀ p ∈ row, Good p) (hw : x.length < o.w) (hr : row.length ≤ 1000) :
    runFn o f3 [.str x] = .ok (true, .lst (row.map .str)) := by
  obtain ⟨e', hW⟩ := walk_ok hpe ht hg [] [] none o.w rfl hw (by simp; omega)
  refine runFn_at rfl rfl (stp _ (check_nx (evL_cons rfl (ev_var rfl) rfl) h0) (stp _ (set_of (lst_ev (xs := []) rfl rfl) rfl) (stp _ (set_of ev_cst rfl) (stp _ (show evS o (.while_ pC pB) _ = _ from hW) ?_))))
  exact stpR rfl
theorem pieces_bad {R1 R2 : List (List Nat)} {a : List Nat} (h0 : o.fn 0 [.str x] = .ok (false, .non)) (hpe : ∀ (pre rest : List Nat) (c : Nat) (r : List Nat), x = pre ++ rest → rest = c :: r → o.fn 2 [.str x, .int (pre.length : Int)] = peR pre.length (peV rest)) (ht : Txt x (R1 ++ a :: R2)) (hg : ∀ p ∈ R1, Good p) (ha : Ali a) (hw : x.length < o.w) (hr : (R1 ++ a :: R2).length ≤ 1000) :
    runFn o f3 [.str x] = .exc 1 := by
  obtain ⟨δ, hW⟩ := walk_bad hpe ht R1 R2 a rfl hg ha [] [] none o.w rfl hw (by simp at hr ⊢; omega)
  exact runFn_ex rfl rfl (stpX _ (check_nx (evL_cons rfl (ev_var rfl) rfl) h0) (stpX _ (set_of (lst_ev (xs := []) rfl rfl) rfl) (stpX _ (set_of ev_cst rfl) (stpE (show evS o (.while_ pC pB) _ = _ from hW)))))
end
end K9

namespace K9
open Z KG P09
noncomputable def stepD (d : Int) (p : List Nat) : Int := if p = [41] then (if p = [40] then d + 1 else d) - 1 else if p = [40] then d + 1 else d
noncomputable def rowL : List (List Nat) → Int → Bool
  | [], _ => false
  | p :: row, d => if 16 < stepD d p ∨ 60 < p.length then true else rowL row (stepD d p)
theorem stepD_one (d : Int) (c : Nat) : stepD d [c] = dp d c := by
  unfold stepD dp
  by_cases h : c = 40
  · subst h; simp
  · by_cases h' : c = 41
    · subst h'; simp
    · simp [h, h']
theorem no_round : ∀ a ∈ LET ++ FIG, a ≠ 40 ∧ a ≠ 41 := by decide
theorem dp_no {d : Int} {c : Nat} (h : c ≠ 40 ∧ c ≠ 41) : dp d c = d := by unfold dp; rw [if_neg h.1, if_neg h.2]
theorem chk_cons {c : Nat} {l : List Nat} {r d : Int} (h1 : ¬ 60 < run' r c) (h2 : ¬ 16 < dp d c) : chk (c :: l) r d = chk l (run' r c) (dp d c) := by
  rw [chk, decide_eq_false h1, decide_eq_false h2]; rfl
theorem chk_sign {c : Nat} {l : List Nat} {r d : Int} (hc : c ∉ FIG) : chk (c :: l) r d = (decide (16 < dp d c) || chk l 0 (dp d c)) := by
  have : run' r c = 0 := if_neg hc
  rw [chk, this]; rfl
theorem chk_word {t : List Nat} {d : Int} (hd : d ≤ 16) : ∀ (w : List Nat) (r : Int), (∀ a ∈ w, a ∈ LET ++ FIG) → 0 ≤ r → r + w.length ≤ 60 → ∃ r', 0 ≤ r' ∧ chk (w ++ t) r d = chk t r' d
  | [], r, _, h0, _ => ⟨r, h0, rfl⟩
  | c :: w, r, hw, h0, hl => by
    have hc := dp_no (d := d) (no_round c (hw c List.mem_cons_self))
    have hr : 0 ≤ run' r c ∧ run' r c ≤ r + 1 := by unfold run'; split <;> omega
    simp only [List.length_cons] at hl
    obtain ⟨r', h1, h2⟩ := chk_word hd w (run' r c) (fun a ha => hw a (List.mem_cons_of_mem _ ha)) hr.1 (by omega)
    refine ⟨r', h1, ?_⟩
    rw [List.cons_append, chk_cons (by omega) (by rw [hc]; omega), hc, h2]
theorem chk_num {t : List Nat} {d : Int} (hd : d ≤ 16) : ∀ (w : List Nat) (r : Int), (∀ a ∈ w, a ∈ FIG) → 0 ≤ r → r ≤ 60 → chk (w ++ t) r d = if 60 < r + w.length then true else chk t (r + w.length) d
  | [], r, _, h0, hl => by simp; omega
  | c :: w, r, hw, h0, hl => by
    have hf := hw c List.mem_cons_self
    have hc := dp_no (d := d) (no_round c (List.mem_append_right _ hf))
    have hr : run' r c = r + 1 := if_pos hf
    by_cases h : 60 < r + 1
    · rw [List.cons_append, chk, hr, decide_eq_true h, if_pos (by simp; omega)]; rfl
    · rw [List.cons_append, chk_cons (by omega) (by rw [hc]; omega), hc, hr, chk_num hd w (r + 1) (fun a ha => hw a (List.mem_cons_of_mem _ ha)) (by omega) (by omega)]
      rw [show r + 1 + (w.length : Int) = r + ((c :: w).length : Nat) by simp; omega]
theorem fit_fig {p t : List Nat} (hf : Fit p t) (hp : ∃ c r, p = c :: r ∧ (c ∈ LET ∨ c ∈ FIG)) : ∀ c r, t = c :: r → c ∉ FIG := fun c r e => by
  obtain ⟨a, r', rfl, ha⟩ := hp
  rcases hf c r e with rfl | h
  · decide
  · by_cases h1 : a ∈ LET
    · simp only [partedH, if_pos h1, Bool.or_eq_false_iff, decide_eq_false_iff_not] at h
      exact h.2
    · simp only [partedH, if_neg h1, if_pos (ha.resolve_left h1), decide_eq_false_iff_not] at h
      exact h
theorem chk_row {t : List Nat} {row : List (List Nat)} (h : Txt t row) : ∀ (r d : Int), d ≤ 16 → 0 ≤ r → (r = 0 ∨ ∀ c t', t = c :: t' → c ∉ FIG) → chk t r d = rowL row d := by
  induction h with
  | nil => intro r d _ _ _; rfl
  | @blank t row h ih =>
    intro r d hd _ _
    rw [chk_sign (by decide), dp_no (by decide), decide_eq_false (by omega)]
    exact ih 0 d hd (Int.le_refl _) (.inl rfl)
  | @piece p t row hk hf h ih =>
    intro r d hd h0 hr
    have one : ∀ c, p = [c] → c ∉ FIG → chk (p ++ t) r d = rowL (p :: row) d := fun c e hc => by
      subst e
      rw [show [c] ++ t = c :: t from rfl, chk_sign hc, rowL, stepD_one]
      by_cases hx : 16 < dp d c
      · rw [decide_eq_true hx, if_pos (.inl hx)]; rfl
      · rw [decide_eq_false hx, if_neg (by simp [hx])]
        exact ih 0 _ (by omega) (Int.le_refl _) (.inl rfl)
    have two : ∀ c, p = [c, 61] → c ∉ FIG → c ≠ 40 ∧ c ≠ 41 → chk (p ++ t) r d = rowL (p :: row) d := fun c e hc hn => by
      subst e
      rw [show [c, 61] ++ t = c :: 61 :: t from rfl, chk_sign hc, dp_no hn, decide_eq_false (by omega), Bool.false_or, chk_sign (by decide), dp_no (by decide), decide_eq_false (by omega), Bool.false_or, rowL]
      have : stepD d [c, 61] = d := by simp [stepD]
      rw [this, if_neg (by simp; omega)]
      exact ih 0 d hd (Int.le_refl _) (.inl rfl)
    rcases hk with (⟨c, w, rfl, hc, hw, hl⟩ | ⟨hne, ha⟩ | ⟨c, hc, e⟩ | e | e) | ⟨a, ha, e⟩
    · have hcf : c ∉ FIG := fun z => fig_let c z hc
      have hn := no_round c (List.mem_append_left _ hc)
      have hs : stepD d (c :: w) = d := by
        have h1 : c :: w ≠ [41] := fun z => hn.2 (by simpa using (List.cons.inj z).1)
        have h2 : c :: w ≠ [40] := fun z => hn.1 (by simpa using (List.cons.inj z).1)
        unfold stepD; rw [if_neg h1, if_neg h2]
      obtain ⟨r', h1, h2⟩ := chk_word (t := t) hd w 0 hw (Int.le_refl _) (by simp at hl; omega)
      rw [List.cons_append, chk_sign hcf, dp_no hn, decide_eq_false (by omega), Bool.false_or, h2, rowL, hs, if_neg (by omega)]
      exact ih r' d hd h1 (.inr (fit_fig hf ⟨c, w, rfl, .inl hc⟩))
    · cases p with
      | nil => exact absurd rfl hne
      | cons c w =>
        have hc := ha c List.mem_cons_self
        have hn := no_round c (List.mem_append_right _ hc)
        have hs : stepD d (c :: w) = d := by
          have h1 : c :: w ≠ [41] := fun z => hn.2 (by simpa using (List.cons.inj z).1)
          have h2 : c :: w ≠ [40] := fun z => hn.1 (by simpa using (List.cons.inj z).1)
          unfold stepD; rw [if_neg h1, if_neg h2]
        have hr0 : r = 0 := hr.resolve_right fun z => z c (w ++ t) rfl hc
        subst hr0
        rw [chk_num hd (c :: w) 0 ha (Int.le_refl _) (by omega), rowL, hs, Int.zero_add]
        by_cases hx : 60 < (c :: w).length
        · rw [if_pos (by omega), if_pos (.inr hx)]
        · rw [if_neg (by omega), if_neg (by omega)]
          exact ih _ d hd (by omega) (.inr (fit_fig hf ⟨c, w, rfl, .inr hc⟩))
    · exact one c e (sng_let c hc).2
    · exact two 62 e (by decide) (by decide)
    · exact two 60 e (by decide) (by decide)
    · exact one a e (ali_no a ha).2.1
theorem tooL_row {x : List Nat} {row : List (List Nat)} (h : Txt x row) : tooL x = (decide (2000 < x.length) || rowL row 0) := by
  unfold tooL
  rw [chk_row h 0 0 (by omega) (Int.le_refl _) (.inl rfl)]
noncomputable def lB : SL := (SL.cons (S.ifs (T.op2 .eq (T.var 3) (T.cst (D.str [40]))) (SL.cons (S.set 2 (T.op2 .add (T.var 2) (T.cst (D.int 1)))) SL.nil) SL.nil) (SL.cons (S.ifs (T.op2 .eq (T.var 3) (T.cst (D.str [41]))) (SL.cons (S.set 2 (T.op2 .sub (T.var 2) (T.cst (D.int 1)))) SL.nil) SL.nil) (SL.cons (S.ifs (T.or (T.op2 .gt (T.var 2) (T.cst (D.int 16))) (T.op2 .gt (T.b1 .len (T.var 3)) (T.cst (D.int 60)))) (SL.cons (S.ret (T.cst (D.bl true))) SL.nil) SL.nil) SL.nil)))
theorem or_tt {o : Orc} {δ : Dst} {lk : Bool} {a b : T} {w : Bool} (ha : ev o δ true a = .ok (w, .bl true)) : ev o δ lk (T.or a b) = .ok (false, .bl true) := by simp only [ev, ha, R.bind]
theorem or_ff {o : Orc} {δ : Dst} {lk : Bool} {a b : T} {w w' c : Bool} (ha : ev o δ true a = .ok (w, .bl false)) (hb : ev o δ true b = .ok (w', .bl c)) : ev o δ lk (T.or a b) = .ok (false, .bl c) := by simp only [ev, ha, hb, R.bind, boolD]
theorem or_ev {o : Orc} {δ : Dst} {lk : Bool} {a b : T} {w w' c c' : Bool} (ha : ev o δ true a = .ok (w, .bl c)) (hb : ev o δ true b = .ok (w', .bl c')) : ev o δ lk (T.or a b) = .ok (false, .bl (c || c')) := by
  cases c
  · exact or_ff ha hb
  · exact or_tt ha
theorem ifS {o : Orc} {δ δ' : Dst} {c : T} {i : Nat} {e : T} {w b w' : Bool} {d : D} (h : ev o δ true c = .ok (w, .bl b)) (k : ev o δ false e = .ok (w', d)) (hs : setSlot δ i w' d = some δ') : evS o (.ifs c (.cons (.set i e) .nil) .nil) δ = .nx (if b then δ' else δ) := by
  cases b
  · exact ifN h
  · rw [ifs_of h, if_pos rfl, evSs_nx (set_of k hs)]; rfl
theorem l_body (o : Orc) (X Y : Option Slot) (d : Int) (p : List Nat) : evSs o lB [X, Y, some (.sh, .int d), some (.sh, .str p)] = if 16 < stepD d p ∨ 60 < p.length then .rt false (.bl true) [X, Y, some (.sh, .int (stepD d p)), some (.sh, .str p)] else .nx [X, Y, some (.sh, .int (stepD d p)), some (.sh, .str p)] := by
  have e : ∀ (k : Nat) (z : Int), ev o [X, Y, some (.sh, .int z), some (.sh, .str p)] true (T.op2 .eq (T.var 3) (T.cst (D.str [k]))) = .ok (false, .bl (decide (p = [k]))) := fun k z => (op2_ev (ev_var rfl) ev_cst).trans (o_eqS _ _)
  have s1 : evS o (S.ifs (T.op2 .eq (T.var 3) (T.cst (D.str [40]))) (SL.cons (S.set 2 (T.op2 .add (T.var 2) (T.cst (D.int 1)))) SL.nil) SL.nil) [X, Y, some (.sh, .int d), some (.sh, .str p)] = .nx [X, Y, some (.sh, .int (if p = [40] then d + 1 else d)), some (.sh, .str p)] := by
    rw [ifS (e 40 d) ((op2_ev (ev_var rfl) ev_cst).trans (o_add _ _)) rfl]
    by_cases h : p = [40] <;> simp [h]
  have s2 : evS o (S.ifs (T.op2 .eq (T.var 3) (T.cst (D.str [41]))) (SL.cons (S.set 2 (T.op2 .sub (T.var 2) (T.cst (D.int 1)))) SL.nil) SL.nil) [X, Y, some (.sh, .int (if p = [40] then d + 1 else d)), some (.sh, .str p)] = .nx [X, Y, some (.sh, .int (stepD d p)), some (.sh, .str p)] := by
    rw [ifS (e 41 _) ((op2_ev (ev_var rfl) ev_cst).trans (show o2 .sub (.int _) (.int 1) = .ok (false, .int (_ - 1)) from rfl)) rfl]
    unfold stepD
    by_cases h : p = [41] <;> simp [h]
  rw [lB, evSs_nx s1, evSs_nx s2]
  have e3 : ev o [X, Y, some (.sh, .int (stepD d p)), some (.sh, .str p)] true (T.or (T.op2 .gt (T.var 2) (T.cst (D.int 16))) (T.op2 .gt (T.b1 .len (T.var 3)) (T.cst (D.int 60)))) = .ok (false, .bl (decide (16 < stepD d p) || decide ((60 : Int) < p.length))) :=
    or_ev ((op2_ev (ev_var rfl) ev_cst).trans (o_gt _ _)) ((op2_ev (len_ev rfl) ev_cst).trans (o_gt _ _))
  by_cases h : 16 < stepD d p ∨ 60 < p.length
  · rw [if_pos h]
    have : (decide (16 < stepD d p) || decide ((60 : Int) < p.length)) = true := by
      rcases h with h | h
      · simp [h]
      · have : (60 : Int) < p.length := by omega
        simp [this]
    have k := ifT (l := SL.nil) (y := SL.nil) e3 this (retR (o := o) (e := T.cst (D.bl true)) ev_cst rfl)
    simp only [evSs, k]
  · rw [if_neg h]
    have : (decide (16 < stepD d p) || decide ((60 : Int) < p.length)) = false := by
      have h1 : ¬ 16 < stepD d p := fun z => h (.inl z)
      have h2 : ¬ (60 : Int) < p.length := fun z => h (.inr (by omega))
      simp [h1, h2]
    rw [evSs_nx (ifF e3 this)]
    rfl
theorem l_for (o : Orc) (X Y : Option Slot) : ∀ (row : List (List Nat)) (d : Int) (s : Option Slot), ∃ δ, forGo (evSs o lB) [3] false (row.map .str) [X, Y, some (.sh, .int d), s] = if rowL row d then .rt false (.bl true) δ else .nx δ
  | [], d, s => ⟨_, rfl⟩
  | p :: row, d, s => by
    have hb := l_body o X Y d p
    have hs : setSlots [X, Y, some (.sh, .int d), s] [3] [.str p] = some [X, Y, some (.sh, .int d), some (.sh, .str p)] := by simp [setSlots, setSlot]
    by_cases h : 16 < stepD d p ∨ 60 < p.length
    · rw [if_pos h] at hb
      refine ⟨[X, Y, some (.sh, .int (stepD d p)), some (.sh, .str p)], ?_⟩
      have hk : rowL (p :: row) d = true := if_pos h
      simp only [List.map_cons, forGo, takes, Bool.false_eq_true, if_false, hs, hb, hk, if_true]
    · rw [if_neg h] at hb
      obtain ⟨δ, ih⟩ := l_for o X Y row (stepD d p) (some (.sh, .str p))
      refine ⟨δ, ?_⟩
      have hk : rowL (p :: row) d = rowL row (stepD d p) := if_neg h
      simp only [List.map_cons, forGo, takes, Bool.false_eq_true, if_false, hs, hb, hk]
      exact ih
theorem long_run (o : Orc) (x : List Nat) (row : List (List Nat)) : runFn o f10 [.str x, .lst (row.map .str)] = .ok (false, .bl (decide (2000 < x.length) || rowL row 0)) := by
  have e0 : ev o [some (.sh, .str x), some (.sh, .lst (row.map .str)), none, none] true (T.op2 .gt (T.b1 .len (T.var 0)) (T.cst (D.int 2000))) = .ok (false, .bl (decide (2000 < x.length))) := ((op2_ev (len_ev rfl) ev_cst).trans (o_gt _ _)).trans (by congr 3; exact decide_eq_decide.mpr (by omega))
  by_cases h : 2000 < x.length
  · rw [decide_eq_true h]
    exact runFn_at rfl rfl (stpR (ifT e0 (decide_eq_true h) (retR ev_cst rfl)))
  · rw [decide_eq_false h, Bool.false_or]
    obtain ⟨δ, hf⟩ := l_for o (some (.sh, .str x)) (some (.sh, .lst (row.map .str))) row 0 none
    have e3 : evS o (S.for_ [3] false (TI.val (T.var 1)) lB) [some (.sh, .str x), some (.sh, .lst (row.map .str)), some (.sh, .int 0), none] = if rowL row 0 then .rt false (.bl true) δ else .nx δ := by
      rw [forE (δ1 := [some (.sh, .str x), some (.sh, .lst (row.map .str)), some (.sh, .int 0), none]) rfl]
      have : evI o [some (.sh, .str x), some (.sh, .lst (row.map .str)), some (.sh, .int 0), none] false (TI.val (T.var 1)) = .ok (row.map .str) := by
        rw [evI, ev_var rfl]; rfl
      rw [this]
      exact hf
    refine runFn_at rfl rfl (stp _ (ifF e0 (decide_eq_false h)) (stp _ (set_of ev_cst rfl) ?_))
    cases hk : rowL row 0 with
    | true => rw [hk] at e3; exact stpR e3
    | false => rw [hk] at e3; exact stp _ e3 (stpR (retR ev_cst rfl))
end K9

namespace K9
open Z KG P09
theorem bitsN (k : Nat) (h : k < 1000) : bits (k : Int) ≤ 64 := by
  unfold bits
  by_cases h0 : (k : Int) = 0
  · rw [if_pos h0]; omega
  · rw [if_neg h0]
    have h1 : (k : Int).natAbs ≠ 0 := by omega
    have := (Nat.log2_lt h1 (k := 63)).mpr (by simp; omega)
    omega
theorem mul_k (a : Int) (k : Nat) (h : k < 1000) : o2 .mul (.int a) (.int (k : Int)) = .ok (false, .int (a * k)) := mulE (by simp [mulOk, bitsN k h])
theorem o_mod (a b : Int) (h : b ≠ 0) : o2 .mod (.int a) (.int b) = .ok (false, .int (a.fmod b)) := by simp only [o2, arith, decide_eq_true h, R.chk, if_true]
theorem o_fdiv (a b : Int) (h : (decide (b ≠ 0) && decide (b.natAbs.log2 < 9000)) = true) : o2 .fdiv (.int a) (.int b) = .ok (false, .int (a.fdiv b)) := by simp only [o2, arith, h, R.chk, if_true]
theorem o_eqI (a b : Int) : o2 .eq (.int a) (.int b) = .ok (false, .bl (decide (a = b))) := rfl
theorem rng0 (n : Nat) : rngD 0 (n : Int) = (List.range n).map fun (k : Nat) => D.int (k : Int) := by simp [rngD]
theorem rng1_ev {o : Orc} {δ : Dst} {lk : Bool} {t : T} {w : Bool} {n : Nat} (h : ev o δ true t = .ok (w, .int (n : Int))) (hn : n ≤ 100000) : evI o δ lk (TI.rng1 t) = .ok ((List.range n).map fun (k : Nat) => D.int (k : Int)) := by
  have : inR (n : Int) = true := by simp [inR]; omega
  rw [evI, h]
  simp only [R.bind, this, R.chk, if_true, rng0]
theorem ev_own {o : Orc} {δ : Dst} {i : Nat} {d : D} (h : δ[i]? = some (some (.ow, d))) : ev o δ true (T.var i) = .ok (false, d) := by simp only [ev, h, if_true]
theorem cat_big {a b : List Nat} (h : a.length + b.length ≤ 16777216) : o2 .add (.str a) (.str b) = .ok (false, .str (a ++ b)) := by
  have : size (a.length + b.length) = true := decide_eq_true h
  simp only [o2, this, R.chk, if_true]
theorem app_for {o : Orc} {body : SL} {tg : Nat} {f : Nat → Nat} {δ : List Nat → Option Slot → Dst} (hset : ∀ w s d, setSlots (δ w s) [tg] [d] = some (δ w (some (.sh, d))))
    (hb : ∀ (w : List Nat) (k : Nat), w.length + 1 ≤ 1000 → k < 1000 → evSs o body (δ w (some (.sh, .int (k : Int)))) = .nx (δ (w ++ [f k]) (some (.sh, .int (k : Int))))) : ∀ (l : List Nat) (w : List Nat) (s : Option Slot), (∀ k ∈ l, k < 1000) → w.length + l.length ≤ 1000 →
    ∃ s', forGo (evSs o body) [tg] false (l.map fun (k : Nat) => D.int (k : Int)) (δ w s) = .nx (δ (w ++ l.map f) s')
  | [], w, s, _, _ => ⟨s, by simp [forGo]⟩
  | k :: l, w, s, hk, hl => by
    simp only [List.length_cons] at hl
    obtain ⟨s', ih⟩ := app_for hset hb l (w ++ [f k]) (some (.sh, .int (k : Int))) (fun j hj => hk j (List.mem_cons_of_mem _ hj)) (by simp; omega)
    refine ⟨s', ?_⟩
    simp only [List.map_cons, forGo, takes, Bool.false_eq_true, if_false, List.length_cons, List.length_nil, hset, hb w k (by omega) (hk k List.mem_cons_self)]
    rw [ih]
    simp
noncomputable def S9 : List (List Nat) := [[40], [41], [44], [43], [45], [42], [61], [62, 61], [60, 61]]
noncomputable def csts : List D → TL
  | [] => .nil
  | d :: l => .cons (.cst d) (csts l)
theorem csts_ev {o : Orc} {δ : Dst} : ∀ l : List D, evL o δ (csts l) = .ok (false, l)
  | [] => rfl
  | d :: l => evL_cons rfl ev_cst (csts_ev l)
theorem lst_csts {o : Orc} {δ : Dst} {lk : Bool} (l : List D) (h : l.length ≤ 1000) : ev o δ lk (T.lst (csts l)) = .ok (true, .lst l) := lst_ev (csts_ev l) (decide_eq_true (Nat.le_trans h (by decide)))
theorem idx_lst {l : List D} {k : Int} {d : D} (h0 : 0 ≤ k) (h : l[k.toNat]? = some d) : idxD (.lst l) (.int k) = .ok (false, d) := by
  have hk := (List.getElem?_eq_some_iff.mp h).1
  have h1 : k < l.length := by omega
  simp only [idxD, place, h0, h1, if_true, Option.bind_some, h, Option.map_some, R.of]
noncomputable def szV (r : Int) : Nat := (if (r.fdiv 5).fmod 6 = 0 then 60 + r.fmod 2 else 1 + r.fmod 5).toNat
noncomputable def fgv (j : Int) : Nat := S36.getD (26 + j.fmod 10).toNat 0
noncomputable def pcV (c : Int) : List Nat := if 6 < c.fmod 12 then S9.getD ((c.fdiv 12).fmod 9).toNat [] else if 3 < c.fmod 12 then lt (c.fdiv 12) :: (List.range (((c.fdiv 12).fdiv 26).fmod 12).toNat).map (fun (k : Nat) => sg (c.fdiv 12 + 7 * (k : Int) * k)) else (List.range (szV (c.fdiv 12))).map fun (k : Nat) => fgv ((c.fdiv 12).fdiv 7 + 3 * (k : Int) * k)
theorem let_S36 : LET ++ FIG = S36 := rfl
noncomputable def wB : SL := (SL.cons (S.set 5 (T.op2 .add (T.var 5) (T.idx (T.var 2) (T.op2 .mod (T.op2 .add (T.var 4) (T.op2 .mul (T.op2 .mul (T.cst (D.int 7)) (T.var 6)) (T.var 6))) (T.cst (D.int 36)))))) SL.nil)
noncomputable def nB : SL := (SL.cons (S.set 8 (T.op2 .add (T.var 8) (T.idx (T.var 2) (T.op2 .add (T.cst (D.int 26)) (T.op2 .mod (T.op2 .add (T.op2 .fdiv (T.var 4) (T.cst (D.int 7))) (T.op2 .mul (T.op2 .mul (T.cst (D.int 3)) (T.var 6)) (T.var 6))) (T.cst (D.int 10))))))) SL.nil)
theorem w_body (o : Orc) (a b c d e : Option Slot) (r : Int) (w : List Nat) (k : Nat) (hw : w.length + 1 ≤ 1000) (hk : k < 1000) : evSs o wB [a, b, some (.sh, .str (LET ++ FIG)), c, some (.sh, .int r), some (.sh, .str w), some (.sh, .int (k : Int)), d, e] = .nx [a, b, some (.sh, .str (LET ++ FIG)), c, some (.sh, .int r), some (.sh, .str (w ++ [sg (r + 7 * (k : Int) * k)])), some (.sh, .int (k : Int)), d, e] := by
  rw [wB, evSs_nx (set_of ((op2_ev (ev_var rfl) ((idx_ev (ev_var rfl) ((op2_ev ((op2_ev (ev_var rfl) ((op2_ev ((op2_ev ev_cst (ev_var rfl)).trans (mul_k 7 k hk)) (ev_var rfl)).trans (mul_k _ k hk))).trans (o_add _ _)) ev_cst).trans (o_mod _ 36 (by decide)))).trans (by rw [let_S36]; exact idx_sg _))).trans (cat_str (by simpa using hw))) rfl)]
  rfl
theorem n_body (o : Orc) (a b c d e : Option Slot) (r : Int) (w : List Nat) (k : Nat) (hw : w.length + 1 ≤ 1000) (hk : k < 1000) : evSs o nB [a, b, some (.sh, .str (LET ++ FIG)), c, some (.sh, .int r), d, some (.sh, .int (k : Int)), e, some (.sh, .str w)] = .nx [a, b, some (.sh, .str (LET ++ FIG)), c, some (.sh, .int r), d, some (.sh, .int (k : Int)), e, some (.sh, .str (w ++ [fgv (r.fdiv 7 + 3 * (k : Int) * k)]))] := by
  have hr := fmod_range (r.fdiv 7 + 3 * (k : Int) * k) 10 (by decide)
  have h1 : idxD (.str (LET ++ FIG)) (.int (26 + (r.fdiv 7 + 3 * (k : Int) * k).fmod 10)) = .ok (false, .str [fgv (r.fdiv 7 + 3 * (k : Int) * k)]) := by
    rw [let_S36]
    exact idx_str S36 _ (by omega) (by rw [S36_len]; omega)
  rw [nB, evSs_nx (set_of ((op2_ev (ev_var rfl) ((idx_ev (ev_var rfl) ((op2_ev ev_cst ((op2_ev ((op2_ev ((op2_ev (ev_var rfl) ev_cst).trans (o_fdiv _ 7 (by decide))) ((op2_ev ((op2_ev ev_cst (ev_var rfl)).trans (mul_k 3 k hk)) (ev_var rfl)).trans (mul_k _ k hk))).trans (o_add _ _)) ev_cst).trans (o_mod _ 10 (by decide)))).trans (o_add _ _))).trans h1)).trans (cat_str (by simpa using hw))) rfl)]
  rfl
theorem S9_get (j : Int) (h : 0 ≤ j ∧ j < 9) : (S9.map D.str)[j.toNat]? = some (.str (S9.getD j.toNat [])) := by
  have : j.toNat < S9.length := by show j.toNat < 9; omega
  rw [List.getElem?_map, List.getD_eq_getElem?_getD, List.getElem?_eq_getElem this]
  rfl
theorem ifB {o : Orc} {δ : Dst} {c : T} {x y : SL} {w b w' : Bool} {d : D} (h : ev o δ true c = .ok (w, .bl b)) (hb : b = true) (k : ∃ δ1, evSs o x δ = .rt w' d δ1) : ∃ δ1, evS o (.ifs c x y) δ = .rt w' d δ1 := by
  subst hb
  obtain ⟨δ1, k⟩ := k
  exact ⟨δ1, by rw [ifs_of h, if_pos rfl, k]⟩
theorem stpB {o : Orc} {s : S} {l : SL} {δ : Dst} {w : Bool} {d : D} (h : ∃ δ1, evS o s δ = .rt w d δ1) : ∃ δ1, evSs o (.cons s l) δ = .rt w d δ1 := by
  obtain ⟨δ1, h⟩ := h
  exact stpR h
theorem for_of {o : Orc} {δ δ' : Dst} {tg : List Nat} {it : TI} {b : SL} {l : List D} (hs : shareIt δ it = δ) (hi : evI o δ false it = .ok l) (h : forGo (evSs o b) tg false l δ = .nx δ') : evS o (.for_ tg false it b) δ = .nx δ' := by
  rw [forE hs, hi]; exact h
theorem piece_run (o : Orc) (c : Int) : runFn o f8 [.int c] = .ok (false, .str (pcV c)) := by
  have r9 := fmod_range (c.fdiv 12) 9 (by decide)
  have l0 : idxD (.lst (S9.map D.str)) (.int ((c.fdiv 12).fmod 9)) = .ok (false, .str (S9.getD ((c.fdiv 12).fmod 9).toNat [])) := idx_lst r9.1 (S9_get _ r9)
  unfold pcV
  refine runFn_at rfl rfl (stp _ (set_of ev_cst rfl) (stp _ (set_of ((op2_ev (ev_var rfl) ev_cst).trans cat36) rfl) (stp _ (set_of ((op2_ev (ev_var rfl) ev_cst).trans (o_mod _ 12 (by decide))) rfl) (stp _ (set_of ((op2_ev (ev_var rfl) ev_cst).trans (o_fdiv _ 12 (by decide))) rfl) ?_))))
  generalize c.fmod 12 = w
  generalize c.fdiv 12 = r at l0 r9 ⊢
  have e6 : ∀ k : Int, ev o [some (.sh, .int c), some (.sh, .str LET), some (.sh, .str (LET ++ FIG)), some (.sh, .int w), some (.sh, .int r), none, none, none, none] true (T.op2 .gt (T.var 3) (T.cst (D.int k))) = .ok (false, .bl (decide (k < w))) := fun k => (op2_ev (ev_var rfl) ev_cst).trans (o_gt _ _)
  by_cases h6 : 6 < w
  · rw [if_pos h6]
    exact stpR (ifT (e6 6) (decide_eq_true h6) (retR ((idx_ev (lst_csts (S9.map D.str) (by decide)) ((op2_ev (ev_var rfl) ev_cst).trans (o_mod _ 9 (by decide)))).trans l0) rfl))
  rw [if_neg h6]
  refine stp _ (ifF (e6 6) (decide_eq_false h6)) ?_
  by_cases h3 : 3 < w
  · rw [if_pos h3]
    refine stpB (ifB (e6 3) (decide_eq_true h3) ?_)
    have r12 := fmod_range (r.fdiv 26) 12 (by decide)
    obtain ⟨s', hf⟩ := app_for (o := o) (body := wB) (tg := 6) (f := fun (k : Nat) => sg (r + 7 * (k : Int) * k)) (δ := fun w' s => [some (.sh, .int c), some (.sh, .str LET), some (.sh, .str (LET ++ FIG)), some (.sh, .int w), some (.sh, .int r), some (.sh, .str w'), s, none, none]) (fun _ _ _ => rfl) (fun w' k h1 h2 => w_body o _ _ _ _ _ r w' k h1 h2) (List.range ((r.fdiv 26).fmod 12).toNat) [lt r] none (fun k hk => by have := List.mem_range.mp hk; omega) (by simp; omega)
    have e5 : idxD (.str LET) (.int (r.fmod 26)) = .ok (false, .str [lt r]) := idx_lt r
    refine stp [some (.sh, .int c), some (.sh, .str LET), some (.sh, .str (LET ++ FIG)), some (.sh, .int w), some (.sh, .int r), some (.sh, .str [lt r]), none, none, none] (set_of ((idx_ev (ev_var rfl) ((op2_ev (ev_var rfl) ev_cst).trans (o_mod _ 26 (by decide)))).trans e5) rfl) (stp _ (for_of rfl (rng1_ev (n := ((r.fdiv 26).fmod 12).toNat) ((op2_ev ((op2_ev (ev_var rfl) ev_cst).trans (o_fdiv _ 26 (by decide))) ev_cst).trans ((o_mod _ 12 (by decide)).trans (by rw [Int.toNat_of_nonneg r12.1]))) (by omega)) hf) (stpR rfl))
  rw [if_neg h3]
  refine stp _ (ifF (e6 3) (decide_eq_false h3)) ?_
  have r5 := fmod_range r 5 (by decide)
  have r2 := fmod_range r 2 (by decide)
  have hsz : szV r ≤ 61 := by unfold szV; split <;> omega
  obtain ⟨s', hf⟩ := app_for (o := o) (body := nB) (tg := 6) (f := fun (k : Nat) => fgv (r.fdiv 7 + 3 * (k : Int) * k)) (δ := fun w' s => [some (.sh, .int c), some (.sh, .str LET), some (.sh, .str (LET ++ FIG)), some (.sh, .int w), some (.sh, .int r), none, s, some (.sh, .int (szV r : Int)), some (.sh, .str w')]) (fun _ _ _ => rfl) (fun w' k h1 h2 => n_body o _ _ _ _ _ r w' k h1 h2) (List.range (szV r)) [] none (fun k hk => by have := List.mem_range.mp hk; omega) (by simp; omega)
  have e7 : evS o (S.ifs (T.op2 .eq (T.op2 .mod (T.op2 .fdiv (T.var 4) (T.cst (D.int 5))) (T.cst (D.int 6))) (T.cst (D.int 0))) (SL.cons (S.set 7 (T.op2 .add (T.cst (D.int 60)) (T.op2 .mod (T.var 4) (T.cst (D.int 2))))) SL.nil) SL.nil) [some (.sh, .int c), some (.sh, .str LET), some (.sh, .str (LET ++ FIG)), some (.sh, .int w), some (.sh, .int r), none, none, some (.sh, .int (1 + r.fmod 5)), none] = .nx [some (.sh, .int c), some (.sh, .str LET), some (.sh, .str (LET ++ FIG)), some (.sh, .int w), some (.sh, .int r), none, none, some (.sh, .int (szV r : Int)), none] := by
    rw [ifS ((op2_ev ((op2_ev ((op2_ev (ev_var rfl) ev_cst).trans (o_fdiv _ 5 (by decide))) ev_cst).trans (o_mod _ 6 (by decide))) ev_cst).trans (o_eqI _ _)) ((op2_ev ev_cst ((op2_ev (ev_var rfl) ev_cst).trans (o_mod _ 2 (by decide)))).trans (o_add _ _)) rfl]
    unfold szV
    by_cases h : (r.fdiv 5).fmod 6 = 0
    · rw [if_pos h, if_pos (decide_eq_true h), Int.toNat_of_nonneg (by omega)]; rfl
    · rw [if_neg h, if_neg (by simp [h]), Int.toNat_of_nonneg (by omega)]
  exact stp _ (set_of ((op2_ev ev_cst ((op2_ev (ev_var rfl) ev_cst).trans (o_mod _ 5 (by decide)))).trans (o_add _ _)) rfl) (stp _ e7 (stp _ (set_of ev_cst rfl) (stp _ (for_of rfl (rng1_ev (ev_var rfl) (by omega)) hf) (stpR rfl))))
theorem getD_mem {α : Type} {l : List α} {n : Nat} {d : α} (h : n < l.length) : l.getD n d ∈ l := by
  rw [List.getD_eq_getElem?_getD, List.getElem?_eq_getElem h]
  exact List.getElem_mem h
theorem S9_good : ∀ p ∈ S9, Good p := by
  intro p hp
  refine .inr (.inr ?_)
  unfold Sgn
  simp only [S9, List.mem_cons, List.not_mem_nil, or_false] at hp
  rcases hp with rfl | rfl | rfl | rfl | rfl | rfl | rfl | rfl | rfl
  iterate 7 exact .inl ⟨_, by decide, rfl⟩
  · exact .inr (.inl rfl)
  · exact .inr (.inr rfl)
theorem fgv_fig (j : Int) : fgv j ∈ FIG := by
  have h : ∀ n < 10, S36.getD (26 + n) 0 ∈ FIG := by decide
  have hr := fmod_range j 10 (by decide)
  have : (26 + j.fmod 10).toNat = 26 + (j.fmod 10).toNat := by omega
  unfold fgv
  rw [this]
  exact h _ (by omega)
theorem S9_len : ∀ p ∈ S9, p.length ≤ 61 := by decide
theorem pc_good (c : Int) : Good (pcV c) ∧ (pcV c).length ≤ 61 := by
  have r9 := fmod_range (c.fdiv 12) 9 (by decide)
  have r12 := fmod_range ((c.fdiv 12).fdiv 26) 12 (by decide)
  have r5 := fmod_range (c.fdiv 12) 5 (by decide)
  have r2 := fmod_range (c.fdiv 12) 2 (by decide)
  have r26 := fmod_range (c.fdiv 12) 26 (by decide)
  have hsz : 1 ≤ szV (c.fdiv 12) ∧ szV (c.fdiv 12) ≤ 61 := by unfold szV; split <;> omega
  unfold pcV
  split
  · have h9 : ((c.fdiv 12).fmod 9).toNat < S9.length := by show _ < 9; omega
    exact ⟨S9_good _ (getD_mem h9), S9_len _ (getD_mem h9)⟩
  · split
    · refine ⟨.inl ⟨_, _, rfl, ?_, fun a ha => ?_, by simp; omega⟩, by simp; omega⟩
      · exact getD_mem (l := L26) (by rw [L26_len]; omega)
      · obtain ⟨k, _, rfl⟩ := List.mem_map.mp ha
        have r36 := fmod_range (c.fdiv 12 + 7 * (k : Int) * k) 36 (by decide)
        exact getD_mem (l := S36) (by rw [S36_len]; omega)
    · refine ⟨.inr (.inl ⟨fun z => ?_, fun a ha => ?_⟩), by simp; omega⟩
      · have := congrArg List.length z
        simp at this
        omega
      · obtain ⟨k, _, rfl⟩ := List.mem_map.mp ha
        exact fgv_fig _
noncomputable def aliV (c : Int) : Nat := ALI.getD (c.fmod 26).toNat 0
theorem ali_mem (c : Int) : aliV c ∈ ALI := by
  have := fmod_range c 26 (by decide)
  exact getD_mem (by show _ < 26; omega)
theorem ALI_get (j : Int) (h : 0 ≤ j ∧ j < 26) : (ALI.map fun a => D.str [a])[j.toNat]? = some (.str [ALI.getD j.toNat 0]) := by
  have : j.toNat < ALI.length := by show j.toNat < 26; omega
  rw [List.getElem?_map, List.getD_eq_getElem?_getD, List.getElem?_eq_getElem this]
  rfl
theorem alien_run (o : Orc) (c : Int) : runFn o f9 [.int c] = .ok (false, .str [aliV c]) := by
  have r := fmod_range c 26 (by decide)
  have l0 : idxD (.lst (ALI.map fun a => D.str [a])) (.int (c.fmod 26)) = .ok (false, .str [aliV c]) := idx_lst r.1 (ALI_get _ r)
  refine runFn_at rfl rfl (stp [some (.sh, .int c), some (.ow, .lst ((ALI.take 20).map fun a => D.str [a]))] (set_of (lst_csts ((ALI.take 20).map fun a => D.str [a]) (by decide)) rfl) (stp [some (.sh, .int c), some (.ow, .lst (ALI.map fun a => D.str [a]))] (set_of ((op2_ev (ev_own rfl) (lst_csts ((ALI.drop 20).map fun a => D.str [a]) (by decide))).trans (cat_lst (by decide))) rfl) (stpR (retR ((idx_ev (ev_own rfl) ((op2_ev (ev_var rfl) ev_cst).trans (o_mod _ 26 (by decide)))).trans l0) rfl))))
theorem inLG (x : List Nat) : o2 .in (.str x) (.tup [.str [60], .str [62]]) = .ok (false, .bl (decide (x = [60]) || decide (x = [62]))) := by
  have : isIn (.str x) (.tup [.str [60], .str [62]]) = some (decide ([60] = x) || (decide ([62] = x) || false)) := rfl
  simp only [o2, this, Option.map_some, R.of, Bool.or_false]
  rw [show decide ([60] = x) = decide (x = [60]) from decide_eq_decide.mpr ⟨Eq.symm, Eq.symm⟩, show decide ([62] = x) = decide (x = [62]) from decide_eq_decide.mpr ⟨Eq.symm, Eq.symm⟩]
theorem parted_run (o : Orc) (l : List Nat) (c : Nat) (r : List Nat) : runFn o f6 [.str l, .str (c :: r)] = .ok (false, .bl (partedH l c)) := by
  refine runFn_at rfl rfl (stp _ (set_of ev_cst rfl) (stp _ (set_of ev_cst rfl) ?_))
  have e0 : ev o [some (.sh, .str l), some (.sh, .str (c :: r)), some (.sh, .str LET), some (.sh, .str FIG)] true (T.op2 .eq (T.var 0) (T.cst (D.str []))) = .ok (false, .bl (decide (l = []))) := (op2_ev (ev_var rfl) ev_cst).trans (o_eqS _ _)
  have ic : ev o [some (.sh, .str l), some (.sh, .str (c :: r)), some (.sh, .str LET), some (.sh, .str FIG)] true (T.idx (T.var 1) (T.cst (D.int 0))) = .ok (false, .str [c]) := (idx_ev (ev_var rfl) ev_cst).trans (ix (k := 0) rfl)
  have ip : ∀ (k : Nat) (sg : List Nat), [some (Own.sh, D.str l), some (.sh, .str (c :: r)), some (.sh, .str LET), some (.sh, .str FIG)][k]? = some (some (.sh, .str sg)) → ∀ lk, ev o [some (.sh, .str l), some (.sh, .str (c :: r)), some (.sh, .str LET), some (.sh, .str FIG)] lk (T.op2 .in (T.idx (T.var 1) (T.cst (D.int 0))) (T.var k)) = .ok (false, .bl (decide (c ∈ sg))) := fun k sg h lk => (op2_ev ic (ev_var h)).trans (o_in c sg)
  cases l with
  | nil => exact stpR (ifT e0 rfl (retR ev_cst rfl))
  | cons a t =>
    refine stp _ (ifF e0 rfl) ?_
    have ia : ev o [some (.sh, .str (a :: t)), some (.sh, .str (c :: r)), some (.sh, .str LET), some (.sh, .str FIG)] true (T.idx (T.var 0) (T.cst (D.int 0))) = .ok (false, .str [a]) := (idx_ev (ev_var rfl) ev_cst).trans (ix (k := 0) rfl)
    have iq : ∀ (k : Nat) (sg : List Nat), [some (Own.sh, D.str (a :: t)), some (.sh, .str (c :: r)), some (.sh, .str LET), some (.sh, .str FIG)][k]? = some (some (.sh, .str sg)) → ev o [some (.sh, .str (a :: t)), some (.sh, .str (c :: r)), some (.sh, .str LET), some (.sh, .str FIG)] true (T.op2 .in (T.idx (T.var 0) (T.cst (D.int 0))) (T.var k)) = .ok (false, .bl (decide (a ∈ sg))) := fun k sg h => (op2_ev ia (ev_var h)).trans (o_in a sg)
    unfold partedH
    by_cases h1 : a ∈ LET
    · simp only [if_pos h1]
      exact stpR (ifT (iq 2 LET rfl) (decide_eq_true h1) (retR (or_ev (ip 2 LET rfl true) (ip 3 FIG rfl true)) rfl))
    simp only [if_neg h1]
    refine stp _ (ifF (iq 2 LET rfl) (decide_eq_false h1)) ?_
    by_cases h2 : a ∈ FIG
    · simp only [if_pos h2]
      exact stpR (ifT (iq 3 FIG rfl) (decide_eq_true h2) (retR (ip 3 FIG rfl false) rfl))
    simp only [if_neg h2]
    exact stp _ (ifF (iq 3 FIG rfl) (decide_eq_false h2)) (stpR (retR ((op2_ev (ev_var rfl) (tup_ev (xs := [.str [60], .str [62]]) (evL_cons rfl ev_cst (evL_cons rfl ev_cst rfl)) rfl)).trans (inLG _)) rfl))
end K9

namespace K9
open Z KG P09
noncomputable def Bl (l : List Nat) : Prop := ∀ a ∈ l, a = 32
theorem bl_take (m : Nat) : Bl (List.take m [32, 32]) := fun a ha => by
  have := List.mem_of_mem_take ha
  simpa using this
theorem bl_app {a b : List Nat} (ha : Bl a) (hb : Bl b) : Bl (a ++ b) := fun x hx => (List.mem_append.mp hx).elim (ha x) (hb x)
noncomputable def gapV (seed : Int) (k : Nat) : List Nat := List.take (mixV (seed + k) 0 3).toNat [32, 32]
noncomputable def gp (seed : Int) (k : Nat) (last p : List Nat) : List Nat := if gapV seed k = [] ∧ partedH last (p.headD 0) = true then [32] else gapV seed k
noncomputable def txtF (seed : Int) : Nat → List Nat → List (List Nat) → List Nat
  | _, _, [] => []
  | k, last, p :: row => gp seed k last p ++ (p ++ txtF seed (k + 1) p row)
theorem gp_bl (seed : Int) (k : Nat) (last p : List Nat) : Bl (gp seed k last p) := by
  unfold gp
  split
  · intro a ha; simpa using ha
  · exact bl_take _
theorem gp_len (seed : Int) (k : Nat) (last p : List Nat) : (gp seed k last p).length ≤ 2 := by
  unfold gp
  split
  · simp
  · simp [gapV]; omega
theorem txt_bl {t : List Nat} {row : List (List Nat)} (h : Txt t row) : ∀ b : List Nat, Bl b → Txt (b ++ t) row
  | [], _ => h
  | c :: b, hb => by
    have hc := hb c List.mem_cons_self
    subst hc
    exact .blank (txt_bl h b fun a ha => hb a (List.mem_cons_of_mem _ ha))
theorem hd_txt (seed : Int) (k : Nat) (last b : List Nat) (hb : Bl b) : ∀ row : List (List Nat), (∀ p ∈ row, Good p ∨ Ali p) → ∀ c r, txtF seed k last row ++ b = c :: r → c = 32 ∨ partedH last c = false
  | [], _, c, r, e => by
    have e : b = c :: r := e
    exact .inl (hb c (by rw [e]; exact List.mem_cons_self))
  | q :: row, hg, c, r, e => by
    obtain ⟨a, q', hq, _⟩ := good_hd (hg q List.mem_cons_self)
    simp only [txtF, List.append_assoc] at e
    cases hgp : gp seed k last q with
    | cons g gs =>
      rw [hgp] at e
      have : g = c := (List.cons.inj e).1
      exact .inl (gp_bl seed k last q c (by rw [hgp, ← this]; exact List.mem_cons_self))
    | nil =>
      rw [hgp, hq] at e
      have : a = c := (List.cons.inj e).1
      subst this
      unfold gp at hgp
      split at hgp
      · cases hgp
      · rename_i hn
        rw [hq] at hn
        refine .inr ?_
        cases hp : partedH last a with
        | false => rfl
        | true => exact absurd ⟨hgp, hp⟩ hn
theorem txt_row (seed : Int) (b : List Nat) (hb : Bl b) : ∀ (row : List (List Nat)) (k : Nat) (last : List Nat), (∀ p ∈ row, Good p ∨ Ali p) → Txt (txtF seed k last row ++ b) row
  | [], k, last, _ => by
    have := txt_bl .nil b hb
    rw [List.append_nil] at this
    exact this
  | p :: row, k, last, hg => by
    have ih := txt_row seed b hb row (k + 1) p fun q hq => hg q (List.mem_cons_of_mem _ hq)
    have hf : Fit p (txtF seed (k + 1) p row ++ b) := hd_txt seed (k + 1) p b hb row fun q hq => hg q (List.mem_cons_of_mem _ hq)
    have := txt_bl (.piece (hg p List.mem_cons_self) hf ih) (gp seed k last p) (gp_bl seed k last p)
    simpa only [txtF, List.append_assoc] using this
theorem txt_len (seed : Int) : ∀ (row : List (List Nat)) (k : Nat) (last : List Nat), (∀ p ∈ row, p.length ≤ 61) → (txtF seed k last row).length ≤ 63 * row.length
  | [], _, _, _ => Nat.le_refl _
  | p :: row, k, last, h => by
    have ih := txt_len seed row (k + 1) p fun q hq => h q (List.mem_cons_of_mem _ hq)
    have h1 := gp_len seed k last p
    have h2 := h p List.mem_cons_self
    simp only [txtF, List.length_append, List.length_cons]
    omega
noncomputable def gB : SL := (SL.cons (S.set 5 (T.slc (T.cst (D.str [32, 32])) (T.cst D.non) (T.call 5 (TL.cons (T.op2 .add (T.var 1) (T.var 4)) (TL.cons (T.cst (D.int 0)) (TL.cons (T.cst (D.int 3)) TL.nil)))))) (SL.cons (S.ifs (T.and (T.op2 .eq (T.var 5) (T.cst (D.str []))) (T.call 6 (TL.cons (T.var 3) (TL.cons (T.idx (T.var 0) (T.var 4)) TL.nil)))) (SL.cons (S.set 5 (T.cst (D.str [32]))) SL.nil) SL.nil) (SL.cons (S.set 2 (T.op2 .add (T.op2 .add (T.var 2) (T.var 5)) (T.idx (T.var 0) (T.var 4)))) (SL.cons (S.set 3 (T.idx (T.var 0) (T.var 4))) SL.nil))))
theorem slc_bl (m : Int) (h : 0 ≤ m) : slcD (.str [32, 32]) none (some m) = some (false, .str (List.take m.toNat [32, 32])) := by
  have := slc_strT [32, 32] m.toNat
  rw [Int.toNat_of_nonneg h] at this
  exact this
section
variable {o : Orc} (hmix : ∀ c : Int, o.fn 5 [.int c, .int 0, .int 3] = .ok (false, .int (mixV c 0 3))) (hpart : ∀ (l : List Nat) (c : Nat) (r : List Nat), o.fn 6 [.str l, .str (c :: r)] = .ok (false, .bl (partedH l c)))
include hmix hpart
theorem g_body (row : List (List Nat)) (seed : Int) (x last p : List Nat) (k : Nat) (g : Option Slot) (hk : row[k]? = some p) (hp : ∃ c r, p = c :: r) (hx : x.length + p.length ≤ 100000) :
    evSs o gB [some (.sh, .lst (row.map .str)), some (.sh, .int seed), some (.sh, .str x), some (.sh, .str last), some (.sh, .int (k : Int)), g] = .nx [some (.sh, .lst (row.map .str)), some (.sh, .int seed), some (.sh, .str (x ++ (gp seed k last p ++ p))), some (.sh, .str p), some (.sh, .int (k : Int)), some (.sh, .str (gp seed k last p))] := by
  obtain ⟨c, r, rfl⟩ := hp
  have hm := (mixV_range (seed + k) 0 3 (by decide)).1
  have hi : idxD (.lst (row.map .str)) (.int (k : Int)) = .ok (false, .str (c :: r)) := idx_lst (Int.natCast_nonneg k) (by rw [Int.toNat_natCast, List.getElem?_map, hk]; rfl)
  have s1 : evS o (S.set 5 (T.slc (T.cst (D.str [32, 32])) (T.cst D.non) (T.call 5 (TL.cons (T.op2 .add (T.var 1) (T.var 4)) (TL.cons (T.cst (D.int 0)) (TL.cons (T.cst (D.int 3)) TL.nil)))))) [some (.sh, .lst (row.map .str)), some (.sh, .int seed), some (.sh, .str x), some (.sh, .str last), some (.sh, .int (k : Int)), g] = .nx [some (.sh, .lst (row.map .str)), some (.sh, .int seed), some (.sh, .str x), some (.sh, .str last), some (.sh, .int (k : Int)), some (.sh, .str (gapV seed k))] :=
    set_of (slc_ev ev_cst ev_cst (call_ev (evL_cons rfl ((op2_ev (ev_var rfl) (ev_var rfl)).trans (o_add _ _)) (evL_cons rfl ev_cst (evL_cons rfl ev_cst rfl))) (hmix _)) rfl rfl (slc_bl _ hm)) rfl
  have it : ∀ (x l : List Nat) (g : Option Slot) (lk : Bool), ev o [some (.sh, .lst (row.map .str)), some (.sh, .int seed), some (.sh, .str x), some (.sh, .str l), some (.sh, .int (k : Int)), g] lk (T.idx (T.var 0) (T.var 4)) = .ok (false, .str (c :: r)) := fun x l g lk => (idx_ev (ev_var rfl) (ev_var rfl)).trans hi
  have ea : ev o [some (.sh, .lst (row.map .str)), some (.sh, .int seed), some (.sh, .str x), some (.sh, .str last), some (.sh, .int (k : Int)), some (.sh, .str (gapV seed k))] true (T.and (T.op2 .eq (T.var 5) (T.cst (D.str []))) (T.call 6 (TL.cons (T.var 3) (TL.cons (T.idx (T.var 0) (T.var 4)) TL.nil)))) = .ok (false, .bl (decide (gapV seed k = [] ∧ partedH last c = true))) := by
    have e1 : ev o [some (.sh, .lst (row.map .str)), some (.sh, .int seed), some (.sh, .str x), some (.sh, .str last), some (.sh, .int (k : Int)), some (.sh, .str (gapV seed k))] true (T.op2 .eq (T.var 5) (T.cst (D.str []))) = .ok (false, .bl (decide (gapV seed k = []))) := (op2_ev (ev_var rfl) ev_cst).trans (o_eqS _ _)
    by_cases h : gapV seed k = []
    · rw [decide_eq_true h] at e1
      rw [and_tt e1 (call_ev (evL_cons rfl (ev_var rfl) (evL_cons rfl (it _ _ _ _) rfl)) (hpart last c r))]
      congr 3
      cases partedH last c <;> simp [h]
    · rw [decide_eq_false h] at e1
      rw [and_f e1]
      congr 3
      simp [h]
  have s2 : evS o (S.ifs (T.and (T.op2 .eq (T.var 5) (T.cst (D.str []))) (T.call 6 (TL.cons (T.var 3) (TL.cons (T.idx (T.var 0) (T.var 4)) TL.nil)))) (SL.cons (S.set 5 (T.cst (D.str [32]))) SL.nil) SL.nil) [some (.sh, .lst (row.map .str)), some (.sh, .int seed), some (.sh, .str x), some (.sh, .str last), some (.sh, .int (k : Int)), some (.sh, .str (gapV seed k))] = .nx [some (.sh, .lst (row.map .str)), some (.sh, .int seed), some (.sh, .str x), some (.sh, .str last), some (.sh, .int (k : Int)), some (.sh, .str (gp seed k last (c :: r)))] := by
    rw [ifS ea ev_cst rfl, show gp seed k last (c :: r) = if gapV seed k = [] ∧ partedH last c = true then [32] else gapV seed k from rfl]
    by_cases h : gapV seed k = [] ∧ partedH last c = true
    · rw [if_pos (decide_eq_true h), if_pos h]; rfl
    · rw [if_neg (by simpa using h), if_neg h]
  have hg := gp_len seed k last (c :: r)
  generalize gp seed k last (c :: r) = G at *
  rw [gB, evSs_nx s1, evSs_nx s2, evSs_nx (set_of ((op2_ev ((op2_ev (ev_var rfl) (ev_var rfl)).trans (cat_big (by omega))) (it _ _ _ _)).trans (cat_big (by rw [List.length_append]; omega))) rfl)]
  show evSs o _ [some (.sh, .lst (row.map .str)), some (.sh, .int seed), some (.sh, .str (x ++ G ++ (c :: r))), some (.sh, .str last), some (.sh, .int (k : Int)), some (.sh, .str G)] = _
  rw [evSs_nx (set_of (it _ _ _ _) rfl), List.append_assoc]
  rfl
theorem g_for (row : List (List Nat)) (seed : Int) : ∀ (todo don : List (List Nat)) (x last : List Nat) (s g : Option Slot), row = don ++ todo → (∀ p ∈ todo, (∃ c r, p = c :: r) ∧ p.length ≤ 61) → x.length + 63 * todo.length ≤ 50000 →
    ∃ l' s' g', forGo (evSs o gB) [4] false ((List.range' don.length todo.length).map fun (k : Nat) => D.int (k : Int)) [some (.sh, .lst (row.map .str)), some (.sh, .int seed), some (.sh, .str x), some (.sh, .str last), s, g] = .nx [some (.sh, .lst (row.map .str)), some (.sh, .int seed), some (.sh, .str (x ++ txtF seed don.length last todo)), l', s', g']
  | [], don, x, last, s, g, _, _, _ => ⟨_, _, _, by simp only [List.length_nil, List.range'_zero, List.map_nil, forGo, txtF, List.append_nil]; rfl⟩
  | p :: todo, don, x, last, s, g, hr, hp, hx => by
    obtain ⟨h1, h2⟩ := hp p List.mem_cons_self
    simp only [List.length_cons] at hx
    have hb := g_body hmix hpart row seed x last p don.length g (by rw [hr]; simp) h1 (by omega)
    have hgl := gp_len seed don.length last p
    obtain ⟨l', s', g', ih⟩ := g_for row seed todo (don ++ [p]) (x ++ (gp seed don.length last p ++ p)) p (some (.sh, .int (don.length : Int))) (some (.sh, .str (gp seed don.length last p))) (by rw [hr]; simp) (fun q hq => hp q (List.mem_cons_of_mem _ hq)) (by simp; omega)
    refine ⟨l', s', g', ?_⟩
    have hs : setSlots [some (.sh, .lst (row.map .str)), some (.sh, .int seed), some (.sh, .str x), some (.sh, .str last), s, g] [4] [.int (don.length : Int)] = some [some (.sh, .lst (row.map .str)), some (.sh, .int seed), some (.sh, .str x), some (.sh, .str last), some (.sh, .int (don.length : Int)), g] := rfl
    simp only [List.length_cons, List.range'_succ, List.map_cons, forGo, takes, Bool.false_eq_true, if_false, List.length_nil, hs, hb]
    rw [show don.length + 1 = (don ++ [p]).length by simp, ih]
    simp [txtF]
noncomputable def textV (seed : Int) (row : List (List Nat)) : List Nat := List.take (seed.fmod 3).toNat [32, 32] ++ txtF seed 0 [] row ++ List.take ((seed.fdiv 3).fmod 3).toNat [32, 32]
theorem text_run (row : List (List Nat)) (seed : Int) (hp : ∀ p ∈ row, (∃ c r, p = c :: r) ∧ p.length ≤ 61) (hl : row.length ≤ 100) : runFn o f7 [.lst (row.map .str), .int seed] = .ok (false, .str (textV seed row)) := by
  have r1 := (fmod_range seed 3 (by decide)).1
  have r2 := (fmod_range (seed.fdiv 3) 3 (by decide)).1
  have ht : (List.take (seed.fmod 3).toNat [32, 32]).length ≤ 2 := by simp; omega
  have ht2 : (List.take ((seed.fdiv 3).fmod 3).toNat [32, 32]).length ≤ 2 := by simp; omega
  have htl := txt_len seed row 0 [] fun p h => (hp p h).2
  obtain ⟨l', s', g', hf⟩ := g_for hmix hpart row seed row [] (List.take (seed.fmod 3).toNat [32, 32]) [] none none rfl hp (by omega)
  have hlen : b1D .len (.lst (row.map .str)) = .ok (false, .int (row.length : Int)) := by simp [b1D]
  have hI : evI o [some (.sh, .lst (row.map .str)), some (.sh, .int seed), some (.sh, .str (List.take (seed.fmod 3).toNat [32, 32])), some (.sh, .str []), none, none] false (TI.rng1 (T.b1 .len (T.var 0))) = .ok ((List.range' 0 row.length).map fun (k : Nat) => D.int (k : Int)) := by
    rw [← List.range_eq_range']
    exact rng1_ev ((b1_ev (ev_var rfl)).trans hlen) (by omega)
  have hcat := cat_big (a := List.take (seed.fmod 3).toNat [32, 32] ++ txtF seed 0 [] row) (b := List.take ((seed.fdiv 3).fmod 3).toNat [32, 32]) (by simp only [List.length_append]; omega)
  refine runFn_at rfl rfl (stp [some (.sh, .lst (row.map .str)), some (.sh, .int seed), some (.sh, .str (List.take (seed.fmod 3).toNat [32, 32])), none, none, none] (set_of (slc_ev ev_cst ev_cst ((op2_ev (ev_var rfl) ev_cst).trans (o_mod _ 3 (by decide))) rfl rfl (slc_bl _ r1)) rfl) (stp [some (.sh, .lst (row.map .str)), some (.sh, .int seed), some (.sh, .str (List.take (seed.fmod 3).toNat [32, 32])), some (.sh, .str []), none, none] (set_of ev_cst rfl) (stp _ (for_of rfl hI hf) ?_)))
  exact stpR (retR ((op2_ev (ev_var rfl) (slc_ev ev_cst ev_cst ((op2_ev ((op2_ev (ev_var rfl) ev_cst).trans (o_fdiv _ 3 (by decide))) ev_cst).trans (o_mod _ 3 (by decide))) rfl rfl (slc_bl _ r2))).trans hcat) rfl)
end
theorem textV_txt (seed : Int) (row : List (List Nat)) (pad : List Nat) (hb : Bl pad) (hg : ∀ p ∈ row, Good p ∨ Ali p) : Txt (textV seed row ++ pad) row := by
  unfold textV
  rw [List.append_assoc, List.append_assoc]
  exact txt_bl (txt_row seed _ (bl_app (bl_take _) hb) row 0 [] hg) _ (bl_take _)
theorem textV_len (seed : Int) (row : List (List Nat)) (h : ∀ p ∈ row, p.length ≤ 61) : (textV seed row).length ≤ 63 * row.length + 4 := by
  have := txt_len seed row 0 [] h
  unfold textV
  simp only [List.length_append, List.length_take, List.length_cons, List.length_nil]
  omega
noncomputable def rw1 (cells : List Int) (a : Int) : List (List Nat) := if a.fmod 4 = 1 then List.replicate (14 + (a.fdiv 4).fmod 5).toNat [40] ++ cells.map pcV else cells.map pcV
noncomputable def plV (cells : List Int) (a b : Int) : Nat := ((b.fdiv 3).fmod ((rw1 cells a).length + 1)).toNat
noncomputable def rowV (cells : List Int) (a b : Int) : List (List Nat) := if b.fmod 3 = 1 then (rw1 cells a).take (plV cells a b) ++ [aliV (b.fdiv 101)] :: (rw1 cells a).drop (plV cells a b) else rw1 cells a
theorem rw1_len (cells : List Int) (a : Int) : (rw1 cells a).length ≤ cells.length + 18 := by
  have := fmod_range (a.fdiv 4) 5 (by decide)
  unfold rw1
  split <;> simp <;> omega
theorem rw1_good (cells : List Int) (a : Int) : ∀ p ∈ rw1 cells a, Good p ∧ p.length ≤ 61 := by
  have h1 : ∀ p ∈ cells.map pcV, Good p ∧ p.length ≤ 61 := fun p hp => by
    obtain ⟨c, _, rfl⟩ := List.mem_map.mp hp
    exact pc_good c
  intro p hp
  unfold rw1 at hp
  split at hp
  · rcases List.mem_append.mp hp with hp | hp
    · have := (List.mem_replicate.mp hp).2
      subst this
      exact ⟨S9_good _ (by decide), by decide⟩
    · exact h1 p hp
  · exact h1 p hp
section
variable {o : Orc} (hpc : ∀ c : Int, o.fn 8 [.int c] = .ok (false, .str (pcV c))) (hal : ∀ c : Int, o.fn 9 [.int c] = .ok (false, .str [aliV c]))
include hpc hal
theorem row_run (cells : List Int) (a b : Int) (hc : cells.length ≤ 63) : runFn o f11 [.lst (cells.map .int), .int a, .int b] = .ok (true, .lst ((rowV cells a b).map .str)) := by
  have r5 := fmod_range (a.fdiv 4) 5 (by decide)
  have hl1 := rw1_len cells a
  have c0 : ev o [some (.sh, .lst (cells.map .int)), some (.sh, .int a), some (.sh, .int b), none, none] false (T.comp [] 1 false (TI.val (T.var 0)) (T.cst (D.bl true)) (T.call 8 (TL.cons (T.var 0) TL.nil))) = .ok (true, .lst (cells.map fun c => .str (pcV c))) := by
    refine ev_comp o _ _ _ [] [] (cells.map .int) _ 1 false _ _ (by rw [evI, ev_var rfl]; rfl) rfl rfl (by simp; omega) (comp_ofN (fun d _ => ev_cst) fun d _ => ⟨false, call_ev (evL_cons rfl (ev_var rfl) rfl) (hpc d)⟩)
  have e1 : evS o (S.ifs (T.op2 .eq (T.op2 .mod (T.var 1) (T.cst (D.int 4))) (T.cst (D.int 1))) (SL.cons (S.set 3 (T.op2 .add (T.comp [] 1 false (TI.rng1 (T.op2 .add (T.cst (D.int 14)) (T.op2 .mod (T.op2 .fdiv (T.var 1) (T.cst (D.int 4))) (T.cst (D.int 5))))) (T.cst (D.bl true)) (T.cst (D.str [40]))) (T.var 3))) SL.nil) SL.nil) [some (.sh, .lst (cells.map .int)), some (.sh, .int a), some (.sh, .int b), some (.ow, .lst (cells.map fun c => .str (pcV c))), none] = .nx [some (.sh, .lst (cells.map .int)), some (.sh, .int a), some (.sh, .int b), some (.ow, .lst ((rw1 cells a).map .str)), none] := by
    have hcomp : ev o [some (.sh, .lst (cells.map .int)), some (.sh, .int a), some (.sh, .int b), some (.ow, .lst (cells.map fun c => .str (pcV c))), none] true (T.comp [] 1 false (TI.rng1 (T.op2 .add (T.cst (D.int 14)) (T.op2 .mod (T.op2 .fdiv (T.var 1) (T.cst (D.int 4))) (T.cst (D.int 5))))) (T.cst (D.bl true)) (T.cst (D.str [40]))) = .ok (true, .lst ((List.range (14 + (a.fdiv 4).fmod 5).toNat).map fun _ => .str [40])) :=
      ev_comp o _ _ _ [] [] _ _ 1 false _ _ (rng1_ev (n := (14 + (a.fdiv 4).fmod 5).toNat) ((op2_ev ev_cst ((op2_ev ((op2_ev (ev_var rfl) ev_cst).trans (o_fdiv _ 4 (by decide))) ev_cst).trans (o_mod _ 5 (by decide)))).trans ((o_add _ _).trans (by rw [Int.toNat_of_nonneg (by omega)]))) (by omega)) rfl rfl (by simp; omega) (comp_ofN (fun d _ => ev_cst) fun d _ => ⟨false, ev_cst⟩)
    have hadd : o2 .add (.lst ((List.range (14 + (a.fdiv 4).fmod 5).toNat).map fun _ => D.str [40])) (.lst (cells.map fun c => .str (pcV c))) = .ok (true, .lst (((List.range (14 + (a.fdiv 4).fmod 5).toNat).map fun _ => D.str [40]) ++ cells.map fun c => .str (pcV c))) := cat_lst (by simp; omega)
    rw [ifS ((op2_ev ((op2_ev (ev_var rfl) ev_cst).trans (o_mod _ 4 (by decide))) ev_cst).trans (o_eqI _ _)) ((op2_ev hcomp (ev_own rfl)).trans hadd) rfl]
    unfold rw1
    by_cases h : a.fmod 4 = 1
    · rw [if_pos (decide_eq_true h), if_pos h]
      simp [List.map_const']
    · rw [if_neg (by simp [h]), if_neg h]
      simp [Function.comp_def]
  refine runFn_at rfl rfl (stp _ (set_of c0 rfl) (stp _ e1 ?_))
  have et : ∀ L : Option Slot, ev o [some (.sh, .lst (cells.map .int)), some (.sh, .int a), some (.sh, .int b), L, none] true (T.op2 .eq (T.op2 .mod (T.var 2) (T.cst (D.int 3))) (T.cst (D.int 1))) = .ok (false, .bl (decide (b.fmod 3 = 1))) := fun L => (op2_ev ((op2_ev (ev_var rfl) ev_cst).trans (o_mod _ 3 (by decide))) ev_cst).trans (o_eqI _ _)
  unfold rowV
  by_cases h : b.fmod 3 = 1
  · rw [if_pos h]
    have hne : ((rw1 cells a).length : Int) + 1 ≠ 0 := by omega
    have hrg := fmod_range (b.fdiv 3) ((rw1 cells a).length + 1) (by omega)
    have hpl : ((plV cells a b : Nat) : Int) = (b.fdiv 3).fmod ((rw1 cells a).length + 1) := Int.toNat_of_nonneg hrg.1
    have hle : plV cells a b ≤ (rw1 cells a).length := by omega
    have l1 : slcD (.lst ((rw1 cells a).map .str)) none (some ((plV cells a b : Nat) : Int)) = some (true, .lst (((rw1 cells a).take (plV cells a b)).map .str)) := by
      simp only [slcD, lowOf, highOf, clip_nat, cut, List.drop_zero, List.length_map, Nat.min_eq_left hle, List.map_take]
    have l2 : slcD (.lst ((rw1 cells a).map .str)) (some ((plV cells a b : Nat) : Int)) none = some (true, .lst (((rw1 cells a).drop (plV cells a b)).map .str)) := by
      simp only [slcD, lowOf, highOf, clip_nat, cut, List.length_map, Nat.min_eq_left hle]
      rw [List.take_of_length_le (by simp), List.map_drop]
    have s4 : evS o (S.set 4 (T.op2 .mod (T.op2 .fdiv (T.var 2) (T.cst (D.int 3))) (T.op2 .add (T.b1 .len (T.var 3)) (T.cst (D.int 1))))) [some (.sh, .lst (cells.map .int)), some (.sh, .int a), some (.sh, .int b), some (.ow, .lst ((rw1 cells a).map .str)), none] = .nx [some (.sh, .lst (cells.map .int)), some (.sh, .int a), some (.sh, .int b), some (.ow, .lst ((rw1 cells a).map .str)), some (.sh, .int ((plV cells a b : Nat) : Int))] := by
      have hlen : b1D .len (.lst ((rw1 cells a).map .str)) = .ok (false, .int ((rw1 cells a).length : Int)) := by simp [b1D]
      refine set_of ((op2_ev ((op2_ev (ev_var rfl) ev_cst).trans (o_fdiv _ 3 (by decide))) ((op2_ev ((b1_ev (ev_own rfl)).trans hlen) ev_cst).trans (o_add _ _))).trans ((o_mod _ _ hne).trans (by rw [← hpl]))) rfl
    have s5 : evS o (S.set 3 (T.op2 .add (T.op2 .add (T.slc (T.var 3) (T.cst D.non) (T.var 4)) (T.lst (TL.cons (T.call 9 (TL.cons (T.op2 .fdiv (T.var 2) (T.cst (D.int 101))) TL.nil)) TL.nil))) (T.slc (T.var 3) (T.var 4) (T.cst D.non)))) [some (.sh, .lst (cells.map .int)), some (.sh, .int a), some (.sh, .int b), some (.ow, .lst ((rw1 cells a).map .str)), some (.sh, .int ((plV cells a b : Nat) : Int))] = .nx [some (.sh, .lst (cells.map .int)), some (.sh, .int a), some (.sh, .int b), some (.ow, .lst (((rw1 cells a).take (plV cells a b) ++ [aliV (b.fdiv 101)] :: (rw1 cells a).drop (plV cells a b)).map .str)), some (.sh, .int ((plV cells a b : Nat) : Int))] := by
      have k1 := cat_lst (a := ((rw1 cells a).take (plV cells a b)).map D.str) (b := [.str [aliV (b.fdiv 101)]]) (by simp; omega)
      have k2 := cat_lst (a := ((rw1 cells a).take (plV cells a b)).map D.str ++ [.str [aliV (b.fdiv 101)]]) (b := ((rw1 cells a).drop (plV cells a b)).map D.str) (by simp; omega)
      refine set_of (w := true) (d := .lst (((rw1 cells a).take (plV cells a b) ++ [aliV (b.fdiv 101)] :: (rw1 cells a).drop (plV cells a b)).map .str)) ((op2_ev ((op2_ev (slc_ev (ev_own rfl) ev_cst (ev_var rfl) rfl rfl l1) (lst_ev (xs := [.str [aliV (b.fdiv 101)]]) (evL_cons rfl (call_ev (evL_cons rfl ((op2_ev (ev_var rfl) ev_cst).trans (o_fdiv _ 101 (by decide))) rfl) (hal _)) rfl) rfl)).trans k1) (slc_ev (ev_own rfl) (ev_var rfl) ev_cst rfl rfl l2)).trans (k2.trans ?_)) rfl
      simp
    refine stp [some (.sh, .lst (cells.map .int)), some (.sh, .int a), some (.sh, .int b), some (.ow, .lst (((rw1 cells a).take (plV cells a b) ++ [aliV (b.fdiv 101)] :: (rw1 cells a).drop (plV cells a b)).map .str)), some (.sh, .int ((plV cells a b : Nat) : Int))] ((ifs_of (et _)).trans ?_) (stpR rfl)
    rw [if_pos (decide_eq_true h), evSs_nx s4, evSs_nx s5]
    rfl
  · rw [if_neg h]
    exact stp _ (ifF (et _) (decide_eq_false h)) (stpR rfl)
end
theorem way_long (o : Orc) (hs : o.sub = sub) (x : List Nat) (h : o.fn 3 [.str x] = .exc 2) : runFn o f12 [.str x] = .ok (false, .str [108, 111, 110, 103]) := by
  simp [runFn, f12, evSs, evS, evF, ev, evL, lkOwn, isOwn, R.bind, R.of, truth, SO.of, SO.ofX, h, hs, sub, lent, setSlot, orStuck, o2, isD, b1D, idxD, place, R.chk, size]
theorem way_text (o : Orc) (hs : o.sub = sub) (x : List Nat) (h : o.fn 3 [.str x] = .exc 1) : runFn o f12 [.str x] = .ok (false, .str [116, 101, 120, 116]) := by
  simp [runFn, f12, evSs, evS, evF, ev, evL, lkOwn, isOwn, R.bind, R.of, truth, SO.of, SO.ofX, h, hs, sub, lent, setSlot, orStuck, o2, isD, b1D, idxD, place, R.chk, size]
end K9

namespace K9
open Z KG P09
section
variable {o : Orc} {δ : Dst} {lk : Bool}
theorem evL_own {t : T} {l : TL} {x : D} {xs : List D} {w b : Bool} (hk : lkOwn δ t = true) (h : ev o δ true t = .ok (w, x)) (hl : evL o δ l = .ok (b, xs)) : evL o δ (.cons t l) = .ok (true, x :: xs) := by
  simp only [evL, hk, h, hl, R.bind, Bool.true_or]
theorem evL_any {t : T} {l : TL} {x : D} {xs : List D} {w b : Bool} (hk : lkOwn δ t = false) (h : ev o δ false t = .ok (w, x)) (hl : evL o δ l = .ok (b, xs)) : evL o δ (.cons t l) = .ok (b, x :: xs) := by
  simp only [evL, hk, h, hl, R.bind, Bool.false_or]
theorem call_len {f : Nat} {l : TL} {xs : List D} {w : Bool} {x : D} (hl : evL o δ l = .ok (true, xs)) (h : o.fn f xs = .ok (w, x)) (hi : x.imm = true) : ev o δ lk (T.call f l) = .ok (w, x) := by
  simp only [ev, hl, R.bind, h, lent, if_true, hi]
theorem not_ev {a : T} {w b : Bool} (h : ev o δ true a = .ok (w, .bl b)) : ev o δ lk (T.not a) = .ok (false, .bl !b) := by simp only [ev, h, R.bind, truth, R.of]
theorem m1_ev {m : M1} {a b : T} {w w' : Bool} {x y : D} (ha : ev o δ true a = .ok (w, x)) (hb : ev o δ true b = .ok (w', y)) : ev o δ lk (T.m1 m a b) = m1D m x y := by simp only [ev, ha, hb, R.bind]
theorem isin_lst {a : T} {w : Bool} {l : List D} (h : ev o δ true a = .ok (w, .lst l)) : ev o δ lk (T.isin a .lst) = .ok (false, .bl true) := by simp only [ev, h, R.bind, isD, Option.map_some, R.of]
theorem isin_str {a : T} {w : Bool} {x : List Nat} (h : ev o δ true a = .ok (w, .str x)) : ev o δ lk (T.isin a .str) = .ok (false, .bl true) := by simp only [ev, h, R.bind, isD, Option.map_some, R.of]
theorem ev_compB (it : TI) (l r : List D) (c e : T) (hI : evI o δ true it = .ok l) (hr : r.length ≤ 100000)
    (hc : compGo (fun x => ev o ((x ++ []).map fun d => some (Own.sh, d)) false e) (fun x => ev o ((x ++ []).map fun d => some (Own.sh, d)) true c) 1 false l = .ok r) : ev o δ lk (T.comp [] 1 false it c e) = .ok (true, .lst r) := by
  have h2 : slotsD δ [] = some [] := rfl
  rw [ev, hI, h2]
  simp only [R.bind, R.of]
  rw [hc]
  have hz : size r.length = true := by simp [size]; omega
  simp only [hz, R.chk]
  simp
theorem rng1_int {t : T} {w : Bool} {n : Int} (h : ev o δ true t = .ok (w, .int n)) (h1 : -100000 ≤ n) (h2 : n ≤ 100000) : evI o δ lk (TI.rng1 t) = .ok ((List.range n.toNat).map fun (k : Nat) => D.int (k : Int)) := by
  have : inR n = true := by simp [inR]; omega
  rw [evI, h]
  simp only [R.bind, this, R.chk, if_true]
  simp [rngD]
end
theorem pcs_pe (m : Nat) (x : List Nat) (hx : x.length < 10000) : ∀ (pre rest : List Nat) (c : Nat) (r : List Nat), x = pre ++ rest → rest = c :: r → (orc prg 10000 (m + 2)).fn 2 [.str x, .int (pre.length : Int)] = peR pre.length (peV rest) := by
  intro pre rest c r h1 h2
  rw [orc_fn (d := f2) rfl]
  refine piece_end _ x pre rest c r h1 h2 (by rw [h1] at hx; simp at hx; omega) fun sg => ?_
  rw [orc_fn (d := f1) rfl]
  refine run_end _ x sg pre rest h1 ?_
  cases m <;> exact hx
theorem pcs_chk (m : Nat) (x : List Nat) : (orc prg 10000 (m + 2)).fn 0 [.str x] = if tooL x then .exc 2 else .ok (false, .non) := by
  rw [orc_fn (d := f0) rfl]; exact check_run _ x
theorem pcs_long (m : Nat) (x : List Nat) (h : tooL x = true) : (orc prg 10000 (m + 3)).fn 3 [.str x] = .exc 2 := by
  rw [orc_fn (d := f3) rfl]
  exact pieces_long (by rw [pcs_chk, h]; rfl)
theorem pcs_ok (m : Nat) (x : List Nat) (row : List (List Nat)) (h : tooL x = false) (hx : x.length < 10000) (ht : Txt x row) (hg : ∀ p ∈ row, Good p) (hr : row.length ≤ 1000) : (orc prg 10000 (m + 3)).fn 3 [.str x] = .ok (true, .lst (row.map .str)) := by
  rw [orc_fn (d := f3) rfl]
  exact pieces_ok (by rw [pcs_chk, h]; rfl) (pcs_pe m x hx) ht hg hx hr
theorem pcs_bad (m : Nat) (x : List Nat) (R1 R2 : List (List Nat)) (a : List Nat) (h : tooL x = false) (hx : x.length < 10000) (ht : Txt x (R1 ++ a :: R2)) (hg : ∀ p ∈ R1, Good p) (ha : Ali a) (hr : (R1 ++ a :: R2).length ≤ 1000) : (orc prg 10000 (m + 3)).fn 3 [.str x] = .exc 1 := by
  rw [orc_fn (d := f3) rfl]
  exact pieces_bad (by rw [pcs_chk, h]; rfl) (pcs_pe m x hx) ht hg ha hx hr
theorem good_small {p : List Nat} (h : Good p) : ∀ a ∈ p, a < 1114112 := by
  have l36 : ∀ a ∈ LET ++ FIG, a < 1114112 := by decide
  have s7 : ∀ a ∈ SNG, a < 1114112 := by decide
  rcases h with ⟨c, r, rfl, hc, hr, _⟩ | ⟨_, ha⟩ | ⟨c, hc, rfl⟩ | rfl | rfl
  · intro a ha
    rcases List.mem_cons.mp ha with rfl | ha
    · exact l36 _ (List.mem_append_left _ hc)
    · exact l36 _ (hr a ha)
  · exact fun a h => l36 _ (List.mem_append_right _ (ha a h))
  · intro a ha
    have : a = c := by simpa using ha
    subst this
    exact s7 _ hc
  · decide
  · decide
theorem eqBs_strs : ∀ row : List (List Nat), eqBs (row.map .str) (row.map .str) = true
  | [] => by simp [eqBs]
  | p :: row => by simp [eqBs, eqB, eqBs_strs row]
theorem row_eq (row : List (List Nat)) (h : ∀ p ∈ row, Good p) : eqA (.lst (row.map .str)) (.lst (row.map .str)) = some true := by
  have hk : okD 60 (.lst (row.map .str)) = true := by
    rw [okD, List.all_eq_true]
    intro d hd
    obtain ⟨p, hp, rfl⟩ := List.mem_map.mp hd
    rw [okD, List.all_eq_true]
    exact fun a ha => decide_eq_true (good_small (h p hp) a ha)
  have e : eqB (.lst (row.map .str)) (.lst (row.map .str)) = true := by rw [eqB]; exact eqBs_strs row
  simp only [eqA, eqS, hk, e, Bool.and_self, if_true]
theorem law_cell (m : Nat) (ns : List Int) (k : Nat) : (orc prg 10000 (m + 1)).fn 4 [.lst (ns.map .int), .int (k : Int)] = .ok (false, .int (ns.getD k 0)) := by
  rw [orc_fn (d := f4) rfl]; exact cell_run _ ns k
noncomputable def cellsV (ns : List Int) : List Int := cut ns (min 3 ns.length) (min 53 ns.length)
theorem cells_len (ns : List Int) (h : ns.length ≤ 63) : (cellsV ns).length ≤ 63 := by
  unfold cellsV cut
  simp
  omega
theorem cells_slc (ns : List Int) : slcD (.lst (ns.map .int)) (some 3) (some 53) = some (true, .lst ((cellsV ns).map .int)) := by
  have h3 : clip ns.length 3 = min 3 ns.length := clip_nat ns.length 3
  have h5 : clip ns.length 53 = min 53 ns.length := clip_nat ns.length 53
  simp only [slcD, lowOf, highOf, List.length_map, h3, h5, cut_map]
  rfl
theorem law_row (m : Nat) (cells : List Int) (a b : Int) (hc : cells.length ≤ 63) : (orc prg 10000 (m + 2)).fn 11 [.lst (cells.map .int), .int a, .int b] = .ok (true, .lst ((rowV cells a b).map .str)) := by
  rw [orc_fn (d := f11) rfl]
  exact row_run (fun c => by rw [orc_fn (d := f8) rfl]; exact piece_run _ c) (fun c => by rw [orc_fn (d := f9) rfl]; exact alien_run _ c) cells a b hc
theorem law_text (m : Nat) (row : List (List Nat)) (seed : Int) (hp : ∀ p ∈ row, (∃ c r, p = c :: r) ∧ p.length ≤ 61) (hl : row.length ≤ 100) : (orc prg 10000 (m + 2)).fn 7 [.lst (row.map .str), .int seed] = .ok (false, .str (textV seed row)) := by
  rw [orc_fn (d := f7) rfl]
  exact text_run (fun c => by rw [orc_fn (d := f5) rfl]; exact mix_run _ c 3 0 (by decide) (by decide)) (fun l c r => by rw [orc_fn (d := f6) rfl]; exact parted_run _ l c r) row seed hp hl
theorem row_kind (cells : List Int) (a b : Int) : ∀ p ∈ rowV cells a b, Good p ∨ Ali p := by
  intro p hp
  unfold rowV at hp
  split at hp
  · rcases List.mem_append.mp hp with hp | hp
    · exact .inl (rw1_good cells a p (List.mem_of_mem_take hp)).1
    · rcases List.mem_cons.mp hp with rfl | hp
      · exact .inr ⟨_, ali_mem _, rfl⟩
      · exact .inl (rw1_good cells a p (List.mem_of_mem_drop hp)).1
  · exact .inl (rw1_good cells a p hp).1
theorem row_len61 (cells : List Int) (a b : Int) : ∀ p ∈ rowV cells a b, p.length ≤ 61 := by
  intro p hp
  unfold rowV at hp
  split at hp
  · rcases List.mem_append.mp hp with hp | hp
    · exact (rw1_good cells a p (List.mem_of_mem_take hp)).2
    · rcases List.mem_cons.mp hp with rfl | hp
      · simp
      · exact (rw1_good cells a p (List.mem_of_mem_drop hp)).2
  · exact (rw1_good cells a p hp).2
theorem rowV_len (cells : List Int) (a b : Int) (hc : cells.length ≤ 63) : (rowV cells a b).length ≤ 100 := by
  have := rw1_len cells a
  unfold rowV
  split
  · simp; omega
  · omega
noncomputable def padN (x : List Nat) (b : Int) : Nat := (1999 + b.fmod 4 - (x.length : Int)).toNat
noncomputable def padV (x : List Nat) (a b : Int) : List Nat := if (a.fdiv 4).fmod 8 = 2 then List.replicate (padN x b) 32 else []
theorem pad_bl (x : List Nat) (a b : Int) : Bl (padV x a b) := by
  unfold padV
  split
  · exact fun c hc => (List.mem_replicate.mp hc).2
  · intro c hc; simp at hc
theorem pad_len (x : List Nat) (a b : Int) : (padV x a b).length ≤ 2002 := by
  have := fmod_range b 4 (by decide)
  unfold padV
  split
  · simp [padN]; omega
  · simp
theorem pad_join (n : Nat) (hn : n ≤ 3000) : m1D .join (.str []) (.lst ((List.range n).map fun _ => D.str [32])) = .ok (false, .str (List.replicate n 32)) := by
  have e : ((List.range n).map fun _ => D.str [32]) = strD (List.replicate n 32) := by simp [strD, List.map_const']
  rw [e]
  have hz : size (((List.replicate n 32).map fun c => [c]).map List.length).sum = true := by
    rw [sum_ones, List.length_replicate]
    exact decide_eq_true (by omega)
  simp only [m1D, strsOf_strD, Option.bind_some, List.length_nil, Nat.mul_zero, Nat.add_zero, hz, if_true, R.of, joinS_ones]
end K9
namespace P09
open Z KG K9
theorem pure (ns : List Int) (h : ns.length ≤ 63) : ∃ w0, (orc prg w0 5).fn 13 [.lst (ns.map .int)] = .ok (false, .bl true) := by
  refine ⟨10000, ?_⟩
  rw [orc_fn (d := f13) rfl]
  have hc0 := law_cell 3 ns 0
  have hc1 := law_cell 3 ns 1
  have hc2 := law_cell 3 ns 2
  generalize ns.getD 0 0 = a at hc0
  generalize ns.getD 1 0 = b at hc1
  generalize ns.getD 2 0 = seed at hc2
  have hcl := cells_len ns h
  have hsl := cells_slc ns
  generalize cellsV ns = cells at hcl hsl
  have hrow := law_row 2 cells a b hcl
  have hkind := row_kind cells a b
  have h61 := row_len61 cells a b
  have hrl := rowV_len cells a b hcl
  have htext := law_text 2 (rowV cells a b) seed (fun p hp => ⟨let ⟨c, r, e, _⟩ := good_hd (hkind p hp); ⟨c, r, e⟩, h61 p hp⟩) hrl
  have htl := textV_len seed (rowV cells a b) h61
  have hT := textV_txt seed (rowV cells a b) _ (pad_bl (textV seed (rowV cells a b)) a b) hkind
  have hpl := pad_len (textV seed (rowV cells a b)) a b
  have rb4 := fmod_range b 4 (by decide)
  have hpad : ∀ (A B G : Option Slot) (X : List Nat), X.length ≤ 10000 → evS (orc prg 10000 4) (S.ifs (T.op2 .eq (T.op2 .mod (T.op2 .fdiv (T.var 1) (T.cst (D.int 4))) (T.cst (D.int 8))) (T.cst (D.int 2))) (SL.cons (S.set 4 (T.op2 .add (T.var 4) (T.m1 .join (T.cst (D.str [])) (T.comp [] 1 false (TI.rng1 (T.op2 .sub (T.op2 .add (T.cst (D.int 1999)) (T.op2 .mod (T.var 2) (T.cst (D.int 4)))) (T.b1 .len (T.var 4)))) (T.cst (D.bl true)) (T.cst (D.str [32])))))) SL.nil) SL.nil) [A, some (.sh, .int a), some (.sh, .int b), B, some (.sh, .str X), G] = .nx [A, some (.sh, .int a), some (.sh, .int b), B, some (.sh, .str (X ++ padV X a b)), G] := by
    intro A B G X hX
    have hn : padN X b ≤ 2002 := by unfold padN; omega
    have hcomp : ev (orc prg 10000 4) [A, some (.sh, .int a), some (.sh, .int b), B, some (.sh, .str X), G] true (T.comp [] 1 false (TI.rng1 (T.op2 .sub (T.op2 .add (T.cst (D.int 1999)) (T.op2 .mod (T.var 2) (T.cst (D.int 4)))) (T.b1 .len (T.var 4)))) (T.cst (D.bl true)) (T.cst (D.str [32]))) = .ok (true, .lst ((List.range (padN X b)).map fun _ => D.str [32])) :=
      ev_compB _ _ _ _ _ (rng1_int ((op2_ev ((op2_ev ev_cst ((op2_ev (ev_var rfl) ev_cst).trans (o_mod _ 4 (by decide)))).trans (o_add _ _)) (len_ev rfl)).trans (show o2 .sub (.int _) (.int _) = .ok (false, .int (_ - _)) from rfl)) (by omega) (by omega)) (by simp; omega) (comp_ofN (fun d _ => ev_cst) fun d _ => ⟨false, ev_cst⟩)
    have hcat := cat_big (a := X) (b := List.replicate (padN X b) 32) (by simp; omega)
    rw [ifS ((op2_ev ((op2_ev ((op2_ev (ev_var rfl) ev_cst).trans (o_fdiv _ 4 (by decide))) ev_cst).trans (o_mod _ 8 (by decide))) ev_cst).trans (o_eqI _ _)) ((op2_ev (ev_var rfl) ((m1_ev ev_cst hcomp).trans (pad_join _ (by omega)))).trans hcat) rfl]
    unfold padV
    by_cases h : (a.fdiv 4).fmod 8 = 2
    · rw [if_pos (decide_eq_true h), if_pos h]; rfl
    · rw [if_neg (by simp [h]), if_neg h, List.append_nil]
  have hpad' := hpad (some (.sh, .lst (ns.map .int))) (some (.ow, .lst ((rowV cells a b).map .str))) none (textV seed (rowV cells a b)) (by omega)
  clear hpad
  have hxl : (textV seed (rowV cells a b) ++ padV (textV seed (rowV cells a b)) a b).length < 10000 := by rw [List.length_append]; omega
  have hlong := long_run (orc prg 10000 3) (textV seed (rowV cells a b) ++ padV (textV seed (rowV cells a b)) a b) (rowV cells a b)
  have htoo := tooL_row hT
  generalize hX : textV seed (rowV cells a b) ++ padV (textV seed (rowV cells a b)) a b = X at *
  rw [← htoo] at hlong
  have hlong4 : (orc prg 10000 4).fn 10 [.str X, .lst ((rowV cells a b).map .str)] = .ok (false, .bl (tooL X)) := by rw [orc_fn (d := f10) rfl]; exact hlong
  have hway : ∀ t, runFn (orc prg 10000 3) f12 [.str X] = .ok (false, .str t) → (orc prg 10000 4).fn 12 [.str X] = .ok (false, .str t) := fun t z => by rw [orc_fn (d := f12) rfl]; exact z
  generalize hR : rowV cells a b = R at *
  refine runFn_at rfl rfl (stp [some (.sh, .lst (ns.map .int)), some (.sh, .int a), none, none, none, none] (set_of (call_ev (evL_cons rfl (ev_var rfl) (evL_cons rfl ev_cst rfl)) hc0) rfl) (stp [some (.sh, .lst (ns.map .int)), some (.sh, .int a), some (.sh, .int b), none, none, none] (set_of (call_ev (evL_cons rfl (ev_var rfl) (evL_cons rfl ev_cst rfl)) hc1) rfl) (stp [some (.sh, .lst (ns.map .int)), some (.sh, .int a), some (.sh, .int b), some (.ow, .lst (R.map .str)), none, none] (set_of (call_ev (evL_cons rfl (slc_ev (ev_var rfl) ev_cst ev_cst rfl rfl hsl) (evL_cons rfl (ev_var rfl) (evL_cons rfl (ev_var rfl) rfl))) hrow) rfl) (stp [some (.sh, .lst (ns.map .int)), some (.sh, .int a), some (.sh, .int b), some (.ow, .lst (R.map .str)), some (.sh, .str (textV seed R)), none] (set_of (call_len (evL_own rfl (ev_own rfl) (evL_any rfl (call_ev (evL_cons rfl (ev_var rfl) (evL_cons rfl ev_cst rfl)) hc2) rfl)) htext rfl) rfl) (stp _ hpad' ?_)))))
  have e10 : ev (orc prg 10000 4) [some (.sh, .lst (ns.map .int)), some (.sh, .int a), some (.sh, .int b), some (.ow, .lst (R.map .str)), some (.sh, .str X), none] true (T.call 10 (TL.cons (T.var 4) (TL.cons (T.var 3) TL.nil))) = .ok (false, .bl (tooL X)) := call_len (evL_any rfl (ev_var rfl) (evL_own rfl (ev_own rfl) rfl)) hlong4 rfl
  by_cases ht : tooL X = true
  · have hw := hway _ (way_long (orc prg 10000 3) rfl X (pcs_long 0 X ht))
    exact stpR (ifT e10 ht (retR ((op2_ev (call_ev (evL_cons rfl (ev_var rfl) rfl) hw) ev_cst).trans (o_eqS _ _)) rfl))
  have ht : tooL X = false := by simpa using ht
  refine stp _ (ifF e10 ht) ?_
  have e3 : ev (orc prg 10000 4) [some (.sh, .lst (ns.map .int)), some (.sh, .int a), some (.sh, .int b), some (.ow, .lst (R.map .str)), some (.sh, .str X), none] true (T.op2 .eq (T.op2 .mod (T.var 2) (T.cst (D.int 3))) (T.cst (D.int 1))) = .ok (false, .bl (decide (b.fmod 3 = 1))) := (op2_ev ((op2_ev (ev_var rfl) ev_cst).trans (o_mod _ 3 (by decide))) ev_cst).trans (o_eqI _ _)
  by_cases hb : b.fmod 3 = 1
  · have hRe : R = (rw1 cells a).take (plV cells a b) ++ [aliV (b.fdiv 101)] :: (rw1 cells a).drop (plV cells a b) := by rw [← hR]; exact if_pos hb
    have hw := hway _ (way_text (orc prg 10000 3) rfl X (pcs_bad 0 X _ _ _ ht hxl (by rw [← hRe]; exact hT) (fun p hp => (rw1_good cells a p (List.mem_of_mem_take hp)).1) ⟨_, ali_mem _, rfl⟩ (by rw [← hRe]; omega)))
    exact stpR (ifT e3 (decide_eq_true hb) (retR ((op2_ev (call_ev (evL_cons rfl (ev_var rfl) rfl) hw) ev_cst).trans (o_eqS _ _)) rfl))
  refine stp _ (ifF e3 (decide_eq_false hb)) ?_
  have hg : ∀ p ∈ R, Good p := by
    have : R = rw1 cells a := by rw [← hR]; exact if_neg hb
    rw [this]
    exact fun p hp => (rw1_good cells a p hp).1
  have hp4 := pcs_ok 1 X R ht hxl hT hg (by omega)
  have heq := row_eq R hg
  refine stp [some (.sh, .lst (ns.map .int)), some (.sh, .int a), some (.sh, .int b), some (.ow, .lst (R.map .str)), some (.sh, .str X), some (.ow, .lst (R.map .str))] (set_of (call_ev (evL_cons rfl (ev_var rfl) rfl) hp4) rfl) ?_
  have hall : ev (orc prg 10000 4) [some (.sh, .lst (ns.map .int)), some (.sh, .int a), some (.sh, .int b), some (.ow, .lst (R.map .str)), some (.sh, .str X), some (.ow, .lst (R.map .str))] true (T.b1 .all (T.comp [] 1 false (TI.val (T.var 5)) (T.cst (D.bl true)) (T.isin (T.var 0) .str))) = .ok (false, .bl true) := by
    refine (b1_ev (x := .lst (R.map fun _ => D.bl true)) (ev_compB _ (R.map .str) _ _ _ (by rw [evI, ev_own rfl]; rfl) (by simp; omega) (comp_ofN (fun d _ => ev_cst) fun d _ => ⟨false, isin_str (ev_var rfl)⟩))).trans ?_
    rw [List.map_const']
    simp [b1D, boolsOf_true, Z.R.of]
  have hne : o2 .ne (.lst (R.map .str)) (.lst (R.map .str)) = .ok (false, .bl false) := by simp only [o2, heq, Option.map_some, Z.R.of, Bool.not_true]
  have hee : o2 .eq (.lst (R.map .str)) (.lst (R.map .str)) = .ok (false, .bl true) := by simp only [o2, heq, Option.map_some, Z.R.of]
  refine stp _ (ifF (or_ev (not_ev (isin_lst (ev_own rfl))) (or_ev (not_ev hall) ((op2_ev (ev_own rfl) (ev_own rfl)).trans hne))) rfl) ?_
  refine stp [some (.sh, .lst (ns.map .int)), some (.sh, .int a), some (.sh, .int b), some (.ow, .lst (R.map .str)), some (.sh, .str X), some (.ow, .lst [])] rfl ?_
  exact stpR (retR ((op2_ev (call_ev (evL_cons rfl (ev_var rfl) rfl) hp4) (ev_own rfl)).trans hee) rfl)
end P09

namespace K09
open PySem L2 Z P09
noncomputable def top (i : Nat) : Stmt := PySem.Challenge.pw_sumlaw_k09_pieces.main.body.getD i (.Pass ⟨0, 0, 0, 0⟩)
noncomputable def d0 : Df := ⟨"check_length", "check_length", top 11, ["text", "run", "opened", "sign"], ["text"], f0⟩
noncomputable def d1 : Df := ⟨"run_end", "run_end", top 12, ["text", "start", "signs", "place"], ["text", "start", "signs"], f1⟩
noncomputable def d2 : Df := ⟨"piece_end", "piece_end", top 13, ["text", "start", "sign"], ["text", "start"], f2⟩
noncomputable def d3 : Df := ⟨"pieces", "pieces", top 14, ["text", "found", "place", "end"], ["text"], f3⟩
noncomputable def d4 : Df := ⟨"_law_cell_at", "_law_cell_at", top 16, ["_law_script", "_law_k"], ["_law_script", "_law_k"], f4⟩
noncomputable def d5 : Df := ⟨"_law_mix", "_law_mix", top 17, ["_law_cell", "_law_k", "_law_many", "_law_some"], ["_law_cell", "_law_k", "_law_many"], f5⟩
noncomputable def d6 : Df := ⟨"_law_parted", "_law_parted", top 18, ["_law_last", "_law_piece", "_law_letters", "_law_figures"], ["_law_last", "_law_piece"], f6⟩
noncomputable def d7 : Df := ⟨"_law_text_of", "_law_text_of", top 19, ["_law_row", "_law_seed", "_law_text", "_law_last", "_law_k", "_law_gap"], ["_law_row", "_law_seed"], f7⟩
noncomputable def d8 : Df := ⟨"_law_piece_by", "_law_piece_by", top 20, ["_law_cell", "_law_letters", "_law_signs", "_law_way_here", "_law_rest", "_law_word", "_law_k", "_law_size", "_law_number"], ["_law_cell"], f8⟩
noncomputable def d9 : Df := ⟨"_law_alien", "_law_alien", top 21, ["_law_cell", "_law_some"], ["_law_cell"], f9⟩
noncomputable def d10 : Df := ⟨"_law_too_long", "_law_too_long", top 22, ["_law_text", "_law_row", "_law_deep", "_law_piece"], ["_law_text", "_law_row"], f10⟩
noncomputable def d11 : Df := ⟨"_law_row_by", "_law_row_by", top 23, ["_law_cells", "_law_first", "_law_second", "_law_row", "_law_place"], ["_law_cells", "_law_first", "_law_second"], f11⟩
noncomputable def d12 : Df := ⟨"_law_way", "_law_way", top 24, ["_law_text", "_law_caught", "error"], ["_law_text"], f12⟩
noncomputable def d13 : Df := ⟨"law", "law", top 25, ["_law_script", "_law_first", "_law_second", "_law_row", "_law_text", "_law_got"], ["_law_script"], f13⟩
noncomputable def cs : List (Str × Gk) := [("LETTERS", .val (D.str [97, 98, 99, 100, 101, 102, 103, 104, 105, 106, 107, 108, 109, 110, 111, 112, 113, 114, 115, 116, 117, 118, 119, 120, 121, 122])), ("FIGURES", .val (D.str [48, 49, 50, 51, 52, 53, 54, 55, 56, 57])), ("SINGLES", .val (D.str [40, 41, 44, 43, 45, 42, 61])), ("MOST_SIGNS", .val (D.int 2000)), ("MOST_FIGURES", .val (D.int 60)), ("MOST_OPENED", .val (D.int 16)), ("!", .mark [2]), ("SumError", .cls 0), ("NoText", .cls 1), ("TooLong", .cls 2)]
noncomputable def ds : List Df := [d0, d1, d2, d3, d4, d5, d6, d7, d8, d9, d10, d11, d12, d13]
theorem sc0 : FnScope d0.N d0.ps (defScope d0.st) := ⟨rfl, rfl, rfl, by decide +kernel, rfl, by decide +kernel, by decide +kernel⟩
theorem ok0 : DfOk (glOf 0 ds ++ cs) d0 := ⟨sc0, rfl, rfl, .inl (by kernel_rfl)⟩
theorem sc1 : FnScope d1.N d1.ps (defScope d1.st) := ⟨rfl, rfl, rfl, by decide +kernel, rfl, by decide +kernel, by decide +kernel⟩
theorem ok1 : DfOk (glOf 0 ds ++ cs) d1 := ⟨sc1, rfl, rfl, .inl (by kernel_rfl)⟩
theorem sc2 : FnScope d2.N d2.ps (defScope d2.st) := ⟨rfl, rfl, rfl, by decide +kernel, rfl, by decide +kernel, by decide +kernel⟩
theorem ok2 : DfOk (glOf 0 ds ++ cs) d2 := ⟨sc2, rfl, rfl, .inl (by kernel_rfl)⟩
theorem sc3 : FnScope d3.N d3.ps (defScope d3.st) := ⟨rfl, rfl, rfl, by decide +kernel, rfl, by decide +kernel, by decide +kernel⟩
theorem ok3 : DfOk (glOf 0 ds ++ cs) d3 := ⟨sc3, rfl, rfl, .inl (by kernel_rfl)⟩
theorem sc4 : FnScope d4.N d4.ps (defScope d4.st) := ⟨rfl, rfl, rfl, by decide +kernel, rfl, by decide +kernel, by decide +kernel⟩
theorem ok4 : DfOk (glOf 0 ds ++ cs) d4 := ⟨sc4, rfl, rfl, .inl (by kernel_rfl)⟩
theorem sc5 : FnScope d5.N d5.ps (defScope d5.st) := ⟨rfl, rfl, rfl, by decide +kernel, rfl, by decide +kernel, by decide +kernel⟩
theorem ok5 : DfOk (glOf 0 ds ++ cs) d5 := ⟨sc5, rfl, rfl, .inl (by kernel_rfl)⟩
theorem sc6 : FnScope d6.N d6.ps (defScope d6.st) := ⟨rfl, rfl, rfl, by decide +kernel, rfl, by decide +kernel, by decide +kernel⟩
theorem ok6 : DfOk (glOf 0 ds ++ cs) d6 := ⟨sc6, rfl, rfl, .inl (by kernel_rfl)⟩
theorem sc7 : FnScope d7.N d7.ps (defScope d7.st) := ⟨rfl, rfl, rfl, by decide +kernel, rfl, by decide +kernel, by decide +kernel⟩
theorem ok7 : DfOk (glOf 0 ds ++ cs) d7 := ⟨sc7, rfl, rfl, .inl (by kernel_rfl)⟩
theorem sc8 : FnScope d8.N d8.ps (defScope d8.st) := ⟨rfl, rfl, rfl, by decide +kernel, rfl, by decide +kernel, by decide +kernel⟩
theorem ok8 : DfOk (glOf 0 ds ++ cs) d8 := ⟨sc8, rfl, rfl, .inl (by kernel_rfl)⟩
theorem sc9 : FnScope d9.N d9.ps (defScope d9.st) := ⟨rfl, rfl, rfl, by decide +kernel, rfl, by decide +kernel, by decide +kernel⟩
theorem ok9 : DfOk (glOf 0 ds ++ cs) d9 := ⟨sc9, rfl, rfl, .inl (by kernel_rfl)⟩
theorem sc10 : FnScope d10.N d10.ps (defScope d10.st) := ⟨rfl, rfl, rfl, by decide +kernel, rfl, by decide +kernel, by decide +kernel⟩
theorem ok10 : DfOk (glOf 0 ds ++ cs) d10 := ⟨sc10, rfl, rfl, .inl (by kernel_rfl)⟩
theorem sc11 : FnScope d11.N d11.ps (defScope d11.st) := ⟨rfl, rfl, rfl, by decide +kernel, rfl, by decide +kernel, by decide +kernel⟩
theorem ok11 : DfOk (glOf 0 ds ++ cs) d11 := ⟨sc11, rfl, rfl, .inl (by kernel_rfl)⟩
theorem sc12 : FnScope d12.N d12.ps (defScope d12.st) := ⟨rfl, rfl, rfl, by decide +kernel, rfl, by decide +kernel, by decide +kernel⟩
theorem ok12 : DfOk (glOf 0 ds ++ cs) d12 := ⟨sc12, rfl, rfl, .inl (by kernel_rfl)⟩
theorem sc13 : FnScope d13.N d13.ps (defScope d13.st) := ⟨rfl, rfl, rfl, by decide +kernel, rfl, by decide +kernel, by decide +kernel⟩
theorem ok13 : DfOk (glOf 0 ds ++ cs) d13 := ⟨sc13, rfl, rfl, .inl (by kernel_rfl)⟩
theorem oks : ∀ d ∈ ds, DfOk (glOf 0 ds ++ cs) d := by
  intro d hd
  simp only [ds, List.mem_cons, List.not_mem_nil, or_false] at hd
  rcases hd with rfl | rfl | rfl | rfl | rfl | rfl | rfl | rfl | rfl | rfl | rfl | rfl | rfl | rfl
  · exact ok0
  · exact ok1
  · exact ok2
  · exact ok3
  · exact ok4
  · exact ok5
  · exact ok6
  · exact ok7
  · exact ok8
  · exact ok9
  · exact ok10
  · exact ok11
  · exact ok12
  · exact ok13
theorem b0 : BindP d0 := bindP1 rfl fun _ _ _ _ _ _ _ => rfl
theorem b1 : BindP d1 := bindP3 rfl fun _ _ _ _ _ _ _ _ _ => rfl
theorem b2 : BindP d2 := bindP2 rfl fun _ _ _ _ _ _ _ _ => rfl
theorem b3 : BindP d3 := bindP1 rfl fun _ _ _ _ _ _ _ => rfl
theorem b4 : BindP d4 := bindP2 rfl fun _ _ _ _ _ _ _ _ => rfl
theorem b5 : BindP d5 := bindP3 rfl fun _ _ _ _ _ _ _ _ _ => rfl
theorem b6 : BindP d6 := bindP2 rfl fun _ _ _ _ _ _ _ _ => rfl
theorem b7 : BindP d7 := bindP2 rfl fun _ _ _ _ _ _ _ _ => rfl
theorem b8 : BindP d8 := bindP1 rfl fun _ _ _ _ _ _ _ => rfl
theorem b9 : BindP d9 := bindP1 rfl fun _ _ _ _ _ _ _ => rfl
theorem b10 : BindP d10 := bindP2 rfl fun _ _ _ _ _ _ _ _ => rfl
theorem b11 : BindP d11 := bindP3 rfl fun _ _ _ _ _ _ _ _ _ => rfl
theorem b12 : BindP d12 := bindP1 rfl fun _ _ _ _ _ _ _ => rfl
theorem b13 : BindP d13 := bindP1 rfl fun _ _ _ _ _ _ _ => rfl
theorem all_mk {lw : PySem.W.OpenLaw} {w : World} {K : PySem.W.Frag} {h : Heap} {mg : Str → Option Value} {fa : Addr} (X : K.In h) (G : h.Ns mainGlobals mg) (hfa : mg "law" = some (.ref fa))
    {a0 : Addr} {od0 an0 : Option Addr} {sl0 : Array (Option Value)} {oc0 kV0 dc0 pm0 cd0 ct0 : Value}
    {a1 : Addr} {od1 an1 : Option Addr} {sl1 : Array (Option Value)} {oc1 kV1 dc1 pm1 cd1 ct1 : Value}
    {a2 : Addr} {od2 an2 : Option Addr} {sl2 : Array (Option Value)} {oc2 kV2 dc2 pm2 cd2 ct2 : Value}
    {a3 : Addr} {od3 an3 : Option Addr} {sl3 : Array (Option Value)} {oc3 kV3 dc3 pm3 cd3 ct3 : Value}
    {a4 : Addr} {od4 an4 : Option Addr} {sl4 : Array (Option Value)} {oc4 kV4 dc4 pm4 cd4 ct4 : Value}
    {a5 : Addr} {od5 an5 : Option Addr} {sl5 : Array (Option Value)} {oc5 kV5 dc5 pm5 cd5 ct5 : Value}
    {a6 : Addr} {od6 an6 : Option Addr} {sl6 : Array (Option Value)} {oc6 kV6 dc6 pm6 cd6 ct6 : Value}
    {a7 : Addr} {od7 an7 : Option Addr} {sl7 : Array (Option Value)} {oc7 kV7 dc7 pm7 cd7 ct7 : Value}
    {a8 : Addr} {od8 an8 : Option Addr} {sl8 : Array (Option Value)} {oc8 kV8 dc8 pm8 cd8 ct8 : Value}
    {a9 : Addr} {od9 an9 : Option Addr} {sl9 : Array (Option Value)} {oc9 kV9 dc9 pm9 cd9 ct9 : Value}
    {a10 : Addr} {od10 an10 : Option Addr} {sl10 : Array (Option Value)} {oc10 kV10 dc10 pm10 cd10 ct10 : Value}
    {a11 : Addr} {od11 an11 : Option Addr} {sl11 : Array (Option Value)} {oc11 kV11 dc11 pm11 cd11 ct11 : Value}
    {a12 : Addr} {od12 an12 : Option Addr} {sl12 : Array (Option Value)} {oc12 kV12 dc12 pm12 cd12 ct12 : Value}
    {a13 : Addr} {od13 an13 : Option Addr} {sl13 : Array (Option Value)} {oc13 kV13 dc13 pm13 cd13 ct13 : Value}
    {t_LETTERS : Tok}
    {t_FIGURES : Tok}
    {t_SINGLES : Tok}
    {t_MOST_SIGNS : Tok}
    {t_MOST_FIGURES : Tok}
    {t_MOST_OPENED : Tok}
    {C0 : Addr}
    {C1 : Addr}
    {C2 : Addr}
    (n0 : PySem.W.nsIn K mainGlobals "check_length" = some (some (.ref a0))) (l0 : K.lookup a0 = some ⟨oc0, od0, .func (PySem.W.fnOf "check_length" "check_length" (defArgs (top 11)) (defBody (top 11)) (defScope (top 11)) .none kV0 dc0 pm0 an0 cd0 ct0), sl0⟩) (c0 : PySem.W.codeIn K cd0 "check_length" = true) (k0 : PySem.W.keepIn K (.ref a0) = true)
    (n1 : PySem.W.nsIn K mainGlobals "run_end" = some (some (.ref a1))) (l1 : K.lookup a1 = some ⟨oc1, od1, .func (PySem.W.fnOf "run_end" "run_end" (defArgs (top 12)) (defBody (top 12)) (defScope (top 12)) .none kV1 dc1 pm1 an1 cd1 ct1), sl1⟩) (c1 : PySem.W.codeIn K cd1 "run_end" = true) (k1 : PySem.W.keepIn K (.ref a1) = true)
    (n2 : PySem.W.nsIn K mainGlobals "piece_end" = some (some (.ref a2))) (l2 : K.lookup a2 = some ⟨oc2, od2, .func (PySem.W.fnOf "piece_end" "piece_end" (defArgs (top 13)) (defBody (top 13)) (defScope (top 13)) .none kV2 dc2 pm2 an2 cd2 ct2), sl2⟩) (c2 : PySem.W.codeIn K cd2 "piece_end" = true) (k2 : PySem.W.keepIn K (.ref a2) = true)
    (n3 : PySem.W.nsIn K mainGlobals "pieces" = some (some (.ref a3))) (l3 : K.lookup a3 = some ⟨oc3, od3, .func (PySem.W.fnOf "pieces" "pieces" (defArgs (top 14)) (defBody (top 14)) (defScope (top 14)) .none kV3 dc3 pm3 an3 cd3 ct3), sl3⟩) (c3 : PySem.W.codeIn K cd3 "pieces" = true) (k3 : PySem.W.keepIn K (.ref a3) = true)
    (n4 : PySem.W.nsIn K mainGlobals "_law_cell_at" = some (some (.ref a4))) (l4 : K.lookup a4 = some ⟨oc4, od4, .func (PySem.W.fnOf "_law_cell_at" "_law_cell_at" (defArgs (top 16)) (defBody (top 16)) (defScope (top 16)) .none kV4 dc4 pm4 an4 cd4 ct4), sl4⟩) (c4 : PySem.W.codeIn K cd4 "_law_cell_at" = true) (k4 : PySem.W.keepIn K (.ref a4) = true)
    (n5 : PySem.W.nsIn K mainGlobals "_law_mix" = some (some (.ref a5))) (l5 : K.lookup a5 = some ⟨oc5, od5, .func (PySem.W.fnOf "_law_mix" "_law_mix" (defArgs (top 17)) (defBody (top 17)) (defScope (top 17)) .none kV5 dc5 pm5 an5 cd5 ct5), sl5⟩) (c5 : PySem.W.codeIn K cd5 "_law_mix" = true) (k5 : PySem.W.keepIn K (.ref a5) = true)
    (n6 : PySem.W.nsIn K mainGlobals "_law_parted" = some (some (.ref a6))) (l6 : K.lookup a6 = some ⟨oc6, od6, .func (PySem.W.fnOf "_law_parted" "_law_parted" (defArgs (top 18)) (defBody (top 18)) (defScope (top 18)) .none kV6 dc6 pm6 an6 cd6 ct6), sl6⟩) (c6 : PySem.W.codeIn K cd6 "_law_parted" = true) (k6 : PySem.W.keepIn K (.ref a6) = true)
    (n7 : PySem.W.nsIn K mainGlobals "_law_text_of" = some (some (.ref a7))) (l7 : K.lookup a7 = some ⟨oc7, od7, .func (PySem.W.fnOf "_law_text_of" "_law_text_of" (defArgs (top 19)) (defBody (top 19)) (defScope (top 19)) .none kV7 dc7 pm7 an7 cd7 ct7), sl7⟩) (c7 : PySem.W.codeIn K cd7 "_law_text_of" = true) (k7 : PySem.W.keepIn K (.ref a7) = true)
    (n8 : PySem.W.nsIn K mainGlobals "_law_piece_by" = some (some (.ref a8))) (l8 : K.lookup a8 = some ⟨oc8, od8, .func (PySem.W.fnOf "_law_piece_by" "_law_piece_by" (defArgs (top 20)) (defBody (top 20)) (defScope (top 20)) .none kV8 dc8 pm8 an8 cd8 ct8), sl8⟩) (c8 : PySem.W.codeIn K cd8 "_law_piece_by" = true) (k8 : PySem.W.keepIn K (.ref a8) = true)
    (n9 : PySem.W.nsIn K mainGlobals "_law_alien" = some (some (.ref a9))) (l9 : K.lookup a9 = some ⟨oc9, od9, .func (PySem.W.fnOf "_law_alien" "_law_alien" (defArgs (top 21)) (defBody (top 21)) (defScope (top 21)) .none kV9 dc9 pm9 an9 cd9 ct9), sl9⟩) (c9 : PySem.W.codeIn K cd9 "_law_alien" = true) (k9 : PySem.W.keepIn K (.ref a9) = true)
    (n10 : PySem.W.nsIn K mainGlobals "_law_too_long" = some (some (.ref a10))) (l10 : K.lookup a10 = some ⟨oc10, od10, .func (PySem.W.fnOf "_law_too_long" "_law_too_long" (defArgs (top 22)) (defBody (top 22)) (defScope (top 22)) .none kV10 dc10 pm10 an10 cd10 ct10), sl10⟩) (c10 : PySem.W.codeIn K cd10 "_law_too_long" = true) (k10 : PySem.W.keepIn K (.ref a10) = true)
    (n11 : PySem.W.nsIn K mainGlobals "_law_row_by" = some (some (.ref a11))) (l11 : K.lookup a11 = some ⟨oc11, od11, .func (PySem.W.fnOf "_law_row_by" "_law_row_by" (defArgs (top 23)) (defBody (top 23)) (defScope (top 23)) .none kV11 dc11 pm11 an11 cd11 ct11), sl11⟩) (c11 : PySem.W.codeIn K cd11 "_law_row_by" = true) (k11 : PySem.W.keepIn K (.ref a11) = true)
    (n12 : PySem.W.nsIn K mainGlobals "_law_way" = some (some (.ref a12))) (l12 : K.lookup a12 = some ⟨oc12, od12, .func (PySem.W.fnOf "_law_way" "_law_way" (defArgs (top 24)) (defBody (top 24)) (defScope (top 24)) .none kV12 dc12 pm12 an12 cd12 ct12), sl12⟩) (c12 : PySem.W.codeIn K cd12 "_law_way" = true) (k12 : PySem.W.keepIn K (.ref a12) = true)
    (n13 : PySem.W.nsIn K mainGlobals "law" = some (some (.ref a13))) (l13 : K.lookup a13 = some ⟨oc13, od13, .func (PySem.W.fnOf "law" "law" (defArgs (top 25)) (defBody (top 25)) (defScope (top 25)) .none kV13 dc13 pm13 an13 cd13 ct13), sl13⟩) (c13 : PySem.W.codeIn K cd13 "law" = true) (k13 : PySem.W.keepIn K (.ref a13) = true)
    (n_LETTERS : PySem.W.nsIn K mainGlobals "LETTERS" = some (some (.str "abcdefghijklmnopqrstuvwxyz" t_LETTERS)))
    (n_FIGURES : PySem.W.nsIn K mainGlobals "FIGURES" = some (some (.str "0123456789" t_FIGURES)))
    (n_SINGLES : PySem.W.nsIn K mainGlobals "SINGLES" = some (some (.str "(),+-*=" t_SINGLES)))
    (n_MOST_SIGNS : PySem.W.nsIn K mainGlobals "MOST_SIGNS" = some (some (.int 2000 t_MOST_SIGNS)))
    (n_MOST_FIGURES : PySem.W.nsIn K mainGlobals "MOST_FIGURES" = some (some (.int 60 t_MOST_FIGURES)))
    (n_MOST_OPENED : PySem.W.nsIn K mainGlobals "MOST_OPENED" = some (some (.int 16 t_MOST_OPENED)))
    (nC0 : PySem.W.nsIn K mainGlobals "SumError" = some (some (.ref C0)))
    (nC1 : PySem.W.nsIn K mainGlobals "NoText" = some (some (.ref C1)))
    (nC2 : PySem.W.nsIn K mainGlobals "TooLong" = some (some (.ref C2)))
    (xC0 : (xIn K C0).isSome = true)
    (xC1 : (xIn K C1).isSome = true)
    (xC2 : (xIn K C2).isSome = true)
    (g1_1 : PySem.W.findIn K (.ref C1) "__getattribute__" = some (some (.builtin "BaseException.__getattribute__")))
    (g2_1 : PySem.W.findIn K (.ref C1) "__getattr__" = some none)
    (g3_1 : PySem.W.findObj K C1 none "__class__" = some (.bind (.builtin "getset_descriptor.__get__") (.builtin "object.__class__")))
    (g4_1 : PySem.W.mroIn K C1 (.type "object") = some true)
    (g5_1 : PySem.W.mroIn K C1 (.type "BaseException") = some true)
    (g6_1 : (PySem.W.clsIn K C1).isSome = true)
    (g7_1 : PySem.W.subIn K (.ref C1) (.type "ValueError") = some true)
    (p1_0 : PySem.W.isIn K (.ref C1) C0 = true)
    (h1_0 : ((xIn K C1).any fun b => (Value.ref C1 :: b).contains (.ref C0)) = true)
    (p1_1 : PySem.W.isIn K (.ref C1) C1 = true)
    (h1_1 : ((xIn K C1).any fun b => (Value.ref C1 :: b).contains (.ref C1)) = true)
    (p1_2 : xNot K C1 C2 = true)
    (g1_2 : PySem.W.findIn K (.ref C2) "__getattribute__" = some (some (.builtin "BaseException.__getattribute__")))
    (g2_2 : PySem.W.findIn K (.ref C2) "__getattr__" = some none)
    (g3_2 : PySem.W.findObj K C2 none "__class__" = some (.bind (.builtin "getset_descriptor.__get__") (.builtin "object.__class__")))
    (g4_2 : PySem.W.mroIn K C2 (.type "object") = some true)
    (g5_2 : PySem.W.mroIn K C2 (.type "BaseException") = some true)
    (g6_2 : (PySem.W.clsIn K C2).isSome = true)
    (g7_2 : PySem.W.subIn K (.ref C2) (.type "ValueError") = some true)
    (p2_0 : PySem.W.isIn K (.ref C2) C0 = true)
    (h2_0 : ((xIn K C2).any fun b => (Value.ref C2 :: b).contains (.ref C0)) = true)
    (p2_1 : xNot K C2 C1 = true)
    (p2_2 : PySem.W.isIn K (.ref C2) C2 = true)
    (h2_2 : ((xIn K C2).any fun b => (Value.ref C2 :: b).contains (.ref C2)) = true)
    (z0 : PySem.W.nsIn K mainGlobals "abs" = some none)
    (z1 : PySem.W.nsIn K mainGlobals "len" = some none)
    (z2 : PySem.W.nsIn K mainGlobals "isinstance" = some none)
    (z3 : PySem.W.nsIn K mainGlobals "int" = some none)
    (z4 : PySem.W.nsIn K mainGlobals "bool" = some none)
    (z5 : PySem.W.nsIn K mainGlobals "str" = some none)
    (z6 : PySem.W.nsIn K mainGlobals "tuple" = some none)
    (z7 : PySem.W.nsIn K mainGlobals "list" = some none)
    (z8 : PySem.W.nsIn K mainGlobals "dict" = some none)
    (z9 : PySem.W.nsIn K mainGlobals "all" = some none)
    (z10 : PySem.W.nsIn K mainGlobals "any" = some none)
    (z11 : PySem.W.nsIn K mainGlobals "sorted" = some none)
    (z12 : PySem.W.nsIn K mainGlobals "range" = some none)
    (z13 : PySem.W.nsIn K mainGlobals "max" = some none)
    (z14 : PySem.W.nsIn K mainGlobals "zip" = some none)
    (z15 : PySem.W.nsIn K mainGlobals "enumerate" = some none)
    (z16 : PySem.W.nsIn K mainGlobals "sum" = some none)
    (z17 : PySem.W.nsIn K mainGlobals "min" = some none)
    (z18 : PySem.W.nsIn K mainGlobals "ValueError" = some none)
    : ∃ (fd : FuncData) (CT : Nat → Addr), (∀ (s : Shared) (u : Value), BindsTo s fd ⟨[u], []⟩ [("_law_script", u)]) ∧ ∀ (base : Heap) (w0 : Nat), FnOk lw.prog w K mg base CX0 (4 + 1) fa fd ["_law_script"] (spFn ⟨K, CT⟩ ((orc prg w0 (4 + 1)).fn 13) 1) := by
  have e := hfa.symm.trans (PySem.W.mg_of X G n13)
  cases e
  have t0 : DfAt K mg d0 := df_mk (d := d0) X G n0 l0 c0 k0 b0
  have t1 : DfAt K mg d1 := df_mk (d := d1) X G n1 l1 c1 k1 b1
  have t2 : DfAt K mg d2 := df_mk (d := d2) X G n2 l2 c2 k2 b2
  have t3 : DfAt K mg d3 := df_mk (d := d3) X G n3 l3 c3 k3 b3
  have t4 : DfAt K mg d4 := df_mk (d := d4) X G n4 l4 c4 k4 b4
  have t5 : DfAt K mg d5 := df_mk (d := d5) X G n5 l5 c5 k5 b5
  have t6 : DfAt K mg d6 := df_mk (d := d6) X G n6 l6 c6 k6 b6
  have t7 : DfAt K mg d7 := df_mk (d := d7) X G n7 l7 c7 k7 b7
  have t8 : DfAt K mg d8 := df_mk (d := d8) X G n8 l8 c8 k8 b8
  have t9 : DfAt K mg d9 := df_mk (d := d9) X G n9 l9 c9 k9 b9
  have t10 : DfAt K mg d10 := df_mk (d := d10) X G n10 l10 c10 k10 b10
  have t11 : DfAt K mg d11 := df_mk (d := d11) X G n11 l11 c11 k11 b11
  have t12 : DfAt K mg d12 := df_mk (d := d12) X G n12 l12 c12 k12 b12
  have t13 : DfAt K mg d13 := df_mk (d := d13) X G n13 l13 c13 k13 b13
  have hat : ∀ d ∈ ds, DfAt K mg d := by
    intro d hd
    simp only [ds, List.mem_cons, List.not_mem_nil, or_false] at hd
    rcases hd with rfl | rfl | rfl | rfl | rfl | rfl | rfl | rfl | rfl | rfl | rfl | rfl | rfl | rfl
    · exact t0
    · exact t1
    · exact t2
    · exact t3
    · exact t4
    · exact t5
    · exact t6
    · exact t7
    · exact t8
    · exact t9
    · exact t10
    · exact t11
    · exact t12
    · exact t13
  have hgb : ∀ x ∈ bltNames, (glOf 0 ds ++ cs).lookup x = none → mg x = none := by
    intro x hx _
    simp only [bltNames, List.mem_cons, List.not_mem_nil, or_false] at hx
    rcases hx with rfl | rfl | rfl | rfl | rfl | rfl | rfl | rfl | rfl | rfl | rfl | rfl | rfl | rfl | rfl | rfl | rfl | rfl | rfl
    · exact PySem.W.mg_none_of X G z0
    · exact PySem.W.mg_none_of X G z1
    · exact PySem.W.mg_none_of X G z2
    · exact PySem.W.mg_none_of X G z3
    · exact PySem.W.mg_none_of X G z4
    · exact PySem.W.mg_none_of X G z5
    · exact PySem.W.mg_none_of X G z6
    · exact PySem.W.mg_none_of X G z7
    · exact PySem.W.mg_none_of X G z8
    · exact PySem.W.mg_none_of X G z9
    · exact PySem.W.mg_none_of X G z10
    · exact PySem.W.mg_none_of X G z11
    · exact PySem.W.mg_none_of X G z12
    · exact PySem.W.mg_none_of X G z13
    · exact PySem.W.mg_none_of X G z14
    · exact PySem.W.mg_none_of X G z15
    · exact PySem.W.mg_none_of X G z16
    · exact PySem.W.mg_none_of X G z17
    · exact PySem.W.mg_none_of X G z18
  have hcs : ∀ q ∈ cs, CsOk lw.prog w ⟨K, ctOf [C0, C1, C2]⟩ mg q := by
    intro q hq
    simp only [cs, List.mem_cons, List.not_mem_nil, or_false] at hq
    rcases hq with rfl | rfl | rfl | rfl | rfl | rfl | rfl | rfl | rfl | rfl
    · exact ⟨fun d e => (by cases e; exact ⟨_, .str (strV [97, 98, 99, 100, 101, 102, 103, 104, 105, 106, 107, 108, 109, 110, 111, 112, 113, 114, 115, 116, 117, 118, 119, 120, 121, 122]), PySem.W.mg_of X G n_LETTERS, ⟨t_LETTERS, by kernel_rfl⟩, str_k (by decide)⟩), fun ks vs e => (by cases e)⟩
    · exact ⟨fun d e => (by cases e; exact ⟨_, .str (strV [48, 49, 50, 51, 52, 53, 54, 55, 56, 57]), PySem.W.mg_of X G n_FIGURES, ⟨t_FIGURES, by kernel_rfl⟩, str_k (by decide)⟩), fun ks vs e => (by cases e)⟩
    · exact ⟨fun d e => (by cases e; exact ⟨_, .str (strV [40, 41, 44, 43, 45, 42, 61]), PySem.W.mg_of X G n_SINGLES, ⟨t_SINGLES, by kernel_rfl⟩, str_k (by decide)⟩), fun ks vs e => (by cases e)⟩
    · exact ⟨fun d e => (by cases e; exact ⟨_, .int 2000, PySem.W.mg_of X G n_MOST_SIGNS, ⟨t_MOST_SIGNS, rfl⟩, fun G => by simp only [Rep]⟩), fun ks vs e => (by cases e)⟩
    · exact ⟨fun d e => (by cases e; exact ⟨_, .int 60, PySem.W.mg_of X G n_MOST_FIGURES, ⟨t_MOST_FIGURES, rfl⟩, fun G => by simp only [Rep]⟩), fun ks vs e => (by cases e)⟩
    · exact ⟨fun d e => (by cases e; exact ⟨_, .int 16, PySem.W.mg_of X G n_MOST_OPENED, ⟨t_MOST_OPENED, rfl⟩, fun G => by simp only [Rep]⟩), fun ks vs e => (by cases e)⟩
    · exact ⟨fun d e => (by cases e), fun ks vs e => (by cases e)⟩
    · exact ⟨fun d e => (by cases e), fun ks vs e => (by cases e)⟩
    · exact ⟨fun d e => (by cases e), fun ks vs e => (by cases e)⟩
    · exact ⟨fun d e => (by cases e), fun ks vs e => (by cases e)⟩
  obtain ⟨hgv, hgd⟩ := cs_all (ds := ds) hcs
  have hno : NoFn cs := by
    intro q hq i np
    simp only [cs, List.mem_cons, List.not_mem_nil, or_false] at hq
    rcases hq with rfl | rfl | rfl | rfl | rfl | rfl | rfl | rfl | rfl | rfl <;> simp
  have only : ∀ c c', prg.sub c c' = true → (c = 1 ∧ c' = 0) ∨ (c = 1 ∧ c' = 1) ∨ (c = 2 ∧ c' = 0) ∨ (c = 2 ∧ c' = 2) := by
    intro c c' e
    have e : sub c c' = true := e
    unfold sub at e
    split at e <;> simp_all
  have xf : XFacts K mg ⟨K, ctOf [C0, C1, C2]⟩ prg.sub (clOf (glOf 0 ds ++ cs)) := by
    refine ⟨cl_all (P := fun x c => mg x = some (.ref (ctOf [C0, C1, C2] c)) ∧ ∃ bm, xIn K (ctOf [C0, C1, C2] c) = some bm) fun q hq c e => ?_, fun c e => ?_, fun x c c' e es => ?_, fun x c c' e es => ?_⟩
    · simp only [cs, List.mem_cons, List.not_mem_nil, or_false] at hq
      rcases hq with rfl | rfl | rfl | rfl | rfl | rfl | rfl | rfl | rfl | rfl
      · cases e
      · cases e
      · cases e
      · cases e
      · cases e
      · cases e
      · cases e
      · cases e; exact ⟨PySem.W.mg_of X G nC0, Option.isSome_iff_exists.mp xC0⟩
      · cases e; exact ⟨PySem.W.mg_of X G nC1, Option.isSome_iff_exists.mp xC1⟩
      · cases e; exact ⟨PySem.W.mg_of X G nC2, Option.isSome_iff_exists.mp xC2⟩
    · rcases only c c e with ⟨rfl, z⟩ | ⟨rfl, z⟩ | ⟨rfl, z⟩ | ⟨rfl, z⟩
      · cases z
      · exact ⟨⟨g1_1, g2_1, g3_1, g4_1, g5_1, g6_1⟩, g7_1⟩
      · cases z
      · exact ⟨⟨g1_2, g2_2, g3_2, g4_2, g5_2, g6_2⟩, g7_2⟩
    · rcases only c c es with ⟨rfl, z⟩ | ⟨rfl, z⟩ | ⟨rfl, z⟩ | ⟨rfl, z⟩
      · cases z
      · clear z; revert x c' e; refine cl_all fun q hq c e => ?_
        simp only [cs, List.mem_cons, List.not_mem_nil, or_false] at hq
        rcases hq with rfl | rfl | rfl | rfl | rfl | rfl | rfl | rfl | rfl | rfl
        · cases e
        · cases e
        · cases e
        · cases e
        · cases e
        · cases e
        · cases e
        · cases e; exact p1_0
        · cases e; exact p1_1
        · cases e; exact p1_2
      · cases z
      · clear z; revert x c' e; refine cl_all fun q hq c e => ?_
        simp only [cs, List.mem_cons, List.not_mem_nil, or_false] at hq
        rcases hq with rfl | rfl | rfl | rfl | rfl | rfl | rfl | rfl | rfl | rfl
        · cases e
        · cases e
        · cases e
        · cases e
        · cases e
        · cases e
        · cases e
        · cases e; exact p2_0
        · cases e; exact p2_1
        · cases e; exact p2_2
    · rcases only c c' es with ⟨rfl, rfl⟩ | ⟨rfl, rfl⟩ | ⟨rfl, rfl⟩ | ⟨rfl, rfl⟩
      · exact any_ex h1_0
      · exact any_ex h1_1
      · exact any_ex h2_0
      · exact any_ex h2_2
  refine ⟨PySem.W.fnOf "law" "law" (defArgs (top 25)) (defBody (top 25)) (defScope (top 25)) .none kV13 dc13 pm13 an13 cd13 ct13, ctOf [C0, C1, C2], fun s v => .of_eq rfl, fun base w0 => ?_⟩
  exact Z.ok0 (fn_step (d := d13) (i := 13) (n := 4) (W := ⟨K, ctOf [C0, C1, C2]⟩) rfl (fun_mk (st := top 25) l13 c13 k13) ok13 rfl (fns_all (W := ⟨K, ctOf [C0, C1, C2]⟩) (p := prg) (ds := ds) (cs := cs) (K := K) hno rfl rfl oks hat hgb hgv hgd xf 4) hgb hgv hgd xf)
end K09
open PySem PySem.W PyProof.Rows
set_option maxRecDepth 100000 in
set_option maxHeartbeats 0 in
theorem PySem.Challenge.cw_sumlaw_k09_pieces_holds : PySem.Challenge.rw_sumlaw_k09_pieces.Holds := by
  w_on; o_law; k_head; (case hw => w_witness2)
  k_fill
  refine Z.walkZ (l := PySem.Challenge.rw_sumlaw_k09_pieces) (p := P09.prg) (n := 4 + 1) (i := 13) (x := "_law_script") rfl rfl ⟨rfl, by decide, by decide⟩ (fun w h Y => PySem.W.kIn_of Y) ?F P09.pure
  case F =>
    intro w mg fa h KX G hmg
    refine' K09.all_mk KX G hmg ?n0 ?l0 ?c0 ?k0 ?n1 ?l1 ?c1 ?k1 ?n2 ?l2 ?c2 ?k2 ?n3 ?l3 ?c3 ?k3 ?n4 ?l4 ?c4 ?k4 ?n5 ?l5 ?c5 ?k5 ?n6 ?l6 ?c6 ?k6 ?n7 ?l7 ?c7 ?k7 ?n8 ?l8 ?c8 ?k8 ?n9 ?l9 ?c9 ?k9 ?n10 ?l10 ?c10 ?k10 ?n11 ?l11 ?c11 ?k11 ?n12 ?l12 ?c12 ?k12 ?n13 ?l13 ?c13 ?k13 ?n_LETTERS ?n_FIGURES ?n_SINGLES ?n_MOST_SIGNS ?n_MOST_FIGURES ?n_MOST_OPENED ?nC0 ?nC1 ?nC2 ?xC0 ?xC1 ?xC2 ?g1_1 ?g2_1 ?g3_1 ?g4_1 ?g5_1 ?g6_1 ?g7_1 ?p1_0 ?h1_0 ?p1_1 ?h1_1 ?p1_2 ?g1_2 ?g2_2 ?g3_2 ?g4_2 ?g5_2 ?g6_2 ?g7_2 ?p2_0 ?h2_0 ?p2_1 ?p2_2 ?h2_2 ?z0 ?z1 ?z2 ?z3 ?z4 ?z5 ?z6 ?z7 ?z8 ?z9 ?z10 ?z11 ?z12 ?z13 ?z14 ?z15 ?z16 ?z17 ?z18
    (case n0 => k_is)
    (case l0 => k_is)
    (case c0 => k_is)
    (case k0 => k_is)
    (case n1 => k_is)
    (case l1 => k_is)
    (case c1 => k_is)
    (case k1 => k_is)
    (case n2 => k_is)
    (case l2 => k_is)
    (case c2 => k_is)
    (case k2 => k_is)
    (case n3 => k_is)
    (case l3 => k_is)
    (case c3 => k_is)
    (case k3 => k_is)
    (case n4 => k_is)
    (case l4 => k_is)
    (case c4 => k_is)
    (case k4 => k_is)
    (case n5 => k_is)
    (case l5 => k_is)
    (case c5 => k_is)
    (case k5 => k_is)
    (case n6 => k_is)
    (case l6 => k_is)
    (case c6 => k_is)
    (case k6 => k_is)
    (case n7 => k_is)
    (case l7 => k_is)
    (case c7 => k_is)
    (case k7 => k_is)
    (case n8 => k_is)
    (case l8 => k_is)
    (case c8 => k_is)
    (case k8 => k_is)
    (case n9 => k_is)
    (case l9 => k_is)
    (case c9 => k_is)
    (case k9 => k_is)
    (case n10 => k_is)
    (case l10 => k_is)
    (case c10 => k_is)
    (case k10 => k_is)
    (case n11 => k_is)
    (case l11 => k_is)
    (case c11 => k_is)
    (case k11 => k_is)
    (case n12 => k_is)
    (case l12 => k_is)
    (case c12 => k_is)
    (case k12 => k_is)
    (case n13 => k_is)
    (case l13 => k_is)
    (case c13 => k_is)
    (case k13 => k_is)
    (case n_LETTERS => k_is)
    (case n_FIGURES => k_is)
    (case n_SINGLES => k_is)
    (case n_MOST_SIGNS => k_is)
    (case n_MOST_FIGURES => k_is)
    (case n_MOST_OPENED => k_is)
    (case nC0 => k_is)
    (case nC1 => k_is)
    (case nC2 => k_is)
    (case z0 => k_is)
    (case z1 => k_is)
    (case z2 => k_is)
    (case z3 => k_is)
    (case z4 => k_is)
    (case z5 => k_is)
    (case z6 => k_is)
    (case z7 => k_is)
    (case z8 => k_is)
    (case z9 => k_is)
    (case z10 => k_is)
    (case z11 => k_is)
    (case z12 => k_is)
    (case z13 => k_is)
    (case z14 => k_is)
    (case z15 => k_is)
    (case z16 => k_is)
    (case z17 => k_is)
    (case z18 => k_is)
    (case xC0 => kernel_rfl)
    (case xC1 => kernel_rfl)
    (case xC2 => kernel_rfl)
    (case g1_1 => kernel_rfl)
    (case g2_1 => kernel_rfl)
    (case g3_1 => kernel_rfl)
    (case g4_1 => kernel_rfl)
    (case g5_1 => kernel_rfl)
    (case g6_1 => kernel_rfl)
    (case g7_1 => kernel_rfl)
    (case p1_0 => kernel_rfl)
    (case h1_0 => kernel_rfl)
    (case p1_1 => kernel_rfl)
    (case h1_1 => kernel_rfl)
    (case p1_2 => kernel_rfl)
    (case g1_2 => kernel_rfl)
    (case g2_2 => kernel_rfl)
    (case g3_2 => kernel_rfl)
    (case g4_2 => kernel_rfl)
    (case g5_2 => kernel_rfl)
    (case g6_2 => kernel_rfl)
    (case g7_2 => kernel_rfl)
    (case p2_0 => kernel_rfl)
    (case h2_0 => kernel_rfl)
    (case p2_1 => kernel_rfl)
    (case p2_2 => kernel_rfl)
    (case h2_2 => kernel_rfl)

