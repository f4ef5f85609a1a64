import PyProof.Rows.All
import Wide.All
import OpenK.AllK
import Wide.FinOn
import Lean
import PyProof.EqAt
import PyProof.EqKinds
import PyProof.TupleCall
import PySem.Challenge.RW_talkcourt_k11_parts
set_option Elab.async false
set_option linter.all false
set_option maxRecDepth 100000
namespace L2
open PySem PySem.Spec PyProof.Rows
noncomputable abbrev Key := Sum Int Str
noncomputable def keyIs : Key → Value → Bool
 | .inl k, v => Value.isInt k v
 | .inr x, v => Value.isStrOf x v
noncomputable def keyH (w : World) : Key → Int
 | .inl k => hashInt k
 | .inr x => hashStr w x
theorem keyIs_shape : ∀ {k : Key} {v : Value}, keyIs k v = true → (∃ i t, k = Sum.inl i ∧ v = Value.int i t) ∨ (∃ x t, k = Sum.inr x ∧ v = Value.str x t)
 | .inl i, v, h => by
  obtain ⟨t, e⟩ := Value.isInt_shape (k := i) (v := v) h
  exact .inl ⟨i, t, rfl, e⟩
 | .inr x, v, h => by
  obtain ⟨t, e⟩ := Value.isStrOf_shape (x := x) (v := v) h
  exact .inr ⟨x, t, rfl, e⟩
theorem keyIs_int (i : Int) (t : Tok) : keyIs (.inl i) (.int i t) = true := by simp [keyIs, Value.isInt]
theorem keyIs_str (x : Str) (t : Tok) : keyIs (.inr x) (.str x t) = true := by simp [keyIs, Value.isStrOf]
theorem key_ll (a b : Int) : decide ((Sum.inl a : Key) = Sum.inl b) = (a == b) := by
 by_cases e : a = b
 ·subst e; simp
 ·have h : ¬ (Sum.inl a : Key) = Sum.inl b := fun q => e (Sum.inl.inj q)
  rw [decide_eq_false h]
  exact (beq_eq_false_iff_ne.mpr e).symm
theorem key_rr (a b : Str) : decide ((Sum.inr a : Key) = Sum.inr b) = decide (a = b) := by
 by_cases e : a = b
 ·subst e; simp
 ·have h : ¬ (Sum.inr a : Key) = Sum.inr b := fun q => e (Sum.inr.inj q)
  rw [decide_eq_false h, decide_eq_false e]
theorem key_lr (a : Int) (b : Str) : decide ((Sum.inl a : Key) = Sum.inr b) = false := decide_eq_false (fun q => nomatch q)
theorem key_rl (a : Str) (b : Int) : decide ((Sum.inr a : Key) = Sum.inl b) = false := decide_eq_false (fun q => nomatch q)
noncomputable def mixKind (prog : Program) (w : World) : PySem.KeyKind prog w Key where
 is := keyIs
 hash := keyH w
 inj := fun v a b ha hb => by
  rcases keyIs_shape ha with ⟨i, t, rfl, rfl⟩ | ⟨x, t, rfl, rfl⟩
  ·rcases keyIs_shape hb with ⟨j, u, rfl, e⟩ | ⟨y, u, rfl, e⟩
   ·injection e with e1 _; rw [e1]
   ·exact nomatch e
  ·rcases keyIs_shape hb with ⟨j, u, rfl, e⟩ | ⟨y, u, rfl, e⟩
   ·exact nomatch e
   ·injection e with e1 _; rw [e1]
 byValue := fun k v h => by
  rcases keyIs_shape h with ⟨i, t, rfl, rfl⟩ | ⟨x, t, rfl, rfl⟩ <;> rfl
 pyHash := fun hv h => by
  rcases keyIs_shape hv with ⟨i, t, rfl, rfl⟩ | ⟨x, t, rfl, rfl⟩
  ·exact wpAny_pyHash_int h
  ·exact wpAny_pyHash_str h
 eqBool := fun hu hv h => by
  rcases keyIs_shape hu with ⟨i, t, rfl, rfl⟩ | ⟨x, t, rfl, rfl⟩
  ·rcases keyIs_shape hv with ⟨j, u, rfl, rfl⟩ | ⟨y, u, rfl, rfl⟩
   ·rw [key_ll] at h; exact wpAny_eqBool_int h
   ·rw [key_lr] at h; exact SeqAt.EqAt.int_str i t y u _ _ _ _ h
  ·rcases keyIs_shape hv with ⟨j, u, rfl, rfl⟩ | ⟨y, u, rfl, rfl⟩
   ·rw [key_rl] at h; exact SeqAt.EqAt.str_int x t j u _ _ _ _ h
   ·rw [key_rr] at h; exact wpAny_eqBool_str h
 «strs» := fun k x t v h => by
  rcases keyIs_shape h with ⟨i, u, rfl, e⟩ | ⟨y, u, rfl, e⟩
  ·exact nomatch e
  ·injection e with e1 _
   subst e1
   cases v <;> rfl
theorem mixKind_int (prog : Program) (w : World) (i : Int) (t : Tok) : (mixKind prog w).is (.inl i) (.int i t) = true := keyIs_int i t
theorem mixKind_str (prog : Program) (w : World) (x : Str) (t : Tok) : (mixKind prog w).is (.inr x) (.str x t) = true := keyIs_str x t
end L2
namespace L2
open PySem PySem.Spec PyProof.Rows
inductive V where
 | non | bl (b : Bool) | int (i : Int) | str (x : Str) | byt (b : Array UInt8) | flt (b : UInt64) | ref (a : Addr) | ty (n : String)
 deriving DecidableEq
noncomputable def RelV : V → Value → Prop
 | .non, u => u = Value.none
 | .bl b, u => u = Value.bool b
 | .int i, u => ∃ t, u = Value.int i t
 | .str x, u => ∃ t, u = Value.str x t
 | .byt b, u => ∃ t, u = Value.bytes b t
 | .flt b, u => ∃ t, u = Value.float b t
 | .ref a, u => u = Value.ref a
 | .ty n, u => u = Value.type n
noncomputable abbrev Vals : List V → List Value → Prop := Paired RelV
theorem Vals.length {xs : List V} {us : List Value} (r : Vals xs us) : xs.length = us.length := Paired.length r
theorem Vals.get : ∀ {xs : List V} {us : List Value} {i : Nat} {x : V}, Vals xs us → xs[i]? = some x → ∃ u, us[i]? = some u ∧ RelV x u
 | _, _, _, _, .nil, e => by simp at e
 | _, _, 0, _, .cons r _, e => by simp at e; subst e; exact ⟨_, rfl, r⟩
 | _, _, i + 1, x, .cons _ t, e => by
  obtain ⟨u, h1, h2⟩ := Vals.get (i := i) (x := x) t (by simpa using e)
  exact ⟨u, by simpa using h1, h2⟩
theorem Vals.set {x : V} {u : Value} (r : RelV x u) : ∀ {xs : List V} {us : List Value} (i : Nat), Vals xs us → Vals (xs.set i x) (us.set i u)
 | _, _, _, .nil => .nil
 | _, _, 0, .cons _ t => .cons r t
 | _, _, i + 1, .cons q t => .cons q (Vals.set r i t)
theorem Vals.append : ∀ {xs ys : List V} {us ws : List Value}, Vals xs us → Vals ys ws → Vals (xs ++ ys) (us ++ ws)
 | _, _, _, _, .nil, s => s
 | _, _, _, _, .cons r t, s => .cons r (Vals.append t s)
theorem Vals.take : ∀ {xs : List V} {us : List Value} (n : Nat), Vals xs us → Vals (xs.take n) (us.take n)
 | _, _, 0, _ => .nil
 | _, _, _ + 1, .nil => .nil
 | _, _, n + 1, .cons r t => .cons r (Vals.take n t)
theorem Vals.drop : ∀ {xs : List V} {us : List Value} (n : Nat), Vals xs us → Vals (xs.drop n) (us.drop n)
 | _, _, 0, r => r
 | _, _, _ + 1, .nil => .nil
 | _, _, n + 1, .cons _ t => Vals.drop n t
noncomputable def RelO : Option V → Option Value → Prop
 | some v, some u => RelV v u
 | none, none => True
 | _, _ => False
noncomputable def KV {κ : Type} : List (κ × V) → List (κ × Value) → Prop := Paired fun (p : κ × V) (q : κ × Value) => p.1 = q.1 ∧ RelV p.2 q.2
noncomputable def kV : Key → V
 | .inl i => .int i
 | .inr x => .str x
inductive HO where
  | lst (xs : List V)
  | tup (xs : List V)
  | dK (kvs : List (Key × V)) | dT (kvs : List (List Key × V))
  | set (S : Int → Bool) (n : Nat)
  | ins (C dx : Addr) (fs : List (Str × V))
  | own (x : Addr)
  | xd (fs : List (Str × V))
  | met (f x : Addr)
  | rng (lo hi : Int)
  | frz (o : Obj) (u : HO)
  | tbl (ps : Array Value)
  | ext (φ : Heap → Prop)
noncomputable abbrev Hp := Addr → Option HO
noncomputable def upd (H : Hp) (a : Addr) (o : HO) : Hp := fun b => if b = a then some o else H b
theorem upd_same {H : Hp} {a : Addr} {o : HO} : upd H a o a = some o := by unfold upd; rw [if_pos rfl]
theorem upd_ne {H : Hp} {a b : Addr} {o : HO} (h : b ≠ a) : upd H a o b = H b := by unfold upd; rw [if_neg h]
theorem ne_of {H : Hp} {a b : Addr} {o u : HO} (h : H a = some o) (h' : H b = some u) (d : o ≠ u) : a ≠ b := by
 intro e; subst e; rw [h] at h'; exact d (Option.some.inj h')
theorem ne_of_none {H : Hp} {a b : Addr} {o : HO} (h : H a = some o) (h' : H b = none) : a ≠ b := by
 intro e; subst e; rw [h] at h'; cases h'
section
variable (P : Program) (w : World)
noncomputable def ObjOk (H : Hp) (h : Heap) (a : Addr) : HO → Prop
 | .lst xs => xs.length ≤ sizeLine ∧ ∃ (its : List Value) (n : Nat), Vals xs its ∧ h.get? a = some { cls := .type "list", data := .seq its.toArray n }
 | .tup xs => xs.length ≤ sizeLine ∧ ∃ its : List Value, Vals xs its ∧ IsTup h a its.toArray
 | .dK kvs => kvs.length ≤ sizeLine ∧ (a == sysModules) = false ∧ ∃ vs, KV kvs vs ∧ h.DictOf (mixKind P w) a vs
 | .dT kvs => kvs.length ≤ sizeLine ∧ (a == sysModules) = false ∧ ∃ xs : List (List Key × Addr × Value),
   Paired (fun (p : List Key × V) (q : List Key × Addr × Value) => p.1 = q.1 ∧ H q.2.1 = some (.tup (p.1.map kV)) ∧ RelV p.2 q.2.2) kvs xs ∧
   ∃ o es ep, h.get? a = some o ∧ o.ExactDict ∧ o.data = .dict es ep ∧ es.toList = xs.map (entryOfKey (tupleKind (mixKind P w))) ∧ (xs.map (·.1)).Nodup
 | .set S n => h.SetOf (intKind P w) a S n
 | .ins C dx fs => H dx = some (.own a) ∧ fs.length ≤ 1000 ∧ dx ≠ a ∧ h.get? a = some (PySem.W.instObj C dx) ∧
   ∃ mA, h.Ns1 dx mA ∧ (∀ f, RelO (fs.lookup f) (mA f)) ∧ PySem.Within mA (fs.map (·.1))
 | .own _ => ∃ o, h.get? a = some o
 | .xd fs => ∃ mA, h.Ns1 a mA ∧ ∀ f, RelO (fs.lookup f) (mA f)
 | .rng lo hi => ∃ t u v, h.get? a = some { cls := .type "range", data := .fields #[.int lo t, .int hi u, .int 1 v] }
 | .frz o u => h.get? a = some o ∧ ObjOk H h a u
 | .tbl ps => h.get? a = some { cls := .none, data := .fields ps }
 | .met f x => h.get? a = some (PySem.W.methodObj (.ref f) (.ref x))
 | .ext φ => φ h ∧ (∃ o, h.get? a = some o) ∧ ∀ h1 h2 : Heap, φ h1 → (∀ o, h1.get? a = some o → h2.get? a = some o) → φ h2
noncomputable def HOk (H : Hp) (h : Heap) : Prop := ∀ a o, H a = some o → ObjOk P w H h a o
end
section
variable {P : Program} {w : World} {H H' : Hp} {h h' : Heap} {a : Addr} {o : HO}
theorem ObjOk.lt (x : ObjOk P w H h a o) : a < h.objs.size := by
 cases o with
 | lst xs => obtain ⟨_, _, _, _, e⟩ := x; exact Heap.lt_size e
 | tup xs => obtain ⟨_, _, _, p⟩ := x; exact p.lt
 | dK kvs => obtain ⟨_, _, _, _, o, _, _, e, _⟩ := x; exact Heap.lt_size e
 | dT kvs => obtain ⟨_, _, _, _, o, _, _, e, _⟩ := x; exact Heap.lt_size e
 | set S n => obtain ⟨o, _, _, _, e, _⟩ := x; exact Heap.lt_size e
 | ins C dx fs => obtain ⟨_, _, _, e, _⟩ := x; exact Heap.lt_size e
 | own y => obtain ⟨_, e⟩ := x; exact Heap.lt_size e
 | xd fs => obtain ⟨_, ⟨_, _, _, e, _⟩, _⟩ := x; exact Heap.lt_size e
 | rng lo hi => obtain ⟨_, _, _, e⟩ := x; exact Heap.lt_size e
 | frz ob u => obtain ⟨e, _⟩ := x; exact Heap.lt_size e
 | tbl ps => exact Heap.lt_size (show h.get? a = some _ from x)
 | met f y => exact Heap.lt_size (show h.get? a = some _ from x)
 | ext φ => obtain ⟨_, ⟨_, e⟩, _⟩ := x; exact Heap.lt_size e
theorem Paired.mapP {α β : Type} {F G : α → β → Prop} : ∀ {l₁ : List α} {l₂ : List β}, Paired F l₁ l₂ → (∀ a b, F a b → G a b) → Paired G l₁ l₂
 | _, _, .nil, _ => .nil
 | _, _, .cons r t, f => .cons (f _ _ r) (Paired.mapP t f)
theorem ObjOk.stay (x : ObjOk P w H h a o) (k : ∀ b u, (b = a ∨ H b = some (.own a)) → h.get? b = some u → h'.get? b = some u)
  (ho : ∀ b, H b = some (.own a) → H' b = some (.own a)) (ht : ∀ b xs, H b = some (.tup xs) → H' b = some (.tup xs)) : ObjOk P w H' h' a o := by
 induction o with
 | lst xs => obtain ⟨z, its, n, r, e⟩ := x; exact ⟨z, its, n, r, k _ _ (.inl rfl) e⟩
 | tup xs => obtain ⟨z, its, r, ob, e, c⟩ := x; exact ⟨z, its, r, ob, k _ _ (.inl rfl) e, c⟩
 | dK kvs => obtain ⟨z, y, vs, r, ob, es, ep, e, c⟩ := x; exact ⟨z, y, vs, r, ob, es, ep, k _ _ (.inl rfl) e, c⟩
 | dT kvs =>
  obtain ⟨z, y, xs, r, ob, es, ep, e, c⟩ := x
  exact ⟨z, y, xs, Paired.mapP r fun p q z => ⟨z.1, ht _ _ z.2.1, z.2.2⟩, ob, es, ep, k _ _ (.inl rfl) e, c⟩
 | set S n => obtain ⟨ob, es, ep, t, e, c⟩ := x; exact ⟨ob, es, ep, t, k _ _ (.inl rfl) e, c⟩
 | ins C dx fs =>
  obtain ⟨d, z, ne, e, mA, ⟨od, es, ep, e2, c⟩, r⟩ := x
  exact ⟨ho _ d, z, ne, k _ _ (.inl rfl) e, mA, ⟨od, es, ep, k _ _ (.inr d) e2, c⟩, r⟩
 | own y => obtain ⟨ob, e⟩ := x; exact ⟨ob, k _ _ (.inl rfl) e⟩
 | xd fs => obtain ⟨mA, ⟨od, es, ep, e, c⟩, r⟩ := x; exact ⟨mA, ⟨od, es, ep, k _ _ (.inl rfl) e, c⟩, r⟩
 | rng lo hi => obtain ⟨t, u, v, e⟩ := x; exact ⟨t, u, v, k _ _ (.inl rfl) e⟩
 | frz ob u ih => obtain ⟨e, q⟩ := x; exact ⟨k _ _ (.inl rfl) e, ih q⟩
 | tbl ps =>
  have e : h.get? a = some { cls := .none, data := .fields ps } := x
  show h'.get? a = some { cls := .none, data := .fields ps }
  exact k a _ (.inl rfl) e
 | met f y =>
  have e : h.get? a = some (PySem.W.methodObj (.ref f) (.ref y)) := x
  show h'.get? a = some (PySem.W.methodObj (.ref f) (.ref y))
  exact k a _ (.inl rfl) e
 | ext φ => obtain ⟨p, ⟨o, e⟩, st⟩ := x; exact ⟨st _ _ p fun o q => k _ _ (.inl rfl) q, ⟨o, k _ _ (.inl rfl) e⟩, st⟩
theorem HOk.lt (x : HOk P w H h) (e : H a = some o) : a < h.objs.size := (x a o e).lt
theorem HOk.fresh (x : HOk P w H h) (e : h.objs.size ≤ a) : H a = none := by
 cases q : H a with
 | none => rfl
 | some u => exact absurd (Nat.lt_of_lt_of_le (x.lt q) e) (Nat.lt_irrefl _)
theorem HOk.kept (x : HOk P w H h) (k : ∀ b u, h.get? b = some u → h'.get? b = some u) : HOk P w H h' := fun a o e =>
 (x a o e).stay (fun b u _ q => k b u q) (fun _ q => q) fun _ _ q => q
theorem HOk.laid (x : HOk P w H h) (k : ∀ b u, h.get? b = some u → h'.get? b = some u) (hp : h.objs.size ≤ a) (new : ObjOk P w (upd H a o) h' a o) : HOk P w (upd H a o) h' := fun b u e => by
 have hn := x.fresh hp
 by_cases hb : b = a
 ·subst hb; rw [upd_same] at e; cases e; exact new
 ·rw [upd_ne hb] at e
  exact (x b u e).stay (fun c v _ q => k c v q) (fun c q => by rw [upd_ne (ne_of_none q hn)]; exact q) fun c xs q => by rw [upd_ne (ne_of_none q hn)]; exact q
end
noncomputable def Rd (H : Hp) (a : Addr) (u : HO) : Prop := H a = some u ∨ ∃ o, H a = some (.frz o u)
theorem Rd.ok {P : Program} {w : World} {H : Hp} {h : Heap} {a : Addr} {u : HO} (r : Rd H a u) (x : HOk P w H h) : ObjOk P w H h a u := by
 rcases r with r | ⟨o, r⟩
 ·exact x a u r
 ·obtain ⟨_, q⟩ := x a _ r
  exact q
noncomputable def Mut : Option HO → Prop
 | some (.lst _) => True
 | some (.dK _) => True
 | some (.dT _) => True
 | some (.set _ _) => True
 | some (.ins _ _ _) => True
 | some (.ext _) => True
 | _ => False
section
variable {P : Program} {w : World} {H : Hp} {h h' : Heap} {x e : Addr} {o' : HO}
theorem HOk.write (ok : HOk P w H h) (mu : Mut (H x)) (he : e = x ∨ H e = some (.own x)) (k : ∀ b u, b ≠ e → h.get? b = some u → h'.get? b = some u) (heo : ∃ u, h'.get? e = some u)
  (new : ObjOk P w (upd H x o') h' x o') : HOk P w (upd H x o') h' := fun b u q => by
 have nown : ∀ c y, H c = some (.own y) → c ≠ x := fun c y r z => by subst z; rw [r] at mu; exact mu
 have ntup : ∀ c xs, H c = some (.tup xs) → c ≠ x := fun c xs r z => by subst z; rw [r] at mu; exact mu
 by_cases hb : b = x
 ·subst hb; rw [upd_same] at q; cases q; exact new
 ·rw [upd_ne hb] at q
  by_cases hbe : b = e
  ·have q' : H b = some (.own x) := by
    rcases he with z | z
    ·exact absurd (hbe.trans z) hb
    ·rw [hbe]; exact z
   rw [q] at q'; cases q'
   obtain ⟨v, hv⟩ := heo
   exact ⟨v, by rw [hbe]; exact hv⟩
  ·refine (ok b u q).stay (fun c v hc r => k c v ?_ r) (fun c r => by rw [upd_ne (nown c b r)]; exact r) fun c xs r => by rw [upd_ne (ntup c xs r)]; exact r
   rcases hc with rfl | hc
   ·exact hbe
   ·rintro rfl
    rcases he with z | z
    ·exact nown c b hc z
    ·rw [hc] at z; cases z; exact hb rfl
end
structure Un (fs ex : List Addr) (H H' : Hp) (h h' : Heap) : Prop where
 keep : ∀ b o, h.get? b = some o → H b = none → b ∉ fs → b ∉ ex → h'.get? b = some o
 slot : ∀ b o, h.get? b = some o → H b = none → b ∈ fs → b ∉ ex → ∃ sl, h'.get? b = some { o with slots := sl }
 free : ∀ b o, h.get? b = some o → H b = none → b ∉ ex → H' b = none
 there : ∀ b o, h.get? b = some o → b ∉ ex → ∃ o', h'.get? b = some o'
 tups : ∀ b xs, H b = some (.tup xs) → H' b = some (.tup xs)
 frzs : ∀ b o u, H b = some (.frz o u) → H' b = some (.frz o u)
 tbls : ∀ b ps, H b = some (.tbl ps) → ∃ more, H' b = some (.tbl (ps ++ more))
section
variable {fs fs' ex ex' : List Addr} {H H1 H2 : Hp} {h h1 h2 h' : Heap} {a x e : Addr} {o : HO}
theorem Un.any (u : Un fs ex H H1 h h1) {b : Addr} {ob : Obj} (q : h.get? b = some ob) (n : H b = none) (hx : b ∉ ex) : ∃ sl, h1.get? b = some { ob with slots := sl } := by
 by_cases hb : b ∈ fs
 ·exact u.slot b ob q n hb hx
 ·exact ⟨ob.slots, u.keep b ob q n hb hx⟩
theorem Un.kept (k : ∀ b u, h.get? b = some u → h'.get? b = some u) : Un fs ex H H h h' :=
 ⟨fun b ob q _ _ _ => k b ob q, fun b ob q _ _ _ => ⟨ob.slots, k b ob q⟩, fun _ _ _ n _ => n, fun b ob q _ => ⟨ob, k b ob q⟩, fun _ _ q => q, fun _ _ _ q => q, fun _ ps q => ⟨#[], by rw [q]; simp⟩⟩
theorem Un.refl : Un fs ex H H h h := Un.kept fun _ _ q => q
theorem Un.laid (k : ∀ b u, h.get? b = some u → h'.get? b = some u) (hp : h.objs.size ≤ a) (hn : H a = none) : Un fs ex H (upd H a o) h h' where
 keep := fun b u q _ _ _ => k b u q
 slot := fun b u q _ _ _ => ⟨u.slots, k b u q⟩
 free := fun b u q n _ => by rw [upd_ne (Nat.ne_of_lt (Nat.lt_of_lt_of_le (Heap.lt_size q) hp))]; exact n
 there := fun b u q _ => ⟨u, k b u q⟩
 tups := fun b xs q => by rw [upd_ne (ne_of_none q hn)]; exact q
 frzs := fun b u xs q => by rw [upd_ne (ne_of_none q hn)]; exact q
 tbls := fun b ps q => ⟨#[], by rw [upd_ne (ne_of_none q hn), q]; simp⟩
theorem Un.write (mu : Mut (H x)) (he : e = x ∨ H e = some (.own x)) (k : ∀ b u, b ≠ e → h.get? b = some u → h'.get? b = some u) (heo : ∃ u, h'.get? e = some u) : Un fs ex H (upd H x o) h h' := by
 have hx : ∀ b, H b = none → b ≠ x := fun b n z => by subst z; rw [n] at mu; exact mu
 have hb : ∀ b, H b = none → b ≠ e := fun b n z => by
  subst z
  rcases he with r | r
  ·exact hx b n r
  ·rw [n] at r; cases r
 have hm : ∀ b u, H b = some u → ¬ Mut (some u) → b ≠ x := fun b u q nm z => by subst z; rw [q] at mu; exact nm mu
 refine ⟨fun b u q n _ _ => k b u (hb b n) q, fun b u q n _ _ => ⟨u.slots, k b u (hb b n) q⟩, fun b u q n _ => by rw [upd_ne (hx b n)]; exact n, fun b u q _ => ?_,
  fun b xs q => by rw [upd_ne (hm b _ q fun z => z)]; exact q, fun b u xs q => by rw [upd_ne (hm b _ q fun z => z)]; exact q, fun b ps q => ⟨#[], by rw [upd_ne (hm b _ q fun z => z), q]; simp⟩⟩
 by_cases hbe : b = e
 ·subst hbe; exact heo
 ·exact ⟨u, k b u hbe q⟩
end
noncomputable def trk (h : Heap) (H : Hp) : List Addr := (List.range h.objs.size).filter fun a => (H a).isSome
noncomputable def hidT (h : Heap) (H : Hp) : Heap := PySem.W.hideAll h (trk h H)
theorem hidT_size (h : Heap) (H : Hp) : (hidT h H).objs.size = h.objs.size := PySem.W.hideAll_size _ _
theorem hidT_get {h : Heap} {H : Hp} {b : Addr} {o : Obj} (e : h.get? b = some o) (n : H b = none) : (hidT h H).get? b = some o :=
 PySem.W.hideAll_get _ e fun hm => by
  have q : (H b).isSome = true := (List.mem_filter.mp hm).2
  rw [n] at q; simp at q
theorem of_hidT {h : Heap} {H : Hp} {b : Addr} {o : Obj} (e : (hidT h H).get? b = some o) : h.get? b = some o ∧ H b = none := by
 have e' : h.get? b = some o := PySem.W.of_hideAll (trk h H) e
 refine ⟨e', ?_⟩
 cases q : H b with
 | none => rfl
 | some x =>
  have hm : b ∈ trk h H := List.mem_filter.mpr ⟨List.mem_range.mpr (Heap.lt_size e'), by simp [q]⟩
  have z : (hidT h H).get? b = none := PySem.W.hideAll_none (trk h H) hm
  rw [z] at e; cases e
noncomputable def allNews (g h : Heap) (L : Addr) : List (Addr × Obj) := (List.range h.objs.size).filterMap fun a => if a = L ∨ (g.get? a).isSome = true then none else (h.get? a).map fun o => (a, o)
noncomputable def rest (g h : Heap) (L d : Addr) : List (Addr × Obj) := (allNews g h L).filter fun p => decide (p.1 ≠ d)
end L2
namespace L2
open PySem PySem.Spec PyProof.Rows
structure Mod (K : PySem.W.Frag) (mg : Str → Option Value) (base : Heap) : Prop where
 kin : K.In base
 glob : base.Ns mainGlobals mg
 blt : ∃ mb, base.Ns builtinsNs mb ∧ ∀ x : Str, x ≠ "__name__" → mb x = bootBuiltins x
 nolimit : base.NoLimit
structure Cx where
 prog : Program
 w : World
 K : PySem.W.Frag
 mg : Str → Option Value
 base : Heap
 A : Around
 N : List Str
 s₀ : Shared
 H₀ : Hp
 env : Env
 outer : List Env
 stack : List Env
 ex : List Addr
 fn : Str → Bool
 calm : Bool
 pn : List (Addr × Obj)
 xe : Value → Shared → Prop
noncomputable def frs (l : List Env) : List Addr := l.filterMap (·.frame)
noncomputable abbrev Cx.fs (X : Cx) : List Addr := frs X.outer
noncomputable def Vis (sc : Scope) (x : Str) : Prop := sc.names.lookup x = some .local ∨ sc.names.lookup x = some .cell ∨ sc.names.lookup x = some .free
noncomputable def Loc (sc : Scope) (x : Str) : Prop := sc.names.lookup x = some .local ∨ sc.names.lookup x = some .cell
noncomputable def Look (env : Env) (h : Heap) (m : Str → Option Value) (x : Str) (u : Value) : Prop :=
 (env.kindOf x = some .local ∧ m x = some u) ∨ ((env.kindOf x = some .cell ∨ env.kindOf x = some .free) ∧ ∃ c, env.cells.lookup x = some c ∧ h.IsCell c (some u))
structure Cx.Ok (X : Cx) : Prop where
 mod : Mod X.K X.mg X.base
 kind : X.env.scope.kind = .function
 glob : X.env.globals = mainGlobals
 blt : X.env.builtins = builtinsNs
 above : X.s₀.heap.objs.size ≤ X.env.locals
 inj : ∀ x y c, X.env.cells.lookup x = some c → X.env.cells.lookup y = some c → x = y
 has : ∀ x, (X.env.kindOf x = some .cell ∨ X.env.kindOf x = some .free) → ∃ c, X.env.cells.lookup x = some c
 cab : ∀ x c, X.fn x = true → X.env.cells.lookup x = some c → X.s₀.heap.objs.size ≤ c
 hd : X.calm = true → X.A.handled = none
 frames : X.A.frames = some X.stack
 stk : X.stack = X.outer ∨ (X.stack = X.env :: X.outer ∧ X.env.frame = some X.env.locals)
 exf : ∀ b ∈ X.ex, b ≠ X.env.locals ∧ ∀ x c, X.env.cells.lookup x = some c → c ≠ b
 bs : ∀ b o, X.base.get? b = some o → X.s₀.heap.get? b = some o ∧ X.H₀ b = none
 bsz : X.base.objs.size ≤ X.s₀.heap.objs.size
 noex : ∀ b o, X.base.get? b = some o → b ∉ X.ex
 exfs : ∀ b ∈ X.ex, b ∉ X.fs
 funs : X.s₀.heap.FunFrames X.base X.outer
 frf : ∀ b ∈ X.fs, X.H₀ b = none
structure Inv (X : Cx) (pins : List (Addr × Obj)) (σ : List (Option V)) (H : Hp) (s : Shared) : Prop where
 ok : X.Ok
 os : s.os = X.s₀.os
 bare : AllBare s.gens
 base : Un X.fs X.ex X.H₀ H X.s₀.heap s.heap
 loc : ∃ m, s.heap.Ns X.env.locals m ∧ ∀ (i : Nat) (x : Str) (v : V), X.N[i]? = some x → σ[i]? = some (some v) → Vis X.env.scope x → ∃ u, RelV v u ∧ Look X.env s.heap m x u
 cell : ∀ x c, X.env.cells.lookup x = some c → ∃ v, s.heap.IsCell c v
 free : H X.env.locals = none
 freeC : ∀ x c, X.env.cells.lookup x = some c → H c = none
 pin : ∀ p ∈ X.pn ++ pins, s.heap.get? p.1 = some p.2 ∧ H p.1 = none ∧ p.1 ≠ X.env.locals ∧ p.1 ∉ X.fs ∧ ∀ v, p.2.data ≠ .cell v
 hok : HOk X.prog X.w H s.heap
 len : σ.length = X.N.length
section
variable {X : Cx} {pins : List (Addr × Obj)} {σ : List (Option V)} {H H' : Hp} {s : Shared} {h' : Heap}
theorem Cx.Ok.nofr (ok : X.Ok) {b : Addr} {o : Obj} (e : X.base.get? b = some o) : b ∉ X.fs := fun hb => by
 have := (ok.funs.mem hb).1
 rw [e] at this; cases this
theorem Inv.bs (I : Inv X pins σ H s) : ∀ b o, X.base.get? b = some o → s.heap.get? b = some o ∧ H b = none := fun b o e =>
 ⟨I.base.keep b o (I.ok.bs b o e).1 (I.ok.bs b o e).2 (I.ok.nofr e) (I.ok.noex b o e), I.base.free b o (I.ok.bs b o e).1 (I.ok.bs b o e).2 (I.ok.noex b o e)⟩
theorem Inv.bk (I : Inv X pins σ H s) : ∀ b o, X.base.get? b = some o → s.heap.get? b = some o := fun b o e => (I.bs b o e).1
theorem Inv.mod (I : Inv X pins σ H s) : Mod X.K X.mg X.base := I.ok.mod
theorem Inv.kIn (I : Inv X pins σ H s) : X.K.In s.heap := I.ok.mod.kin.keeps I.bk
theorem Inv.lt (I : Inv X pins σ H s) : X.env.locals < s.heap.objs.size := let ⟨_, hn, _⟩ := I.loc; hn.lt
theorem Inv.sz (I : Inv X pins σ H s) : X.s₀.heap.objs.size ≤ s.heap.objs.size := Nat.le_trans I.ok.above (Nat.le_of_lt I.lt)
theorem Inv.nofs (I : Inv X pins σ H s) {a : Addr} (h : s.heap.objs.size ≤ a) : a ∉ X.fs := fun hb => by
 obtain ⟨_, o, ho, _⟩ := I.ok.funs.mem hb
 exact absurd (Nat.lt_of_lt_of_le (Heap.lt_size ho) (Nat.le_trans I.sz h)) (Nat.lt_irrefl _)
theorem Inv.cne (I : Inv X pins σ H s) : ∀ x c, X.env.cells.lookup x = some c → c ≠ X.env.locals := fun x c e z => by
 obtain ⟨v, o, ho, hd⟩ := I.cell x c e
 obtain ⟨m, ⟨o', es, ep, ho', hd', _⟩, _⟩ := I.loc
 rw [z, ho'] at ho; cases ho; rw [hd'] at hd; cases hd
theorem Inv.funs (I : Inv X pins σ H s) : s.heap.FunFrames X.base X.outer := by
 have all : ∀ (l : List Env), (∀ b ∈ frs l, b ∈ X.fs) → X.s₀.heap.FunFrames X.base l → s.heap.FunFrames X.base l := by
  intro l
  induction l with
  | nil => intro _ _; trivial
  | cons env r ih =>
   intro hs hl
   obtain ⟨hk, ⟨L, o, hf, hn, ho, hd⟩, hr⟩ := hl
   have hL : L ∈ X.fs := hs L (by unfold frs; rw [List.filterMap_cons, hf]; exact List.mem_cons_self)
   obtain ⟨sl, e⟩ := I.base.slot L o ho (I.ok.frf L hL) hL fun z => I.ok.exfs L z hL
   exact ⟨hk, ⟨L, _, hf, hn, e, hd⟩, ih (fun b hb => hs b (by unfold frs; rw [List.filterMap_cons, hf]; exact List.mem_cons_of_mem _ hb)) hr⟩
 exact all X.outer (fun _ hb => hb) I.ok.funs
theorem Inv.stack (I : Inv X pins σ H s) : s.heap.FunFrames X.base X.stack := by
 rcases I.ok.stk with e | ⟨e, hf⟩
 ·rw [e]; exact I.funs
 ·rw [e]
  obtain ⟨m, hn, _⟩ := I.loc
  refine .cons (by rw [I.ok.kind]; decide) hf hn ?_ I.funs
  exact Heap.get?_none_of_le (Nat.le_trans I.ok.bsz I.ok.above)
theorem Inv.stkSub (I : Inv X pins σ H s) : ∀ b ∈ frs X.stack, b ∈ X.env.locals :: X.fs := fun b hb => by
 rcases I.ok.stk with e | ⟨e, hf⟩
 ·rw [e] at hb; exact List.mem_cons_of_mem _ hb
 ·rw [e] at hb
  unfold frs at hb
  rw [List.filterMap_cons, hf] at hb
  exact hb
theorem Inv.stkFree (I : Inv X pins σ H s) : ∀ b ∈ frs X.stack, H b = none := fun b hb => by
 rcases List.mem_cons.mp (I.stkSub b hb) with e | hb
 ·rw [e]; exact I.free
 ·obtain ⟨_, o, ho, _⟩ := I.ok.funs.mem hb
  exact I.base.free b o ho (I.ok.frf b hb) fun z => I.ok.exfs b z hb
theorem Inv.step {g' : Array GenState} {t' : Nat} {d' : Drawn} {ch : List Addr} (I : Inv X pins σ H s)
  (hch : ∀ b ∈ ch, (b ∈ X.ex ∨ X.s₀.heap.objs.size ≤ b) ∧ b ≠ X.env.locals ∧ (∀ x c, X.env.cells.lookup x = some c → c ≠ b) ∧ ∀ p ∈ X.pn ++ pins, p.1 ≠ b)
  (keep : ∀ b o, b ≠ X.env.locals → b ∉ X.fs → b ∉ ch → s.heap.get? b = some o → H b = none → h'.get? b = some o)
  (slot : ∀ b o, b ≠ X.env.locals → b ∈ X.fs → b ∉ ch → s.heap.get? b = some o → H b = none → ∃ sl, h'.get? b = some { o with slots := sl }) (free : ∀ b o, b ∉ ch → s.heap.get? b = some o → H b = none → H' b = none)
  (there : ∀ b o, b ∉ ch → s.heap.get? b = some o → ∃ o', h'.get? b = some o')
  (tups : ∀ b xs, H b = some (.tup xs) → H' b = some (.tup xs)) (frzs : ∀ b o u, H b = some (.frz o u) → H' b = some (.frz o u)) (tbls : ∀ b ps, H b = some (.tbl ps) → ∃ more, H' b = some (.tbl (ps ++ more)))
  (ns : ∀ m, s.heap.Ns X.env.locals m → h'.Ns X.env.locals m) (hok : HOk X.prog X.w H' h') (hg : AllBare g') :
  Inv X pins σ H' { s with heap := h', gens := g', drawn := d', toks := t' } := by
 have neL : ∀ b o, X.s₀.heap.get? b = some o → b ≠ X.env.locals := fun b o e => Nat.ne_of_lt (Nat.lt_of_lt_of_le (Heap.lt_size e) I.ok.above)
 have neC : ∀ b o, X.s₀.heap.get? b = some o → b ∉ X.ex → b ∉ ch := fun b o e hx hb => by
  rcases (hch b hb).1 with z | z
  ·exact hx z
  ·exact absurd (Nat.lt_of_lt_of_le (Heap.lt_size e) z) (Nat.lt_irrefl _)
 have cellK : ∀ x c, X.env.cells.lookup x = some c → ∀ v, s.heap.IsCell c v → h'.IsCell c v := fun x c e v ⟨o, ho, hd⟩ => by
  have nch : c ∉ ch := fun z => (hch c z).2.2.1 x c e rfl
  by_cases hc : c ∈ X.fs
  ·obtain ⟨sl, q⟩ := slot c o (I.cne x c e) hc nch ho (I.freeC x c e)
   exact ⟨_, q, hd⟩
  ·exact ⟨o, keep c o (I.cne x c e) hc nch ho (I.freeC x c e), hd⟩
 refine ⟨I.ok, I.os, hg, ⟨fun b o e n hb hx => ?_, fun b o e n hb hx => ?_, fun b o e n hx => ?_, fun b o e hx => ?_, fun b xs e => tups b xs (I.base.tups b xs e), fun b o xs e => frzs b o xs (I.base.frzs b o xs e), fun b ps e => ?_⟩, ?_, fun x c e => ?_, ?_, fun x c e => ?_, fun p hp => ?_, hok, I.len⟩
 ·exact keep b o (neL b o e) hb (neC b o e hx) (I.base.keep b o e n hb hx) (I.base.free b o e n hx)
 ·obtain ⟨sl, e1⟩ := I.base.slot b o e n hb hx
  obtain ⟨sl', e2⟩ := slot b _ (neL b o e) hb (neC b o e hx) e1 (I.base.free b o e n hx)
  exact ⟨sl', e2⟩
 ·obtain ⟨o', e1⟩ := I.base.there b o e hx
  exact free b o' (neC b o e hx) e1 (I.base.free b o e n hx)
 ·obtain ⟨o', e1⟩ := I.base.there b o e hx
  exact there b o' (neC b o e hx) e1
 ·obtain ⟨m1, e1⟩ := I.base.tbls b ps e
  obtain ⟨m2, e2⟩ := tbls b _ e1
  exact ⟨m1 ++ m2, by rw [e2, Array.append_assoc]⟩
 ·obtain ⟨m, hn, hl⟩ := I.loc
  refine ⟨m, ns m hn, fun i x v e1 e2 e3 => ?_⟩
  obtain ⟨u, r, l⟩ := hl i x v e1 e2 e3
  refine ⟨u, r, ?_⟩
  rcases l with l | ⟨k, c, e, z⟩
  ·exact .inl l
  ·exact .inr ⟨k, c, e, cellK x c e _ z⟩
 ·obtain ⟨v, z⟩ := I.cell x c e
  exact ⟨v, cellK x c e v z⟩
 ·obtain ⟨m, ⟨o, _, _, ho, _⟩, _⟩ := I.loc
  exact free _ o (fun z => (hch _ z).2.1 rfl) ho I.free
 ·obtain ⟨v, o, ho, hd⟩ := I.cell x c e
  exact free c o (fun z => (hch c z).2.2.1 x c e rfl) ho (I.freeC x c e)
 ·obtain ⟨e, n, ne, nf, d⟩ := I.pin p hp
  have nch : p.1 ∉ ch := fun z => (hch p.1 z).2.2.2 p hp rfl
  exact ⟨keep p.1 p.2 ne nf nch e n, free p.1 p.2 nch e n, ne, nf, d⟩
theorem Inv.un {t' : Nat} (I : Inv X pins σ H s) (u : Un X.fs [] H H' s.heap h') (hok : HOk X.prog X.w H' h') : Inv X pins σ H' { s with heap := h', toks := t' } := by
 obtain ⟨m, ⟨o, es, ep, ho, r⟩, _⟩ := id I.loc
 obtain ⟨sl, hL⟩ := u.any ho I.free (by simp)
 exact I.step (g' := s.gens) (d' := s.drawn) (ch := []) (fun _ z => nomatch z) (fun b o _ hb _ e n => u.keep b o e n hb (by simp)) (fun b o _ hb _ e n => u.slot b o e n hb (by simp)) (fun b o _ e n => u.free b o e n (by simp)) (fun b o _ e => u.there b o e (by simp)) u.tups u.frzs u.tbls (fun m' hm => by
  obtain ⟨o', es', ep', ho', r'⟩ := hm
  rw [ho] at ho'; cases ho'
  exact ⟨_, es', ep', hL, r'⟩) hok I.bare
theorem Inv.call {g' : Array GenState} {t' : Nat} {d' : Drawn} {ch : List Addr} (I : Inv X pins σ H s) (u : Un (frs X.stack) ch H H' s.heap h') (hok : HOk X.prog X.w H' h') (hg : AllBare g')
  (hch : ∀ b ∈ ch, (b ∈ X.ex ∨ X.s₀.heap.objs.size ≤ b) ∧ b ≠ X.env.locals ∧ (∀ x c, X.env.cells.lookup x = some c → c ≠ b) ∧ ∀ p ∈ X.pn ++ pins, p.1 ≠ b) :
  Inv X pins σ H' { s with heap := h', gens := g', drawn := d', toks := t' } := by
 obtain ⟨m, ⟨o, es, ep, ho, r⟩, _⟩ := id I.loc
 obtain ⟨sl, hL⟩ := u.any ho I.free fun z => (hch _ z).2.1 rfl
 exact I.step (ch := ch) hch (fun b o hL hb hc e n => u.keep b o e n (fun z => (List.mem_cons.mp (I.stkSub b z)).elim hL hb) hc) (fun b o _ _ hc e n => u.any e n hc) (fun b o hc e n => u.free b o e n hc) (fun b o hc e => u.there b o e hc) u.tups u.frzs u.tbls (fun m' hm => by
  obtain ⟨o', es', ep', ho', r'⟩ := hm
  rw [ho] at ho'; cases ho'
  exact ⟨_, es', ep', hL, r'⟩) hok hg
theorem Inv.turned {t' : Nat} {it : Addr} (I : Inv X pins σ H s) (k : ∀ b o, b ≠ it → s.heap.get? b = some o → h'.get? b = some o) (hn : H it = none) (hL : it ≠ X.env.locals)
  (h1 : it ∈ X.ex ∨ X.s₀.heap.objs.size ≤ it) (h2 : ∀ x c, X.env.cells.lookup x = some c → c ≠ it) (h3 : ∀ p ∈ X.pn ++ pins, p.1 ≠ it) : Inv X pins σ H { s with heap := h', toks := t' } := by
 have nit : ∀ b u, H b = some u → b ≠ it := fun b u e z => by rw [z, hn] at e; cases e
 refine I.step (g' := s.gens) (d' := s.drawn) (ch := [it]) (fun b hb => ?_) (fun b o _ _ hc e _ => k b o (fun z => hc (by simp [z])) e) (fun b o _ _ hc e _ => ⟨o.slots, k b o (fun z => hc (by simp [z])) e⟩) (fun _ _ _ _ n => n)
  (fun b o hc e => ⟨o, k b o (fun z => hc (by simp [z])) e⟩) (fun _ _ e => e) (fun _ _ _ e => e) (fun b ps e => ⟨#[], by rw [e]; simp⟩) (fun m hm => ?_) (fun b u e => ?_) I.bare
 ·have e : b = it := by simpa using hb
  subst e
  exact ⟨h1, hL, h2, h3⟩
 ·obtain ⟨o, es, ep, ho, r⟩ := hm
  exact ⟨o, es, ep, k _ o (Ne.symm hL) ho, r⟩
 ·refine (I.hok b u e).stay (fun c v hc q => k c v ?_ q) (fun _ q => q) fun _ _ q => q
  rcases hc with z | z
  ·rw [z]; exact nit b u e
  ·exact nit c _ z
theorem Inv.tok (I : Inv X pins σ H s) (t : Nat) : Inv X pins σ H { s with toks := t } := I.un (h' := s.heap) (t' := t) Un.refl I.hok
theorem Inv.kept {t' : Nat} (I : Inv X pins σ H s) (k : ∀ b u, s.heap.get? b = some u → h'.get? b = some u) : Inv X pins σ H { s with heap := h', toks := t' } := I.un (Un.kept k) (I.hok.kept k)
theorem Inv.laid {a : Addr} {o : HO} {t' : Nat} (I : Inv X pins σ H s) (k : ∀ b u, s.heap.get? b = some u → h'.get? b = some u) (hp : s.heap.objs.size ≤ a) (new : ObjOk X.prog X.w (upd H a o) h' a o) :
  Inv X pins σ (upd H a o) { s with heap := h', toks := t' } := I.un (Un.laid k hp (I.hok.fresh hp)) (I.hok.laid k hp new)
theorem Inv.write {x e : Addr} {o : HO} {t' : Nat} (I : Inv X pins σ H s) (mu : Mut (H x)) (he : e = x ∨ H e = some (.own x)) (k : ∀ b u, b ≠ e → s.heap.get? b = some u → h'.get? b = some u) (heo : ∃ u, h'.get? e = some u)
  (new : ObjOk X.prog X.w (upd H x o) h' x o) : Inv X pins σ (upd H x o) { s with heap := h', toks := t' } := I.un (Un.write mu he k heo) (I.hok.write mu he k heo new)
theorem Inv.pins_of {pins' : List (Addr × Obj)} (I : Inv X pins σ H s) (h : ∀ p ∈ pins', s.heap.get? p.1 = some p.2 ∧ H p.1 = none ∧ p.1 ≠ X.env.locals ∧ p.1 ∉ X.fs ∧ ∀ v, p.2.data ≠ .cell v) : Inv X pins' σ H s :=
 ⟨I.ok, I.os, I.bare, I.base, I.loc, I.cell, I.free, I.freeC, fun p hp => (List.mem_append.mp hp).elim (fun z => I.pin p (List.mem_append_left _ z)) (h p), I.hok, I.len⟩
theorem nodup_ix {N : List Str} (hN : N.Nodup) {i j : Nat} {x : Str} (a : N[i]? = some x) (b : N[j]? = some x) : i = j := by
 obtain ⟨h1, e1⟩ := List.getElem?_eq_some_iff.mp a
 obtain ⟨h2, e2⟩ := List.getElem?_eq_some_iff.mp b
 exact (List.getElem_inj hN).mp (e1.trans e2.symm)
theorem store_ok2 {M : Model} {A : Around} {E : Value → Shared → Prop} {i : Nat} {x : Str} {v : V} {u : Value} {Q : Unit → Shared → Prop} (I : Inv X pins σ H s) (hN : X.N.Nodup) (hi : X.N[i]? = some x) (hx : Loc X.env.scope x) (r : RelV v u)
  (h : ∀ s', Inv X pins (σ.set i (some v)) H s' → (∃ a, Heap.SameBut a s.heap s'.heap ∧ (a = X.env.locals ∨ X.env.cells.lookup x = some a)) → Q () s') (hf : X.fn x = true ∨ X.env.scope.names.lookup x = some .local := by first | exact .inl rfl | exact .inr rfl | assumption) : wpAny M A (storeName X.env x u) Q E s := by
 obtain ⟨m, hn, hl⟩ := id I.loc
 have hcls : (X.env.scope.kind == .class || (X.env.scope.kind == .module && X.env.locals != X.env.globals)) = false := by rw [I.ok.kind]; rfl
 have hiσ : i < σ.length := by rw [I.len]; exact (List.getElem?_eq_some_iff.mp hi).1
 have cne := I.cne
 have tracked : ∀ {a : Addr} {h' : Heap}, (∃ o, s.heap.get? a = some o ∧ H a = none) → Heap.SameBut a s.heap h' → HOk X.prog X.w H h' := fun {a h'} ha hs b ob e => by
  obtain ⟨_, _, hfree⟩ := ha
  refine (I.hok b ob e).stay (fun c w' hc q => (hs.2 c ?_).trans q) (fun _ q => q) fun _ _ q => q
  rintro rfl
  rcases hc with rfl | hc
  ·rw [hfree] at e; cases e
  ·rw [hfree] at hc; cases hc
 rcases hx with hk | hk
 ·refine wpAny_storeName_local hk hn (fun h' hn' hs => ?_) hcls
  obtain ⟨oL, _, _, hoL, _⟩ := id hn
  refine h _ ⟨I.ok, I.os, I.bare, ⟨fun b o e n hb hx => ?_, fun b o e n hb hx => ?_, I.base.free, fun b o e hx => ?_, I.base.tups, I.base.frzs, I.base.tbls⟩, ⟨_, hn', fun j y v' e1 e2 e3 => ?_⟩, fun y c e => ?_, I.free, I.freeC, fun p hp => ?_, tracked ⟨oL, hoL, I.free⟩ hs, by simpa using I.len⟩ ⟨_, hs, .inl rfl⟩
  ·exact (hs.2 b (Nat.ne_of_lt (Nat.lt_of_lt_of_le (Heap.lt_size e) I.ok.above))).trans (I.base.keep b o e n hb hx)
  ·obtain ⟨sl, e1⟩ := I.base.slot b o e n hb hx
   exact ⟨sl, (hs.2 b (Nat.ne_of_lt (Nat.lt_of_lt_of_le (Heap.lt_size e) I.ok.above))).trans e1⟩
  ·obtain ⟨o', e1⟩ := I.base.there b o e hx
   exact ⟨o', (hs.2 b (Nat.ne_of_lt (Nat.lt_of_lt_of_le (Heap.lt_size e) I.ok.above))).trans e1⟩
  ·by_cases hj : j = i
   ·subst hj
    rw [hi] at e1; cases e1
    rw [List.getElem?_set_self hiσ] at e2
    cases e2
    exact ⟨u, r, .inl ⟨hk, by simp⟩⟩
   ·rw [List.getElem?_set_ne (Ne.symm hj)] at e2
    obtain ⟨u', r', q⟩ := hl j y v' e1 e2 e3
    refine ⟨u', r', ?_⟩
    rcases q with ⟨k, e⟩ | ⟨k, c, e, z⟩
    ·refine .inl ⟨k, ?_⟩
     have : y ≠ x := fun e => hj (nodup_ix hN e1 (e ▸ hi))
     simp [this, e]
    ·exact .inr ⟨k, c, e, z.sameBut hs (cne y c e)⟩
  ·obtain ⟨w', z⟩ := I.cell y c e
   exact ⟨w', z.sameBut hs (cne y c e)⟩
  ·obtain ⟨e, n, ne, nf, d⟩ := I.pin p hp
   exact ⟨(hs.2 p.1 ne).trans e, n, ne, nf, d⟩
 ·have hfn : X.fn x = true := by
   rcases hf with z | z
   ·exact z
   ·rw [z] at hk; cases hk
  obtain ⟨c, hc⟩ := I.ok.has x (.inl hk)
  obtain ⟨w', z⟩ := I.cell x c hc
  refine wpAny_storeName_cell I.ok.kind hk hc z (fun h' hc' hs => ?_)
  obtain ⟨oc, hoc, hocd⟩ := id z
  refine h { s with heap := h' } ⟨I.ok, I.os, I.bare, ⟨fun b o e n hb hx => ?_, fun b o e n hb hx => ?_, I.base.free, fun b o e hx => ?_, I.base.tups, I.base.frzs, I.base.tbls⟩, ⟨m, hn.sameBut hs (Ne.symm (cne x c hc)), fun j y v' e1 e2 e3 => ?_⟩, fun y c' e => ?_, I.free, I.freeC, fun p hp => ?_, tracked ⟨oc, hoc, I.freeC x c hc⟩ hs, by simpa using I.len⟩ ⟨c, hs, .inr hc⟩
  ·exact (hs.2 b (Nat.ne_of_lt (Nat.lt_of_lt_of_le (Heap.lt_size e) (I.ok.cab x c hfn hc)))).trans (I.base.keep b o e n hb hx)
  ·obtain ⟨sl, e1⟩ := I.base.slot b o e n hb hx
   exact ⟨sl, (hs.2 b (Nat.ne_of_lt (Nat.lt_of_lt_of_le (Heap.lt_size e) (I.ok.cab x c hfn hc)))).trans e1⟩
  ·obtain ⟨o', e1⟩ := I.base.there b o e hx
   exact ⟨o', (hs.2 b (Nat.ne_of_lt (Nat.lt_of_lt_of_le (Heap.lt_size e) (I.ok.cab x c hfn hc)))).trans e1⟩
  ·by_cases hj : j = i
   ·subst hj
    rw [hi] at e1; cases e1
    rw [List.getElem?_set_self hiσ] at e2
    cases e2
    exact ⟨u, r, .inr ⟨.inl hk, c, hc, hc'⟩⟩
   ·rw [List.getElem?_set_ne (Ne.symm hj)] at e2
    obtain ⟨u', r', q⟩ := hl j y v' e1 e2 e3
    refine ⟨u', r', ?_⟩
    rcases q with q | ⟨k, c', e, z'⟩
    ·exact .inl q
    ·refine .inr ⟨k, c', e, z'.sameBut hs ?_⟩
     rintro rfl
     exact hj (nodup_ix hN e1 (I.ok.inj _ _ _ e hc ▸ hi))
  ·by_cases hcc : c' = c
   ·subst hcc; exact ⟨_, hc'⟩
   ·obtain ⟨w2, z2⟩ := I.cell y c' e
    exact ⟨w2, z2.sameBut hs hcc⟩
  ·obtain ⟨e, n, ne, nf, d⟩ := I.pin p hp
   refine ⟨(hs.2 p.1 ?_).trans e, n, ne, nf, d⟩
   intro q
   rw [q, hoc] at e
   have q' : oc = p.2 := Option.some.inj e
   exact d w' (by rw [← q']; exact hocd)
theorem store_ok {M : Model} {A : Around} {E : Value → Shared → Prop} {i : Nat} {x : Str} {v : V} {u : Value} {Q : Unit → Shared → Prop} (I : Inv X pins σ H s) (hN : X.N.Nodup) (hi : X.N[i]? = some x) (hx : Loc X.env.scope x) (r : RelV v u)
  (h : ∀ s', Inv X pins (σ.set i (some v)) H s' → Q () s') (hf : X.fn x = true ∨ X.env.scope.names.lookup x = some .local := by first | exact .inl rfl | exact .inr rfl | assumption) : wpAny M A (storeName X.env x u) Q E s :=
 store_ok2 I hN hi hx r (fun s' I' _ => h s' I') hf
theorem Inv.call' {s' : Shared} {ch : List Addr} (I : Inv X pins σ H s) (ho : s'.os = s.os) (u : Un (frs X.stack) ch H H' s.heap s'.heap) (hok : HOk X.prog X.w H' s'.heap) (hg : AllBare s'.gens)
  (hch : ∀ b ∈ ch, (b ∈ X.ex ∨ X.s₀.heap.objs.size ≤ b) ∧ b ≠ X.env.locals ∧ (∀ x c, X.env.cells.lookup x = some c → c ≠ b) ∧ ∀ p ∈ X.pn ++ pins, p.1 ≠ b) : Inv X pins σ H' s' := by
 obtain ⟨h', g', d', t', o'⟩ := s'
 have e : o' = s.os := ho
 subst e
 exact I.call (g' := g') (t' := t') (d' := d') u hok hg hch
end
noncomputable abbrev XK := Value → Option Addr → Hp → Prop
noncomputable abbrev St := List (Option V)
noncomputable abbrev VK := V → Hp → Prop
noncomputable abbrev TE := St → Hp → VK → Prop
noncomputable abbrev TT := St → Hp → (Bool → Hp → Prop) → Prop
noncomputable abbrev TA := St → Hp → (List V → Hp → Prop) → Prop
structure Ends where
 nx : St → Hp → Prop
 rt : VK
 bk : St → Hp → Prop := fun _ _ => False
 ct : St → Hp → Prop := fun _ _ => False
noncomputable abbrev TS := Ends → St → Hp → Prop
noncomputable def EP (X : Cx) (pins : List (Addr × Obj)) (σ : St) (Q : VK) (u : Value) (s' : Shared) : Prop := ∃ v H', Inv X pins σ H' s' ∧ RelV v u ∧ Q v H'
noncomputable def TP (X : Cx) (pins : List (Addr × Obj)) (σ : St) (Q : Bool → Hp → Prop) (b : Bool) (s' : Shared) : Prop := ∃ H', Inv X pins σ H' s' ∧ Q b H'
noncomputable def AP (X : Cx) (pins : List (Addr × Obj)) (σ : St) (Q : List V → Hp → Prop) (us : List Value) (s' : Shared) : Prop := ∃ vs H', Inv X pins σ H' s' ∧ Vals vs us ∧ Q vs H'
noncomputable def SP (X : Cx) (pins : List (Addr × Obj)) (D : Ends) (f : Flow) (s' : Shared) : Prop :=
 match f with
 | .next => ∃ σ' H', Inv X pins σ' H' s' ∧ D.nx σ' H'
 | .brk => ∃ σ' H', Inv X pins σ' H' s' ∧ D.bk σ' H'
 | .cont => ∃ σ' H', Inv X pins σ' H' s' ∧ D.ct σ' H'
 | .ret u => ∃ v σ' H', Inv X pins σ' H' s' ∧ RelV v u ∧ D.rt v H'
noncomputable def PE (X : Cx) (e : Expr) (t : TE) : Prop :=
 ∀ (pins : List (Addr × Obj)) (s : Shared) (σ : St) (H : Hp) (Q : VK), Inv X pins σ H s → t σ H Q → wpAny (model X.prog X.w) X.A (eval e X.env) (EP X pins σ Q) X.xe s
noncomputable def PT (X : Cx) (e : Expr) (t : TT) : Prop :=
 ∀ (pins : List (Addr × Obj)) (s : Shared) (σ : St) (H : Hp) (Q : Bool → Hp → Prop), Inv X pins σ H s → t σ H Q → wpAny (model X.prog X.w) X.A (isTrue e X.env (eval e X.env)) (TP X pins σ Q) X.xe s
noncomputable def PW (X : Cx) (e : Expr) (t : TT) : Prop :=
 ∀ (whole : Sem Value) (pins : List (Addr × Obj)) (s : Shared) (σ : St) (H : Hp) (Q : Bool → Hp → Prop), Inv X pins σ H s → t σ H Q → wpAny (model X.prog X.w) X.A (isTrue e X.env whole) (TP X pins σ Q) X.xe s
theorem PW.pt {X : Cx} {e : Expr} {t : TT} (h : PW X e t) : PT X e t := h _
noncomputable def PA (X : Cx) (es : List Expr) (t : TA) : Prop :=
 ∀ (pos : Pos) (pins : List (Addr × Obj)) (s : Shared) (σ : St) (H : Hp) (Q : List V → Hp → Prop), Inv X pins σ H s → t σ H Q → wpAny (model X.prog X.w) X.A (spliced (backTo pos (starEach es X.env))) (AP X pins σ Q) X.xe s
noncomputable def PS (X : Cx) (st : Stmt) (t : TS) : Prop :=
 ∀ (pins : List (Addr × Obj)) (s : Shared) (σ : St) (H : Hp) (D : Ends), Inv X pins σ H s → t D σ H → wpAny (model X.prog X.w) X.A (exec st X.env) (SP X pins D) X.xe s
noncomputable def PSs (X : Cx) (st : List Stmt) (t : TS) : Prop :=
 ∀ (pins : List (Addr × Obj)) (s : Shared) (σ : St) (H : Hp) (D : Ends), Inv X pins σ H s → t D σ H → wpAny (model X.prog X.w) X.A (execs st X.env) (SP X pins D) X.xe s
theorem thn {α : Type} {t : Sem α} {Q Q' : α → Shared → Prop} {M : Model} {A : Around} {E : Value → Shared → Prop} {s : Shared} (h : wpAny M A t Q E s) (hQ : ∀ a s, Q a s → Q' a s) : wpAny M A t Q' E s := wpAny_mono h hQ fun _ _ x => x
end L2
namespace L2
open PySem PySem.Spec PyProof.Rows
section
variable {X : Cx}
theorem bin {a b : Expr} {ta tb : TE} (ha : PE X a ta) (hb : PE X b tb) {pins : List (Addr × Obj)} {s : Shared} {σ : St} {H : Hp} {R : V → V → Hp → Prop} (I : Inv X pins σ H s) (h : ta σ H fun x H1 => tb σ H1 fun y H2 => R x y H2)
  {α : Type} {Q : α → Shared → Prop} {f : Value → Value → Sem α}
  (hf : ∀ v u s2 x y H2, Inv X pins σ H2 s2 → RelV x v → RelV y u → R x y H2 → wpAny (model X.prog X.w) X.A (f v u) Q X.xe s2) :
  wpAny (model X.prog X.w) X.A (eval a X.env) (fun v s₁ => wpAny (model X.prog X.w) X.A (eval b X.env) (fun u s₂ => wpAny (model X.prog X.w) X.A (f v u) Q X.xe s₂) X.xe s₁) X.xe s := by
 refine thn (ha pins s σ H _ I h) fun v s1 ⟨x, H1, I1, r1, q1⟩ => ?_
 refine thn (hb pins s1 σ H1 _ I1 q1) fun u s2 ⟨y, H2, I2, r2, q2⟩ => ?_
 exact hf v u s2 x y H2 I2 r1 r2 q2
noncomputable def tVar (i : Nat) : TE := fun σ H Q => ∃ v, σ[i]? = some (some v) ∧ Q v H
noncomputable def tC (v : V) : TE := fun _ H Q => Q v H
theorem pe_var {i : Nat} {x : Str} {pos : Pos} (hN : X.N[i]? = some x) (hv : Vis X.env.scope x) (hd : (x == ("__debug__" : Str)) = false := by decide) (hcd : (x == ("__classdict__" : Str)) = false := by decide) : PE X (.Name x pos) (tVar i) := by
 intro pins s σ H Q I h
 obtain ⟨v, e, h⟩ := h
 obtain ⟨m, hn, hl⟩ := I.loc
 obtain ⟨u, r, l⟩ := hl i x v hN e hv
 have fin : EP X pins σ Q u s := ⟨v, H, I, r, h⟩
 rcases l with ⟨hk, hm⟩ | ⟨hk, c, hc, hcell⟩
 ·exact wpAny_Name (wpAny_loadName_local I.ok.kind hk hn hm fin) hd
 ·rcases hk with hk | hk
  ·exact wpAny_Name (wpAny_loadName_cell I.ok.kind hk hc hcell fin) hd
  ·exact wpAny_Name (wpAny_loadName_free I.ok.kind hk hc hcell fin hcd) hd
theorem pe_int {i j pos} : PE X (.Constant (.int i) j pos) (tC (.int i)) := fun _ _ _ H _ I h => wpAny_Constant_int ⟨.int i, H, I.tok _, ⟨_, rfl⟩, h⟩
theorem pe_bl {b j pos} : PE X (.Constant (.bool b) j pos) (tC (.bl b)) := fun _ _ _ H _ I h => Constant_bool ⟨.bl b, H, I, rfl, h⟩
theorem pe_non {j pos} : PE X (.Constant .none j pos) (tC .non) := fun _ _ _ H _ I h => Constant_none ⟨.non, H, I, rfl, h⟩
theorem pe_str {x j pos} : PE X (.Constant (.str x) j pos) (tC (.str x)) := fun _ _ _ H _ I h => Calls.Constant_str ⟨.str x, H, I.tok _, ⟨_, rfl⟩, h⟩
noncomputable def Gl (X : Cx) (x : Str) : Prop := X.env.kindOf x = some .globalImplicit
theorem ld_glob {E : Value → Shared → Prop} {pins : List (Addr × Obj)} {s : Shared} {σ : St} {H : Hp} {x : Str} {u : Value} {pos : Pos} {Q : Value → Shared → Prop} (I : Inv X pins σ H s) (hg : Gl X x) (hm : X.mg x = some u) (h : Q u s)
  (hd : (x == ("__debug__" : Str)) = false := by decide) : wpAny (model X.prog X.w) X.A (eval (.Name x pos) X.env) Q E s :=
 Calls.Name_function_global I.ok.kind hg (Calls.loadGlobal_global (by rw [I.ok.glob]; exact I.mod.glob.keeps I.bk) hm h) hd
theorem ld_blt {E : Value → Shared → Prop} {pins : List (Addr × Obj)} {s : Shared} {σ : St} {H : Hp} {x : Str} {u : Value} {pos : Pos} {Q : Value → Shared → Prop} (I : Inv X pins σ H s) (hg : Gl X x) (hm : X.mg x = none) (hv : bootBuiltins x = some u) (h : Q u s)
  (hn : x ≠ "__name__" := by decide) (hd : (x == ("__debug__" : Str)) = false := by decide) : wpAny (model X.prog X.w) X.A (eval (.Name x pos) X.env) Q E s := by
 obtain ⟨mb, h1, h2⟩ := I.mod.blt
 exact Calls.Name_function_global I.ok.kind hg (Calls.loadGlobal_builtin (by rw [I.ok.glob]; exact I.mod.glob.keeps I.bk) hm (by rw [I.ok.blt]; exact h1.keeps I.bk) ((h2 x hn).trans hv) h) hd
theorem pe_glob {x : Str} {v : V} {u : Value} {pos : Pos} (hg : Gl X x) (hm : X.mg x = some u) (r : RelV v u) (hd : (x == ("__debug__" : Str)) = false := by decide) : PE X (.Name x pos) (tC v) :=
 fun _ _ _ H _ I h => ld_glob I hg hm ⟨v, H, I, r, h⟩ hd
theorem pe_bltn {x : Str} {v : V} {u : Value} {pos : Pos} (hg : Gl X x) (hm : X.mg x = none) (hv : bootBuiltins x = some u) (r : RelV v u) (hn : x ≠ "__name__" := by decide) (hd : (x == ("__debug__" : Str)) = false := by decide) : PE X (.Name x pos) (tC v) :=
 fun _ _ _ H _ I h => ld_blt I hg hm hv ⟨v, H, I, r, h⟩ hn hd
noncomputable def t2I (ta tb : TE) (k : Int → Int → Hp → Prop) : St → Hp → Prop := fun σ H => ta σ H fun x H1 => tb σ H1 fun y H2 => ∃ i j, x = .int i ∧ y = .int j ∧ k i j H2
noncomputable def tAdd (ta tb : TE) : TE := fun σ H Q => t2I ta tb (fun i j H2 => Q (.int (i + j)) H2) σ H
noncomputable def tSub (ta tb : TE) : TE := fun σ H Q => t2I ta tb (fun i j H2 => Q (.int (i - j)) H2) σ H
noncomputable def tMul (ta tb : TE) : TE := fun σ H Q => t2I ta tb (fun i j H2 => (-(2 ^ 64) < i ∧ i < 2 ^ 64) ∧ Q (.int (i * j)) H2) σ H
variable {a b : Expr} {ta tb : TE} {pos : Pos}
noncomputable def PC (X : Cx) (op : CmpOp) (a b : Expr) (t : TE) : Prop :=
 ∀ (pins : List (Addr × Obj)) (s : Shared) (σ : St) (H : Hp) (Q : VK), Inv X pins σ H s → t σ H Q →
  wpAny (model X.prog X.w) X.A (eval a X.env) (fun v s₁ => wpAny (model X.prog X.w) X.A (eval b X.env) (fun u s₂ => wpAny (model X.prog X.w) X.A (compareOp op v u) (EP X pins σ Q) X.xe s₂) X.xe s₁) X.xe s
noncomputable def tCmp (p : Int → Int → Bool) (ta tb : TE) : TE := fun σ H Q => t2I ta tb (fun i j H2 => Q (.bl (p i j)) H2) σ H
noncomputable abbrev tLt : TE → TE → TE := tCmp fun i j => decide (i < j)
noncomputable abbrev tLe : TE → TE → TE := tCmp fun i j => decide (i ≤ j)
noncomputable abbrev tGt : TE → TE → TE := tCmp fun i j => decide (j < i)
noncomputable abbrev tGe : TE → TE → TE := tCmp fun i j => decide (j ≤ i)
noncomputable abbrev tEqI : TE → TE → TE := tCmp fun i j => decide (i = j)
noncomputable abbrev tNeI : TE → TE → TE := tCmp fun i j => !decide (i = j)
noncomputable def tIsN (ta : TE) : TE := fun σ H Q => ta σ H fun x H1 => Q (.bl (decide (x = .non))) H1
noncomputable def tNotN (ta : TE) : TE := fun σ H Q => ta σ H fun x H1 => Q (.bl (!decide (x = .non))) H1
noncomputable def tB (t : TE) : TT := fun σ H Q => t σ H fun x H1 => ∃ c, x = .bl c ∧ Q c H1
variable {tA tB' : TT} {rest : List Expr}
noncomputable def tAnd (t u : TT) : TT := fun σ H Q => t σ H fun c H1 => if c = true then u σ H1 Q else Q false H1
noncomputable def tOr (t u : TT) : TT := fun σ H Q => t σ H fun c H1 => if c = true then Q true H1 else u σ H1 Q
noncomputable def tNot (t : TT) : TT := fun σ H Q => t σ H fun c H1 => Q (!c) H1
theorem pw_and1 (ha : PT X a tA) : PW X (.BoolOp .And [a] pos) tA := by
 intro wh pins s σ H Q I h
 refine isTrue_and (thn (ha pins s σ H Q I h) fun c s1 e => ?_)
 cases c with
 | true => exact isTrue_and_nil e
 | false => exact e
theorem pw_or1 (ha : PT X a tA) : PW X (.BoolOp .Or [a] pos) tA := by
 intro wh pins s σ H Q I h
 refine isTrue_or (thn (ha pins s σ H Q I h) fun c s1 e => ?_)
 cases c with
 | false => exact isTrue_or_nil e
 | true => exact e
theorem pw_and (ha : PT X a tA) (hb : PW X (.BoolOp .And (b :: rest) pos) tB') : PW X (.BoolOp .And (a :: b :: rest) pos) (tAnd tA tB') := by
 intro wh pins s σ H Q I h
 refine isTrue_and (thn (ha pins s σ H _ I h) fun c s1 ⟨H1, I1, q1⟩ => ?_)
 cases c with
 | true => exact hb wh pins s1 σ H1 Q I1 q1
 | false => exact ⟨H1, I1, q1⟩
theorem pw_or (ha : PT X a tA) (hb : PW X (.BoolOp .Or (b :: rest) pos) tB') : PW X (.BoolOp .Or (a :: b :: rest) pos) (tOr tA tB') := by
 intro wh pins s σ H Q I h
 refine isTrue_or (thn (ha pins s σ H _ I h) fun c s1 ⟨H1, I1, q1⟩ => ?_)
 cases c with
 | true => exact ⟨H1, I1, q1⟩
 | false => exact hb wh pins s1 σ H1 Q I1 q1
theorem pt_not (ha : PT X a tA) : PT X (.UnaryOp .Not a pos) (tNot tA) := by
 intro pins s σ H Q I h
 exact isTrue_not (ha pins s σ H (fun c H1 => Q (!c) H1) I h)
noncomputable def tAndV (ta tb : TE) : TE := fun σ H Q => ta σ H fun x H1 => ∃ c, x = .bl c ∧ if c = true then tb σ H1 Q else Q (.bl false) H1
noncomputable def tOrV (ta tb : TE) : TE := fun σ H Q => ta σ H fun x H1 => ∃ c, x = .bl c ∧ if c = true then Q (.bl true) H1 else tb σ H1 Q
noncomputable def tNotV (ta : TE) : TE := fun σ H Q => ta σ H fun x H1 => ∃ c, x = .bl c ∧ Q (.bl (!c)) H1
theorem pe_one {op} {t : TE} (h : PE X a t) : PE X (.BoolOp op [a] pos) t := fun pins s σ H Q I hw => BoolOp_one (h pins s σ H Q I hw)
theorem pe_and (ha : PE X a ta) (hb : PE X (.BoolOp .And (b :: rest) pos) tb) : PE X (.BoolOp .And (a :: b :: rest) pos) (tAndV ta tb) := by
 intro pins s σ H Q I h
 refine BoolOp_and (thn (ha pins s σ H _ I h) fun v s1 ⟨x, H1, I1, r1, q1⟩ => ?_)
 obtain ⟨c, rfl, q1⟩ := q1
 cases r1
 refine wpAny_truthy_bool ?_
 cases c with
 | true => exact hb pins s1 σ H1 Q I1 q1
 | false => exact ⟨.bl false, H1, I1, rfl, q1⟩
theorem pe_or (ha : PE X a ta) (hb : PE X (.BoolOp .Or (b :: rest) pos) tb) : PE X (.BoolOp .Or (a :: b :: rest) pos) (tOrV ta tb) := by
 intro pins s σ H Q I h
 refine BoolOp_or (thn (ha pins s σ H _ I h) fun v s1 ⟨x, H1, I1, r1, q1⟩ => ?_)
 obtain ⟨c, rfl, q1⟩ := q1
 cases r1
 refine wpAny_truthy_bool ?_
 cases c with
 | false => exact hb pins s1 σ H1 Q I1 q1
 | true => exact ⟨.bl true, H1, I1, rfl, q1⟩
theorem pe_not (ha : PE X a ta) : PE X (.UnaryOp .Not a pos) (tNotV ta) := by
 intro pins s σ H Q I h
 refine UnaryOp_ (thn (ha pins s σ H _ I h) fun v s1 ⟨x, H1, I1, r1, q1⟩ => ?_)
 obtain ⟨c, rfl, q1⟩ := q1
 cases r1
 exact not_of (wpAny_truthy_bool ⟨.bl (!c), H1, I1, rfl, q1⟩)
noncomputable def tIf (t : TT) (ta tb : TE) : TE := fun σ H Q => t σ H fun c H1 => if c = true then ta σ H1 Q else tb σ H1 Q
theorem pe_ifExp {c : Expr} (hc : PT X c tA) (ha : PE X a ta) (hb : PE X b tb) : PE X (.IfExp c a b pos) (tIf tA ta tb) := by
 intro pins s σ H Q I h
 refine wpAny_IfExp (thn (hc pins s σ H _ I h) fun d s1 ⟨H1, I1, q1⟩ => ?_)
 cases d with
 | true => exact ha pins s1 σ H1 Q I1 q1
 | false => exact hb pins s1 σ H1 Q I1 q1
end
end L2
namespace L2
open PySem PySem.Spec PyProof.Rows
noncomputable def SqL (K : PySem.W.Frag) (H : Hp) (a : Addr) (xs : List V) : Prop :=
 Rd H a (.lst xs) ∨
  ∃ (o : Obj) (its : Array Value) (n : Nat), K.lookup a = some o ∧ o.cls = .type "list" ∧ o.dict = none ∧ o.data = .seq its n ∧ its.size ≤ sizeLine ∧ Vals xs its.toList
noncomputable def SqT (K : PySem.W.Frag) (H : Hp) (a : Addr) (xs : List V) : Prop :=
 Rd H a (.tup xs) ∨
  ∃ (o : Obj) (its : Array Value) (n : Nat), K.lookup a = some o ∧ o.cls = .type "tuple" ∧ o.data = .seq its n ∧ its.size ≤ sizeLine ∧ Vals xs its.toList
noncomputable def absV : Value → Option V
 | .none => some .non
 | .bool b => some (.bl b)
 | .int i _ => some (.int i)
 | .str x _ => some (.str x)
 | .bytes b _ => some (.byt b)
 | .float b _ => some (.flt b)
 | .ref a => some (.ref a)
 | .type n => some (.ty n)
 | _ => none
theorem RelV.abs {x : V} {u : Value} (r : RelV x u) : absV u = some x := by
 cases x with
 | non => cases r; rfl
 | bl _ => cases r; rfl
 | int _ => obtain ⟨t, rfl⟩ := r; rfl
 | str _ => obtain ⟨t, rfl⟩ := r; rfl
 | byt _ => obtain ⟨t, rfl⟩ := r; rfl
 | flt _ => obtain ⟨t, rfl⟩ := r; rfl
 | ref _ => cases r; rfl
 | ty _ => cases r; rfl
theorem RelV.inj {x y : V} {u : Value} (r : RelV x u) (q : RelV y u) : x = y := Option.some.inj (r.abs.symm.trans q.abs)
theorem Vals.inj : ∀ {xs ys : List V} {us : List Value}, Vals xs us → Vals ys us → xs = ys
 | _, _, _, .nil, .nil => rfl
 | _, _, _, .cons r t, .cons r' t' => by rw [r.inj r', Vals.inj t t']
section
variable {X : Cx} {pins : List (Addr × Obj)} {σ : St} {H : Hp} {s : Shared} {a : Addr} {xs ys : List V}
theorem SqL.of {K : PySem.W.Frag} (h : H a = some (.lst xs)) : SqL K H a xs := .inl (.inl h)
theorem SqT.of {K : PySem.W.Frag} (h : H a = some (.tup xs)) : SqT K H a xs := .inl (.inl h)
theorem Inv.list (I : Inv X pins σ H s) (h : SqL X.K H a xs) : ∃ its : List Value, Vals xs its ∧ PlainL s.heap a its.toArray ∧ xs.length ≤ sizeLine := by
 rcases h with h | ⟨o, its, n, hk, hc, hd, hs, hz, r⟩
 ·obtain ⟨z, its, n, r, e⟩ := h.ok I.hok
  exact ⟨its, r, ⟨_, n, e, rfl, rfl, rfl⟩, z⟩
 ·refine ⟨its.toList, r, ⟨o, n, I.kIn a o hk, hc, hd, by simpa using hs⟩, ?_⟩
  have e := r.length
  simp only [Array.length_toList] at e
  omega
theorem Inv.tuple (I : Inv X pins σ H s) (h : SqT X.K H a xs) : ∃ its : List Value, Vals xs its ∧ IsTup s.heap a its.toArray ∧ xs.length ≤ sizeLine := by
 rcases h with h | ⟨o, its, n, hk, hc, hs, hz, r⟩
 ·obtain ⟨z, its, r, p⟩ := h.ok I.hok
  exact ⟨its, r, p, z⟩
 ·refine ⟨its.toList, r, ⟨o, I.kIn a o hk, hc, n, by simpa using hs⟩, ?_⟩
  have e := r.length
  simp only [Array.length_toList] at e
  omega
theorem Inv.list_inj (I : Inv X pins σ H s) (h : SqL X.K H a xs) (h' : SqL X.K H a ys) : xs = ys := by
 obtain ⟨its, r, ⟨o, n, e, _, _, d⟩, _⟩ := I.list h
 obtain ⟨its', r', ⟨o', n', e', _, _, d'⟩, _⟩ := I.list h'
 rw [e] at e'; cases e'
 rw [d] at d'
 injection d' with d1 _
 have : its = its' := by simpa using congrArg Array.toList d1
 subst this
 exact r.inj r'
theorem Inv.tuple_inj (I : Inv X pins σ H s) (h : SqT X.K H a xs) (h' : SqT X.K H a ys) : xs = ys := by
 obtain ⟨its, r, ⟨o, e, _, n, d⟩, _⟩ := I.tuple h
 obtain ⟨its', r', ⟨o', e', _, n', d'⟩, _⟩ := I.tuple h'
 rw [e] at e'; cases e'
 rw [d] at d'
 injection d' with d1 _
 have : its = its' := by simpa using congrArg Array.toList d1
 subst this
 exact r.inj r'
end
noncomputable abbrev Cx.wish (X : Cx) (E : Value → Shared → Prop) : Cx := { X with xe := E }
noncomputable abbrev Cx.nox (X : Cx) : Cx := X.wish fun _ _ => False
theorem Cx.Ok.wish {X : Cx} (ok : X.Ok) (E : Value → Shared → Prop) : (X.wish E).Ok :=
 ⟨ok.mod, ok.kind, ok.glob, ok.blt, ok.above, ok.inj, ok.has, ok.cab, ok.hd, ok.frames, ok.stk, ok.exf, ok.bs, ok.bsz, ok.noex, ok.exfs, ok.funs, ok.frf⟩
theorem Cx.Ok.unwish {X : Cx} {E : Value → Shared → Prop} (ok : (X.wish E).Ok) : X.Ok :=
 ⟨ok.mod, ok.kind, ok.glob, ok.blt, ok.above, ok.inj, ok.has, ok.cab, ok.hd, ok.frames, ok.stk, ok.exf, ok.bs, ok.bsz, ok.noex, ok.exfs, ok.funs, ok.frf⟩
section
variable {X : Cx} {pins : List (Addr × Obj)} {σ : St} {H : Hp} {s : Shared} {E : Value → Shared → Prop}
theorem Inv.wish (I : Inv X pins σ H s) (E : Value → Shared → Prop) : Inv (X.wish E) pins σ H s := ⟨I.ok.wish E, I.os, I.bare, I.base, I.loc, I.cell, I.free, I.freeC, I.pin, I.hok, I.len⟩
theorem Inv.unwish (I : Inv (X.wish E) pins σ H s) : Inv X pins σ H s := ⟨I.ok.unwish, I.os, I.bare, I.base, I.loc, I.cell, I.free, I.freeC, I.pin, I.hok, I.len⟩
theorem SP.unwish {D : Ends} {f : Flow} {s' : Shared} (h : SP (X.wish E) pins D f s') : SP X pins D f s' := by
 cases f with
 | next => obtain ⟨σ', H', I, q⟩ := h; exact ⟨σ', H', I.unwish, q⟩
 | brk => obtain ⟨σ', H', I, q⟩ := h; exact ⟨σ', H', I.unwish, q⟩
 | cont => obtain ⟨σ', H', I, q⟩ := h; exact ⟨σ', H', I.unwish, q⟩
 | ret u => obtain ⟨v, σ', H', I, r, q⟩ := h; exact ⟨v, σ', H', I.unwish, r, q⟩
theorem PSs.nox {st : List Stmt} {t : TS} (h : PSs X.nox st t) : PSs X st t := fun pins s σ H D I hw =>
 wpAny_mono (h pins s σ H D (I.wish _) hw) (fun _ _ q => q.unwish) fun _ _ z => False.elim z
end
section
variable {X : Cx} {st : Stmt} {rest : List Stmt} {t u : TS} {e : Expr} {te : TE} {pos : Pos}
noncomputable def tNext : TS := fun D σ H => D.nx σ H
noncomputable def tSeq (t u : TS) : TS := fun D σ H => t { D with nx := u D } σ H
theorem pss_nil : PSs X [] tNext := fun _ _ σ H _ I h => wpAny_execs_nil ⟨σ, H, I, h⟩
theorem pss_cons (h1 : PS X st t) (h2 : PSs X rest u) : PSs X (st :: rest) (tSeq t u) := by
 intro pins s σ H D I h
 refine wpAny_execs_cons (thn (h1 pins s σ H { D with nx := u D } I h) fun f s1 q => ?_)
 cases f with
 | next =>
  obtain ⟨σ', H', I', q⟩ := q
  exact h2 pins s1 σ' H' D I' q
 | ret v => exact q
 | brk => exact q
 | cont => exact q
noncomputable def tBreak : TS := fun D σ H => D.bk σ H
noncomputable def tCont : TS := fun D σ H => D.ct σ H
theorem ps_pass : PS X (.Pass pos) tNext := fun _ _ σ H _ I h => wpAny_Pass ⟨σ, H, I, h⟩
theorem ps_break : PS X (.Break pos) tBreak := fun _ _ σ H _ I h => wpAny_Break ⟨σ, H, I, h⟩
theorem ps_continue : PS X (.Continue pos) tCont := fun _ _ σ H _ I h => wpAny_Continue ⟨σ, H, I, h⟩
theorem Inv.quiet {pins : List (Addr × Obj)} {σ : St} {H : Hp} {s : Shared} (I : Inv X pins σ H s) : interactive X.env = false := by simp [interactive, I.ok.kind]
noncomputable def tDrop (te : TE) : TS := fun D σ H => te σ H fun _ H1 => D.nx σ H1
theorem ps_expr (he : PE X e te) (hs : swapsWith e none pos.line X.env = pure false := by rfl) : PS X (.Expr e pos) (tDrop te) := by
 intro pins s σ H D I h
 exact wpAny_Expr_any (thn (he pins s σ H _ I h) fun v s1 ⟨x, H1, I1, r1, q1⟩ => ⟨σ, H1, I1, q1⟩) I.quiet hs
noncomputable def tRet (te : TE) : TS := fun D σ H => te σ H D.rt
theorem ps_ret (he : PE X e te) : PS X (.Return (some e) pos) (tRet te) := by
 intro pins s σ H D I h
 exact wpAny_Return_some (thn (he pins s σ H _ I h) fun v s1 ⟨x, H1, I1, r1, q1⟩ => ⟨x, σ, H1, I1, r1, q1⟩)
noncomputable def tRetN : TS := fun D _ H => D.rt .non H
theorem ps_retN : PS X (.Return none pos) tRetN := fun _ _ σ H _ I h => wpAny_Return_none ⟨.non, σ, H, I, rfl, h⟩
noncomputable def tIfS (c : TT) (t u : TS) : TS := fun D σ H => c σ H fun b H1 => if b = true then t D σ H1 else u D σ H1
theorem ps_if {c : Expr} {a b : List Stmt} {tc : TT} (hc : PT X c tc) (ha : PSs X a t) (hb : PSs X b u) : PS X (.If c a b pos) (tIfS tc t u) := by
 intro pins s σ H D I h
 refine wpAny_If (thn (hc pins s σ H _ I h) fun d s1 ⟨H1, I1, q1⟩ => ?_)
 cases d with
 | true => exact ha pins s1 σ H1 D I1 q1
 | false => exact hb pins s1 σ H1 D I1 q1
noncomputable def tNever : TS := fun _ _ _ => False
theorem ps_never : PS X st tNever := fun _ _ _ _ _ _ h => h.elim
end
noncomputable abbrev TG := V → St → Hp → (St → Hp → Prop) → Prop
noncomputable abbrev TGs := List V → St → Hp → (St → Hp → Prop) → Prop
noncomputable def PG (X : Cx) (target : Expr) (t : TG) : Prop :=
 ∀ (pins : List (Addr × Obj)) (s : Shared) (σ : St) (H : Hp) (v : V) (u : Value) (Q : St → Hp → Prop), Inv X pins σ H s → RelV v u → t v σ H Q →
  wpAny (model X.prog X.w) X.A (assign target X.env u) (fun _ s' => ∃ σ' H', Inv X pins σ' H' s' ∧ Q σ' H') X.xe s
noncomputable def PGs (X : Cx) (ts : List Expr) (t : TGs) : Prop :=
 ∀ (pins : List (Addr × Obj)) (s : Shared) (σ : St) (H : Hp) (vs : List V) (us : List Value) (Q : St → Hp → Prop), Inv X pins σ H s → Vals vs us → t vs σ H Q →
  wpAny (model X.prog X.w) X.A (assignInOrder ((assignEach ts X.env).map (·.2)) us) (fun _ s' => ∃ σ' H', Inv X pins σ' H' s' ∧ Q σ' H') X.xe s
noncomputable abbrev TSet := V → V → V → Hp → (Hp → Prop) → Prop
noncomputable def PSet (X : Cx) (t : TSet) : Prop :=
 ∀ (pins : List (Addr × Obj)) (s : Shared) (σ : St) (H : Hp) (o i v : V) (ov iv u : Value) (Q : Hp → Prop), Inv X pins σ H s → RelV o ov → RelV i iv → RelV v u → t o i v H Q →
  wpAny (model X.prog X.w) X.A (setItem ov iv u) (fun _ s' => ∃ H', Inv X pins σ H' s' ∧ Q H') X.xe s
noncomputable abbrev TIp := V → V → Hp → VK → Prop
noncomputable def PIp (X : Cx) (op : Operator) (t : TIp) : Prop :=
 ∀ (pins : List (Addr × Obj)) (s : Shared) (σ : St) (H : Hp) (x y : V) (v u : Value) (Q : VK), Inv X pins σ H s → RelV x v → RelV y u → t x y H Q →
  wpAny (model X.prog X.w) X.A (inplaceOp op v u) (EP X pins σ Q) X.xe s
section
variable {X : Cx} {pos : Pos}
noncomputable def gName (i : Nat) : TG := fun v σ H Q => Q (σ.set i (some v)) H
theorem pg_name {i : Nat} {x : Str} (hN : X.N.Nodup) (hi : X.N[i]? = some x) (hx : Loc X.env.scope x) (hf : X.fn x = true ∨ X.env.scope.names.lookup x = some .local := by first | exact .inl rfl | exact .inr rfl | assumption) : PG X (.Name x pos) (gName i) := by
 intro pins s σ H v u Q I r h
 exact wpAny_assign_Name (store_ok I hN hi hx r (fun s' I' => ⟨_, H, I', h⟩) hf)
noncomputable def gNil : TGs := fun vs σ H Q => vs = [] ∧ Q σ H
noncomputable def gCons (t : TG) (u : TGs) : TGs := fun vs σ H Q => ∃ v r, vs = v :: r ∧ t v σ H fun σ' H' => u r σ' H' Q
theorem pgs_nil : PGs X [] gNil := by
 intro pins s σ H vs us Q I r h
 obtain ⟨e, h⟩ := h
 subst e
 cases r
 exact assignInOrder_nil ⟨σ, H, I, h⟩
theorem pgs_cons {e : Expr} {es : List Expr} {t : TG} {u : TGs} (h1 : PG X e t) (h2 : PGs X es u)
  (hs : (assignEach (e :: es) X.env).map (·.2) = assign e X.env :: (assignEach es X.env).map (·.2) := by rfl) : PGs X (e :: es) (gCons t u) := by
 intro pins s σ H vs us Q I r h
 obtain ⟨v, vr, e1, h⟩ := h
 subst e1
 cases r with
 | cons r rr =>
  rw [hs]
  refine assignInOrder_cons (thn (h1 pins s σ H _ _ _ I r h) fun _ s1 ⟨σ1, H1, I1, q1⟩ => ?_)
  exact h2 pins s1 σ1 H1 _ _ Q I1 rr q1
noncomputable def gTup (K : PySem.W.Frag) (n : Nat) (t : TGs) : TG := fun v σ H Q => ∃ a xs, v = .ref a ∧ SqT K H a xs ∧ xs.length = n ∧ t xs σ H Q
theorem pg_tup {es : List Expr} {k : Nat} {t : TGs} {n : Nat} (hc : X.calm = true) (h : PGs X es t)
  (hn : (assignEach es X.env).length = n := by rfl) (hst : (assignEach es X.env).findIdx? (·.1) = none := by rfl) : PG X (.Tuple es k pos) (gTup X.K n t) := by
 intro pins s σ H v u Q I r hw
 obtain ⟨a, xs, e1, hq, hl, hw⟩ := hw
 subst e1
 cases r
 obtain ⟨its, rv, ht, hz⟩ := I.tuple hq
 refine assign_Tuple_tuple (I.ok.hd hc) ht (by simp [hn, ← hl, rv.length]) hst fun h' hx => ?_
 have I1 : Inv X pins σ H { s with heap := h' } := I.kept (t' := s.toks) fun b o e => hx b o (Nat.ne_of_lt (Heap.lt_size e)) e
 exact h pins _ σ H xs _ Q I1 (by simpa using rv) hw
noncomputable def gSub (to ti : TE) (t : TSet) : TG := fun v σ H Q => to σ H fun o H1 => ti σ H1 fun i H2 => t o i v H2 fun H3 => Q σ H3
noncomputable def tAsg (te : TE) (g : TG) : TS := fun D σ H => te σ H fun x H1 => g x σ H1 D.nx
theorem ps_asg {tg e : Expr} {te : TE} {g : TG} (he : PE X e te) (hg : PG X tg g) (hs : swapsWithSole [tg] e pos.line X.env = pure false := by rfl) (hw : swappedStores [tg] e X.env = pure none := by rfl)
  (h1 : (assignEach [tg] X.env).map (·.2) = [assign tg X.env] := by rfl) : PS X (.Assign [tg] e pos) (tAsg te g) := by
 intro pins s σ H D I h
 refine wpAny_Assign_stores (thn (he pins s σ H _ I h) fun v s1 ⟨x, H1, I1, r1, q1⟩ => ?_) hs hw
 rw [h1]
 exact thn (hg pins s1 σ H1 x v _ I1 r1 q1) fun _ s2 q => q
theorem ps_set {i : Nat} {x : Str} {e : Expr} {te : TE} {pos' : Pos} (hN : X.N.Nodup) (hi : X.N[i]? = some x) (hx : Loc X.env.scope x) (he : PE X e te) (hs : swapsWith e (some (.Name x pos')) pos.line X.env = pure false := by rfl) (hf : X.fn x = true ∨ X.env.scope.names.lookup x = some .local := by first | exact .inl rfl | exact .inr rfl | assumption) :
  PS X (.Assign [.Name x pos'] e pos) (tAsg te (gName i)) := by
 intro pins s σ H D I h
 refine wpAny_Assign_Name (thn (he pins s σ H _ I h) fun v s1 ⟨y, H1, I1, r1, q1⟩ => ?_) hs
 exact store_ok I1 hN hi hx r1 (fun s2 I2 => ⟨_, H1, I2, q1⟩) hf
noncomputable def tPar (i j : Nat) (ta : TA) : TS := fun D σ H => ta σ H fun vs H1 => ∃ v w, vs = [v, w] ∧ D.nx ((σ.set i (some v)).set j (some w)) H1
noncomputable def tAug (i : Nat) (te : TE) (ti : TIp) : TS := fun D σ H => ∃ x, σ[i]? = some (some x) ∧ te σ H fun y H1 => ti x y H1 fun z H2 => D.nx (σ.set i (some z)) H2
noncomputable def tAugS (to ti te : TE) (tget : V → V → Hp → VK → Prop) (tip : TIp) (tset : TSet) : TS := fun D σ H => to σ H fun o H1 => ti σ H1 fun i H2 => tget o i H2 fun x H3 => te σ H3 fun y H4 => tip x y H4 fun z H5 => tset o i z H5 fun H6 => D.nx σ H6
noncomputable def PGet (X : Cx) (t : V → V → Hp → VK → Prop) : Prop :=
 ∀ (pins : List (Addr × Obj)) (s : Shared) (σ : St) (H : Hp) (o i : V) (ov iv : Value) (Q : VK), Inv X pins σ H s → RelV o ov → RelV i iv → t o i H Q →
  wpAny (model X.prog X.w) X.A (getItem ov iv) (EP X pins σ Q) X.xe s
noncomputable def ipI (f : Int → Int → Int) : TIp := fun x y H Q => ∃ i j, x = .int i ∧ y = .int j ∧ Q (.int (f i j)) H
end
section
variable {X : Cx} {pos : Pos}
noncomputable def tWhile (c : TT) (tb : TS) : TS := fun D σ H => ∃ W : Nat → St → Hp → Prop, (∃ m, W m σ H) ∧ ∀ m σ H, W m σ H →
 c σ H fun b H1 => if b = true then ∃ N : St → Hp → Prop, (∀ σ' H', N σ' H' → ∃ m', m' < m ∧ W m' σ' H') ∧ tb { D with nx := N, ct := N, bk := D.nx } σ H1 else D.nx σ H1
theorem ps_while {c : Expr} {body : List Stmt} {tc : TT} {tb : TS} (hp : PassesOwn (model X.prog X.w) X.A X.env X.xe) (hc : PT X c tc) (hb : PSs X body tb) : PS X (.While c body [] pos) (tWhile tc tb) := by
 intro pins s σ H D I h
 obtain ⟨W, ⟨m0, w0⟩, turn⟩ := h
 refine wpAny_While (codeAny_whileLoop (fun n s' => ∃ σ' H', Inv X pins σ' H' s' ∧ W n σ' H') ?_ m0 ⟨σ, H, I, w0⟩)
 rintro n s1 ⟨σ1, H1, I1, w1⟩
 refine wpAny_passesOwn hp (thn (hc pins s1 σ1 H1 _ I1 (turn n σ1 H1 w1)) fun b s2 ⟨H2, I2, q2⟩ => ?_)
 cases b with
 | true =>
  obtain ⟨N, hN, q2⟩ := q2
  rw [if_pos rfl]
  refine wpAny_passesOwn hp (thn (hb pins s2 σ1 H2 _ I2 q2) fun f s3 q3 => ?_)
  cases f with
  | next =>
   obtain ⟨σ3, H3, I3, n3⟩ := q3
   obtain ⟨m', hm, w3⟩ := hN σ3 H3 n3
   exact ⟨m', hm, σ3, H3, I3, w3⟩
  | cont =>
   obtain ⟨σ3, H3, I3, n3⟩ := q3
   obtain ⟨m', hm, w3⟩ := hN σ3 H3 n3
   exact ⟨m', hm, σ3, H3, I3, w3⟩
  | brk => exact q3
  | ret v => exact q3
 | false =>
  rw [if_neg Bool.false_ne_true]
  exact wpAny_execs_nil ⟨σ1, H2, I2, q2⟩
end
structure It where
 go : Nat → Hp → Prop
 yld : Nat → Hp → V → Hp → Prop
 stop : Nat → Hp → Prop
noncomputable def FpOk (X : Cx) (pins : List (Addr × Obj)) (H : Hp) (b : Addr) : Prop :=
 H b = none ∧ b ≠ X.env.locals ∧ b ∉ X.fs ∧ (b ∈ X.ex ∨ X.s₀.heap.objs.size ≤ b) ∧ (∀ x c, X.env.cells.lookup x = some c → c ≠ b) ∧ ∀ p ∈ X.pn ++ pins, p.1 ≠ b
theorem Inv.fpOk {X : Cx} {pins : List (Addr × Obj)} {σ : St} {H H' : Hp} {s : Shared} {b : Addr} (I : Inv X pins σ H s) (hb : s.heap.objs.size ≤ b) (hn : H' b = none) : FpOk X pins H' b := by
 refine ⟨hn, Nat.ne_of_gt (Nat.lt_of_lt_of_le I.lt hb), I.nofs hb, .inr (Nat.le_trans I.sz hb), fun x c e z => ?_, fun p hp z => ?_⟩
 ·obtain ⟨v, q⟩ := I.cell x c e
  exact absurd (Nat.lt_of_lt_of_le q.lt (by rw [z]; exact hb)) (Nat.lt_irrefl _)
 ·exact absurd (Nat.lt_of_lt_of_le (Heap.lt_size (I.pin p hp).1) (by rw [z]; exact hb)) (Nat.lt_irrefl _)
structure Turn (P : Program) (w : World) (K : PySem.W.Frag) (tg : Expr) (J : It) (fp : List Addr) (it : Addr) (tn : Nat → Heap → Prop) : Prop where
 mem : it ∈ fp
 obj : ∀ i h, tn i h → ∀ b ∈ fp, ∃ o, h.get? b = some o ∧ ∀ v, o.data ≠ .cell v
 keep : ∀ i h h', tn i h → (∀ b ∈ fp, ∀ o, h.get? b = some o → h'.get? b = some o) → tn i h'
 item : ∀ (X : Cx), X.prog = P → X.w = w → X.K = K → X.calm = true → ∀ (i : Nat) (pins : List (Addr × Obj)) (s : Shared) (σ : St) (H : Hp) (E : Value → Shared → Prop), Inv X pins σ H s → (∀ b ∈ fp, FpOk X pins H b) → tn i s.heap → J.go i H →
  wpAny (model P w) X.A (pyNext (.ref it)) (fun r s1 => ∃ u, r = some u ∧
   wpAny (model P w) X.A (letOwnedTupleGo tg (.ref it) u) (fun _ s2 => ∃ x H', Inv X pins σ H' s2 ∧ RelV x u ∧ J.yld i H x H' ∧ tn (i + 1) s2.heap ∧ ∀ b ∈ fp, H' b = none) E s1) E s
 done : ∀ (X : Cx), X.prog = P → X.w = w → X.K = K → X.calm = true → ∀ (i : Nat) (pins : List (Addr × Obj)) (s : Shared) (σ : St) (H : Hp) (E : Value → Shared → Prop), Inv X pins σ H s → (∀ b ∈ fp, FpOk X pins H b) → tn i s.heap → J.stop i H →
  wpAny (model P w) X.A (pyNext (.ref it)) (fun r s1 => r = none ∧ Inv X pins σ H s1) E s
 self : ∀ (A : Around) (i : Nat) (s : Shared) (Q : Value → Shared → Prop) (E : Value → Shared → Prop), tn i s.heap → Q (.ref it) s → wpAny (model P w) A (pyIter (.ref it)) Q E s
noncomputable abbrev TI := St → Hp → (It → Hp → Prop) → Prop
noncomputable def PIE (X : Cx) (pins : List (Addr × Obj)) (σ : St) (tg : Expr) (R : It → Hp → Prop) (itv : Value) (s2 : Shared) : Prop :=
 ∃ (it : Addr) (fp : List Addr) (tn : Nat → Heap → Prop) (J : It) (H' : Hp), itv = .ref it ∧ Inv X pins σ H' s2 ∧ Turn X.prog X.w X.K tg J fp it tn ∧ tn 0 s2.heap ∧ (∀ b ∈ fp, FpOk X pins H' b) ∧ R J H'
noncomputable def PI (X : Cx) (tg iter : Expr) (wi : TI) : Prop :=
 ∀ (pins : List (Addr × Obj)) (s : Shared) (σ : St) (H : Hp) (R : It → Hp → Prop), Inv X pins σ H s → wi σ H R →
  wpAny (model X.prog X.w) X.A (eval iter X.env) (fun v s1 => wpAny (model X.prog X.w) X.A (pyIter v) (PIE X pins σ tg R) X.xe s1) X.xe s
theorem go_of {M : Model} {A : Around} {E : Value → Shared → Prop} {s : Shared} {tg : Expr} {it : Addr} {u : Value} {o : Obj} {n : String} {vs : Array Value} {Q : Unit → Shared → Prop} (ho : s.heap.get? it = some o) (hc : o.cls = .type n) (hd : o.data = .fields vs)
    (hn : ["enumerate", "zip", "dict_itemiterator", "dict_reverseitemiterator", "odict_iterator", "itertools.zip_longest", "itertools.pairwise"].contains n = false) (hQ : Q () s) : wpAny M A (letOwnedTupleGo tg (.ref it) u) Q E s := by
  unfold letOwnedTupleGo
  cases tg <;> first
    | exact wpAny_pure hQ
    | (cases u <;> first
        | exact wpAny_pure hQ
        | (refine wpAny_bind (wpAny_load ho ?_)
           rw [hc, hd]
           show wpAny M A (if (["enumerate", "zip", "dict_itemiterator", "dict_reverseitemiterator", "odict_iterator", "itertools.zip_longest", "itertools.pairwise"].contains n && vs[0]? == some (rawInt _)) = true then _ else _) Q E s
           rw [if_neg (by intro h; rw [hn, Bool.false_and] at h; cases h)]
           exact wpAny_pure hQ))
noncomputable def Itl (K : PySem.W.Frag) (a : Addr) : It :=
 ⟨fun i H => ∃ xs x, SqL K H a xs ∧ xs[i]? = some x, fun i H x H' => H' = H ∧ ∀ xs, SqL K H a xs → xs[i]? = some x, fun i H => ∃ xs, SqL K H a xs ∧ xs.length ≤ i⟩
noncomputable def Itt (K : PySem.W.Frag) (a : Addr) : It :=
 ⟨fun i H => ∃ xs x, SqT K H a xs ∧ xs[i]? = some x, fun i H x H' => H' = H ∧ ∀ xs, SqT K H a xs → xs[i]? = some x, fun i H => ∃ xs, SqT K H a xs ∧ xs.length ≤ i⟩
noncomputable def Itr (lo : Int) (n : Nat) : It := ⟨fun i _ => i < n, fun i H x H' => H' = H ∧ x = .int (lo + i), fun i _ => n ≤ i⟩
theorem turn_list {P : Program} {w : World} {K : PySem.W.Frag} {tg : Expr} (a it : Addr) : Turn P w K tg (Itl K a) [it] it (fun i h => h.IsListIter it a i) where
 mem := by simp
 obj := fun i h st b hb => by
  have e : b = it := by simpa using hb
  subst e
  obtain ⟨o, e, c, d⟩ := st
  exact ⟨o, e, fun v z => by rw [d] at z; cases z⟩
 keep := fun i h h' st k => st.at fun o e => k it (by simp) o e
 item := by
  intro X hP hw hK hc i pins s σ H E I hf st hg
  subst hP hw hK
  obtain ⟨xs, x, hq, hx⟩ := hg
  obtain ⟨its, rv, p, hz⟩ := I.list hq
  obtain ⟨u, hu, ru⟩ := rv.get hx
  obtain ⟨f0, f1, f2, f3, f4, f5⟩ := hf it (by simp)
  refine wpAny_pyNext_list_item st p.isList (x := u) (by simpa using hu) fun h' st' sb => ?_
  have I1 : Inv X pins σ H { s with heap := h' } := I.turned (t' := s.toks) (fun b o hb e => (sb.2 b hb).trans e) f0 f1 f3 f4 f5
  obtain ⟨o, e, c, d⟩ := id st'
  exact ⟨u, rfl, go_of (s := { s with heap := h' }) e c d (by decide) ⟨x, H, I1, ru, ⟨rfl, fun ys hy => by rw [I.list_inj hy hq]; exact hx⟩, st', fun b hb => (hf b hb).1⟩⟩
 done := by
  intro X hP hw hK hc i pins s σ H E I hf st hg
  subst hP hw hK
  obtain ⟨xs, hq, hx⟩ := hg
  obtain ⟨its, rv, p, hz⟩ := I.list hq
  obtain ⟨f0, f1, f2, f3, f4, f5⟩ := hf it (by simp)
  have hl := rv.length
  exact wpAny_pyNext_list_end (I.ok.hd hc) st p.isList (by simp; omega) fun h' eb => ⟨rfl, I.turned (t' := s.toks) (fun b o hb e => eb b o hb e) f0 f1 f3 f4 f5⟩
 self := fun _ _ _ _ _ st h => wpAny_pyIter_listiter st h
theorem turn_tuple {P : Program} {w : World} {K : PySem.W.Frag} {tg : Expr} (a it : Addr) : Turn P w K tg (Itt K a) [it] it (fun i h => h.IsTupleIter it a i) where
 mem := by simp
 obj := fun i h st b hb => by
  have e : b = it := by simpa using hb
  subst e
  obtain ⟨o, e, c, d⟩ := st
  exact ⟨o, e, fun v z => by rw [d] at z; cases z⟩
 keep := fun i h h' st k => st.at fun o e => k it (by simp) o e
 item := by
  intro X hP hw hK hc i pins s σ H E I hf st hg
  subst hP hw hK
  obtain ⟨xs, x, hq, hx⟩ := hg
  obtain ⟨its, rv, p, hz⟩ := I.tuple hq
  obtain ⟨u, hu, ru⟩ := rv.get hx
  obtain ⟨f0, f1, f2, f3, f4, f5⟩ := hf it (by simp)
  refine wpAny_pyNext_tuple_item st (show s.heap.IsTuple a its.toArray from p) (x := u) (by simpa using hu) fun h' st' sb => ?_
  have I1 : Inv X pins σ H { s with heap := h' } := I.turned (t' := s.toks) (fun b o hb e => (sb.2 b hb).trans e) f0 f1 f3 f4 f5
  obtain ⟨o, e, c, d⟩ := id st'
  exact ⟨u, rfl, go_of (s := { s with heap := h' }) e c d (by decide) ⟨x, H, I1, ru, ⟨rfl, fun ys hy => by rw [I.tuple_inj hy hq]; exact hx⟩, st', fun b hb => (hf b hb).1⟩⟩
 done := by
  intro X hP hw hK hc i pins s σ H E I hf st hg
  subst hP hw hK
  obtain ⟨xs, hq, hx⟩ := hg
  obtain ⟨its, rv, p, hz⟩ := I.tuple hq
  obtain ⟨f0, f1, f2, f3, f4, f5⟩ := hf it (by simp)
  have hl := rv.length
  exact wpAny_pyNext_tuple_end (I.ok.hd hc) st (show s.heap.IsTuple a its.toArray from p) (by simp; omega) fun h' eb => ⟨rfl, I.turned (t' := s.toks) (fun b o hb e => eb b o hb e) f0 f1 f3 f4 f5⟩
 self := fun _ _ _ _ _ st h => wpAny_pyIter_tupleiter st h
theorem turn_range {P : Program} {w : World} {K : PySem.W.Frag} {tg : Expr} (it : Addr) (lo : Int) (n : Nat) : Turn P w K tg (Itr lo n) [it] it (fun i h => IsRangeIter h it (lo + (i : Nat) * 1) ((n : Int) - (i : Nat)) 1) where
 mem := by simp
 obj := fun i h st b hb => by
  have e : b = it := by simpa using hb
  subst e
  exact ⟨_, st, fun v z => by
   have z' : Data.fields _ = Data.cell v := z
   cases z'⟩
 keep := fun i h h' st k => k it (by simp) _ st
 item := by
  intro X hP hw hK hc i pins s σ H E I hf st hg
  subst hP hw hK
  obtain ⟨f0, f1, f2, f3, f4, f5⟩ := hf it (by simp)
  have W := Walks.range (prog := X.prog) (w := X.w) (I.ok.hd hc) it lo 1 n
  refine W.item i s _ _ hg st fun v h' tk hv st' kk => ?_
  obtain ⟨t, rfl⟩ := hv
  have I1 : Inv X pins σ H { s with heap := h', toks := tk } := I.turned (fun b o hb e => kk b o (by simpa using hb) e) f0 f1 f3 f4 f5
  refine ⟨_, rfl, go_of (s := { s with heap := h', toks := tk }) (n := "range_iterator") st' rfl rfl (by decide) ⟨.int (lo + i), H, I1, ⟨t, ?_⟩, ⟨rfl, rfl⟩, st', fun b hb => (hf b hb).1⟩⟩
  rw [Int.mul_one]
 done := by
  intro X hP hw hK hc i pins s σ H E I hf st hg
  subst hP hw hK
  obtain ⟨f0, f1, f2, f3, f4, f5⟩ := hf it (by simp)
  exact wpAny_pyNext_range_end (I.ok.hd hc) st (by have : n ≤ i := hg; omega) fun h' eb => ⟨rfl, I.turned (t' := s.toks) (fun b o hb e => eb b o hb e) f0 f1 f3 f4 f5⟩
 self := fun _ _ _ _ _ st h => wpAny_pyIter_rangeiter st h
end L2
namespace L2
open PySem PySem.Spec PyProof.Rows
section
variable {X : Cx} {tg : Expr}
noncomputable def iList (K : PySem.W.Frag) (tl : TE) : TI := fun σ H R => tl σ H fun x H1 => ∃ a, x = .ref a ∧ (∃ xs, SqL K H1 a xs) ∧ R (Itl K a) H1
noncomputable def iTup (K : PySem.W.Frag) (tl : TE) : TI := fun σ H R => tl σ H fun x H1 => ∃ a, x = .ref a ∧ (∃ xs, SqT K H1 a xs) ∧ R (Itt K a) H1
theorem range_it {pins : List (Addr × Obj)} {σ : St} {H : Hp} {s : Shared} {R : It → Hp → Prop} {E : Value → Shared → Prop} {lo hi : Int} {t u v : Tok} {tk : Nat} (I : Inv X pins σ H s) (h1 : -(2 ^ 62) ≤ lo) (h2 : lo < 2 ^ 62) (h3 : -(2 ^ 62) ≤ hi) (h4 : hi < 2 ^ 62)
  (q : R (Itr lo (hi - lo).toNat) H) : wpAny (model X.prog X.w) X.A (pyIter (.ref s.heap.objs.size)) (PIE X pins σ tg R) E { s with heap := s.heap.push { cls := .type "range", data := .fields #[.int lo t, .int hi u, .int 1 v] }, toks := tk } := by
 refine wpAny_pyIter_range (IsRange.new ..) (small_one h1 h2 h3 h4) ?_
 have I1 : Inv X pins σ H { s with heap := s.heap.push { cls := .type "range", data := .fields #[.int lo t, .int hi u, .int 1 v] }, toks := tk } := I.kept fun b o e => Heap.get?_push_of_some _ e
 refine ⟨(s.heap.push { cls := .type "range", data := .fields #[.int lo t, .int hi u, .int 1 v] }).objs.size, [(s.heap.push { cls := .type "range", data := .fields #[.int lo t, .int hi u, .int 1 v] }).objs.size], _, _, H, rfl,
  I1.kept (t' := tk) fun b o e => Heap.get?_push_of_some _ e, turn_range _ lo (hi - lo).toNat, ?_, fun b hb => ?_, q⟩
 ·have e1 : lo + ((0 : Nat) : Int) * 1 = lo := by simp
  have e2 : (((hi - lo).toNat : Nat) : Int) - ((0 : Nat) : Int) = Builtin.Range.rangeSize lo hi 1 := by rw [rangeSize_one]; split <;> omega
  show IsRangeIter _ _ (lo + ((0 : Nat) : Int) * 1) ((((hi - lo).toNat : Nat) : Int) - ((0 : Nat) : Int)) 1
  rw [e1, e2]
  exact Heap.get?_push_size _ rfl
 ·have e : b = (s.heap.push { cls := .type "range", data := .fields #[.int lo t, .int hi u, .int 1 v] }).objs.size := by simpa using hb
  subst e
  exact I1.fpOk (Nat.le_refl _) (I1.hok.fresh (Nat.le_refl _))
noncomputable def iRng1 (ta : TA) : TI := fun σ H R => ta σ H fun vs H1 => ∃ j : Int, vs = [.int j] ∧ -(2 ^ 62) ≤ j ∧ j < 2 ^ 62 ∧ R (Itr 0 j.toNat) H1
noncomputable def iRng2 (ta : TA) : TI := fun σ H R => ta σ H fun vs H1 => ∃ i j : Int, vs = [.int i, .int j] ∧ (-(2 ^ 62) ≤ i ∧ i < 2 ^ 62 ∧ -(2 ^ 62) ≤ j ∧ j < 2 ^ 62) ∧ R (Itr i (j - i).toNat) H1
noncomputable def tFor (wi : TI) (g : TG) (tb : TS) : TS := fun D σ H => wi σ H fun J H1 => ∃ W : Nat → Nat → St → Hp → Prop, (∃ m, W 0 m σ H1) ∧ ∀ i m σ H, W i m σ H →
 (J.stop i H ∧ D.nx σ H) ∨ (J.go i H ∧ ∃ N : St → Hp → Prop, (∀ σ' H', N σ' H' → ∃ m', m' < m ∧ W (i + 1) m' σ' H') ∧ ∀ x H', J.yld i H x H' → g x σ H' fun σ2 H2 => tb { D with nx := N, ct := N, bk := D.nx } σ2 H2)
noncomputable def pinsAt (fp : List Addr) (h : Heap) : List (Addr × Obj) := fp.filterMap fun b => (h.get? b).map fun o => (b, o)
theorem mem_pinsAt {fp : List Addr} {h : Heap} {b : Addr} {o : Obj} (hb : b ∈ fp) (e : h.get? b = some o) : (b, o) ∈ pinsAt fp h := List.mem_filterMap.mpr ⟨b, hb, by rw [e]; rfl⟩
theorem of_pinsAt {fp : List Addr} {h : Heap} {p : Addr × Obj} (hp : p ∈ pinsAt fp h) : p.1 ∈ fp ∧ h.get? p.1 = some p.2 := by
 obtain ⟨b, hb, e⟩ := List.mem_filterMap.mp hp
 cases q : h.get? b with
 | none => rw [q] at e; cases e
 | some o =>
  rw [q] at e
  have e' : (b, o) = p := Option.some.inj e
  subst e'
  exact ⟨hb, q⟩
theorem Inv.pinned {pins : List (Addr × Obj)} {σ : St} {H : Hp} {s : Shared} {fp : List Addr} (I : Inv X pins σ H s) (hf : ∀ b ∈ fp, FpOk X pins H b) (ho : ∀ b ∈ fp, ∃ o, s.heap.get? b = some o ∧ ∀ v, o.data ≠ .cell v) : Inv X (pins ++ pinsAt fp s.heap) σ H s :=
 I.pins_of fun p hp => (List.mem_append.mp hp).elim (fun z => I.pin p (List.mem_append_right _ z)) fun z => by
  obtain ⟨hb, e⟩ := of_pinsAt z
  obtain ⟨f0, f1, f2, _⟩ := hf p.1 hb
  obtain ⟨o, e', d⟩ := ho p.1 hb
  rw [e] at e'; cases e'
  exact ⟨e, f0, f1, f2, d⟩
theorem Inv.unpinned {pins pl : List (Addr × Obj)} {σ : St} {H : Hp} {s : Shared} (I : Inv X (pins ++ pl) σ H s) : Inv X pins σ H s := I.pins_of fun p hp => I.pin p (List.mem_append_right _ (List.mem_append_left _ hp))
theorem ps_for {iter : Expr} {body : List Stmt} {wi : TI} {g : TG} {tb : TS} {pos : Pos} (hp : PassesOwn (model X.prog X.w) X.A X.env X.xe) (hc : X.calm = true) (hi : PI X tg iter wi) (hg : PG X tg g) (hb : PSs X body tb)
  (hs : ∀ x, foldedSetIterable iter X.env x = pure x := by intro _; rfl) : PS X (.For tg iter body [] pos) (tFor wi g tb) := by
 intro pins s σ H D I h
 refine wpAny_For (thn (hi pins s σ H _ I h) fun v s1 h1 => thn h1 fun itv s2 h2 => ?_) hs
 obtain ⟨it, fp, tn, J, H2, e, I2, T, st2, f2, W, ⟨m0, w0⟩, turn⟩ := h2
 subst e
 have stat : ∀ {H' : Hp}, (∀ b ∈ fp, H' b = none) → ∀ b ∈ fp, FpOk X pins H' b := fun hn b hb => ⟨hn b hb, (f2 b hb).2⟩
 refine codeAny_forLoop_any (fun n s' => ∃ i σ' H', Inv X pins σ' H' s' ∧ tn i s'.heap ∧ (∀ b ∈ fp, H' b = none) ∧ W i n σ' H') ?_ m0 ⟨0, σ, H2, I2, st2, fun b hb => (f2 b hb).1, w0⟩
 rintro n s3 ⟨i, σ3, H3, I3, st3, fr3, w3⟩
 rcases turn i n σ3 H3 w3 with ⟨stop, qn⟩ | ⟨go, N, hN, step⟩
 ·refine wpAny_passesOwn hp (thn (T.done X rfl rfl rfl hc i pins s3 σ3 H3 X.xe I3 (stat fr3) st3 stop) fun r s4 ⟨hr, I4⟩ => ?_)
  subst hr
  exact wpAny_execs_nil ⟨σ3, H3, I4, qn⟩
 ·refine wpAny_passesOwn hp (thn (T.item X rfl rfl rfl hc i pins s3 σ3 H3 X.xe I3 (stat fr3) st3 go) fun r s4 ⟨u, hr, h4⟩ => ?_)
  subst hr
  refine wpAny_passesOwn hp (thn h4 fun _ s5 ⟨x, H5, I5, r5, y5, st5, fr5⟩ => ?_)
  have I5' := I5.pinned (stat fr5) (T.obj _ _ st5)
  refine wpAny_passesOwn hp (thn (hg _ s5 σ3 H5 x u _ I5' r5 (step x H5 y5)) fun _ s6 ⟨σ6, H6, I6, q6⟩ => ?_)
  refine wpAny_passesOwn hp (thn (hb _ s6 σ6 H6 _ I6 q6) fun f s7 q7 => ?_)
  have again : ∀ {σ7 : St} {H7 : Hp}, Inv X (pins ++ pinsAt fp s5.heap) σ7 H7 s7 → N σ7 H7 → ∃ m, m < n ∧ ∃ i σ' H', Inv X pins σ' H' s7 ∧ tn i s7.heap ∧ (∀ b ∈ fp, H' b = none) ∧ W i m σ' H' := fun {σ7 H7} I7 n7 => by
   obtain ⟨m', hm, w7⟩ := hN σ7 H7 n7
   refine ⟨m', hm, i + 1, σ7, H7, I7.unpinned, T.keep _ _ _ st5 fun b hb o e => (I7.pin (b, o) (List.mem_append_right _ (List.mem_append_right _ (mem_pinsAt hb e)))).1, fun b hb => ?_, w7⟩
   obtain ⟨o, e, d⟩ := T.obj _ _ st5 b hb
   exact (I7.pin (b, o) (List.mem_append_right _ (List.mem_append_right _ (mem_pinsAt hb e)))).2.1
  cases f with
  | next => obtain ⟨σ7, H7, I7, n7⟩ := q7; exact again I7 n7
  | cont => obtain ⟨σ7, H7, I7, n7⟩ := q7; exact again I7 n7
  | brk => obtain ⟨σ7, H7, I7, q7⟩ := q7; exact ⟨σ7, H7, I7.unpinned, q7⟩
  | ret v => obtain ⟨x7, σ7, H7, I7, r7, q7⟩ := q7; exact ⟨x7, σ7, H7, I7.unpinned, r7, q7⟩
end
end L2
namespace L2
open PySem PySem.Spec PyProof.Rows
noncomputable abbrev R2 := V → V → Hp → VK → Prop
noncomputable def OpR (X : Cx) (f : Value → Value → Sem Value) (r : R2) : Prop :=
 ∀ (pins : List (Addr × Obj)) (s : Shared) (σ : St) (H : Hp) (x y : V) (v u : Value) (Q : VK), Inv X pins σ H s → RelV x v → RelV y u → r x y H Q →
  wpAny (model X.prog X.w) X.A (f v u) (EP X pins σ Q) X.xe s
noncomputable def UnR (X : Cx) (f : Value → Sem Value) (r : V → Hp → VK → Prop) : Prop :=
 ∀ (pins : List (Addr × Obj)) (s : Shared) (σ : St) (H : Hp) (x : V) (v : Value) (Q : VK), Inv X pins σ H s → RelV x v → r x H Q →
  wpAny (model X.prog X.w) X.A (f v) (EP X pins σ Q) X.xe s
noncomputable def CallR (X : Cx) (f : Value) (r : List V → Hp → VK → Prop) : Prop :=
 ∀ (pins : List (Addr × Obj)) (s : Shared) (σ : St) (H : Hp) (xs : List V) (us : List Value) (Q : VK), Inv X pins σ H s → Vals xs us → r xs H Q →
  wpAny (model X.prog X.w) X.A (call f us) (EP X pins σ Q) X.xe s
noncomputable def TruR (X : Cx) (r : V → Hp → (Bool → Hp → Prop) → Prop) : Prop :=
 ∀ (pins : List (Addr × Obj)) (s : Shared) (σ : St) (H : Hp) (x : V) (v : Value) (Q : Bool → Hp → Prop), Inv X pins σ H s → RelV x v → r x H Q →
  wpAny (model X.prog X.w) X.A (truthy v) (TP X pins σ Q) X.xe s
noncomputable def tOp (r : R2) (ta tb : TE) : TE := fun σ H Q => ta σ H fun x H1 => tb σ H1 fun y H2 => r x y H2 Q
noncomputable def tUn (r : V → Hp → VK → Prop) (ta : TE) : TE := fun σ H Q => ta σ H fun x H1 => r x H1 Q
noncomputable def rI (C : Int → Int → Prop) (g : Int → Int → V) : R2 := fun x y H Q => ∃ i j, x = .int i ∧ y = .int j ∧ C i j ∧ Q (g i j) H
noncomputable def rI0 (g : Int → Int → V) : R2 := fun x y H Q => ∃ i j, x = .int i ∧ y = .int j ∧ Q (g i j) H
noncomputable def rU (g : Int → V) : V → Hp → VK → Prop := fun x H Q => ∃ i, x = .int i ∧ Q (g i) H
section
variable {X : Cx} {a b c : Expr} {ta tb tc : TE} {pos : Pos}
theorem binT (ha : PE X a ta) (hb : PE X b tb) {pins : List (Addr × Obj)} {s : Shared} {σ : St} {H : Hp} {R : V → V → Hp → Prop} (I : Inv X pins σ H s)
  (h : ta σ H fun x H1 => tb σ H1 fun y H2 => R x y H2) {Q : Value → Shared → Prop} {f : Value → Value → Sem Value}
  (hf : ∀ v u s2 x y H2, Inv X pins σ H2 s2 → RelV x v → RelV y u → R x y H2 → wpAny (model X.prog X.w) X.A (f v u) Q X.xe s2) :
  wpAny (model X.prog X.w) X.A (eval a X.env) (fun v s₁ => wpAny (model X.prog X.w) X.A (eval b X.env) (fun u s₂ => wpAny (model X.prog X.w) X.A (f v u) Q X.xe s₂) X.xe s₁) X.xe s := by
 refine thn (ha pins s σ H _ I h) fun v s1 ⟨x, H1, I1, r1, q1⟩ => ?_
 refine thn (hb pins s1 σ H1 _ I1 q1) fun u s2 ⟨y, H2, I2, r2, q2⟩ => ?_
 exact hf v u s2 x y H2 I2 r1 r2 q2
theorem pe_op {op : Operator} {r : R2} (ho : OpR X (binaryOp op) r) (ha : PE X a ta) (hb : PE X b tb) : PE X (.BinOp a op b pos) (tOp r ta tb) := by
 intro pins s σ H Q I h
 exact wpAny_BinOp (binT ha hb I h fun v u s2 x y H2 I2 rx ry q => ho pins s2 σ H2 x y v u Q I2 rx ry q)
theorem pe_un {op : UnaryOp} {r : V → Hp → VK → Prop} (ho : UnR X (unaryOp op) r) (ha : PE X a ta) : PE X (.UnaryOp op a pos) (tUn r ta) := by
 intro pins s σ H Q I h
 exact UnaryOp_ (thn (ha pins s σ H _ I h) fun v s1 ⟨x, H1, I1, r1, q1⟩ => ho pins s1 σ H1 x v Q I1 r1 q1)
theorem opI {f : Value → Value → Sem Value} {C : Int → Int → Prop} {g : Int → Int → Int}
  (rule : ∀ (i j : Int) (t u : Tok) (s : Shared) (Q : Value → Shared → Prop) (E : Value → Shared → Prop), C i j → Q (.int (g i j) s.toks) { s with toks := s.toks + 1 } → wpAny (model X.prog X.w) X.A (f (.int i t) (.int j u)) Q E s) :
  OpR X f (rI C fun i j => .int (g i j)) := by
 intro pins s σ H x y v u Q I rx ry h
 obtain ⟨i, j, rfl, rfl, hc, q⟩ := h
 obtain ⟨t, rfl⟩ := rx
 obtain ⟨t', rfl⟩ := ry
 exact rule i j t t' s _ _ hc ⟨.int (g i j), H, I.tok _, ⟨_, rfl⟩, q⟩
theorem opI0 {f : Value → Value → Sem Value} {g : Int → Int → Int}
  (rule : ∀ (i j : Int) (t u : Tok) (s : Shared) (Q : Value → Shared → Prop) (E : Value → Shared → Prop), Q (.int (g i j) s.toks) { s with toks := s.toks + 1 } → wpAny (model X.prog X.w) X.A (f (.int i t) (.int j u)) Q E s) :
  OpR X f (rI0 fun i j => .int (g i j)) := by
 intro pins s σ H x y v u Q I rx ry h
 obtain ⟨i, j, rfl, rfl, q⟩ := h
 obtain ⟨t, rfl⟩ := rx
 obtain ⟨t', rfl⟩ := ry
 exact rule i j t t' s _ _ ⟨.int (g i j), H, I.tok _, ⟨_, rfl⟩, q⟩
theorem opB0 {f : Value → Value → Sem Value} {g : Int → Int → Bool}
  (rule : ∀ (i j : Int) (t u : Tok) (s : Shared) (Q : Value → Shared → Prop) (E : Value → Shared → Prop), Q (.bool (g i j)) s → wpAny (model X.prog X.w) X.A (f (.int i t) (.int j u)) Q E s) :
  OpR X f (rI0 fun i j => .bl (g i j)) := by
 intro pins s σ H x y v u Q I rx ry h
 obtain ⟨i, j, rfl, rfl, q⟩ := h
 obtain ⟨t, rfl⟩ := rx
 obtain ⟨t', rfl⟩ := ry
 exact rule i j t t' s _ _ ⟨.bl (g i j), H, I, rfl, q⟩
noncomputable def CDiv (i j : Int) : Prop := 0 < j ∧ j < 1073741824
noncomputable def CDivN (i j : Int) : Prop := j ≠ 0 ∧ j.natAbs < 1073741824
noncomputable def CPow (i j : Int) : Prop := 0 ≤ j ∧ j ≤ 1000000 ∧ i.natAbs < 2 ^ 64
noncomputable def CMul (i j : Int) : Prop := (-(2 ^ 64) < i ∧ i < 2 ^ 64) ∨ (-(2 ^ 64) < j ∧ j < 2 ^ 64)
theorem CMul.ok {i j : Int} (h : CMul i j) : IntMulOk i j := by
 rcases h with ⟨h1, h2⟩ | ⟨h1, h2⟩
 ·exact .of_left (intBits_le_64 h1 h2)
 ·exact .of_right (intBits_le_64 h1 h2)
theorem op_add : OpR X (binaryOp .Add) (rI0 fun i j => .int (i + j)) := opI0 fun _ _ _ _ _ _ _ q => add_int q
theorem op_sub : OpR X (binaryOp .Sub) (rI0 fun i j => .int (i - j)) := opI0 fun _ _ _ _ _ _ _ q => sub_int q
theorem op_mul : OpR X (binaryOp .Mult) (rI CMul fun i j => .int (i * j)) := opI fun _ _ _ _ _ _ _ hc q => mul_int q hc.ok
theorem op_fdiv : OpR X (binaryOp .FloorDiv) (rI CDiv fun i j => .int (i / j)) := opI fun i j _ _ _ _ _ hc q => by
 have h1 : (0 : Int) < j := hc.1
 have h2 : j < 1073741824 := hc.2
 exact floordiv_int (by omega) (by rw [Int.fdiv_eq_ediv_of_nonneg i (by omega)]; exact q) (.inl (PyProof.noPylong_small (by omega)))
theorem op_mod : OpR X (binaryOp .Mod) (rI (fun _ j => 0 < j) fun i j => .int (i % j)) := opI fun i j _ _ _ _ _ hc q => by
 have h1 : (0 : Int) < j := hc
 exact mod_int' (by omega) (by rw [Int.fmod_eq_emod_of_nonneg i (by omega)]; exact q)
theorem op_pow : OpR X (binaryOp .Pow) (rI CPow fun i j => .int (i ^ j.toNat)) := opI fun _ _ _ _ _ _ _ hc q => pow_int_small hc.1 hc.2.1 hc.2.2 q
theorem unI {f : Value → Sem Value} {g : Int → Int}
  (rule : ∀ (i : Int) (t : Tok) (s : Shared) (Q : Value → Shared → Prop) (E : Value → Shared → Prop), Q (.int (g i) s.toks) { s with toks := s.toks + 1 } → wpAny (model X.prog X.w) X.A (f (.int i t)) Q E s) :
  UnR X f (rU fun i => .int (g i)) := by
 intro pins s σ H x v Q I rx h
 obtain ⟨i, rfl, q⟩ := h
 obtain ⟨t, rfl⟩ := rx
 exact rule i t s _ _ ⟨.int (g i), H, I.tok _, ⟨_, rfl⟩, q⟩
theorem un_neg : UnR X (unaryOp .USub) (rU fun i => .int (-i)) := unI fun _ _ _ _ _ q => neg_int q
end
noncomputable def scal : V → V → Bool
 | .non, .non => true | .non, .int _ => true | .int _, .non => true | .non, .bl _ => true | .bl _, .non => true | .non, .str _ => true | .str _, .non => true
 | .int _, .int _ => true | .bl _, .bl _ => true | .str _, .str _ => true | .byt _, .byt _ => true
 | .int _, .str _ => true | .str _, .int _ => true | .bl _, .str _ => true | .str _, .bl _ => true
 | _, _ => false
noncomputable def rEq : R2 := fun x y H Q => scal x y = true ∧ Q (.bl (decide (x = y))) H
noncomputable def rNe : R2 := fun x y H Q => scal x y = true ∧ Q (.bl (!decide (x = y))) H
section
variable {X : Cx} {a b c : Expr} {ta tb tc : TE} {pos : Pos}
theorem fin_bl {pins : List (Addr × Obj)} {σ : St} {H : Hp} {s : Shared} {Q : VK} {k k' : Bool} (I : Inv X pins σ H s) (q : Q (.bl k) H) (e : k = k') : EP X pins σ Q (.bool k') s := by
 subst e
 exact ⟨.bl k, H, I, rfl, q⟩
theorem op_lt : OpR X (compareOp .Lt) (rI0 fun i j => .bl (decide (i < j))) := opB0 fun _ _ _ _ _ _ _ q => lt_int q
theorem op_le : OpR X (compareOp .LtE) (rI0 fun i j => .bl (decide (i ≤ j))) := opB0 fun _ _ _ _ _ _ _ q => le_int q
theorem op_gt : OpR X (compareOp .Gt) (rI0 fun i j => .bl (decide (j < i))) := opB0 fun _ _ _ _ _ _ _ q => gt_int q
theorem op_ge : OpR X (compareOp .GtE) (rI0 fun i j => .bl (decide (j ≤ i))) := opB0 fun _ _ _ _ _ _ _ q => ge_int q
theorem op_in_str : OpR X (compareOp .In) (fun x y H Q => ∃ i j, x = .str i ∧ y = .str j ∧ Q (.bl (!(Builtin.Str.occurrences j i 0 j.length 1).isEmpty)) H) := by
 intro pins s σ H x y v u Q I rx ry h
 obtain ⟨i, j, rfl, rfl, q⟩ := h
 obtain ⟨t, rfl⟩ := rx
 obtain ⟨t', rfl⟩ := ry
 exact in_str (fin_bl I q rfl)
noncomputable def isObj : HO → Bool
 | .lst _ => true
 | .ins _ _ _ => true
 | _ => false
theorem pe_cmpR {op : CmpOp} {r : R2} (ho : OpR X (compareOp op) r) (ha : PE X a ta) (hb : PE X b tb) (hm : behindInMarks op b = false) : PE X (.Compare a [op] [b] pos) (tOp r ta tb) := by
 intro pins s σ H Q I h
 exact wpAny_Compare1 (binT ha hb I h fun v u s2 x y H2 I2 rx ry q => ho pins s2 σ H2 x y v u Q I2 rx ry q) hm
noncomputable def tTest (t : TE) : TT := fun σ H Q => t σ H fun x H' => ∃ k, x = .bl k ∧ Q k H'
theorem pt_cmpR {op : CmpOp} {r : R2} (ho : OpR X (compareOp op) r) (ha : PE X a ta) (hb : PE X b tb) (hm : behindInMarks op b = false) : PT X (.Compare a [op] [b] pos) (tTest (tOp r ta tb)) := by
 intro pins s σ H Q I h
 refine wpAny_isTrue_Compare1 (thn (ha pins s σ H _ I h) fun v s1 ⟨x, H1, I1, r1, q1⟩ => thn (hb pins s1 σ H1 _ I1 q1) fun u s2 ⟨y, H2, I2, r2, q2⟩ =>
  thn (ho pins s2 σ H2 x y v u _ I2 r1 r2 q2) fun c s3 ⟨z, H3, I3, r3, k, e, q3⟩ => ?_) hm
 subst e
 cases r3
 exact wpAny_truthy_bool ⟨H3, I3, q3⟩
noncomputable def tChain (r r' : R2) (ta tb tc : TE) : TE := fun σ H Q => ta σ H fun x H1 => tb σ H1 fun y H2 => r x y H2 fun z H3 => ∃ k, z = .bl k ∧
 (if k = true then tc σ H3 fun w' H4 => r' y w' H4 Q else Q (.bl false) H3)
theorem pe_chain {op op' : CmpOp} {r r' : R2} (ho : OpR X (compareOp op) r) (ho' : OpR X (compareOp op') r') (ha : PE X a ta) (hb : PE X b tb) (hc : PE X c tc)
  (hm : lastMarks [op, op'] [b, c] = false := by with_unfolding_all rfl) : PE X (.Compare a [op, op'] [b, c] pos) (tChain r r' ta tb tc) := by
 intro pins s σ H Q I h
 refine Compare_chain (thn (ha pins s σ H _ I h) fun v s1 ⟨x, H1, I1, r1, q1⟩ => chain_link (thn (hb pins s1 σ H1 _ I1 q1) fun u s2 ⟨y, H2, I2, r2, q2⟩ =>
  thn (ho pins s2 σ H2 x y v u _ I2 r1 r2 q2) fun d s3 ⟨z, H3, I3, r3, k, e, q3⟩ => ?_)) hm
 subst e
 cases r3
 refine wpAny_truthy_bool ?_
 cases k with
 | false => exact ite_ff ⟨.bl false, H3, I3, rfl, q3⟩
 | true => exact ite_tt (chain_last (thn (hc pins s3 σ H3 _ I3 q3) fun w' s4 ⟨z', H4, I4, r4, q4⟩ => ho' pins s4 σ H4 y z' u w' Q I4 r2 r4 q4))
theorem pt_chain {op op' : CmpOp} {r r' : R2} (ho : OpR X (compareOp op) r) (ho' : OpR X (compareOp op') r') (ha : PE X a ta) (hb : PE X b tb) (hc : PE X c tc)
  (hm : lastMarks [op, op'] [b, c] = false := by with_unfolding_all rfl) : PT X (.Compare a [op, op'] [b, c] pos) (tTest (tChain r r' ta tb tc)) := by
 intro pins s σ H Q I h
 refine isTrue_chain (thn (ha pins s σ H _ I h) fun v s1 ⟨x, H1, I1, r1, q1⟩ => test_link (thn (hb pins s1 σ H1 _ I1 q1) fun u s2 ⟨y, H2, I2, r2, q2⟩ =>
  thn (ho pins s2 σ H2 x y v u _ I2 r1 r2 q2) fun d s3 ⟨z, H3, I3, r3, k, e, q3⟩ => ?_)) hm
 subst e
 cases r3
 refine wpAny_truthy_bool ?_
 cases k with
 | false =>
  obtain ⟨k', e', q'⟩ := q3
  cases e'
  exact ite_ff ⟨H3, I3, q'⟩
 | true =>
  refine ite_tt (test_last (thn (hc pins s3 σ H3 _ I3 q3) fun w' s4 ⟨z', H4, I4, r4, q4⟩ => thn (ho' pins s4 σ H4 y z' u w' _ I4 r2 r4 q4) fun d' s5 ⟨z2, H5, I5, r5, k2, e2, q5⟩ => ?_))
  subst e2
  cases r5
  exact wpAny_truthy_bool ⟨H5, I5, q5⟩
noncomputable def TruV (K : PySem.W.Frag) (x : V) (H : Hp) (k : Bool) : Prop :=
 match x with
 | .non => k = false
 | .bl b => k = b
 | .int i => k = (i != 0)
 | .str y => y.length ≤ sizeLine ∧ k = ((y.length : Int) != 0)
 | .byt y => y.size ≤ sizeLine ∧ k = ((y.size : Int) != 0)
 | .ref p => (∃ xs, SqL K H p xs ∧ k = !xs.isEmpty) ∨ (∃ xs, SqT K H p xs ∧ k = !xs.isEmpty) ∨ ∃ kvs, H p = some (.dK kvs) ∧ k = !kvs.isEmpty
 | _ => False
theorem isEmpty_kv {κ : Type} {kvs : List (κ × V)} {vs : List (κ × Value)} (r : KV kvs vs) : (!vs.isEmpty) = !kvs.isEmpty := by
 cases r <;> rfl
theorem isEmpty_of {xs : List V} {its : List Value} (r : Vals xs its) : (!its.toArray.isEmpty) = !xs.isEmpty := by
 cases r <;> simp
theorem line63 : (sizeLine : Nat) < 2 ^ 63 := by rw [sizeLine_eq]; decide
theorem tru_ok : TruR X (fun x H Q => ∃ k, TruV X.K x H k ∧ Q k H) := by
 intro pins s σ H x v Q I rx h
 obtain ⟨k, e, q⟩ := h
 have hl := line63
 have hs : sizeLine = 16777216 := sizeLine_eq
 cases x with
 | non =>
  cases rx
  have e' : k = false := e
  subst e'
  exact truthy_none ⟨H, I, q⟩
 | bl b =>
  cases rx
  have e' : k = b := e
  subst e'
  exact wpAny_truthy_bool ⟨H, I, q⟩
 | int i =>
  obtain ⟨t, rfl⟩ := rx
  have e' : k = (i != 0) := e
  subst e'
  exact PySem.P.truthy_int ⟨H, I, q⟩
 | str y =>
  obtain ⟨t, rfl⟩ := rx
  obtain ⟨hy, e'⟩ : y.length ≤ sizeLine ∧ k = ((y.length : Int) != 0) := e
  subst e'
  exact PySem.P.truthy_str (by omega) ⟨H, I.tok _, q⟩
 | byt y =>
  obtain ⟨t, rfl⟩ := rx
  obtain ⟨hy, e'⟩ : y.size ≤ sizeLine ∧ k = ((y.size : Int) != 0) := e
  subst e'
  exact PySem.W.truthy_bytes (by omega) ⟨H, I.tok _, q⟩
 | ref p =>
  cases rx
  have e' : (∃ xs, SqL X.K H p xs ∧ k = !xs.isEmpty) ∨ (∃ xs, SqT X.K H p xs ∧ k = !xs.isEmpty) ∨ ∃ kvs, H p = some (.dK kvs) ∧ k = !kvs.isEmpty := e
  rcases e' with ⟨xs, hx, e'⟩ | ⟨xs, hx, e'⟩ | ⟨kvs, hx, e'⟩
  ·subst e'
   obtain ⟨its, r, pl, hz⟩ := I.list hx
   have hlen := r.length
   exact wpAny_truthy_list pl.isList (by simp only [List.size_toArray]; omega) ⟨H, I.tok _, by rw [isEmpty_of r]; exact q⟩
  ·subst e'
   obtain ⟨its, r, pl, hz⟩ := I.tuple hx
   have hlen := r.length
   exact truthy_tuple pl (by simp only [List.size_toArray]; omega) ⟨H, I.tok _, by rw [isEmpty_of r]; exact q⟩
  ·subst e'
   obtain ⟨hz, hS, vs, r, m⟩ : kvs.length ≤ sizeLine ∧ (p == sysModules) = false ∧ ∃ vs, KV kvs vs ∧ s.heap.DictOf (mixKind X.prog X.w) p vs := I.hok p _ hx
   have hlen : kvs.length = vs.length := Paired.length r
   exact wpAny_truthy_dict hS m (by omega) ⟨H, I.tok _, by rw [isEmpty_kv r]; exact q⟩
 | _ => exact (show False from e).elim
theorem pt_truth (ha : PE X a ta) (he : ∀ whole, isTrue a X.env whole = (do let v ← whole; standAt a.pos; holding [v] (truthy v))) :
  PT X a (fun σ H Q => ta σ H fun x H' => ∃ k, TruV X.K x H' k ∧ Q k H') := by
 intro pins s σ H Q I h
 exact isTrue_plain (thn (ha pins s σ H _ I h) fun v s1 ⟨x, H1, I1, r1, q1⟩ => tru_ok pins s1 σ H1 x v Q I1 r1 q1) (he _)
theorem op_add_str : OpR X (binaryOp .Add) (fun x y H Q => ∃ i j, x = .str i ∧ y = .str j ∧ i.length + j.length ≤ sizeLine ∧ Q (.str (i ++ j)) H) := by
 intro pins s σ H x y v u Q I rx ry h
 obtain ⟨i, j, rfl, rfl, hz, q⟩ := h
 obtain ⟨t, rfl⟩ := rx
 obtain ⟨t', rfl⟩ := ry
 exact add_str (fun t' tk => ⟨.str (i ++ j), H, I.tok _, ⟨_, rfl⟩, q⟩) hz
noncomputable def PlainIxT (b : Expr) : Prop := ∀ o i, subscripted b false o i = operate [o, i] (getItem o i)
theorem vals1 {x : V} {us : List Value} (r : Vals [x] us) : ∃ u, us = [u] ∧ RelV x u := by
 cases r with
 | cons r1 r2 => cases r2; exact ⟨_, rfl, r1⟩
theorem vals2 {x y : V} {us : List Value} (r : Vals [x, y] us) : ∃ u w', us = [u, w'] ∧ RelV x u ∧ RelV y w' := by
 cases r with
 | cons r1 r2 =>
  cases r2 with
  | cons r3 r4 => cases r4; exact ⟨_, _, rfl, r1, r3⟩
theorem call_max2 (hc : X.calm = true) : CallR X (.builtin "max") (fun xs H Q => ∃ i j, xs = [.int i, .int j] ∧ Q (.int (if j > i then j else i)) H) := by
 intro pins s σ H xs us Q I r h
 obtain ⟨i, j, rfl, q⟩ := h
 obtain ⟨u, w', rfl, ⟨t, rfl⟩, ⟨t', rfl⟩⟩ := vals2 r
 refine max_two_ints (I.ok.hd hc) fun h' tk k => ⟨_, H, I.kept k, ?_, q⟩
 by_cases hj : j > i
 ·rw [if_pos hj, if_pos hj]; exact ⟨_, rfl⟩
 ·rw [if_neg hj, if_neg hj]; exact ⟨_, rfl⟩
noncomputable def LenV (K : PySem.W.Frag) (x : V) (H : Hp) (n : Nat) : Prop :=
 match x with
 | .str y => y.length ≤ sizeLine ∧ n = y.length
 | .byt y => y.size ≤ sizeLine ∧ n = y.size
 | .ref p => (∃ xs, SqL K H p xs ∧ n = xs.length) ∨ ∃ xs, SqT K H p xs ∧ n = xs.length
 | _ => False
end
end L2
namespace L2
open PySem PySem.Spec PyProof.Rows
structure ObjM (h : Heap) (x dx C : Addr) (mA : Str → Option Value) : Prop where
 obj : h.get? x = some (PySem.W.instObj C dx)
 ns : h.Ns1 dx mA
 ne : dx ≠ x
theorem lookIn_ns {h : Heap} {dx : Addr} {mA : Str → Option Value} (n : h.Ns1 dx mA) : ∃ od, h.get? dx = some od ∧ ∀ name, PySem.W.lookIn name od = some (mA name) := by
 obtain ⟨o, es, ep, ho, hd, hk, _, hm⟩ := n
 refine ⟨o, ho, fun name => ?_⟩
 have e := hm name
 unfold nsFind findBy at e
 rw [← Array.find?_toList] at e
 unfold PySem.W.lookIn
 rw [hd]
 dsimp only
 split
 ·rename_i y q
  rw [q] at e
  exact congrArg some e
 ·rename_i q
  rw [q] at e
  have a : es.toList.any (·.refKey) = false := by
   rw [List.any_eq_false]
   intro y hy
   obtain ⟨z, t, hkey⟩ := hk y (Array.mem_toList_iff.mp hy)
   simp [DictEntry.refKey, hkey]
  have a' : ¬ es.toList.any (·.refKey) = true := by rw [a]; exact Bool.false_ne_true
  rw [if_neg a']
  exact congrArg some e
theorem ObjM.look {h : Heap} {x dx C : Addr} {mA : Str → Option Value} (I : ObjM h x dx C mA) : ∃ od, PySem.W.InstAt h x (PySem.W.instObj C dx) C (some od) ∧ ∀ name, PySem.W.lookIn name od = some (mA name) :=
 let ⟨od, ho, hl⟩ := lookIn_ns I.ns
 ⟨od, ⟨I.obj, rfl, rfl, ho⟩, hl⟩
section
variable {prog : Program} {w : World} {A : Around} {E : Value → Shared → Prop} {s : Shared} {K : PySem.W.Frag} {x dx C f : Addr} {mA : Str → Option Value} {name : Str} {v : Value}
theorem get_map {expr : Bool} {Q : Value → Shared → Prop} (X : K.In s.heap) (I : ObjM s.heap x dx C mA) (hg : PySem.W.plainGet K C name = true) (hh : PySem.W.hasDictIn K C = true)
  (ha : PySem.W.findIn K (.ref C) name = some none) (hv : mA name = some v) (hv' : PySem.W.handedIn v = true) (h : Q v { s with toks := s.toks + 1 }) :
  wpAny (model prog w) A (getAttr (.ref x) name expr) Q E s := by
 obtain ⟨od, J, hl⟩ := I.look
 exact PySem.W.get_value X J (PySem.W.plainGet_of hg).1 (PySem.W.findObj_own hh ha rfl (by rw [hl, hv])) hv' h
theorem set_map {ns : List Str} {Q : Unit → Shared → Prop} (X : K.In s.heap) (I : ObjM s.heap x dx C mA)
  (hs : PySem.W.findIn K (.ref C) "__setattr__" = some (some (.builtin "object.__setattr__"))) (hp : PySem.W.plainOver K C = true) (ht : PySem.W.takerIn K C name = some none) (hh : PySem.W.hasDictIn K C = true)
  (hw : PySem.Within mA ns) (hsz : ns.length ≤ sizeLine)
  (h : ∀ h', ObjM h' x dx C (fun y => if y = name then some v else mA y) → Heap.SameBut dx s.heap h' → Q () { s with heap := h', toks := s.toks + 2 }) :
  wpAny (model prog w) A (setAttr (.ref x) name v) Q E s := by
 obtain ⟨od, J, hl⟩ := I.look
 refine PySem.W.set_plain X J hs (PySem.W.osa_open (s := { s with toks := s.toks + 1 }) (r := none) X J hp ht fun b => ?_)
 obtain ⟨cd, hc, hd'⟩ := PySem.W.any_some hh
 have hx : s.heap.get? x = some ⟨.ref C, some dx, .plain, #[]⟩ := I.obj
 refine wpAny_bind (wpAny_pure (wpAny_bind (wpAny_bind (wpAny_loadPart hx (wpAny_bind (PySem.W.Looks.here (s := { s with toks := s.toks + 1 }) (PySem.W.looks_clsIn X hc) ?_))))))
 rw [hd']
 refine wpAny_pure (a := some dx) (wpAny_bind (wpAny_pure (wpAny_bind ?_)))
 refine wpAny_nsSet1 (s := { s with toks := s.toks + 1 }) I.ns fun h' hn2 hs2 => ?_
 obtain ⟨oD, esD, epD, hoD, hdD, hcD⟩ := hn2.count (PySem.Within.cons name v hw)
 refine wpAny_bind (wpAny_lookBehind hoD (by rw [hdD]; exact pastItsLine_dict (Nat.le_trans hcD (by rw [List.length_cons]; omega))) ?_)
 exact wpAny_pure (h _ ⟨(hs2.2 _ (Ne.symm I.ne)).trans I.obj, hn2, I.ne⟩ hs2)
end
noncomputable def putF (f : Str) (v : V) : List (Str × V) → List (Str × V)
 | [] => [(f, v)]
 | (g, x) :: r => if g = f then (g, v) :: r else (g, x) :: putF f v r
theorem lookup_putF (f g : Str) (v : V) : ∀ fs : List (Str × V), (putF f v fs).lookup g = if g = f then some v else fs.lookup g
 | [] => by
  show List.lookup g [(f, v)] = _
  by_cases h : g = f
  ·have hb : (g == f) = true := beq_iff_eq.mpr h
   simp only [List.lookup, hb, if_pos h]
  ·have hb : (g == f) = false := beq_eq_false_iff_ne.mpr h
   simp only [List.lookup, hb, if_neg h]
 | (k, x) :: r => by
  have ih := lookup_putF f g v r
  rw [show putF f v ((k, x) :: r) = (if k = f then (k, v) :: r else (k, x) :: putF f v r) from rfl]
  by_cases hk : k = f
  ·rw [if_pos hk]
   by_cases h : g = k
   ·have hb : (g == k) = true := beq_iff_eq.mpr h
    simp only [List.lookup, hb, if_pos (h.trans hk)]
   ·have hb : (g == k) = false := beq_eq_false_iff_ne.mpr h
    simp only [List.lookup, hb, if_neg (fun e : g = f => h (e.trans hk.symm))]
  ·rw [if_neg hk]
   by_cases h : g = k
   ·have hb : (g == k) = true := beq_iff_eq.mpr h
    simp only [List.lookup, hb, if_neg (fun e : g = f => hk (h.symm.trans e))]
   ·have hb : (g == k) = false := beq_eq_false_iff_ne.mpr h
    simp only [List.lookup, hb]
    exact ih
theorem keys_putF (f : Str) (v : V) : ∀ fs : List (Str × V), f ∈ (putF f v fs).map (·.1) ∧ ∀ g, g ∈ fs.map (·.1) → g ∈ (putF f v fs).map (·.1)
 | [] => ⟨by simp [putF], fun g h => by simp at h⟩
 | (k, x) :: r => by
  obtain ⟨i1, i2⟩ := keys_putF f v r
  rw [show putF f v ((k, x) :: r) = (if k = f then (k, v) :: r else (k, x) :: putF f v r) from rfl]
  by_cases hk : k = f
  ·rw [if_pos hk]
   subst hk
   exact ⟨by simp, fun g h => by simpa using h⟩
  ·rw [if_neg hk]
   refine ⟨?_, fun g h => ?_⟩
   ·rw [List.map_cons]
    exact List.mem_cons_of_mem _ i1
   ·rw [List.map_cons] at h ⊢
    rcases List.mem_cons.mp h with e | e
    ·exact List.mem_cons.mpr (.inl e)
    ·exact List.mem_cons_of_mem _ (i2 g e)
theorem length_putF (f : Str) (v : V) : ∀ fs : List (Str × V), (putF f v fs).length ≤ fs.length + 1
 | [] => by simp [putF]
 | (k, x) :: r => by
  have ih := length_putF f v r
  rw [show putF f v ((k, x) :: r) = (if k = f then (k, v) :: r else (k, x) :: putF f v r) from rfl]
  by_cases hk : k = f
  ·rw [if_pos hk, List.length_cons, List.length_cons]; omega
  ·rw [if_neg hk, List.length_cons, List.length_cons]; omega
theorem RelO.some_of {v : V} {o : Option Value} (r : RelO (some v) o) : ∃ u, o = some u ∧ RelV v u := by
 cases o with
 | none => exact (show False from r).elim
 | some u => exact ⟨u, rfl, r⟩
theorem handed_of {v : V} {u : Value} (r : RelV v u) : PySem.W.handedIn u = true := by
 cases v with
 | non => cases (show u = Value.none from r); rfl
 | bl b => cases (show u = Value.bool b from r); rfl
 | int i => obtain ⟨t, e⟩ := (show ∃ t, u = Value.int i t from r); cases e; rfl
 | str x => obtain ⟨t, e⟩ := (show ∃ t, u = Value.str x t from r); cases e; rfl
 | byt b => obtain ⟨t, e⟩ := (show ∃ t, u = Value.bytes b t from r); cases e; rfl
 | flt b => obtain ⟨t, e⟩ := (show ∃ t, u = Value.float b t from r); cases e; rfl
 | ref a => cases (show u = Value.ref a from r); rfl
 | ty n => cases (show u = Value.type n from r); rfl
section
variable {P : Program} {w : World} {H H' : Hp} {h h' : Heap} {a C dx : Addr} {fs fs' : List (Str × V)}
theorem ins_get (hok : HOk P w H h) (e : H a = some (.ins C dx fs)) : ∃ mA, ObjM h a dx C mA ∧ (∀ f, RelO (fs.lookup f) (mA f)) ∧ PySem.Within mA (fs.map (·.1)) ∧ fs.length ≤ 1000 ∧ H dx = some (.own a) := by
 obtain ⟨d, z, ne, ob, mA, n, r, q⟩ := (show ObjOk P w H h a (.ins C dx fs) from hok a _ e)
 exact ⟨mA, ⟨ob, n, ne⟩, r, q, z, d⟩
end
structure Cls (K : PySem.W.Frag) (C : Addr) : Prop where
 pg : PySem.W.plainGet K C Str.empty = true
 hd : PySem.W.hasDictIn K C = true
 po : PySem.W.plainOver K C = true
 sa : PySem.W.findIn K (.ref C) "__setattr__" = some (some (.builtin "object.__setattr__"))
theorem Cls.get {K : PySem.W.Frag} {C : Addr} (c : Cls K C) (f : Str) : PySem.W.plainGet K C f = true := c.pg
noncomputable def NoAttr (K : PySem.W.Frag) (C : Addr) (f : Str) : Prop := PySem.W.findIn K (.ref C) f = some none
theorem NoAttr.taker {K : PySem.W.Frag} {C : Addr} {f : Str} (n : NoAttr K C f) : PySem.W.takerIn K C f = some none := by
 unfold PySem.W.takerIn
 rw [show PySem.W.findIn K (.ref C) f = some none from n]
 rfl
structure Con (K : PySem.W.Frag) (C : Addr) (f : Str) (v : V) (u : Value) : Prop where
 at_ : PySem.W.findIn K (.ref C) f = some (some u)
 rel : RelV v u
 get : PySem.W.specialIn K u "__get__" = some none
 cp : PySem.W.copiedNames.contains f = false
structure Meth (K : PySem.W.Frag) (C : Addr) (m : Str) (f : Addr) : Prop where
 at_ : PySem.W.findIn K (.ref C) m = some (some (.ref f))
 fn : PySem.W.isFn K (.ref f) = true
 kp : PySem.W.keepIn K (.ref f) = true
section
variable {X : Cx} {pins : List (Addr × Obj)} {σ : St} {H : Hp} {s : Shared} {a C dx : Addr} {fs : List (Str × V)} {f : Str} {v : V} {A : Around} {E : Value → Shared → Prop}
theorem getattr_ok {b : Bool} {Q : Value → Shared → Prop} (I : Inv X pins σ H s) (e : H a = some (.ins C dx fs)) (c : Cls X.K C) (n : NoAttr X.K C f) (l : fs.lookup f = some v)
  (h : ∀ u s', Inv X pins σ H s' → RelV v u → Q u s') : wpAny (model X.prog X.w) A (getAttr (.ref a) f b) Q E s := by
 obtain ⟨mA, O, r, _, _, _⟩ := ins_get I.hok e
 obtain ⟨u, hu, ru⟩ := RelO.some_of (v := v) (o := mA f) (by rw [← l]; exact r f)
 exact get_map I.kIn O (c.get f) c.hd n hu (handed_of ru) (h u _ (I.tok _) ru)
theorem setattr_ok {y : V} {u : Value} {Q : Unit → Shared → Prop} (I : Inv X pins σ H s) (e : H a = some (.ins C dx fs)) (c : Cls X.K C) (n : NoAttr X.K C f) (hl : fs.length < 1000) (ry : RelV y u)
  (h : ∀ s', Inv X pins σ (upd H a (.ins C dx (putF f y fs))) s' → Q () s') : wpAny (model X.prog X.w) A (setAttr (.ref a) f u) Q E s := by
 obtain ⟨mA, O, r, wi, _, ho⟩ := ins_get I.hok e
 have hz : (fs.map (·.1)).length ≤ sizeLine := by rw [List.length_map, sizeLine_eq]; omega
 refine set_map I.kIn O c.sa c.po n.taker c.hd wi hz fun h' O' sb => h _ ?_
 have hd : ∃ o, h'.get? dx = some o := let ⟨o, _, _, e', _⟩ := O'.ns; ⟨o, e'⟩
 refine I.write (x := a) (e := dx) (by rw [e]; exact True.intro) (.inr ho) (fun b q hb z => (sb.2 b hb).trans z) hd ?_
 refine ⟨by rw [upd_ne O.ne]; exact ho, ?_, O.ne, O'.obj, _, O'.ns, fun g => ?_, fun g hg => ?_⟩
 ·have := length_putF f y fs; omega
 ·show RelO ((putF f y fs).lookup g) (if g = f then some u else mA g)
  rw [lookup_putF]
  by_cases q : g = f
  ·rw [if_pos q, if_pos q]; exact ry
  ·rw [if_neg q, if_neg q]; exact r g
 ·by_cases q : g = f
  ·rw [q]; exact (keys_putF f y fs).1
  ·refine (keys_putF f y fs).2 g (wi g fun z => hg ?_)
   show (if g = f then some u else mA g) = none
   rw [if_neg q]; exact z
theorem attr_of {prog : Program} {w : World} {env : Env} {e : Expr} {f : Str} {pos : Pos} {s : Shared} {Q : Value → Shared → Prop} (hb : attributeBase e f env (eval e env) = eval e env)
  (h : wpAny (model prog w) A (eval e env) (fun o s₁ => wpAny (model prog w) A (getAttr o f true) Q E s₁) E s) : wpAny (model prog w) A (eval (.Attribute e f pos) env) Q E s :=
 Attribute_any_ h (by rw [arm_eval_Attribute, hb])
end
noncomputable def tFld (K : PySem.W.Frag) (ta : TE) (f : Str) : TE := fun σ H Q => ta σ H fun x H1 => ∃ a C dx fs v, x = .ref a ∧ H1 a = some (.ins C dx fs) ∧ Cls K C ∧ NoAttr K C f ∧ fs.lookup f = some v ∧ Q v H1
noncomputable def tCon (K : PySem.W.Frag) (ta : TE) (f : Str) : TE := fun σ H Q => ta σ H fun x H1 => ∃ a C dx fs v u, x = .ref a ∧ H1 a = some (.ins C dx fs) ∧ Cls K C ∧ Con K C f v u ∧ fs.lookup f = none ∧ Q v H1
noncomputable def sFld (K : PySem.W.Frag) (ta tv : TE) (f : Str) : TS := fun D σ H => tv σ H fun y H1 => ta σ H1 fun x H2 => ∃ a C dx fs, x = .ref a ∧ H2 a = some (.ins C dx fs) ∧ Cls K C ∧ NoAttr K C f ∧ fs.length < 1000 ∧
 D.nx σ (upd H2 a (.ins C dx (putF f y fs)))
noncomputable def InOp (X : Cx) (op : Operator) (rd : V → V → Hp → VK → Prop) : Prop :=
 ∀ (pins : List (Addr × Obj)) (s : Shared) (σ : St) (H : Hp) (x y : V) (u v : Value) (Q : VK), Inv X pins σ H s → RelV x u → RelV y v → rd x y H Q → wpAny (model X.prog X.w) X.A (inplaceOp op u v) (EP X pins σ Q) X.xe s
noncomputable def sFldAug (K : PySem.W.Frag) (ta tv : TE) (rd : V → V → Hp → VK → Prop) (f : Str) : TS := fun D σ H => ta σ H fun x H1 => ∃ a C dx fs v, x = .ref a ∧ H1 a = some (.ins C dx fs) ∧ Cls K C ∧ NoAttr K C f ∧ fs.lookup f = some v ∧
 tv σ H1 fun y H2 => rd v y H2 fun z H3 => ∃ dx' fs', H3 a = some (.ins C dx' fs') ∧ fs'.length < 1000 ∧ D.nx σ (upd H3 a (.ins C dx' (putF f z fs')))
section
variable {X : Cx} {o e value : Expr} {f : Str} {pos pos' tpos : Pos} {ta tv : TE}
theorem pe_fld (he : PE X e ta) (hb : attributeBase e f X.env (eval e X.env) = eval e X.env) : PE X (.Attribute e f pos) (tFld X.K ta f) := by
 intro pins s σ H Q I h
 refine attr_of hb (thn (he pins s σ H _ I h) fun u s1 ⟨x, H1, I1, rx, a, C, dx, fs, v, ex, ea, c, n, l, q⟩ => ?_)
 subst ex
 obtain rfl : u = Value.ref a := rx
 exact getattr_ok I1 ea c n l fun u' s2 I2 ru => ⟨v, H1, I2, ru, q⟩
theorem ps_fld (ha : PE X o ta) (hv : PE X value tv) (hs : swapsWith value (some (.Attribute o f pos')) pos.line X.env = pure false) : PS X (.Assign [.Attribute o f pos'] value pos) (sFld X.K ta tv f) := by
 intro pins s σ H D I h
 refine plainObj_wpAny_Assign_Attribute (thn (hv pins s σ H _ I h) fun u s1 ⟨y, H1, I1, ry, q⟩ => thn (ha pins s1 σ H1 _ I1 q) fun ov s2 ⟨x, H2, I2, rx, a, C, dx, fs, ex, ea, c, n, l, q2⟩ => ?_) hs
 subst ex
 obtain rfl : ov = Value.ref a := rx
 exact setattr_ok I2 ea c n l ry fun s3 I3 => ⟨σ, _, I3, q2⟩
noncomputable def rAdd : V → V → Hp → VK → Prop := fun x y H Q => ∃ i j, x = .int i ∧ y = .int j ∧ Q (.int (i + j)) H
noncomputable def rSub : V → V → Hp → VK → Prop := fun x y H Q => ∃ i j, x = .int i ∧ y = .int j ∧ Q (.int (i - j)) H
end
section
variable {X : Cx} {pins : List (Addr × Obj)} {σ : St} {H : Hp} {s : Shared} {A : Around} {E : Value → Shared → Prop} {Q : Value → Shared → Prop} {c : Value} {b : Bool}
inductive TyOf (K : PySem.W.Frag) (H : Hp) : V → Value → Prop where
 | non : TyOf K H .non (.type "NoneType")
 | bl (x : Bool) : TyOf K H (.bl x) (.type "bool")
 | int (i : Int) : TyOf K H (.int i) (.type "int")
 | str (x : Str) : TyOf K H (.str x) (.type "str")
 | flt (x : UInt64) : TyOf K H (.flt x) (.type "float")
 | lst {a : Addr} {xs : List V} (e : H a = some (.lst xs)) : TyOf K H (.ref a) (.type "list")
 | frz {a : Addr} {o : Obj} {xs : List V} (e : H a = some (.frz o (.lst xs))) : TyOf K H (.ref a) (.type "list")
 | tup {a : Addr} {xs : List V} (e : H a = some (.tup xs)) : TyOf K H (.ref a) (.type "tuple")
 | dK {a : Addr} {kvs : List (Key × V)} (e : H a = some (.dK kvs)) : TyOf K H (.ref a) (.type "dict")
 | dT {a : Addr} {kvs : List (List Key × V)} (e : H a = some (.dT kvs)) : TyOf K H (.ref a) (.type "dict")
 | ins {a C dx : Addr} {fs : List (Str × V)} (e : H a = some (.ins C dx fs)) (cl : Cls K C) (ha : PySem.W.findIn K (.ref C) "__class__" = some (some (.builtin "object.__class__")))
   (hn : PySem.W.specialIn K (.builtin "object.__class__") "__get__" = some (some (.builtin "getset_descriptor.__get__"))) (htk : PySem.W.takesIn K (.builtin "object.__class__") = some true)
   (hm : PySem.W.mroIn K C (.type "object") = some true) : TyOf K H (.ref a) (.ref C)
theorem isinst_ok {x : V} {u t : Value} (I : Inv X pins σ H s) (rx : RelV x u) (ty : TyOf X.K H x t) (e : PySem.W.kitOne X.K t c = some b) (h : ∀ tk, Q (.bool b) { s with toks := tk }) :
  wpAny (model X.prog X.w) A (call (.builtin "isinstance") [u, c]) Q E s := by
 cases ty with
 | non => cases (show u = Value.none from rx); exact PySem.W.kia_one PySem.W.kitx_none I.kIn True.intro e (fun z => nomatch z) h
 | bl y => cases (show u = Value.bool y from rx); exact PySem.W.kia_one PySem.W.kitx_bool I.kIn True.intro e (fun z => nomatch z) h
 | int i => obtain ⟨t, q⟩ := (show ∃ t, u = Value.int i t from rx); cases q; exact PySem.W.kia_one PySem.W.kitx_int I.kIn True.intro e (fun z => nomatch z) h
 | str y => obtain ⟨t, q⟩ := (show ∃ t, u = Value.str y t from rx); cases q; exact PySem.W.kia_one PySem.W.kitx_str I.kIn True.intro e (fun z => nomatch z) h
 | flt y => obtain ⟨t, q⟩ := (show ∃ t, u = Value.float y t from rx); cases q; exact PySem.W.kia_one PySem.W.kitx_float I.kIn True.intro e (fun z => nomatch z) h
 | @lst a xs ea =>
  cases (show u = Value.ref a from rx)
  obtain ⟨_, _, n, _, h1⟩ := (show ObjOk X.prog X.w H s.heap a (.lst xs) from I.hok a _ ea)
  exact PySem.W.kia_one PySem.W.kitx_list I.kIn ⟨_, h1, rfl⟩ e (fun z => nomatch z) h
 | @frz a ob xs ea =>
  cases (show u = Value.ref a from rx)
  obtain ⟨_, _, _, n, _, h1⟩ := (show ObjOk X.prog X.w H s.heap a (.frz ob (.lst xs)) from I.hok a _ ea)
  exact PySem.W.kia_one PySem.W.kitx_list I.kIn ⟨_, h1, rfl⟩ e (fun z => nomatch z) h
 | @tup a xs ea =>
  cases (show u = Value.ref a from rx)
  obtain ⟨_, _, _, p⟩ := (show ObjOk X.prog X.w H s.heap a (.tup xs) from I.hok a _ ea)
  obtain ⟨o, h1, h2, _⟩ := p
  exact PySem.W.kia_one PySem.W.kitx_tuple I.kIn ⟨o, h1, h2⟩ e (fun z => nomatch z) h
 | @dK a kvs ea =>
  cases (show u = Value.ref a from rx)
  obtain ⟨_, _, vs, _, p⟩ := (show ObjOk X.prog X.w H s.heap a (.dK kvs) from I.hok a _ ea)
  obtain ⟨o, es, ep, h1, h2, _⟩ := p
  exact PySem.W.kia_one PySem.W.kitx_dict I.kIn ⟨o, h1, h2.1⟩ e (fun z => nomatch z) h
 | @dT a kvs ea =>
  cases (show u = Value.ref a from rx)
  obtain ⟨_, _, xs, _, o, es, ep, h1, h2, _⟩ := (show ObjOk X.prog X.w H s.heap a (.dT kvs) from I.hok a _ ea)
  exact PySem.W.kia_one PySem.W.kitx_dict I.kIn ⟨o, h1, h2.1⟩ e (fun z => nomatch z) h
 | @ins a C dx fs ea cl ha hn htk hm =>
  cases (show u = Value.ref a from rx)
  obtain ⟨mA, O, _⟩ := ins_get I.hok ea
  obtain ⟨od, J, _⟩ := O.look
  exact PySem.W.kia_one (PySem.W.kitx_own (cl.get _) cl.hd ha hn htk hm) I.kIn J e (fun z => nomatch z) h
end
end L2
namespace L2
open PySem PySem.Spec PyProof.Rows
structure Room (k : Nat) (A : Around) : Prop where
 hd : A.handled = none
 dp : A.depth + 3 * k + 5 < recursionLimit
 un : A.units + 16 * k + 200 < cLine
theorem Room.mono {j k : Nat} {A : Around} (r : Room k A) (h : j ≤ k) : Room j A := ⟨r.hd, by have := r.dp; omega, by have := r.un; omega⟩
theorem Room.deeper {k : Nat} {A : Around} (r : Room (k + 1) A) (env : Env) : Room k (A.deeper env) :=
 ⟨r.hd, by have := r.dp; show A.depth + 1 + 3 * k + 5 < _; omega, by have := r.un; show A.units + 3 + 16 * k + 200 < _; omega⟩
theorem Room.depth {k : Nat} {A : Around} (r : Room k A) : A.depth < recursionLimit := by have := r.dp; omega
noncomputable def tNil : TA := fun _ H Q => Q [] H
noncomputable def tCons (ta : TE) (tr : TA) : TA := fun σ H Q => ta σ H fun x H1 => tr σ H1 fun xs H2 => Q (x :: xs) H2
section
variable {X : Cx} {e : Expr} {es : List Expr} {te : TE} {t : TA} {pos : Pos}
theorem pa_nil : PA X [] tNil := fun _ _ _ _ H Q I h => Calls.spliced_nil ⟨[], H, I, .nil, h⟩
theorem pa_cons (ha : PE X e te) (hr : PA X es t) (hs : starEach (e :: es) X.env = (false, eval e X.env) :: starEach es X.env := by rfl) : PA X (e :: es) (tCons te t) := by
 intro pos pins s σ H Q I h
 rw [hs]
 show wpAny _ _ (spliced ((false, eval e X.env) :: backTo pos (starEach es X.env))) _ _ s
 refine Calls.spliced_cons (thn (ha pins s σ H _ I h) fun u s1 ⟨x, H1, I1, r1, q1⟩ => ?_)
 exact thn (hr pos pins s1 σ H1 _ I1 q1) fun us s2 ⟨xs, H2, I2, r2, q2⟩ => ⟨x :: xs, H2, I2, .cons r1 r2, q2⟩
noncomputable def tTup (t : TA) : TE := fun σ H Q => t σ H fun xs H1 => xs.length ≤ sizeLine ∧ ∀ p, H1 p = none → Q (.ref p) (upd H1 p (.tup xs))
noncomputable def tLst (t : TA) : TE := fun σ H Q => t σ H fun xs H1 => xs.length ≤ sizeLine ∧ ∀ p, H1 p = none → Q (.ref p) (upd H1 p (.lst xs))
theorem pe_tup {x1} (h : PA X es t) : PE X (.Tuple es x1 pos) (tTup t) := by
 intro pins s σ H Q I hq
 refine wpAny_Tuple_spliced (thn (h pos pins s σ H _ I hq) fun us s1 ⟨xs, H1, I1, r, z, q⟩ => ⟨by rw [← r.length]; exact z, ?_⟩)
 have hf : H1 s1.heap.objs.size = none := I1.hok.fresh (Nat.le_refl _)
 refine ⟨.ref s1.heap.objs.size, upd H1 s1.heap.objs.size (.tup xs), I1.laid (t' := s1.toks) (fun b u e => Heap.get?_push_of_some _ e) (Nat.le_refl _) ?_, rfl, q _ hf⟩
 exact ⟨z, us, r, ⟨_, Heap.get?_push_size _ rfl, rfl, _, rfl⟩⟩
theorem pe_lst (h : PA X es t) : PE X (.List es pos) (tLst t) := by
 intro pins s σ H Q I hq
 refine wpAny_List_spliced (thn (h pos pins s σ H _ I hq) fun us s1 ⟨xs, H1, I1, r, z, q⟩ => ⟨by rw [← r.length]; exact z, ?_⟩)
 have hf : H1 s1.heap.objs.size = none := I1.hok.fresh (Nat.le_refl _)
 refine ⟨.ref s1.heap.objs.size, upd H1 s1.heap.objs.size (.lst xs), I1.laid (t' := s1.toks) (fun b u e => Heap.get?_push_of_some _ e) (Nat.le_refl _) ?_, rfl, q _ hf⟩
 exact ⟨z, us, 0, r, Heap.get?_push_size _ rfl⟩
end
noncomputable abbrev Sp := List V → Hp → VK → XK → Prop
noncomputable abbrev CXT := List Env → Hp → Shared → XK → Value → Shared → Prop
structure Env0 (P : Program) (w : World) (K : PySem.W.Frag) (mg : Str → Option Value) (base : Heap) (A : Around) (outer : List Env) (s : Shared) (H : Hp) : Prop where
 frames : A.frames = some outer
 mod : Mod K mg base
 bs : ∀ b o, base.get? b = some o → s.heap.get? b = some o ∧ H b = none
 bsz : base.objs.size ≤ s.heap.objs.size
 funs : s.heap.FunFrames base outer
 frf : ∀ b ∈ frs outer, H b = none
 hok : HOk P w H s.heap
 bare : AllBare s.gens
noncomputable def CE (outer : List Env) (P : Program) (w : World) (H : Hp) (s : Shared) (Q : VK) (u : Value) (s' : Shared) : Prop :=
 ∃ v H', s'.os = s.os ∧ AllBare s'.gens ∧ Un (frs outer) [] H H' s.heap s'.heap ∧ HOk P w H' s'.heap ∧ RelV v u ∧ Q v H'
noncomputable def CR (CX : CXT) (outer : List Env) (P : Program) (w : World) (H : Hp) (s : Shared) (Q : VK) (E : XK) (r : Result) (s' : Shared) : Prop :=
 match r with
 | .ok (.ret u) => CE outer P w H s Q u s'
 | .ok _ => False
 | .error e => CX outer H s E e s'
structure FnOk (P : Program) (w : World) (K : PySem.W.Frag) (mg : Str → Option Value) (base : Heap) (CX : CXT) (k : Nat) (f : Addr) (fd : FuncData) (ps : List Str) (sp : Sp) : Prop where
 len : ∀ vs H Q E, sp vs H Q E → vs.length = ps.length
 run : ∀ (A : Around) (outer : List Env) (s : Shared) (H : Hp) (args : Args) (us : List Value) (vs : List V) (Q : VK) (E : XK), Room k A → Env0 P w K mg base A outer s H → BindsTo s fd args (ps.zip us) → Vals vs us → sp vs H Q E →
  codeAny (model P w) A (.call (.ref f) args) (CR CX outer P w H s Q E) s
theorem FnOk.mono {P : Program} {w : World} {K : PySem.W.Frag} {mg : Str → Option Value} {base : Heap} {CX : CXT} {j k : Nat} {f : Addr} {fd : FuncData} {ps : List Str} {sp : Sp} (F : FnOk P w K mg base CX j f fd ps sp) (h : j ≤ k) :
  FnOk P w K mg base CX k f fd ps sp := ⟨F.len, fun A outer s H args us vs Q E hr => F.run A outer s H args us vs Q E (hr.mono h)⟩
section
variable {X : Cx} {pins : List (Addr × Obj)} {σ : St} {H : Hp} {s s' : Shared}
theorem Inv.env0 (I : Inv X pins σ H s) : Env0 X.prog X.w X.K X.mg X.base X.A X.stack s H :=
 ⟨I.ok.frames, I.ok.mod, I.bs, Nat.le_trans I.ok.bsz I.sz, I.stack, I.stkFree, I.hok, I.bare⟩
theorem Inv.after {Q : VK} {u : Value} (I : Inv X pins σ H s) (h : CE X.stack X.prog X.w H s Q u s') : EP X pins σ Q u s' := by
 obtain ⟨v, H', os, bare, un, hok, r, q⟩ := h
 obtain ⟨hh, g, d, t, os'⟩ := s'
 obtain rfl : os' = s.os := os
 exact ⟨v, H', I.call (h' := hh) (g' := g) (d' := d) (t' := t) (ch := []) un hok bare (fun b z => absurd z (by simp)), r, q⟩
end
noncomputable def tCall (sp : Sp) (dvs : List V) (E : XK) (t : TA) : TE := fun σ H Q => t σ H fun vs H1 => sp (vs ++ dvs) H1 Q E
noncomputable def tMeth (C : Addr) (m : Str) (sp : Sp) (dvs : List V) (E : XK) (ta : TE) (t : TA) : TE := fun σ H Q => ta σ H fun x H1 => ∃ a dx fs, x = .ref a ∧ H1 a = some (.ins C dx fs) ∧ fs.lookup m = none ∧
 t σ H1 fun vs H2 => sp (x :: (vs ++ dvs)) H2 Q E
noncomputable def tMake (C : Addr) (sp : Sp) (dvs : List V) (E : XK) (t : TA) : TE := fun σ H Q => t σ H fun vs H1 => ∀ x dx, H1 x = none → H1 dx = none → dx ≠ x →
 sp (.ref x :: (vs ++ dvs)) (upd (upd H1 dx (.own x)) x (.ins C dx [])) (fun v H2 => v = .non ∧ Q (.ref x) H2) E
noncomputable def Binds (K : PySem.W.Frag) (fd : FuncData) (ps : List Str) (ds : List Value) : Prop :=
 ∀ (s : Shared) (us : List Value), K.In s.heap → (us ++ ds).length = ps.length → BindsTo s fd ⟨us, []⟩ (ps.zip (us ++ ds))
theorem Binds.all {K : PySem.W.Frag} {fd : FuncData} {ps : List Str} (h : ∀ us : List Value, us.length = ps.length → bindArgs fd ⟨us, []⟩ = pure (ps.zip us)) : Binds K fd ps [] := fun s us _ hl => by
 rw [List.append_nil] at hl ⊢
 exact .of_eq (h us hl)
noncomputable def Passes (CX : CXT) (X : Cx) (E : XK) : Prop := ∀ (pins : List (Addr × Obj)) (σ : St) (H : Hp) (s : Shared) (e : Value) (s' : Shared), Inv X pins σ H s → CX X.stack H s E e s' → X.xe e s'
section
variable {X : Cx} {CX : CXT} {k : Nat} {f C : Addr} {fd : FuncData} {ps : List Str} {sp : Sp} {dvs : List V} {ds : List Value} {E : XK} {x m : Str} {p pos apos : Pos} {e o : Expr} {es : List Expr} {ta : TE} {t : TA}
theorem run_fn {pins : List (Addr × Obj)} {σ : St} {H : Hp} {s : Shared} {Q : VK} {us : List Value} {vs : List V} (F : FnOk X.prog X.w X.K X.mg X.base CX k f fd ps sp) (hr : Room k X.A) (hb : Binds X.K fd ps ds) (hd : Vals dvs ds) (hx : Passes CX X E)
  (I : Inv X pins σ H s) (r : Vals vs us) (h : sp (vs ++ dvs) H Q E) : wpAny (model X.prog X.w) X.A (call (.ref f) us) (EP X pins σ Q) X.xe s := by
 have r2 : Vals (vs ++ dvs) (us ++ ds) := r.append hd
 have hl : (us ++ ds).length = ps.length := by rw [← r2.length]; exact F.len _ _ _ _ h
 refine wpAny_call (codeAny_mono (F.run X.A X.stack s H ⟨us, []⟩ (us ++ ds) (vs ++ dvs) Q E hr I.env0 (hb s us I.kIn hl) r2 h) fun r s' hq => ?_)
 cases r with
 | error e => exact hx pins σ H s e s' I hq
 | ok fl =>
  cases fl with
  | ret u => exact I.after hq
  | next => exact False.elim hq
  | brk => exact False.elim hq
  | cont => exact False.elim hq
theorem pe_call (F : FnOk X.prog X.w X.K X.mg X.base CX k f fd ps sp) (hr : Room k X.A) (hg : Gl X x) (hm : X.mg x = some (.ref f)) (hk : PySem.W.keepIn X.K (.ref f) = true) (hb : Binds X.K fd ps ds) (hd : Vals dvs ds) (hx : Passes CX X E)
  (ha : PA X (e :: es) t) (hdb : (x == ("__debug__" : Str)) = false := by decide) (he : starEach (e :: es) X.env = (false, eval e X.env) :: starEach es X.env := by rfl) (hpl : (backTo pos (starEach es X.env)).any (·.1) = false := by rfl) :
  PE X (.Call (.Name x p) (e :: es) [] pos) (tCall sp dvs E t) := by
 intro pins s σ H Q I h
 refine wpAny_Call_Name_kw (ld_glob I hg hm ?_ hdb)
 refine PySem.W.callWith_K (h₀ := X.base) I.ok.mod.kin hk (thn (ha pos pins s σ H _ I h) fun us s1 ⟨vs, H1, I1, r, q⟩ => ⟨I1.kIn, ?_⟩) he hpl
 exact run_fn F hr hb hd hx I1 r q
theorem pe_call0 (F : FnOk X.prog X.w X.K X.mg X.base CX k f fd ps sp) (hr : Room k X.A) (hg : Gl X x) (hm : X.mg x = some (.ref f)) (hk : PySem.W.keepIn X.K (.ref f) = true) (hb : Binds X.K fd ps ds) (hd : Vals dvs ds) (hx : Passes CX X E)
  (hdb : (x == ("__debug__" : Str)) = false := by decide) : PE X (.Call (.Name x p) [] [] pos) (tCall sp dvs E tNil) := by
 intro pins s σ H Q I h
 refine wpAny_Call_Name_kw (ld_glob I hg hm ?_ hdb)
 exact PySem.W.callWith_K0 I.kIn hk (run_fn (us := []) F hr hb hd hx I .nil h)
structure Mk (K : PySem.W.Frag) (C f : Addr) : Prop where
 makes : PySem.W.makesIn K C = true
 init : PySem.W.findIn K (.ref C) "__init__" = some (some (.ref f))
 fn : PySem.W.isFn K (.ref f) = true
 kp : PySem.W.keepIn K (.ref C) = true
end
noncomputable def PK (X : Cx) (kws : List Keyword) (t : TA) : Prop :=
 ∀ (pos : Pos) (pins : List (Addr × Obj)) (s : Shared) (σ : St) (H : Hp) (Q : List V → Hp → Prop), Inv X pins σ H s → t σ H Q → wpAny (model X.prog X.w) X.A (evalAll ((backToKw pos (keywordEach kws X.env)).map (·.2))) (AP X pins σ Q) X.xe s
section
variable {X : Cx} {CX : CXT} {k : Nat} {f C : Addr} {fd : FuncData} {ps ks : List Str} {sp : Sp} {E : XK} {x m : Str} {p pos apos kpos : Pos} {e o : Expr} {es : List Expr} {kws : List Keyword} {te ta : TE} {t tk : TA} {nm : Option Str}
structure KBinds (K : PySem.W.Frag) (fd : FuncData) (ps ks : List Str) (g : List Value → List Value → List Value) (gV : List V → List V → List V) : Prop where
 to : ∀ (s : Shared) (us ws : List Value), K.In s.heap → (g us ws).length = ps.length → BindsTo s fd ⟨us, ks.zip ws⟩ (ps.zip (g us ws))
 rel : ∀ {vs : List V} {us : List Value} {zs : List V} {ws : List Value}, Vals vs us → Vals zs ws → Vals (gV vs zs) (g us ws)
noncomputable def tCallK (sp : Sp) (gV : List V → List V → List V) (E : XK) (t tk : TA) : TE := fun σ H Q => t σ H fun vs H1 => tk σ H1 fun zs H2 => sp (gV vs zs) H2 Q E
variable {g : List Value → List Value → List Value} {gV : List V → List V → List V}
end
structure FnScope (N P : List Str) (sc : Scope) : Prop where
 kind : sc.kind = .function
 co : sc.isCoroutine = false
 gen : sc.isGenerator = false
 nd : N.Nodup
 pre : N.take P.length = P
 par : ∀ x ∈ P, sc.names.lookup x = some .local ∨ sc.names.lookup x = some .cell
 nofree : ∀ y ∈ sc.names, y.2 ≠ .free
theorem bindL_out {kindOf : Str → Option NameKind} {x : Str} : ∀ {binds : List (Str × Value)} {m : Str → Option Value}, (∀ v, (x, v) ∉ binds) → bindL kindOf binds m x = m x
 | [], _, _ => rfl
 | (n, v) :: r, m, h => by
  unfold bindL
  rw [bindL_out fun w hw => h w (List.mem_cons_of_mem _ hw)]
  split
  ·have : x ≠ n := by rintro rfl; exact h v List.mem_cons_self
   simp [this]
  ·rfl
theorem bindC_out {kindOf : Str → Option NameKind} {x : Str} : ∀ {binds : List (Str × Value)} {m : Str → Option Value}, (∀ v, (x, v) ∉ binds) → bindC kindOf binds m x = m x
 | [], _, _ => rfl
 | (n, v) :: r, m, h => by
  unfold bindC
  rw [bindC_out fun w hw => h w (List.mem_cons_of_mem _ hw)]
  split
  ·rfl
  ·have : x ≠ n := by rintro rfl; exact h v List.mem_cons_self
   simp [this]
theorem bindL_get {kindOf : Str → Option NameKind} {x : Str} {v : Value} : ∀ {P : List Str} {vs : List Value} {i : Nat} {m : Str → Option Value}, P.Nodup → P[i]? = some x → vs[i]? = some v → kindOf x = some .local →
  bindL kindOf (P.zip vs) m x = some v
 | [], _, _, _, _, h, _, _ => by simp at h
 | _ :: _, [], _, _, _, _, h, _ => by simp at h
 | p :: P, w :: vs, 0, m, nd, h1, h2, hk => by
  simp at h1 h2; subst h1; subst h2
  show bindL kindOf ((p, w) :: P.zip vs) m p = _
  unfold bindL
  rw [bindL_out fun v hv => (List.nodup_cons.mp nd).1 (List.of_mem_zip hv).1, if_pos hk]
  simp
 | p :: P, w :: vs, i + 1, m, nd, h1, h2, hk => by
  show bindL kindOf ((p, w) :: P.zip vs) m x = _
  unfold bindL
  exact bindL_get (i := i) (List.nodup_cons.mp nd).2 (by simpa using h1) (by simpa using h2) hk
theorem bindC_get {kindOf : Str → Option NameKind} {x : Str} {v : Value} : ∀ {P : List Str} {vs : List Value} {i : Nat} {m : Str → Option Value}, P.Nodup → P[i]? = some x → vs[i]? = some v → kindOf x ≠ some .local →
  bindC kindOf (P.zip vs) m x = some v
 | [], _, _, _, _, h, _, _ => by simp at h
 | _ :: _, [], _, _, _, _, h, _ => by simp at h
 | p :: P, w :: vs, 0, m, nd, h1, h2, hk => by
  simp at h1 h2; subst h1; subst h2
  show bindC kindOf ((p, w) :: P.zip vs) m p = _
  unfold bindC
  rw [bindC_out fun v hv => (List.nodup_cons.mp nd).1 (List.of_mem_zip hv).1, if_neg hk]
  simp
 | p :: P, w :: vs, i + 1, m, nd, h1, h2, hk => by
  show bindC kindOf ((p, w) :: P.zip vs) m x = _
  unfold bindC
  exact bindC_get (i := i) (List.nodup_cons.mp nd).2 (by simpa using h1) (by simpa using h2) hk
noncomputable def start (N : List Str) (vs : List V) : St := vs.map some ++ List.replicate (N.length - vs.length) none
noncomputable def cxOf (CX : CXT) (P : Program) (w : World) (K : PySem.W.Frag) (mg : Str → Option Value) (base : Heap) (N : List Str) (qual : Str) (scope : Scope) (f : Addr) (cd : Value) (A : Around) (outer : List Env) (s : Shared) (H : Hp) (E : XK) : Cx where
 prog := P
 w := w
 K := K
 mg := mg
 base := base
 A := A.deeper (envOfC qual scope s.heap.objs.size f cd)
 N := N
 s₀ := s
 H₀ := H
 env := envOfC qual scope s.heap.objs.size f cd
 outer := outer
 stack := envOfC qual scope s.heap.objs.size f cd :: outer
 ex := []
 calm := true
 fn := fun _ => true
 pn := []
 xe := fun e s' => wpAny (model P w) (A.deeper (envOfC qual scope s.heap.objs.size f cd)) (leaving (envOfC qual scope s.heap.objs.size f cd) e) (fun _ s'' => CX outer H s E e s'') (fun e' s'' => CX outer H s E e' s'') s'
theorem cell_has {sc : Scope} {n : Nat} {x : Str} (h : sc.names.lookup x = some .cell) : ∃ c, (cellsFrom n sc.names []).lookup x = some c := by
 have q := PySem.W.cellsFrom_some sc.names n [] (.inl h)
 exact Option.isSome_iff_exists.mp q
theorem inv_start {CX : CXT} {P : Program} {w : World} {K : PySem.W.Frag} {mg : Str → Option Value} {base : Heap} {N ps : List Str} {qual : Str} {scope : Scope} {f : Addr} {cd : Value} {A : Around} {outer : List Env} {s s1 : Shared} {H : Hp} {E : XK} {us : List Value} {vs : List V}
  (S : FnScope N ps scope) (hd : A.handled = none) (e0 : Env0 P w K mg base A outer s H) (hl : vs.length = ps.length) (r : Vals vs us)
  (x : InCallC s s.heap.objs.size (bindL (envOfC qual scope s.heap.objs.size f cd).kindOf (ps.zip us) fun _ => none) (cellsFrom (s.heap.objs.size + 1) scope.names []) (bindC (envOfC qual scope s.heap.objs.size f cd).kindOf (ps.zip us) fun _ => none) s1) :
  Inv (cxOf CX P w K mg base N qual scope f cd A outer s H E) [] (start N vs) H s1 := by
 have hpl : ps.length ≤ N.length := by have := congrArg List.length S.pre; rw [List.length_take] at this; omega
 obtain ⟨h1, tk, rfl, hk⟩ := x.done
 have noA : ∀ b : Addr, b ∉ (cxOf CX P w K mg base N qual scope f cd A outer s H E).ex := fun b z => absurd (show b ∈ ([] : List Addr) from z) (by simp)
 refine ⟨⟨e0.mod, S.kind, rfl, rfl, Nat.le_refl _, fun y z c h1 h2 => ?_, fun y hy => ?_, fun y c _ h => ?_, fun _ => hd, Around.frames_deeper e0.frames, .inr ⟨rfl, rfl⟩, fun b z => absurd z (noA b), e0.bs, e0.bsz, fun b _ _ => noA b, fun b z => absurd z (noA b), e0.funs, e0.frf⟩,
  rfl, e0.bare, Un.kept hk, ⟨_, x.toInCall.ns, fun i y v h1 h2 h3 => ?_⟩, fun y c h => ⟨_, x.cell y c h⟩, e0.hok.fresh (Nat.le_refl _), fun y c h => ?_, fun p hp => absurd (show p ∈ ([] : List (Addr × Obj)) from hp) (by simp), e0.hok.kept hk, ?_⟩
 ·exact name_of_addr x.apart (PySem.mem_of_lookup h1) (PySem.mem_of_lookup h2)
 ·have hy : scope.names.lookup y = some .cell ∨ scope.names.lookup y = some .free := hy
  rcases hy with hy | hy
  ·exact cell_has hy
  ·exact absurd rfl (S.nofree _ (PySem.mem_of_lookup hy))
 ·exact Nat.le_of_lt (x.above y c (PySem.mem_of_lookup h))
 ·have hi : i < vs.length := by
   unfold start at h2
   by_cases hi : i < vs.length
   ·exact hi
   ·rw [List.getElem?_append_right (by simpa using hi)] at h2
    rw [List.getElem?_replicate] at h2
    split at h2 <;> cases h2
  have ha : vs[i]? = some v := by
   unfold start at h2
   rw [List.getElem?_append_left (by simpa using hi), List.getElem?_map] at h2
   cases e : vs[i]? with
   | none => rw [e] at h2; cases h2
   | some a => rw [e] at h2; cases h2; rfl
  obtain ⟨u, hu, rv⟩ := r.get ha
  have hp : ps[i]? = some y := by
   rw [← S.pre, List.getElem?_take_of_lt (by omega)]; exact h1
  have ndP : ps.Nodup := by rw [← S.pre]; exact S.nd.sublist (List.take_sublist _ _)
  refine ⟨u, rv, ?_⟩
  rcases S.par y (List.mem_of_getElem? hp) with k | k
  ·exact .inl ⟨k, bindL_get ndP hp hu k⟩
  ·obtain ⟨c, e⟩ := cell_has (n := s.heap.objs.size + 1) k
   refine .inr ⟨.inl k, c, e, ?_⟩
   have q := x.cell y c e
   rw [bindC_get ndP hp hu (by show scope.names.lookup y ≠ _; rw [k]; decide)] at q
   exact q
 ·exact e0.hok.fresh (Nat.le_of_lt (x.above y c (PySem.mem_of_lookup h)))
 ·unfold start
  show _ = N.length
  rw [List.length_append, List.length_map, List.length_replicate]
  omega
theorem fn_of {CX : CXT} {P : Program} {w : World} {K : PySem.W.Frag} {mg : Str → Option Value} {base : Heap} {k : Nat} {f : Addr} {name qual : Str} {params : Arguments} {body : List Stmt} {scope : Scope} {dV kV doc pm cdv ct oc : Value} {an od : Option Addr}
  {osl : Array (Option Value)} {N ps : List Str} {sp : Sp} (lk : K.lookup f = some ⟨oc, od, .func (PySem.W.fnOf name qual params body scope dV kV doc pm an cdv ct), osl⟩) (hcd : PySem.W.codeIn K cdv qual = true) (S : FnScope N ps scope)
  (len : ∀ vs H Q E, sp vs H Q E → vs.length = ps.length)
  (hbody : ∀ (A : Around) (outer : List Env) (s : Shared) (H : Hp) (vs : List V) (Q : VK) (E : XK), Room k (A.deeper (envOfC qual scope s.heap.objs.size f cdv)) → sp vs H Q E →
   ∃ t, PSs (cxOf CX P w K mg base N qual scope f cdv A outer s H E) body t ∧ t { nx := fun _ H' => Q .non H', rt := Q } (start N vs) H) :
  FnOk P w K mg base CX (k + 1) f (PySem.W.fnOf name qual params body scope dV kV doc pm an cdv ct) ps sp := by
 refine ⟨len, fun A outer s H args us vs Q E hr e0 hb r hsp => ?_⟩
 have hl := len _ _ _ _ hsp
 have KX : K.In s.heap := e0.mod.kin.keeps fun b o e => (e0.bs b o e).1
 have lim : s.heap.NoLimit := e0.mod.nolimit.keeps fun b o e => (e0.bs b o e).1
 have hkind : ∀ y ∈ ps.zip us, scope.names.lookup y.1 = some .local ∨ (scope.names.lookup y.1 = some .cell ∧ ((cellsFrom (s.heap.objs.size + 1) scope.names []).lookup y.1).isSome = true) := fun ⟨n, v⟩ hy => by
  rcases S.par n (List.of_mem_zip hy).1 with q | q
  ·exact .inl q
  ·exact .inr ⟨q, PySem.W.cellsFrom_some _ _ _ (.inl q)⟩
 refine codeAny_call_function hr.depth (KX _ _ lk) rfl S.co S.gen rfl (PySem.W.codeRec_of KX hcd) (hb _ _ _ _ ?_)
 refine wpAny_newFunctionEnv_cells S.kind hkind fun env he s1 x => ?_
 subst he
 refine ⟨lim.keeps x.toInCall.keep, codeAny_func ?_⟩
 obtain ⟨t, ht, hq⟩ := hbody A outer s H vs Q E (hr.deeper _) hsp
 have I : Inv (cxOf CX P w K mg base N qual scope f cdv A outer s H E) [] (start N vs) H s1 := inv_start S hr.hd e0 hl r x
 refine wpAny_mono (ht [] s1 (start N vs) H _ I hq) (fun fl s' hs => ?_) fun e s' hs => hs
 have fin : ∀ {σ' : St} {H' : Hp} {v : V} {u : Value}, Inv (cxOf CX P w K mg base N qual scope f cdv A outer s H E) [] σ' H' s' → RelV v u → Q v H' → CE outer P w H s Q u s' :=
  fun {σ' H' v u} J rv q => ⟨v, H', J.os, J.bare, J.base, J.hok, rv, q⟩
 cases fl with
 | ret u =>
  obtain ⟨v, σ', H', J, rv, q⟩ := hs
  exact fin J rv q
 | next =>
  obtain ⟨σ', H', J, q⟩ := hs
  exact fin (v := V.non) (u := Value.none) J rfl q
 | brk =>
  obtain ⟨_, _, _, q⟩ := hs
  exact False.elim q
 | cont =>
  obtain ⟨_, _, _, q⟩ := hs
  exact False.elim q
end L2
namespace L2
open PySem PySem.Spec PyProof.Rows
section
variable {X : Cx} {x : Str} {p pos : Pos} {e : Expr} {es : List Expr} {t : TA} {id T : String} {r : List V → Hp → VK → Prop}
noncomputable def tCB (r : List V → Hp → VK → Prop) (t : TA) : TE := fun σ H Q => t σ H fun vs H1 => r vs H1 Q
theorem pe_callB (hc : CallR X (.builtin id) r) (hg : Gl X x) (hm : X.mg x = none) (hv : bootBuiltins x = some (.builtin id)) (ha : PA X (e :: es) t) (hn : x ≠ "__name__" := by decide) (hdb : (x == ("__debug__" : Str)) = false := by decide)
  (he : starEach (e :: es) X.env = (false, eval e X.env) :: starEach es X.env := by rfl) (hpl : (backTo pos (starEach es X.env)).any (·.1) = false := by rfl) : PE X (.Call (.Name x p) (e :: es) [] pos) (tCB r t) := by
 intro pins s σ H Q I h
 refine wpAny_Call_Name_kw (ld_blt I hg hm hv ?_ hn hdb)
 exact PyProof.Rows.callWith_builtin1 (thn (ha pos pins s σ H _ I h) fun us s1 ⟨vs, H1, I1, r1, q1⟩ => hc pins s1 σ H1 vs us Q I1 r1 q1) he hpl
theorem pe_callTy (hc : CallR X (.type T) r) (hg : Gl X x) (hm : X.mg x = none) (hv : bootBuiltins x = some (.type T)) (ha : PA X (e :: es) t) (hn : x ≠ "__name__" := by decide) (hdb : (x == ("__debug__" : Str)) = false := by decide)
  (he : starEach (e :: es) X.env = (false, eval e X.env) :: starEach es X.env := by rfl) (hpl : (backTo pos (starEach es X.env)).any (·.1) = false := by rfl) : PE X (.Call (.Name x p) (e :: es) [] pos) (tCB r t) := by
 intro pins s σ H Q I h
 refine wpAny_Call_Name_kw (ld_blt I hg hm hv ?_ hn hdb)
 exact PyProof.Rows.callWith_type1 (thn (ha pos pins s σ H _ I h) fun us s1 ⟨vs, H1, I1, r1, q1⟩ => hc pins s1 σ H1 vs us Q I1 r1 q1) he hpl
end
end L2
namespace HT
open PySem PyProof.Rows
noncomputable def lexLt : List Int → List Int → Bool
 | [], [] => false
 | [], _ :: _ => true
 | _ :: _, [] => false
 | x :: xs, y :: ys => if x = y then lexLt xs ys else decide (x < y)
section
open PySem.SeqAt
open PySem.AutoSeq1 (wpAny_loadPart')
open PySem.MeetsSeq PySem.MeetsSeq2 PySem.MeetsSeq3
end
section
variable {prog : Program} {w : World} {A : Around} {E : Value → Shared → Prop} {s : Shared}
theorem cat_tup {t b : Addr} {vs ws : List Value} {Q : Value → Shared → Prop} (ht : IsTup s.heap t vs.toArray) (hb : IsTup s.heap b ws.toArray) (hv : vs ≠ [])
  (h1 : ws = [] → Q (.ref t) s) (h2 : ws ≠ [] → Q (.ref s.heap.objs.size) { s with heap := s.heap.push { cls := .type "tuple", data := .seq (vs ++ ws).toArray } })
  (hsz : vs.length + ws.length ≤ sizeLine) : wpAny (model prog w) A (binaryOp .Add (.ref t) (.ref b)) Q E s := by
 obtain ⟨⟨cls, dd, data, sl⟩, ho, hc, n, hd⟩ := id ht
 obtain ⟨⟨cls2, dd2, data2, sl2⟩, ho2, hc2, n2, hd2⟩ := id hb
 simp only at hc hd hc2 hd2
 subst hc hd hc2 hd2
 have e : vs.toArray ++ ws.toArray = (vs ++ ws).toArray := by simp
 by_cases hw : ws = []
 ·exact concat_meets ⟨_, ho, rfl⟩ ⟨_, ho2, rfl⟩ noFill_tuple_add seq_tuple_add PySem.F.slot_tuple_add PySem.F.entry_tuple_add (PySem.F.args_tuple_add_2 _ _)
   (tuple_addW1 t b vs.toArray ws.toArray n n2 dd dd2 sl sl2 (by simpa using hv) (by simp [hw])) ⟨ho, ho2, h1 hw⟩
 ·refine concat_meets ⟨_, ho, rfl⟩ ⟨_, ho2, rfl⟩ noFill_tuple_add seq_tuple_add PySem.F.slot_tuple_add PySem.F.entry_tuple_add (PySem.F.args_tuple_add_2 _ _)
   (tuple_addW2 t b vs.toArray ws.toArray n n2 dd dd2 sl sl2 (by simpa using hv) (by simpa using hw) (by rw [List.size_toArray, List.size_toArray]; exact hsz)) ⟨ho, ho2, ?_⟩
  rw [e]
  exact h2 hw
noncomputable def sIx (n d : Nat) : Option Int → Nat
 | none => d
 | some v => if v < 0 then (v + (n : Int)).toNat else min v.toNat n
theorem sIx_le (n d : Nat) (hd : d ≤ n) (o : Option Int) : sIx n d o ≤ n := by
 cases o with
 | none => exact hd
 | some v =>
  show (if v < 0 then (v + (n : Int)).toNat else min v.toNat n) ≤ n
  by_cases hv : v < 0
  ·rw [if_pos hv]; omega
  ·rw [if_neg hv]; exact Nat.min_le_right _ _
theorem clip_eq (v : Int) (n d : Nat) : (if v < 0 then max (v + (n : Int)) 0 else min v (n : Int)) = ((sIx n d (some v) : Nat) : Int) := by
 show (if v < 0 then max (v + (n : Int)) 0 else min v (n : Int)) = (((if v < 0 then (v + (n : Int)).toNat else min v.toNat n) : Nat) : Int)
 by_cases hv : v < 0
 ·simp only [if_pos hv]; omega
 ·simp only [if_neg hv]; omega
theorem adjust_gen (lo hi : Option Int) (n : Nat) : Builtin.Slice.sliceAdjust lo hi 1 (n : Int) = (((sIx n 0 lo : Nat) : Int), ((sIx n n hi : Nat) : Int)) := by
 have h1 : ¬ ((1 : Int) < 0) := by omega
 unfold Builtin.Slice.sliceAdjust
 simp only [h1, if_false]
 refine Prod.ext ?_ ?_
 ·cases lo with
  | none => rfl
  | some v => exact clip_eq v n 0
 ·cases hi with
  | none => rfl
  | some v => exact clip_eq v n n
theorem places_gen (i j : Nat) : Builtin.Slice.slicePlaces (i : Int) (j : Int) 1 = j - i := by
 unfold Builtin.Slice.slicePlaces
 have h1 : (1 : Int) > 0 := by omega
 simp only [h1, if_true, Int.ediv_one]
 split <;> omega
theorem slicePart_ {v : Value} {o : Option Int} {Q : Option Int → Shared → Prop} (p : IsPart v o) (h : Q o s) : wpAny (model prog w) A (Builtin.Slice.slicePartIndex v) Q E s := by
 cases p with
 | none => exact slicePart_none h
 | int i t => exact slicePart_int h
theorem sliceApplied_gen {sl : Addr} {vl vu : Value} {lo hi : Option Int} {n : Nat} {Q : Int × Int × Nat → Shared → Prop} (hs : s.heap.IsSliceOf sl vl vu .none) (pl : IsPart vl lo) (pu : IsPart vu hi)
  (h : Q (((sIx n 0 lo : Nat) : Int), 1, sIx n n hi - sIx n 0 lo) s) : wpAny (model prog w) A (Builtin.Slice.sliceApplied (.ref sl) (pure (n : Int))) Q E s := by
 obtain ⟨os, hos, hcs, hds⟩ := id hs
 unfold Builtin.Slice.sliceApplied Builtin.Slice.sliceFields
 refine wpAny_bind (wpAny_bind (wpAny_field hos hds (x := vl) rfl (wpAny_bind (wpAny_field hos hds (x := vu) rfl (wpAny_bind (wpAny_field hos hds (x := .none) rfl (wpAny_pure ?_)))))))
 refine wpAny_bind (slicePart_none ?_)
 show wpAny _ _ (if ((1 : Int) == 0) = true then _ else _) _ _ s
 rw [if_neg (by decide)]
 refine wpAny_bind (slicePart_ pl (wpAny_bind (slicePart_ pu (wpAny_bind (wpAny_pure ?_)))))
 show wpAny _ _ (match Builtin.Slice.sliceAdjust lo hi 1 (n : Int) with | (lo, hi) => pure (lo, (1 : Int), Builtin.Slice.slicePlaces lo hi 1)) _ _ s
 rw [adjust_gen lo hi n]
 show wpAny _ _ (pure (((sIx n 0 lo : Nat) : Int), (1 : Int), Builtin.Slice.slicePlaces ((sIx n 0 lo : Nat) : Int) ((sIx n n hi : Nat) : Int) 1)) _ _ s
 rw [places_gen]
 exact wpAny_pure h
theorem pick_gen (xs : Array Value) (i k : Nat) : ((List.range k).filterMap fun (m : Nat) => xs[((i : Int) + (m : Int) * 1).toNat]?).toArray = ((xs.toList.drop i).take k).toArray := by
 have e : (fun (m : Nat) => xs[((i : Int) + (m : Int) * 1).toNat]?) = fun m => xs[i + m]? := by
  funext m
  have : ((i : Int) + (m : Int) * 1).toNat = i + m := by omega
  rw [this]
 rw [e]
 have := pick_run xs i k
 rw [List.filterMap_map] at this
 have e2 : ((fun x => xs[x]?) ∘ fun x => i + x) = fun m => xs[i + m]? := rfl
 rw [e2] at this
 rw [this]
theorem getItem_tuple_cut {t sl : Addr} {items : Array Value} {vl vu : Value} {lo hi : Option Int} {Q : Value → Shared → Prop} (ht : IsTup s.heap t items) (hs : s.heap.IsSliceOf sl vl vu .none) (pl : IsPart vl lo) (pu : IsPart vu hi)
  (hw : ¬ (sIx items.size 0 lo = 0 ∧ sIx items.size items.size hi = items.size))
  (h : Q (.ref s.heap.objs.size) { s with heap := s.heap.push { cls := .type "tuple", data := .seq ((items.toList.drop (sIx items.size 0 lo)).take (sIx items.size items.size hi - sIx items.size 0 lo)).toArray } })
  (hsz : items.size ≤ sizeLine) : wpAny (model prog w) A (getItem (.ref t) (.ref sl)) Q E s := by
 have htake : sizeOk (.seq ((items.toList.drop (sIx items.size 0 lo)).take (sIx items.size items.size hi - sIx items.size 0 lo)).toArray) := by
  show ((items.toList.drop (sIx items.size 0 lo)).take (sIx items.size items.size hi - sIx items.size 0 lo)).toArray.size ≤ sizeLine
  rw [List.size_toArray, List.length_take, List.length_drop, Array.length_toList]
  omega
 have hj : sIx items.size items.size hi ≤ items.size := sIx_le _ _ (Nat.le_refl _) hi
 obtain ⟨os, hos, hcs, hds⟩ := id hs
 have hTs : s.TypeIs (.ref sl) "slice" := ⟨os, hos, hcs⟩
 unfold getItem
 try with_reducible refine wpAny_holding ?_
 first | refine wpAny_bind (wpAny_pure ?_) | skip
 refine wpAny_bind (wpAny_sequenceKey ht.typeIs (by decide) ?_)
 refine wpAny_bind (wpAny_callSpecial?_slot (name := Str.ofString "__getitem__") ht.typeIs PyProof.Rows.slot_tuple_getitem
  (wpAny_call_entry PyProof.Rows.slot_tuple_getitem ht.typeIs entry_tuple_getitem ?_ (args_tuple_getitem _ _)))
 show wpAny _ _ (Builtin.Tuple.tupleItemsOf (.ref t) >>= _) _ _ s
 refine wpAny_bind (tupleItemsOf_ ht ?_)
 refine wpAny_bind (wpAny_typeOf hTs ?_)
 rw [if_pos (by decide)]
 refine wpAny_bind (sliceApplied_gen hs pl pu ?_)
 have hno : ¬ ((((sIx items.size 0 lo : Nat) : Int) == 0 && (1 : Int) == 1 && (sIx items.size items.size hi - sIx items.size 0 lo) == items.size) = true) := by
  intro q
  rw [Bool.and_eq_true, Bool.and_eq_true] at q
  have q1 : ((sIx items.size 0 lo : Nat) : Int) = 0 := eq_of_beq q.1.1
  have q2 : sIx items.size items.size hi - sIx items.size 0 lo = items.size := eq_of_beq q.2
  exact hw ⟨by omega, by omega⟩
 show wpAny _ _ (if (((sIx items.size 0 lo : Nat) : Int) == 0 && (1 : Int) == 1 && (sIx items.size items.size hi - sIx items.size 0 lo) == items.size) = true then _ else _) _ _ s
 rw [if_neg hno, pick_gen]
 first
  | exact wpAny_bind (m := Builtin.Tuple.tupleExact _) (wpAny_newObj_type (wpAny_pure ⟨_, rfl, wpAny_pure h⟩) htake)
  | exact wpAny_bind (m := Builtin.Tuple.tupleExact _) (wpAny_newObj_type (wpAny_bind (wpAny_pure (wpAny_pure ⟨_, rfl, wpAny_pure h⟩))) htake)
  | exact wpAny_bind (wpAny_bind (m := Builtin.Tuple.tupleExact _) (wpAny_newObj_type (wpAny_pure (wpAny_pure ⟨_, rfl, wpAny_pure h⟩)) htake))
  | exact wpAny_bind (wpAny_bind (m := Builtin.Tuple.tupleExact _) (wpAny_newObj_type (wpAny_pure ⟨_, rfl, wpAny_pure h⟩) htake))
end
end HT
namespace L2
open PySem PySem.Spec PyProof.Rows
noncomputable abbrev TO := St → Hp → (Option Int → Hp → Prop) → Prop
noncomputable def PO (X : Cx) (e : Option Expr) (t : TO) : Prop :=
 ∀ (pins : List (Addr × Obj)) (s : Shared) (σ : St) (H : Hp) (Q : Option Int → Hp → Prop), Inv X pins σ H s → t σ H Q →
  wpAny (model X.prog X.w) X.A (evalPart e X.env) (fun u s' => ∃ o H', Inv X pins σ H' s' ∧ IsPart u o ∧ Q o H') X.xe s
noncomputable def tNoPart : TO := fun _ H Q => Q none H
noncomputable def tPart (t : TE) : TO := fun σ H Q => t σ H fun x H1 => ∃ i, x = .int i ∧ Q (some i) H1
section
variable {X : Cx} {e : Expr} {te : TE} {lo hi : Option Expr} {tl th : TO} {pos p2 : Pos}
theorem po_none : PO X none tNoPart := by
 intro pins s σ H Q I h
 rw [evalPart_none]
 exact wpAny_pure ⟨none, H, I, .none, h⟩
theorem po_some (h : PE X e te) : PO X (some e) (tPart te) := by
 intro pins s σ H Q I hw
 rw [evalPart_some]
 refine thn (h pins s σ H _ I hw) fun u s1 ⟨x, H1, I1, r1, q1⟩ => ?_
 obtain ⟨i, rfl, q⟩ := q1
 obtain ⟨t, rfl⟩ := r1
 exact ⟨some i, H1, I1, .int i t, q⟩
noncomputable def SlR (X : Cx) (r : V → Option Int → Option Int → Hp → VK → Prop) : Prop :=
 ∀ (pins : List (Addr × Obj)) (s : Shared) (σ : St) (H : Hp) (x : V) (v vl vu : Value) (lo hi : Option Int) (sl : Addr) (Q : VK), Inv X pins σ H s → RelV x v → s.heap.IsSliceOf sl vl vu .none → IsPart vl lo → IsPart vu hi → r x lo hi H Q →
  ∃ T id, typeLookup (.type T) "__getitem__" = pure (some (.builtin id)) ∧ s.TypeIs v T ∧ wpAny (model X.prog X.w) X.A (getItem v (.ref sl)) (EP X pins σ Q) X.xe s
noncomputable def tSl (r : V → Option Int → Option Int → Hp → VK → Prop) (te : TE) (tl th : TO) : TE := fun σ H Q => te σ H fun x H1 => tl σ H1 fun l H2 => th σ H2 fun u H3 => r x l u H3 Q
theorem pe_slice {r : V → Option Int → Option Int → Hp → VK → Prop} (hr : SlR X r) (he : PE X e te) (hl : PO X lo tl) (hu : PO X hi th) : PE X (.Subscript e (.Slice lo hi none p2) pos) (tSl r te tl th) := by
 intro pins s σ H Q I h
 refine Subscript_ (thn (he pins s σ H _ I h) fun v s1 ⟨x, H1, I1, r1, q1⟩ => ?_)
 refine wpAny_Slice (thn (hl pins s1 σ H1 _ I1 q1) fun vl s2 ⟨l, H2, I2, pl, q2⟩ => thn (hu pins s2 σ H2 _ I2 q2) fun vu s3 ⟨u, H3, I3, pu, q3⟩ => ?_)
 rw [evalPart_none]
 refine wpAny_pure ?_
 have I4 : Inv X pins σ H3 { s3 with heap := s3.heap.push { cls := .type "slice", data := .fields #[vl, vu, .none] } } := I3.kept (t' := s3.toks) fun b ob q => Heap.get?_push_of_some _ q
 obtain ⟨T, id, hT, ht, hg⟩ := hr pins { s3 with heap := s3.heap.push { cls := .type "slice", data := .fields #[vl, vu, .none] } } σ H3 x v vl vu l u s3.heap.objs.size Q I4 r1 (Heap.IsSliceOf.new ..) pl pu q3
 show wpAny (model X.prog X.w) X.A (subscriptTail e (.Slice lo hi none p2) v (.ref s3.heap.objs.size)) (EP X pins σ Q) X.xe { s3 with heap := s3.heap.push { cls := .type "slice", data := .fields #[vl, vu, .none] } }
 exact tail_any (ops := [.ref s3.heap.objs.size, v]) ht hT hg (by with_unfolding_all rfl)
noncomputable def cutV (xs : List V) (lo hi : Option Int) : List V := (xs.drop (HT.sIx xs.length 0 lo)).take (HT.sIx xs.length xs.length hi - HT.sIx xs.length 0 lo)
theorem cutV_length (xs : List V) (lo hi : Option Int) : (cutV xs lo hi).length ≤ xs.length := by
 unfold cutV
 rw [List.length_take, List.length_drop]
 omega
noncomputable def rSlT (K : PySem.W.Frag) : V → Option Int → Option Int → Hp → VK → Prop := fun x lo hi H Q => ∃ a xs, x = .ref a ∧ SqT K H a xs ∧
 ¬ (HT.sIx xs.length 0 lo = 0 ∧ HT.sIx xs.length xs.length hi = xs.length) ∧ ∀ p, H p = none → Q (.ref p) (upd H p (.tup (cutV xs lo hi)))
theorem sl_tup : SlR X (rSlT X.K) := by
 intro pins s σ H x v vl vu lo hi sl Q I rx hs pl pu h
 obtain ⟨a, xs, rfl, hx, hw, q⟩ := h
 cases rx
 obtain ⟨its, r, ht, hz⟩ := I.tuple hx
 have hlen : its.toArray.size = xs.length := by rw [List.size_toArray]; exact r.length.symm
 refine ⟨"tuple", _, PyProof.Rows.slot_tuple_getitem.lookup, ht.typeIs, ?_⟩
 refine HT.getItem_tuple_cut ht hs pl pu (by rw [hlen]; exact hw) ?_ (by rw [hlen]; exact hz)
 rw [hlen]
 refine ⟨.ref s.heap.objs.size, _, I.laid (t' := s.toks) (o := .tup (cutV xs lo hi)) (fun b ob q => Heap.get?_push_of_some _ q) (Nat.le_refl _) ?_, rfl, q _ (I.hok.fresh (Nat.le_refl _))⟩
 exact ⟨Nat.le_trans (cutV_length xs lo hi) hz, _, (r.drop (HT.sIx xs.length 0 lo)).take (HT.sIx xs.length xs.length hi - HT.sIx xs.length 0 lo), IsTup.new _ _⟩
noncomputable def rLtT (K : PySem.W.Frag) : R2 := fun x y H Q => ∃ a b ns ms, x = .ref a ∧ y = .ref b ∧ SqT K H a (ns.map V.int) ∧ SqT K H b (ms.map V.int) ∧ Q (.bl (HT.lexLt ns ms)) H
noncomputable def rCatT (K : PySem.W.Frag) : R2 := fun x y H Q => ∃ a b xs ys, x = .ref a ∧ y = .ref b ∧ SqT K H a xs ∧ SqT K H b ys ∧ xs ≠ [] ∧ xs.length + ys.length ≤ sizeLine ∧
 (ys = [] → Q (.ref a) H) ∧ (ys ≠ [] → ∀ p, H p = none → Q (.ref p) (upd H p (.tup (xs ++ ys))))
theorem Vals.nil_iff {xs : List V} {us : List Value} (r : Vals xs us) : us = [] ↔ xs = [] := by
 cases r with
 | nil => simp
 | cons _ _ => simp
theorem op_catT : OpR X (binaryOp .Add) (rCatT X.K) := by
 intro pins s σ H x y v u Q I rx ry h
 obtain ⟨a, b, xs, ys, rfl, rfl, ha, hb, hx, hz, q1, q2⟩ := h
 cases rx
 cases ry
 obtain ⟨its, r1, p1, _⟩ := I.tuple ha
 obtain ⟨its2, r2, p2, _⟩ := I.tuple hb
 refine HT.cat_tup p1 p2 (fun z => hx (r1.nil_iff.mp z)) (fun z => ⟨.ref a, H, I, rfl, q1 (r2.nil_iff.mp z)⟩) (fun z => ?_) (by rw [← r1.length, ← r2.length]; exact hz)
 refine ⟨.ref s.heap.objs.size, _, I.laid (t' := s.toks) (o := .tup (xs ++ ys)) (fun b ob q => Heap.get?_push_of_some _ q) (Nat.le_refl _) ?_, rfl, q2 (fun w => z (r2.nil_iff.mpr w)) _ (I.hok.fresh (Nat.le_refl _))⟩
 exact ⟨by rw [List.length_append]; exact hz, _, r1.append r2, IsTup.new _ _⟩
end
end L2
namespace L2
open PySem PySem.Spec PyProof.Rows
noncomputable def ixN (n : Nat) (i : Int) : Option Nat := if 0 ≤ i then (if i < n then some i.toNat else none) else if -(n : Int) ≤ i then some (i + n).toNat else none
noncomputable def atI {α : Type} (xs : List α) (i : Int) : Option α := (ixN xs.length i).bind fun j => xs[j]?
theorem ixN_seq {n : Nat} {i : Int} {j : Nat} (h : ixN n i = some j) : seqIndex? i n = some j ∧ j < n ∧ -(n : Int) ≤ i ∧ i < n := by
 unfold ixN at h
 by_cases h0 : 0 ≤ i
 ·rw [if_pos h0] at h
  by_cases h1 : i < n
  ·rw [if_pos h1] at h
   have e : i.toNat = j := Option.some.inj h
   exact ⟨by rw [seqIndex_of h0 h1, e], by omega, by omega, h1⟩
  ·rw [if_neg h1] at h; cases h
 ·rw [if_neg h0] at h
  by_cases h1 : -(n : Int) ≤ i
  ·rw [if_pos h1] at h
   have e : (i + n).toNat = j := Option.some.inj h
   exact ⟨by rw [seqIndex_neg (by omega) h1, e], by omega, h1, by omega⟩
  ·rw [if_neg h1] at h; cases h
theorem atI_get {α : Type} {xs : List α} {i : Int} {v : α} (h : atI xs i = some v) : ∃ j, seqIndex? i xs.length = some j ∧ xs[j]? = some v ∧ j < xs.length ∧ -(xs.length : Int) ≤ i ∧ i < xs.length := by
 unfold atI at h
 cases e : ixN xs.length i with
 | none => rw [e] at h; cases h
 | some j =>
  rw [e] at h
  obtain ⟨h1, h2, h3, h4⟩ := ixN_seq e
  exact ⟨j, h1, h, h2, h3, h4⟩
noncomputable def PlainIx (b : Expr) : Prop := ∀ o i, subscripted b false o i = operate [o, i] (getItem o i)
noncomputable def IxR (X : Cx) (r : R2) : Prop :=
 ∀ (value slice : Expr) (pins : List (Addr × Obj)) (s : Shared) (σ : St) (H : Hp) (x y : V) (v u : Value) (Q : VK), Inv X pins σ H s → RelV x v → RelV y u → r x y H Q →
  subscripted slice false v u = operate [v, u] (getItem v u) → wpAny (model X.prog X.w) X.A (subscriptTail value slice v u) (EP X pins σ Q) X.xe s
noncomputable def MtR (X : Cx) (id : String) (r : V → List V → Hp → VK → Prop) : Prop :=
 ∀ (pins : List (Addr × Obj)) (s : Shared) (σ : St) (H : Hp) (x : V) (xs : List V) (v : Value) (us : List Value) (Q : VK), Inv X pins σ H s → RelV x v → Vals xs us → r x xs H Q →
  wpAny (model X.prog X.w) X.A (call (.builtin id) (v :: us)) (EP X pins σ Q) X.xe s
section
variable {X : Cx} {a b : Expr} {ta tb : TE} {pos : Pos}
theorem pe_ix {r : R2} (hr : IxR X r) (ha : PE X a ta) (hb : PE X b tb) (hs : PlainIx b) : PE X (.Subscript a b pos) (tOp r ta tb) := by
 intro pins s σ H Q I h
 exact Subscript_ (binT ha hb I h fun v u s2 x y H2 I2 rx ry q => hr a b pins s2 σ H2 x y v u Q I2 rx ry q (hs _ _))
noncomputable def rIxL (K : PySem.W.Frag) : R2 := fun x y H Q => ∃ p xs i v, x = .ref p ∧ y = .int i ∧ SqL K H p xs ∧ atI xs i = some v ∧ Q v H
noncomputable def rIxT (K : PySem.W.Frag) : R2 := fun x y H Q => ∃ p xs i v, x = .ref p ∧ y = .int i ∧ SqT K H p xs ∧ atI xs i = some v ∧ Q v H
noncomputable def rIxS : R2 := fun x y H Q => ∃ z i c, x = .str z ∧ y = .int i ∧ z.length ≤ sizeLine ∧ atI z.cps.toList i = some c ∧ Q (.str ⟨#[c]⟩) H
theorem ix_list : IxR X (rIxL X.K) := by
 intro value slice pins s σ H x y v u Q I rx ry h hs
 obtain ⟨p, xs, i, z, rfl, rfl, hq, he, q⟩ := h
 cases rx
 obtain ⟨t, rfl⟩ := ry
 obtain ⟨its, r, pl, hz⟩ := I.list hq
 obtain ⟨j, h1, h2, h3, h4, h5⟩ := atI_get he
 obtain ⟨w, ew, rw'⟩ := r.get h2
 have hl := r.length
 have hn := line63
 have fin : EP X pins σ Q w s := ⟨z, H, I, rw', q⟩
 by_cases h0 : 0 ≤ i
 ·have hj : i.toNat = j := by
   rw [seqIndex_of h0 h5] at h1
   exact Option.some.inj h1
  exact item_listR pl.isList h0 (by omega) (by rw [hj]; simpa using ew) fin hs
 ·have hj : (i + (its.toArray.size : Int)).toNat = j := by
   rw [seqIndex_neg (by omega) h4] at h1
   rw [List.size_toArray, ← hl]
   exact Option.some.inj h1
  exact subscriptTail_builtinR (x := w) pl.isList.typeIs slot_list_getitem.lookup
   (wpAny_getItem_list_neg (Q := fun r s' => r = w ∧ EP X pins σ Q r s') pl.isList (by omega) (by rw [List.size_toArray] <;> omega) (by omega) (by rw [hj]; simpa using ew) ⟨rfl, fin⟩) hs
theorem ix_tup : IxR X (rIxT X.K) := by
 intro value slice pins s σ H x y v u Q I rx ry h hs
 obtain ⟨p, xs, i, z, rfl, rfl, hq, he, q⟩ := h
 cases rx
 obtain ⟨t, rfl⟩ := ry
 obtain ⟨its, r, pl, hz⟩ := I.tuple hq
 obtain ⟨j, h1, h2, h3, h4, h5⟩ := atI_get he
 obtain ⟨w, ew, rw'⟩ := r.get h2
 have hl := r.length
 have hn := line63
 have fin : EP X pins σ Q w s := ⟨z, H, I, rw', q⟩
 exact subscriptTail_builtinR (x := w) pl.typeIs slot_tuple_getitem.lookup
  (getItem_tuple (j := j) (Q := fun r s' => r = w ∧ EP X pins σ Q r s') pl (by omega) (by omega) (by rw [List.size_toArray, ← hl]; exact h1) (by simpa using ew) ⟨rfl, fin⟩) hs
theorem ix_str : IxR X rIxS := by
 intro value slice pins s σ H x y v u Q I rx ry h hs
 obtain ⟨z, i, c, rfl, rfl, hz, he, q⟩ := h
 obtain ⟨t, rfl⟩ := rx
 obtain ⟨t', rfl⟩ := ry
 obtain ⟨j, h1, h2, h3, h4, h5⟩ := atI_get he
 have hl : z.cps.toList.length = z.length := by simp [Str.length]
 rw [hl] at h1 h4 h5
 have hn := line63
 exact tail_any (typeIs_str s z t) slot_str_getitem.lookup (getItem_str (c := c) (by
  have e1 : decide (i < -(2 ^ 63 : Int)) = false := decide_eq_false (by omega)
  have e2 : decide (i ≥ 2 ^ 63) = false := decide_eq_false (by omega)
  rw [e1, e2, Bool.or_false]) (by rw [h1]; simpa using h2) ⟨.str ⟨#[c]⟩, H, I.tok _, ⟨_, rfl⟩, q⟩) hs
noncomputable def rIx (K : PySem.W.Frag) : R2 := fun x y H Q => rIxL K x y H Q ∨ rIxT K x y H Q ∨ rIxS x y H Q
theorem mapSeq_set (its : List Value) (n j : Nat) (u : Value) : Obj.mapSeq (·.setIfInBounds j u) { cls := .type "list", data := .seq its.toArray n } = { cls := .type "list", data := .seq (its.set j u).toArray n } := by
 simp [Obj.mapSeq]
theorem Inv.lst {pins : List (Addr × Obj)} {σ : St} {H : Hp} {s : Shared} {p : Addr} {xs : List V} (I : Inv X pins σ H s) (h : H p = some (.lst xs)) :
  ∃ (its : List Value) (n : Nat), Vals xs its ∧ s.heap.get? p = some { cls := .type "list", data := .seq its.toArray n } ∧ xs.length ≤ sizeLine := by
 obtain ⟨z, its, n, r, e⟩ := I.hok p _ h
 exact ⟨its, n, r, e, z⟩
theorem Inv.lstUpd {pins : List (Addr × Obj)} {σ : St} {H : Hp} {s : Shared} {p : Addr} {xs ys : List V} {its its' : List Value} {n n' : Nat} {f : Obj → Obj} (I : Inv X pins σ H s) (h : H p = some (.lst xs))
  (ho : s.heap.get? p = some { cls := .type "list", data := .seq its.toArray n }) (hf : f { cls := .type "list", data := .seq its.toArray n } = { cls := .type "list", data := .seq its'.toArray n' }) (r : Vals ys its') (hz : ys.length ≤ sizeLine) (t : Nat) :
  Inv X pins σ (upd H p (.lst ys)) { s with heap := s.heap.update p f, toks := t } := by
 have e : (s.heap.update p f).get? p = some { cls := .type "list", data := .seq its'.toArray n' } := by
  rw [Heap.get?_update_self f ho (by rw [hf] <;> rfl), hf]
 refine I.write (x := p) (e := p) (by rw [h]; trivial) (.inl rfl) (fun b u hb q => (Heap.get?_update_other _ _ (Ne.symm hb)).trans q) ⟨_, e⟩ ?_
 exact ⟨hz, its', n', r, e⟩
noncomputable def rSetL : V → V → V → Hp → (Hp → Prop) → Prop := fun o i v H Q => ∃ p xs k j, o = .ref p ∧ i = .int k ∧ H p = some (.lst xs) ∧ ixN xs.length k = some j ∧ Q (upd H p (.lst (xs.set j v)))
theorem set_list : PSet X rSetL := by
 intro pins s σ H o i v ov iv u Q I ro ri rv h
 obtain ⟨p, xs, k, j, rfl, rfl, hp, hj, q⟩ := h
 cases ro
 obtain ⟨t, rfl⟩ := ri
 obtain ⟨its, n, r, ho, hz⟩ := I.lst hp
 obtain ⟨h1, h2, h3, h4⟩ := ixN_seq hj
 have hl := r.length
 have hn := line63
 have I' : Inv X pins σ (upd H p (.lst (xs.set j v))) { s with heap := s.heap.update p (Obj.mapSeq (·.setIfInBounds j u)) } :=
  I.lstUpd hp ho (mapSeq_set its n j u) (r.set rv j) (by rw [List.length_set]; exact hz) s.toks
 by_cases h0 : 0 ≤ k
 ·have hk : k.toNat = j := by
   rw [seqIndex_of h0 h4] at h1
   exact Option.some.inj h1
  exact PySem.W.ki_setAt ho h0 (by omega) (by rw [List.size_toArray, ← hl]; exact h4) (by rw [hk]; exact ⟨_, I', q⟩)
 ·have hk : (k + (its.toArray.size : Int)).toNat = j := by
   rw [seqIndex_neg (by omega) h3] at h1
   rw [List.size_toArray, ← hl]
   exact Option.some.inj h1
  exact PySem.W.ki_setBack ho (by omega) (by rw [List.size_toArray, ← hl]; exact h3) (by omega) (by rw [hk]; exact ⟨_, I', q⟩)
theorem slice_bounds (lo hi : Option Int) (n : Nat) : (sliceBounds lo hi none n).1 = ((HT.sIx n 0 lo : Nat) : Int) ∧ (sliceBounds lo hi none n).2.1 = ((HT.sIx n n hi : Nat) : Int) ∧ (sliceBounds lo hi none n).2.2 = 1 := by
 refine ⟨?_, ?_, rfl⟩
 ·cases lo with
  | none => simp [sliceBounds, HT.sIx]
  | some i =>
   simp only [sliceBounds, HT.sIx, Option.getD_none, show (1 : Int) > 0 by decide, if_true]
   by_cases h : i < 0
   ·simp only [h, if_true] <;> omega
   ·simp only [h, if_false] <;> omega
 ·cases hi with
  | none => simp [sliceBounds, HT.sIx]
  | some i =>
   simp only [sliceBounds, HT.sIx, Option.getD_none, show (1 : Int) > 0 by decide, if_true]
   by_cases h : i < 0
   ·simp only [h, if_true] <;> omega
   ·simp only [h, if_false] <;> omega
theorem slicePick_cut (its : List Value) (lo hi : Option Int) : slicePick its.toArray lo hi none = ((its.drop (HT.sIx its.length 0 lo)).take (HT.sIx its.length its.length hi - HT.sIx its.length 0 lo)).toArray := by
 obtain ⟨h1, h2, h3⟩ := slice_bounds lo hi its.toArray.size
 unfold slicePick
 rw [h1, h2, h3]
 simp only [sliceRange_one, pick_run, List.size_toArray] <;> rfl
noncomputable def rSlL (K : PySem.W.Frag) : V → Option Int → Option Int → Hp → VK → Prop := fun x lo hi H Q => ∃ a xs, x = .ref a ∧ SqL K H a xs ∧ ∀ p, H p = none → Q (.ref p) (upd H p (.lst (cutV xs lo hi)))
theorem sl_list : SlR X (rSlL X.K) := by
 intro pins s σ H x v vl vu lo hi sl Q I rx hs pl pu h
 obtain ⟨a, xs, rfl, hx, q⟩ := h
 cases rx
 obtain ⟨its, r, ht, hz⟩ := I.list hx
 have hlen := r.length
 refine ⟨"list", _, slot_list_getitem.lookup, ht.isList.typeIs, ?_⟩
 refine wpAny_getItem_list_slice ht.isList hs pl pu .none (by simp) ?_ (by rw [List.size_toArray] <;> omega)
 rw [slicePick_cut, ← hlen]
 refine ⟨.ref s.heap.objs.size, _, I.laid (t' := s.toks) (o := .lst (cutV xs lo hi)) (fun b ob q => Heap.get?_push_of_some _ q) (Nat.le_refl _) ?_, rfl, q _ (I.hok.fresh (Nat.le_refl _))⟩
 exact ⟨Nat.le_trans (cutV_length xs lo hi) hz, _, 0, (r.drop (HT.sIx xs.length 0 lo)).take (HT.sIx xs.length xs.length hi - HT.sIx xs.length 0 lo), Heap.get?_push_size _ rfl⟩
noncomputable def flatV : V → Bool
 | .non => true
 | .bl _ => true
 | .int _ => true
 | .str _ => true
 | _ => false
noncomputable def eqV : V → V → Bool
 | .non, .non => true
 | .bl a, .bl b => a == b
 | .bl a, .int b => (if a then 1 else 0) == b
 | .int a, .bl b => a == (if b then 1 else 0)
 | .int a, .int b => a == b
 | .str a, .str b => a == b
 | _, _ => false
noncomputable def eqU (x : V) (u : Value) : Bool := match u with
 | .none => eqV .non x
 | .bool b => eqV (.bl b) x
 | .int i _ => eqV (.int i) x
 | .str z _ => eqV (.str z) x
 | _ => false
noncomputable def inV (x : V) (xs : List V) : Bool := xs.any fun y => eqV y x
noncomputable def rIn (K : PySem.W.Frag) (neg : Bool) : R2 := fun x y H Q => ∃ p xs, y = .ref p ∧ (SqL K H p xs ∨ SqT K H p xs) ∧ flatV x = true ∧ xs.all flatV = true ∧ Q (.bl (if neg then !inV x xs else inV x xs)) H
theorem op_notIn_str : OpR X (compareOp .NotIn) (fun x y H Q => ∃ i j, x = .str i ∧ y = .str j ∧ Q (.bl (!(!(Builtin.Str.occurrences j i 0 j.length 1).isEmpty))) H) := by
 intro pins s σ H x y v u Q I rx ry h
 obtain ⟨i, j, rfl, rfl, q⟩ := h
 obtain ⟨t, rfl⟩ := rx
 obtain ⟨t', rfl⟩ := ry
 exact notIn_str ⟨.bl _, H, I, rfl, q⟩
theorem call_len_seq : CallR X (.builtin "len") (fun xs H Q => ∃ p ys, xs = [.ref p] ∧ (SqL X.K H p ys ∨ SqT X.K H p ys) ∧ Q (.int ys.length) H) := by
 intro pins s σ H xs us Q I r h
 obtain ⟨p, ys, rfl, hq, q⟩ := h
 obtain ⟨u, rfl, rx⟩ := vals1 r
 cases rx
 have hn := line63
 rcases hq with hq | hq
 ·obtain ⟨its, r', pl, hz⟩ := I.list hq
  have hlen := r'.length
  exact Calls.call_len_list pl.isList (by simp only [List.size_toArray] <;> omega) ⟨.int ys.length, H, I.tok _, ⟨s.toks + 1, by rw [List.size_toArray, hlen]⟩, q⟩
 ·obtain ⟨its, r', pl, hz⟩ := I.tuple hq
  have hlen := r'.length
  exact len_tuple pl (by simp only [List.size_toArray] <;> omega) ⟨.int ys.length, H, I.tok _, ⟨s.toks + 1, by rw [List.size_toArray, hlen]⟩, q⟩
theorem call_len_str : CallR X (.builtin "len") (fun xs H Q => ∃ z, xs = [.str z] ∧ z.length ≤ sizeLine ∧ Q (.int z.length) H) := by
 intro pins s σ H xs us Q I r h
 obtain ⟨z, rfl, hz, q⟩ := h
 obtain ⟨u, rfl, t, rfl⟩ := vals1 r
 have hn := line63
 exact len_str (by omega) ⟨.int z.length, H, I.tok _, ⟨_, rfl⟩, q⟩
theorem call_list_of : CallR X (.type "list") (fun xs H Q => ∃ p ys, xs = [.ref p] ∧ (SqL X.K H p ys ∨ SqT X.K H p ys) ∧ ∀ l, H l = none → Q (.ref l) (upd H l (.lst ys))) := by
 intro pins s σ H xs us Q I r h
 obtain ⟨p, ys, rfl, hq, q⟩ := h
 obtain ⟨u, rfl, rx⟩ := vals1 r
 cases rx
 have fin : ∀ (its : List Value), Vals ys its → ys.length ≤ sizeLine → ∀ (h' : Heap) (c' : Nat), (∀ b o', s.heap.get? b = some o' → h'.get? b = some o') →
   h'.get? s.heap.objs.size = some { cls := .type "list", dict := none, data := .seq its.toArray c', slots := #[] } → EP X pins σ Q (.ref s.heap.objs.size) { s with heap := h' } := fun its r' hz h' c' kp e =>
  ⟨.ref s.heap.objs.size, _, I.laid (t' := s.toks) kp (Nat.le_refl _) (show ObjOk X.prog X.w _ h' _ (.lst ys) from ⟨hz, its, c', r', e⟩), rfl, q _ (I.hok.fresh (Nat.le_refl _))⟩
 rcases hq with hq | hq
 ·obtain ⟨its, r', pl, hz⟩ := I.list hq
  have hlen := r'.length
  obtain ⟨o, ho, hc, n, hd⟩ := pl.isList
  exact call_list_seq p (.inl rfl) ho hc hd (fun h' c' kp e => fin its r' hz h' c' kp e) (by simp only [List.size_toArray] <;> omega)
 ·obtain ⟨its, r', pl, hz⟩ := I.tuple hq
  have hlen := r'.length
  obtain ⟨o, ho, hc, n, hd⟩ := pl
  exact call_list_seq p (.inr rfl) ho hc hd (fun h' c' kp e => fin its r' hz h' c' kp e) (by simp only [List.size_toArray] <;> omega)
noncomputable def tyV (K : PySem.W.Frag) (T : String) (x : V) (H : Hp) : Prop := match x with
 | .str _ => T = "str"
 | .int _ => T = "int"
 | .ref p => (T = "list" ∧ ∃ xs, SqL K H p xs) ∨ (T = "tuple" ∧ ∃ o, K.lookup p = some o ∧ o.cls = .type "tuple" ∧ o.dict = none) ∨
   (T = "dict" ∧ ((∃ kvs, H p = some (.dK kvs)) ∨ ∃ kvs, H p = some (.dT kvs))) ∨ (T = "set" ∧ ∃ S n, H p = some (.set S n))
 | _ => False
theorem tyV_is {pins : List (Addr × Obj)} {σ : St} {H : Hp} {s : Shared} {T : String} {x : V} {v : Value} (I : Inv X pins σ H s) (r : RelV x v) (ty : tyV X.K T x H) :
  s.TypeIs v T ∧ ∀ a, v = .ref a → ∃ ob, s.heap.get? a = some ob ∧ ob.dict = none := by
 cases x with
 | str z =>
  obtain ⟨t, rfl⟩ := r
  cases (show T = "str" from ty)
  exact ⟨typeIs_str s z t, fun _ e => nomatch e⟩
 | int i =>
  obtain ⟨t, rfl⟩ := r
  cases (show T = "int" from ty)
  exact ⟨typeIs_int s i t, fun _ e => nomatch e⟩
 | ref p =>
  cases r
  rcases ty with ⟨rfl, xs, hq⟩ | ⟨rfl, o, hk, hc, hd⟩ | ⟨rfl, hk⟩ | ⟨rfl, S, n, hk⟩
  ·obtain ⟨its, _, pl, _⟩ := I.list hq
   refine ⟨pl.isList.typeIs, fun a e => ?_⟩
   cases e
   obtain ⟨o, n, e, c, hd, _⟩ := pl
   exact ⟨o, e, hd⟩
  ·refine ⟨⟨o, I.kIn p o hk, hc⟩, fun a e => ?_⟩
   cases e
   exact ⟨o, I.kIn _ o hk, hd⟩
  ·have z : ∃ o, s.heap.get? p = some o ∧ o.ExactDict := by
    rcases hk with ⟨kvs, hk⟩ | ⟨kvs, hk⟩
    ·obtain ⟨_, _, _, _, o, _, _, e, ex, _⟩ := I.hok p _ hk
     exact ⟨o, e, ex⟩
    ·obtain ⟨_, _, _, _, o, _, _, e, ex, _⟩ := I.hok p _ hk
     exact ⟨o, e, ex⟩
   obtain ⟨o, e, ex⟩ := z
   refine ⟨⟨o, e, ex.1⟩, fun a e2 => ?_⟩
   cases e2
   exact ⟨o, e, ex.2.1⟩
  ·obtain ⟨o, _, _, _, e, ex, _⟩ := I.hok p _ hk
   refine ⟨⟨o, e, ex.1⟩, fun a e2 => ?_⟩
   cases e2
   exact ⟨o, e, ex.2.1⟩
 | _ => exact False.elim ty
noncomputable def tBM0 (K : PySem.W.Frag) (T : String) (r : V → List V → Hp → VK → Prop) (to : TE) : TE := fun σ H Q => to σ H fun x H1 => tyV K T x H1 ∧ r x [] H1 Q
noncomputable def tBM (K : PySem.W.Frag) (T : String) (r : V → List V → Hp → VK → Prop) (to : TE) (t : TA) : TE := fun σ H Q => to σ H fun x H1 => tyV K T x H1 ∧ t σ H1 fun xs H2 => r x xs H2 Q
variable {o e : Expr} {es : List Expr} {to : TE} {t : TA} {name : Str} {apos cpos : Pos} {T id : String} {r : V → List V → Hp → VK → Prop}
theorem pe_bm0 (pa : PlainAttrs T) (slot : Slot T name id) (hty : typeOf (.builtin id) = pure (.type "method_descriptor")) (hm : MtR X id r) (ho : PE X o to)
  (hbase : attributeBase o name X.env (eval o X.env) = eval o X.env := by rfl) (hline : (apos.endLine == cpos.line) = true := by rfl) : PE X (.Call (.Attribute o name apos) [] [] cpos) (tBM0 X.K T r to) := by
 intro pins s σ H Q I h
 refine wpAny_Call_method0_late hbase hline (thn (ho pins s σ H _ I h) fun v s1 ⟨x, H1, I1, r1, ty, q1⟩ => ?_)
 obtain ⟨h1, h2⟩ := tyV_is I1 r1 ty
 exact ⟨T, id, pa, slot, hty, h1, h2, Calls.callWith_builtin rfl (PySem.evalArgs_none (hm pins s1 σ H1 x [] v [] Q I1 r1 .nil q1))⟩
theorem pe_bm (pa : PlainAttrs T) (slot : Slot T name id) (hty : typeOf (.builtin id) = pure (.type "method_descriptor")) (hm : MtR X id r) (ho : PE X o to) (ha : PA X (e :: es) t)
  (hbase : attributeBase o name X.env (eval o X.env) = eval o X.env := by rfl)
  (hfew : ((backTo cpos (starEach (e :: es) X.env)).all (fun x => !x.1) && (backToKw cpos (keywordEach [] X.env)).all (fun x => x.1.isSome)
   && decide ((e :: es).length + ([] : List Keyword).length + (if ([] : List Keyword).isEmpty then 0 else 1) < 30)) = true := by rfl)
  (hline : (apos.endLine == cpos.line) = true := by rfl) (hs : starEach (e :: es) X.env = (false, eval e X.env) :: starEach es X.env := by rfl) (hplain : (backTo cpos (starEach es X.env)).any (·.1) = false := by rfl) :
  PE X (.Call (.Attribute o name apos) (e :: es) [] cpos) (tBM X.K T r to t) := by
 intro pins s σ H Q I h
 refine wpAny_Call_method_late hbase hfew hline rfl (thn (ho pins s σ H _ I h) fun v s1 ⟨x, H1, I1, r1, ty, q1⟩ => ?_)
 obtain ⟨h1, h2⟩ := tyV_is I1 r1 ty
 refine ⟨T, id, pa, slot, hty, h1, h2, ?_⟩
 have hA := ha cpos pins s1 σ H1 _ I1 q1
 rw [hs] at hA ⊢
 refine Calls.callWith_builtin (by show (false || (backTo cpos (starEach es X.env)).any (·.1)) = false; rw [hplain] <;> rfl) (Calls.evalArgs_plain ?_)
 exact thn hA fun us s2 ⟨vs, H2, I2, r2, q2⟩ => hm pins s2 σ H2 x vs v us Q I2 r1 r2 q2
/- xs.append(e), list.index on a module's tuple .. are MtR facts of 06m -/
end
end L2
namespace L2
open PySem PySem.Spec PyProof.Rows
noncomputable def MtM (X : Cx) (id : String) (r : V → List V → Hp → VK → Prop) : Prop :=
 ∀ (pins : List (Addr × Obj)) (s : Shared) (σ : St) (H : Hp) (x : V) (xs : List V) (v : Value) (us : List Value) (Q : VK), Inv X pins σ H s → RelV x v → Vals xs us → r x xs H Q →
  wpAny (model X.prog X.w) X.A (call (.builtin id) (v :: us)) (EP X pins σ Q) X.xe s
theorem Vals.one : ∀ {x : V} {us : List Value}, Vals [x] us → ∃ u, us = [u] ∧ RelV x u
 | _, _, .cons r .nil => ⟨_, rfl, r⟩
theorem Vals.zero : ∀ {us : List Value}, Vals [] us → us = []
 | _, .nil => rfl
theorem Vals.dropLast {xs : List V} {us : List Value} (h : Vals xs us) : Vals xs.dropLast us.dropLast := by
 induction h with
 | nil => exact .nil
 | cons r t ih =>
  cases t with
  | nil => exact .nil
  | cons q t' => exact .cons r ih
theorem Vals.reverse {xs : List V} {us : List Value} (h : Vals xs us) : Vals xs.reverse us.reverse := by
 induction h with
 | nil => exact .nil
 | cons r t ih => rw [List.reverse_cons, List.reverse_cons]; exact Vals.append ih (.cons r .nil)
theorem Vals.rep {xs : List V} {us : List Value} (h : Vals xs us) : ∀ k : Nat, Vals (List.replicate k xs).flatten (List.replicate k us).flatten
 | 0 => .nil
 | k + 1 => by
  rw [List.replicate_succ, List.replicate_succ, List.flatten_cons, List.flatten_cons]
  exact Vals.append h (Vals.rep h k)
theorem erase_last {α : Type} (l : List α) : l.eraseIdx (l.length - 1) = l.dropLast := by
 induction l with
 | nil => rfl
 | cons a r ih =>
  cases r with
  | nil => rfl
  | cons b r =>
   have e : (a :: b :: r).length - 1 = ((b :: r).length - 1) + 1 := by
    have h1 : (a :: b :: r).length = r.length + 2 := rfl
    have h2 : (b :: r).length = r.length + 1 := rfl
    omega
   rw [e, List.eraseIdx_cons_succ, ih]
   all_goals rfl
theorem foldl_rep (its : List Value) : ∀ (k : Nat) (acc : List Value),
  List.foldl (fun x1 x2 => x1 ++ x2) acc.toArray (List.replicate k its.toArray) = (acc ++ (List.replicate k its).flatten).toArray
 | 0, acc => by simp
 | k + 1, acc => by
  have e : acc.toArray ++ its.toArray = (acc ++ its).toArray := by simp
  have e2 : (acc ++ its) ++ (List.replicate k its).flatten = acc ++ (List.replicate (k + 1) its).flatten := by
   rw [List.replicate_succ, List.flatten_cons, List.append_assoc]
  rw [← e2, ← foldl_rep its k (acc ++ its), ← e, List.replicate_succ, List.foldl_cons]
section
variable {X : Cx} {pins : List (Addr × Obj)} {σ : St} {H : Hp} {s : Shared} {l b : Addr} {xs ys zs : List V}
theorem Inv.lset {its its' : List Value} {n : Nat} {f : Array Value → Array Value} {t' : Nat} (I : Inv X pins σ H s) (hH : H l = some (.lst xs))
  (e : s.heap.get? l = some { cls := .type "list", data := .seq its.toArray n }) (hf : f its.toArray = its'.toArray) (hv : Vals ys its') (hz : ys.length ≤ sizeLine) :
  Inv X pins σ (upd H l (.lst ys)) { s with heap := s.heap.update l (Obj.mapSeq f), toks := t' } := by
 have q := PySem.IsL.update e f
 rw [hf] at q
 refine I.write (x := l) (e := l) (by rw [hH]; exact trivial) (.inl rfl) (fun b' u hb hu => (Heap.get?_update_other s.heap (Obj.mapSeq f) (Ne.symm hb)).trans hu) ⟨_, q⟩ ?_
 exact ⟨hz, its', _, hv, q⟩
theorem Inv.lnew {its : List Value} {t' : Nat} (I : Inv X pins σ H s) (hv : Vals ys its) (hz : ys.length ≤ sizeLine) :
  Inv X pins σ (upd H s.heap.objs.size (.lst ys)) { s with heap := s.heap.push { cls := .type "list", data := .seq its.toArray }, toks := t' } :=
 I.laid (fun _ _ q => Heap.get?_push_of_some _ q) (Nat.le_refl _) ⟨hz, its, 0, hv, Heap.get?_push_size _ rfl⟩
theorem Inv.fresh (I : Inv X pins σ H s) : H s.heap.objs.size = none := I.hok.fresh (Nat.le_refl _)
theorem Inv.lstM (I : Inv X pins σ H s) (hH : H l = some (.lst xs)) : xs.length ≤ sizeLine ∧ ∃ (its : List Value) (n : Nat), Vals xs its ∧ xs.length = its.length ∧ s.heap.get? l = some { cls := .type "list", data := .seq its.toArray n } := by
 obtain ⟨z, its, n, r, e⟩ := I.hok l _ hH
 exact ⟨z, its, n, r, r.length, e⟩
theorem notLongL {n : Nat} (h : n ≤ sizeLine) : Builtin.List.listTooLong n = false := by
 unfold Builtin.List.listTooLong
 exact decide_eq_false (by omega)
end
section
variable {X : Cx}
noncomputable def rAppend : V → List V → Hp → VK → Prop := fun x vs H Q => ∃ l xs y, x = .ref l ∧ vs = [y] ∧ H l = some (.lst xs) ∧ xs.length < sizeLine ∧ Q .non (upd H l (.lst (xs ++ [y])))
theorem mt_append : MtM X "list.append" rAppend := by
 intro pins s σ H x vs v us Q I rx rv h
 obtain ⟨l, xs, y, rfl, rfl, hH, hz, q⟩ := h
 cases rx
 obtain ⟨u, rfl, ru⟩ := rv.one
 obtain ⟨z, its, n, r, hl, e⟩ := I.lstM hH
 refine call_meets F.slot_list_append ⟨_, e, rfl⟩ F.entry_list_append (F.args_list_append_2 _ _) (PySem.list_append l its.toArray n u (by rw [List.size_toArray]; omega)) ⟨e, ?_⟩
 refine ⟨.non, _, I.lset (its' := its ++ [u]) hH e (by simp) (r.append (.cons ru .nil)) ?_, rfl, q⟩
 rw [List.length_append, List.length_singleton]
 omega
noncomputable def rExtend : V → List V → Hp → VK → Prop := fun x vs H Q => ∃ l b xs zs, x = .ref l ∧ vs = [.ref b] ∧ H l = some (.lst xs) ∧ H b = some (.lst zs) ∧ xs.length + zs.length ≤ sizeLine ∧ Q .non (upd H l (.lst (xs ++ zs)))
noncomputable def rPop : V → List V → Hp → VK → Prop := fun x vs H Q => ∃ l xs y, x = .ref l ∧ vs = [] ∧ H l = some (.lst xs) ∧ xs[xs.length - 1]? = some y ∧ Q y (upd H l (.lst xs.dropLast))
theorem mt_pop : MtM X "list.pop" rPop := by
 intro pins s σ H x vs v us Q I rx rv h
 obtain ⟨l, xs, y, rfl, rfl, hH, hy, q⟩ := h
 cases rx
 have hus := rv.zero
 subst hus
 obtain ⟨z, its, n, r, hl, e⟩ := I.lstM hH
 obtain ⟨u, hu, ru⟩ := r.get hy
 have hy' : its.toArray[its.toArray.size - 1]? = some u := by
  show its.toArray[its.length - 1]? = some u
  rw [← Array.getElem?_toList, ← hl]
  exact hu
 refine call_meets F.slot_list_pop ⟨_, e, rfl⟩ F.entry_list_pop (F.args_list_pop_1 _) (MeetsSeq.list_pop_last l its.toArray n u hy' (by rw [List.size_toArray]; omega)) ⟨e, ?_⟩
 refine ⟨y, _, I.lset (its' := its.dropLast) hH e ?_ r.dropLast ?_, ru, q⟩
 ·show its.toArray.eraseIdxIfInBounds (its.toArray.size - 1) = its.dropLast.toArray
  rw [List.size_toArray, List.eraseIdxIfInBounds_toArray, erase_last]
 ·rw [List.length_dropLast]
  omega
noncomputable def rPopAt : V → List V → Hp → VK → Prop := fun x vs H Q => ∃ l xs i k y, x = .ref l ∧ vs = [.int i] ∧ H l = some (.lst xs) ∧ -(2 ^ 63) ≤ i ∧ i < 2 ^ 63 ∧ seqIndex? i xs.length = some k ∧ xs[k]? = some y ∧ Q y (upd H l (.lst (xs.eraseIdx k)))
noncomputable def rReverse : V → List V → Hp → VK → Prop := fun x vs H Q => ∃ l xs, x = .ref l ∧ vs = [] ∧ H l = some (.lst xs) ∧ Q .non (upd H l (.lst xs.reverse))
noncomputable def rClear : V → List V → Hp → VK → Prop := fun x vs H Q => ∃ l xs, x = .ref l ∧ vs = [] ∧ H l = some (.lst xs) ∧ Q .non (upd H l (.lst []))
noncomputable def rCat : R2 := fun x y H Q => ∃ l b xs zs, x = .ref l ∧ y = .ref b ∧ H l = some (.lst xs) ∧ H b = some (.lst zs) ∧ xs.length + zs.length ≤ sizeLine ∧ ∀ p, H p = none → Q (.ref p) (upd H p (.lst (xs ++ zs)))
theorem op_cat : OpR X (binaryOp .Add) rCat := by
 intro pins s σ H x y v u Q I rx ry h
 obtain ⟨l, b, xs, zs, rfl, rfl, hH, hB, hz, q⟩ := h
 cases rx
 cases ry
 obtain ⟨z, its, n, r, hl, e⟩ := I.lstM hH
 obtain ⟨z2, its2, n2, r2, hl2, e2⟩ := I.lstM hB
 refine PySem.P.add_list e e2 ?_ (by rw [List.size_toArray, List.size_toArray]; omega)
 have ea : its.toArray ++ its2.toArray = (its ++ its2).toArray := by simp
 rw [ea]
 exact ⟨.ref _, _, I.lnew (t' := s.toks) (r.append r2) (by rw [List.length_append]; omega), rfl, q _ I.fresh⟩
noncomputable def rRep : R2 := fun x y H Q => ∃ l k xs, x = .ref l ∧ y = .int k ∧ H l = some (.lst xs) ∧ -(2 ^ 63) ≤ k ∧ k < 2 ^ 63 ∧ xs.length * k.toNat ≤ sizeLine ∧
 ∀ p, H p = none → Q (.ref p) (upd H p (.lst (List.replicate k.toNat xs).flatten))
theorem len_rep {α : Type} (xs : List α) (k : Nat) : (List.replicate k xs).flatten.length = k * xs.length := by
 induction k with
 | zero => simp
 | succ k ih => rw [List.replicate_succ, List.flatten_cons, List.length_append, ih, Nat.succ_mul, Nat.add_comm]
theorem op_rep : OpR X (binaryOp .Mult) rRep := by
 intro pins s σ H x y v u Q I rx ry h
 obtain ⟨l, k, xs, rfl, rfl, hH, h1, h2, hz, q⟩ := h
 cases rx
 obtain ⟨t, rfl⟩ := ry
 obtain ⟨z, its, n, r, hl, e⟩ := I.lstM hH
 have hlen : its.toArray.size * k.toNat ≤ sizeLine := by rw [List.size_toArray, ← hl]; exact hz
 have hcap : ¬ its.toArray.size * k.toNat > (2 ^ 63 - 1) / 8 := by
  have : (sizeLine : Nat) ≤ (2 ^ 63 - 1) / 8 := by decide
  omega
 have hfit : ¬ (!Builtin.List.listFitsIndex k) = true := by
  rw [fitsIndex_both h1 h2]
  exact Bool.false_ne_true
 have hlong : ¬ Builtin.List.listTooLong (its.toArray.size * k.toNat) = true := by
  rw [notLongL hlen]
  exact Bool.false_ne_true
 have hnew : List.foldl (fun x1 x2 => x1 ++ x2) #[] (List.replicate (if its.toArray.isEmpty = true then 0 else k.toNat) its.toArray) = (List.replicate k.toNat its).flatten.toArray := by
  have f0 : ∀ m : Nat, List.foldl (fun x1 x2 => x1 ++ x2) #[] (List.replicate m its.toArray) = (List.replicate m its).flatten.toArray := fun m => by
   have := foldl_rep its m []
   rw [List.nil_append] at this
   exact this
  rw [f0]
  cases its with
  | nil => simp
  | cons a r' => rw [if_neg (by simp)]
 refine wpAny_binaryOp_repeat_ref (T := "list") (U := "int") (by decide) ⟨_, e, rfl⟩ (fun s' => typeIs_int s' k t) noFill_list_mul F.fills_int_mul F.slot_int_rmul repeat_list F.slot_int_index.lookup
  (call_meets F.slot_int_rmul (typeIs_int s k t) F.entry_int_rmul (F.args_int_rmul_2 _ _) (int___rmul___int_list k t l its.toArray n)
   ⟨e, rfl, ⟨_, e, rfl⟩, call_meets F.slot_list_mul ⟨_, e, rfl⟩ F.entry_list_mul (F.args_list_mul_2 _ _) (AutoListH.list___mul___list_int_3 l its.toArray n k t hfit hcap hlong) ⟨e, ?_⟩⟩)
 rw [hnew]
 exact ⟨.ref _, _, I.lnew (t' := s.toks) (r.rep k.toNat) (by rw [len_rep, Nat.mul_comm]; exact hz), rfl, q _ I.fresh⟩
end
section
variable {prog : Program} {w : World} {A : Around} {E : Value → Shared → Prop} {s : Shared}
set_option maxRecDepth 100000 in
end
section
variable {X : Cx}
end
end L2
namespace L2
open PySem PySem.Spec PyProof.Rows
section
variable {κ : Type} [DecidableEq κ]
noncomputable def valV (kvs : List (κ × V)) (k : κ) : Option V := (kvs.find? fun kv => decide (kv.1 = k)).map (·.2)
noncomputable def putK (kvs : List (κ × V)) (k : κ) (v : V) : List (κ × V) :=
 if (kvs.any fun kv => decide (kv.1 = k)) = true then kvs.map (fun kv => if kv.1 = k then (kv.1, v) else kv) else kvs ++ [(k, v)]
noncomputable def dropK (kvs : List (κ × V)) (k : κ) : List (κ × V) := kvs.filter fun kv => decide (kv.1 ≠ k)
theorem valV_pos {p : κ × V} {r : List (κ × V)} {k : κ} (e : p.1 = k) : valV (p :: r) k = some p.2 := by simp [valV, List.find?_cons, e]
theorem valV_neg {p : κ × V} {r : List (κ × V)} {k : κ} (e : ¬ p.1 = k) : valV (p :: r) k = valV r k := by simp [valV, List.find?_cons, e]
theorem valV_any (k : κ) : ∀ kvs : List (κ × V), (kvs.any fun kv => decide (kv.1 = k)) = (valV kvs k).isSome
 | [] => rfl
 | p :: r => by
  rw [List.any_cons]
  by_cases e : p.1 = k
  ·simp only [valV_pos e, decide_eq_true e, Bool.true_or, Option.isSome_some]
  ·rw [valV_neg e, decide_eq_false e, Bool.false_or]; exact valV_any k r
theorem length_putK (kvs : List (κ × V)) (k : κ) (v : V) : (putK kvs k v).length ≤ kvs.length + 1 := by
 unfold putK
 split
 ·rw [List.length_map]; omega
 ·rw [List.length_append, List.length_cons, List.length_nil]; omega
theorem RelO.isSome_eq {o : Option V} {u : Option Value} (r : RelO o u) : o.isSome = u.isSome := by
 cases o with
 | none => cases u with
  | none => rfl
  | some _ => exact (show False from r).elim
 | some _ => cases u with
  | none => exact (show False from r).elim
  | some _ => rfl
theorem KV.val {kvs : List (κ × V)} {vs : List (κ × Value)} (r : KV kvs vs) (k : κ) : RelO (valV kvs k) (valueAt vs k) := by
 unfold KV at r
 induction r with
 | nil => exact True.intro
 | @cons p q ps qs h t ih =>
  obtain ⟨h1, h2⟩ := h
  by_cases e : p.1 = k
  ·have e' : q.1 = k := h1.symm.trans e
   have b : valueAt (q :: qs) k = some q.2 := by simp [valueAt, List.find?_cons, e']
   rw [valV_pos e, b]; exact h2
  ·have e' : ¬ q.1 = k := fun z => e (h1.trans z)
   have b : valueAt (q :: qs) k = valueAt qs k := by simp [valueAt, List.find?_cons, e']
   rw [valV_neg e, b]; exact ih
theorem KV.any {kvs : List (κ × V)} {vs : List (κ × Value)} (r : KV kvs vs) (k : κ) : (kvs.any fun kv => decide (kv.1 = k)) = vs.any fun kv => decide (kv.1 = k) := by
 unfold KV at r
 induction r with
 | nil => rfl
 | cons h t ih => rw [List.any_cons, List.any_cons, ih, h.1]
theorem KV.repl {kvs : List (κ × V)} {vs : List (κ × Value)} (r : KV kvs vs) (k : κ) {y : V} {u : Value} (ry : RelV y u) :
  KV (kvs.map fun kv => if kv.1 = k then (kv.1, y) else kv) (vs.map fun kv => if kv.1 = k then (kv.1, u) else kv) := by
 unfold KV at r ⊢
 induction r with
 | nil => exact .nil
 | @cons p q ps qs h t ih =>
  rw [List.map_cons, List.map_cons]
  refine .cons ?_ ih
  obtain ⟨h1, h2⟩ := h
  by_cases e : p.1 = k
  ·rw [if_pos e, if_pos (h1.symm.trans e)]; exact ⟨h1, ry⟩
  ·rw [if_neg e, if_neg (fun z => e (h1.trans z))]; exact ⟨h1, h2⟩
theorem KV.put {kvs : List (κ × V)} {vs : List (κ × Value)} (r : KV kvs vs) (k : κ) {y : V} {u : Value} (ry : RelV y u) : KV (putK kvs k y) (stored vs k u) := by
 unfold putK stored
 rw [r.any k]
 by_cases e : (vs.any fun kv => decide (kv.1 = k)) = true
 ·rw [if_pos e, if_pos e]; exact r.repl k ry
 ·rw [if_neg e, if_neg e]; exact Paired.snoc r ⟨rfl, ry⟩
theorem KV.length {kvs : List (κ × V)} {vs : List (κ × Value)} (r : KV kvs vs) : kvs.length = vs.length := Paired.length r
end
theorem kV_is {P : Program} {w : World} {k : Key} {u : Value} (r : RelV (kV k) u) : (mixKind P w).is k u = true := by
 cases k with
 | inl i => obtain ⟨t, e⟩ := (show ∃ t, u = Value.int i t from r); subst e; exact mixKind_int P w i t
 | inr x => obtain ⟨t, e⟩ := (show ∃ t, u = Value.str x t from r); subst e; exact mixKind_str P w x t
theorem items_are {P : Program} {w : World} : ∀ {ks : List Key} {us : List Value}, Vals (ks.map kV) us → ItemsAre (mixKind P w) ks us
 | [], _, r => by rw [List.map_nil] at r; cases r; exact .nil
 | k :: ks, _, r => by
  rw [List.map_cons] at r
  cases r with
  | cons h t => exact .cons (kV_is h) (items_are t)
noncomputable abbrev KT (H : Hp) : List (List Key × V) → List (List Key × Addr × Value) → Prop := Paired fun p q => p.1 = q.1 ∧ H q.2.1 = some (.tup (p.1.map kV)) ∧ RelV p.2 q.2.2
theorem KT.val {H : Hp} {kvs : List (List Key × V)} {xs : List (List Key × Addr × Value)} (r : KT H kvs xs) (k : List Key) : RelO (valV kvs k) ((atKey xs k).map (·.2)) := by
 induction r with
 | nil => exact True.intro
 | @cons p q ps qs h t ih =>
  obtain ⟨h1, _, h2⟩ := h
  by_cases e : p.1 = k
  ·have e' : q.1 = k := h1.symm.trans e
   have b : atKey (q :: qs) k = some q.2 := by simp [atKey, List.find?_cons, e']
   rw [valV_pos e, b]; exact h2
  ·have e' : ¬ q.1 = k := fun z => e (h1.trans z)
   have b : atKey (q :: qs) k = atKey qs k := by simp [atKey, List.find?_cons, e']
   rw [valV_neg e, b]; exact ih
theorem KT.repl {H : Hp} {kvs : List (List Key × V)} {xs : List (List Key × Addr × Value)} (r : KT H kvs xs) (k : List Key) {y : V} {u : Value} (ry : RelV y u) :
  KT H (kvs.map fun kv => if kv.1 = k then (kv.1, y) else kv) (xs.map (putAt k u)) := by
 induction r with
 | nil => exact .nil
 | @cons p q ps qs h t ih =>
  rw [List.map_cons, List.map_cons]
  refine .cons ?_ ih
  obtain ⟨h1, h2, h3⟩ := h
  unfold putAt
  by_cases e : p.1 = k
  ·rw [if_pos e, if_pos (h1.symm.trans e)]; exact ⟨h1, h2, ry⟩
  ·rw [if_neg e, if_neg (fun z => e (h1.trans z))]; exact ⟨h1, h2, h3⟩
theorem KT.put {H : Hp} {kvs : List (List Key × V)} {xs : List (List Key × Addr × Value)} (r : KT H kvs xs) (k : List Key) {b : Addr} {y : V} {u : Value} (hb : H b = some (.tup (k.map kV))) (ry : RelV y u) :
  KT H (putK kvs k y) (storedH xs k b u) := by
 have e : (kvs.any fun kv => decide (kv.1 = k)) = (atKey xs k).isSome := by
  rw [valV_any, (r.val k).isSome_eq, Option.isSome_map]
 unfold putK storedH
 rw [e]
 by_cases q : (atKey xs k).isSome = true
 ·rw [if_pos q, if_pos q]; exact r.repl k ry
 ·rw [if_neg q, if_neg q]; exact Paired.snoc r ⟨rfl, hb, ry⟩
theorem KT.keeps {H H' : Hp} {kvs : List (List Key × V)} {xs : List (List Key × Addr × Value)} (r : KT H kvs xs) (ht : ∀ b ys, H b = some (.tup ys) → H' b = some (.tup ys)) : KT H' kvs xs :=
 Paired.mapP r fun _ _ z => ⟨z.1, ht _ _ z.2.1, z.2.2⟩
section
variable {P : Program} {w : World} {H : Hp} {h : Heap} {a : Addr}
theorem rd_of {u : HO} (ok : HOk P w H h) (e : Rd H a u) : ObjOk P w H h a u := e.ok ok
theorem dk_rd {kvs : List (Key × V)} (ok : HOk P w H h) (e : Rd H a (.dK kvs)) : kvs.length ≤ sizeLine ∧ (a == sysModules) = false ∧ ∃ vs, KV kvs vs ∧ h.DictOf (mixKind P w) a vs :=
 show ObjOk P w H h a (.dK kvs) from rd_of ok e
theorem dk_of {kvs : List (Key × V)} (ok : HOk P w H h) (e : H a = some (.dK kvs)) : kvs.length ≤ sizeLine ∧ (a == sysModules) = false ∧ ∃ vs, KV kvs vs ∧ h.DictOf (mixKind P w) a vs := dk_rd ok (.inl e)
theorem key_of {ks : List Key} (ok : HOk P w H h) (e : H a = some (.tup (ks.map kV))) : (tupleKind (mixKind P w)).is h ks a := by
 obtain ⟨_, its, r, o, h1, h2, n, h3⟩ := (show ObjOk P w H h a (.tup (ks.map kV)) from ok a _ e)
 exact ⟨o, its.toArray, n, h1, h2, h3, by simpa using items_are r⟩
theorem dt_rd {kvs : List (List Key × V)} (ok : HOk P w H h) (e : Rd H a (.dT kvs)) : kvs.length ≤ sizeLine ∧ (a == sysModules) = false ∧
  ∃ xs, KT H kvs xs ∧ h.DictOfH (tupleKind (mixKind P w)) a xs := by
 obtain ⟨z, y, xs, r, o, es, ep, h1, h2, h3, h4, h5⟩ := (show ObjOk P w H h a (.dT kvs) from rd_of ok e)
 refine ⟨z, y, xs, r, o, es, ep, h1, h2, h3, h4, fun x hx => ?_, h5⟩
 have all : ∀ {l : List (List Key × V)} {m : List (List Key × Addr × Value)}, KT H l m → ∀ x ∈ m, (tupleKind (mixKind P w)).is h x.1 x.2.1 := by
  intro l m q
  induction q with
  | nil => intro x hx; exact nomatch hx
  | @cons p q ps qs hq t ih =>
   intro x hx
   rcases List.mem_cons.mp hx with e | hx
   ·subst e
    exact key_of ok (by rw [← hq.1]; exact hq.2.1)
   ·exact ih x hx
 exact all r x hx
theorem dt_of {kvs : List (List Key × V)} (ok : HOk P w H h) (e : H a = some (.dT kvs)) : kvs.length ≤ sizeLine ∧ (a == sysModules) = false ∧
  ∃ xs, KT H kvs xs ∧ h.DictOfH (tupleKind (mixKind P w)) a xs := dt_rd ok (.inl e)
end
noncomputable def DGet (H : Hp) (a : Addr) (y : V) (r : Option V) : Prop :=
 (∃ kvs k, Rd H a (.dK kvs) ∧ y = kV k ∧ r = valV kvs k) ∨ ∃ kvs k b, Rd H a (.dT kvs) ∧ y = .ref b ∧ H b = some (.tup (k.map kV)) ∧ r = valV kvs k
noncomputable def DPut (H : Hp) (a : Addr) (y v : V) (H' : Hp) : Prop :=
 (∃ kvs k, H a = some (.dK kvs) ∧ y = kV k ∧ kvs.length < sizeLine ∧ H' = upd H a (.dK (putK kvs k v))) ∨
 ∃ kvs k b, H a = some (.dT kvs) ∧ y = .ref b ∧ H b = some (.tup (k.map kV)) ∧ kvs.length < sizeLine ∧ H' = upd H a (.dT (putK kvs k v))
section
variable {X : Cx} {pins : List (Addr × Obj)} {σ : St} {H : Hp} {s : Shared} {a : Addr} {y v : V} {u r : Value} {o : Option V} {A : Around} {E : Value → Shared → Prop}
theorem Inv.big (I : Inv X pins σ H s) : sysModules < s.heap.objs.size := by
 have h : mainGlobals < s.heap.objs.size := (I.mod.glob.keeps I.bk).lt
 exact Nat.lt_trans (by decide) h
theorem d_getItem {Q : Value → Shared → Prop} (hu : A.units + 1 < cLine) (I : Inv X pins σ H s) (g : DGet H a y (some v)) (ry : RelV y u) (h : ∀ w' s', Inv X pins σ H s' → RelV v w' → Q w' s') :
  wpAny (model X.prog X.w) A (getItem (.ref a) u) Q E s := by
 rcases g with ⟨kvs, k, e, ey, l⟩ | ⟨kvs, k, b, e, ey, eb, l⟩
 ·subst ey
  obtain ⟨z, hd, vs, rel, dd⟩ := dk_rd I.hok e
  obtain ⟨w', hw, rw'⟩ := RelO.some_of (v := v) (o := valueAt vs k) (by rw [l]; exact rel.val k)
  exact wpAny_getItem_of (kV_is ry) dd.mapOf hw (h w' _ (I.tok _) rw')
 ·subst ey
  cases (show u = Value.ref b from ry)
  obtain ⟨z, hd, xs, rel, dd⟩ := dt_rd I.hok e
  obtain ⟨w', hw, rw'⟩ := RelO.some_of (v := v) (o := (atKey xs k).map (·.2)) (by rw [l]; exact rel.val k)
  obtain ⟨p, hp, hp2⟩ := Option.map_eq_some_iff.mp hw
  refine wpAny_getItem_heap (tupleKind_room_in1 hu) (key_of I.hok eb) dd hp ?_
  rw [hp2]
  exact h w' _ (I.tok _) rw'
theorem d_write {h' : Heap} {t' : Nat} {ob : HO} (I : Inv X pins σ H s) (mu : Mut (H a)) (hs : Heap.SameBut a s.heap h') (he : ∃ q, h'.get? a = some q) (new : ObjOk X.prog X.w (upd H a ob) h' a ob) :
  Inv X pins σ (upd H a ob) { s with heap := h', toks := t' } :=
 I.write (x := a) (e := a) mu (.inl rfl) (fun b q hb z => (hs.2 b hb).trans z) he new
theorem dk_new {P : Program} {w : World} {H' : Hp} {h' : Heap} {kvs : List (Key × V)} {vs : List (Key × Value)} (z : kvs.length ≤ sizeLine) (hd : (a == sysModules) = false) (rel : KV kvs vs) (dd : h'.DictOf (mixKind P w) a vs) :
  ObjOk P w H' h' a (.dK kvs) := ⟨z, hd, vs, rel, dd⟩
theorem d_setItem {H' : Hp} {Q : Unit → Shared → Prop} (hu : A.units + 1 < cLine) (I : Inv X pins σ H s) (g : DPut H a y v H') (ry : RelV y u) (rv : RelV v r) (h : ∀ s', Inv X pins σ H' s' → Q () s') :
  wpAny (model X.prog X.w) A (setItem (.ref a) u r) Q E s := by
 rcases g with ⟨kvs, k, e, ey, l, eH⟩ | ⟨kvs, k, b, e, ey, eb, l, eH⟩
 ·subst ey eH
  obtain ⟨z, hd, vs, rel, dd⟩ := dk_of I.hok e
  have hz : vs.length ≤ sizeLine := by rw [← rel.length]; exact z
  have hl : (putK kvs k v).length ≤ sizeLine := by have := length_putK kvs k v; omega
  refine wpAny_setItem_pairs (hsz := hz) (kV_is ry) dd fun h' dd' hs => h _ ?_
  have he : ∃ q, h'.get? a = some q := let ⟨q, _, _, hq, _⟩ := dd'; ⟨q, hq⟩
  exact d_write I (by rw [e]; exact True.intro) hs he (dk_new hl hd (rel.put k rv) dd')
 ·subst ey eH
  cases (show u = Value.ref b from ry)
  obtain ⟨z, hd, xs, rel, dd⟩ := dt_of I.hok e
  have hz : xs.length ≤ sizeLine := by rw [← Paired.length rel]; exact z
  have hl : (putK kvs k v).length ≤ sizeLine := by have := length_putK kvs k v; omega
  refine wpAny_setItem_heap (hsz := hz) (tupleKind_room_in1 hu) (key_of I.hok eb) dd fun h' dd' hs => h _ ?_
  obtain ⟨q, es, ep, hq, h2, h3, h4, _, h5⟩ := dd'
  refine d_write I (by rw [e]; exact True.intro) hs ⟨q, hq⟩ ⟨hl, hd, _, (rel.put k eb rv).keeps fun c ys ec => ?_, q, es, ep, hq, h2, h3, h4, h5⟩
  rw [upd_ne (ne_of ec e (fun z => nomatch z))]
  exact ec
end
section
variable {X : Cx} {pins : List (Addr × Obj)} {σ : St} {H : Hp} {s : Shared} {a : Addr} {kvs : List (Key × V)} {k : Key} {u : Value} {A : Around} {E : Value → Shared → Prop}
theorem d_len {Q : Value → Shared → Prop} (I : Inv X pins σ H s) (e : Rd H a (.dK kvs)) (h : ∀ t s', Inv X pins σ H s' → Q (.int kvs.length t) s') : wpAny (model X.prog X.w) A (call (.builtin "len") [.ref a]) Q E s := by
 obtain ⟨z, hd, vs, rel, dd⟩ := dk_rd I.hok e
 refine call_len_dict hd dd (by rw [← rel.length]; rw [sizeLine_eq] at z; omega) ?_
 rw [← rel.length]
 exact h _ _ (I.tok _)
end
noncomputable def NoSl (i : Expr) : Prop := ∀ ov iv, subscripted i false ov iv = operate [ov, iv] (getItem ov iv)
noncomputable def tDGet (td ty : TE) : TE := fun σ H Q => td σ H fun x H1 => ty σ H1 fun y H2 => ∃ a v, x = .ref a ∧ DGet H2 a y (some v) ∧ Q v H2
noncomputable def tDIn (ty td : TE) : TE := fun σ H Q => ty σ H fun y H1 => td σ H1 fun x H2 => ∃ a o, x = .ref a ∧ DGet H2 a y o ∧ Q (.bl o.isSome) H2
noncomputable def tDNotIn (ty td : TE) : TE := fun σ H Q => ty σ H fun y H1 => td σ H1 fun x H2 => ∃ a o, x = .ref a ∧ DGet H2 a y o ∧ Q (.bl (!o.isSome)) H2
noncomputable def sDPut (td ty tv : TE) : TS := fun D σ H => tv σ H fun v H1 => td σ H1 fun x H2 => ty σ H2 fun y H3 => ∃ a H4, x = .ref a ∧ DPut H3 a y v H4 ∧ D.nx σ H4
noncomputable def sDAug (td ty tv : TE) (rd : V → V → Hp → VK → Prop) : TS := fun D σ H => td σ H fun x H1 => ty σ H1 fun y H2 => ∃ a v, x = .ref a ∧ DGet H2 a y (some v) ∧
 tv σ H2 fun y2 H3 => rd v y2 H3 fun z H4 => ∃ H5, DPut H4 a y z H5 ∧ D.nx σ H5
noncomputable def sDDel (td ty : TE) : TS := fun D σ H => td σ H fun x H1 => ty σ H1 fun y H2 => ∃ a kvs k, x = .ref a ∧ H2 a = some (.dK kvs) ∧ y = kV k ∧ (valV kvs k).isSome = true ∧ D.nx σ (upd H2 a (.dK (dropK kvs k)))
section
variable {X : Cx} {o i e value : Expr} {pos pos' tpos : Pos} {td ty tv : TE}
end
theorem dk_empty {P : Program} {w : World} {H : Hp} (h : Heap) (hb : sysModules < h.objs.size) : ObjOk P w H (h.push { cls := .type "dict", data := .dict #[] }) h.objs.size (.dK []) :=
 ⟨Nat.zero_le _, beq_eq_false_iff_ne.mpr (Ne.symm (Nat.ne_of_lt hb)), [], .nil, Heap.DictOf.new h⟩
noncomputable def tDNewK : TE := fun _ H Q => ∀ p, H p = none → Q (.ref p) (upd H p (.dK []))
noncomputable def tDNewT : TE := fun _ H Q => ∀ p, H p = none → Q (.ref p) (upd H p (.dT []))
section
variable {X : Cx} {pos : Pos}
end
noncomputable def tPairs : List (TE × TE) → St → Hp → (List (V × V) → Hp → Prop) → Prop
 | [], _, H, Q => Q [] H
 | (tk, tv) :: r, σ, H, Q => tk σ H fun x H1 => tv σ H1 fun y H2 => tPairs r σ H2 fun ps H3 => Q ((x, y) :: ps) H3
noncomputable abbrev VV : List (V × V) → List (Value × Value) → Prop := Paired fun p q => RelV p.1 q.1 ∧ RelV p.2 q.2
noncomputable def PPs (X : Cx) (pos : Pos) (keys : List (Option Expr)) (values : List Expr) (trs : List (TE × TE)) : Prop :=
 ∀ (pins : List (Addr × Obj)) (s : Shared) (σ : St) (H : Hp) (Q : List (V × V) → Hp → Prop), Inv X pins σ H s → tPairs trs σ H Q →
  wpAny (model X.prog X.w) X.A (evalPairs (pairTrees keys values X.env pos)) (fun vs s' => ∃ ps H', Inv X pins σ H' s' ∧ VV ps vs ∧ Q ps H') X.xe s
theorem pps_nil {X : Cx} {pos : Pos} : PPs X pos [] [] [] := fun pins s σ H Q I h => pairTrees_nil_walk ⟨[], H, I, .nil, h⟩
theorem pps_cons {X : Cx} {pos : Pos} {k v : Expr} {ks : List (Option Expr)} {vs : List Expr} {tk tv : TE} {trs : List (TE × TE)} (hk : PE X k tk) (hv : PE X v tv) (hr : PPs X pos ks vs trs) :
  PPs X pos (some k :: ks) (v :: vs) ((tk, tv) :: trs) := fun pins s σ H Q I h =>
 pairTrees_cons_walk (thn (hk pins s σ H _ I h) fun u s1 ⟨x, H1, I1, rx, q1⟩ => thn (hv pins s1 σ H1 _ I1 q1) fun w2 s2 ⟨y, H2, I2, ry, q2⟩ =>
  thn (hr pins s2 σ H2 _ I2 q2) fun ws s3 ⟨ps, H3, I3, rel, q3⟩ => ⟨(x, y) :: ps, H3, I3, .cons ⟨rx, ry⟩ rel, q3⟩)
noncomputable def mergeK (kvs more : List (Key × V)) : List (Key × V) := more.foldl (fun acc kv => putK acc kv.1 kv.2) kvs
theorem KV.merge : ∀ {more : List (Key × V)} {rs : List (Key × Value)} {kvs : List (Key × V)} {vs : List (Key × Value)}, KV more rs → KV kvs vs → KV (mergeK kvs more) (merged vs rs) := by
 intro more rs kvs vs r
 unfold KV at r
 induction r generalizing kvs vs with
 | nil => intro q; exact q
 | @cons p q ps qs h t ih =>
  intro r0
  have e : KV (putK kvs p.1 p.2) (stored vs q.1 q.2) := by
   have := r0.put p.1 h.2
   rw [← h.1]; exact this
  exact ih e
theorem length_mergeK : ∀ (more kvs : List (Key × V)), (mergeK kvs more).length ≤ kvs.length + more.length
 | [], kvs => by show kvs.length ≤ kvs.length + 0; omega
 | p :: r, kvs => by
  have h1 := length_mergeK r (putK kvs p.1 p.2)
  have h2 := length_putK kvs p.1 p.2
  show (mergeK (putK kvs p.1 p.2) r).length ≤ _
  rw [List.length_cons]; omega
theorem carries_of {P : Program} {w : World} : ∀ {kvs : List (Key × V)} {ws : List (Value × Value)}, VV (kvs.map fun kv => (kV kv.1, kv.2)) ws → ∃ rs, Carries (mixKind P w) ws rs ∧ KV kvs rs
 | [], _, r => by rw [List.map_nil] at r; cases r; exact ⟨[], True.intro, .nil⟩
 | p :: kvs, _, r => by
  rw [List.map_cons] at r
  cases r with
  | @cons a b as bs h t =>
   obtain ⟨rs, c, q⟩ := carries_of (P := P) (w := w) t
   obtain ⟨b1, b2⟩ := b
   exact ⟨(p.1, b2) :: rs, ⟨kV_is h.1, rfl, c⟩, .cons ⟨rfl, h.2⟩ q⟩
noncomputable def tDisp (trs : List (TE × TE)) : TE := fun σ H Q => ∀ p, H p = none → tPairs trs σ (upd H p (.dK [])) fun ps H2 => H2 p = some (.dK []) ∧ ∃ kvs : List (Key × V), ps = kvs.map (fun kv => (kV kv.1, kv.2)) ∧ kvs.length ≤ 15 ∧ Q (.ref p) (upd H2 p (.dK (mergeK [] kvs)))
theorem pe_disp {X : Cx} {pos : Pos} {keys : List (Option Expr)} {values : List Expr} {trs : List (TE × TE)} (h : PPs X pos keys values trs) (hall : keys.all (·.isSome) = true) (hl : keys.length = values.length) (h0 : keys ≠ [])
  (h15 : keys.length ≤ 15) : PE X (.Dict keys values pos) (tDisp trs) := by
 intro pins s σ H Q I q
 have hn := I.hok.fresh (Nat.le_refl s.heap.objs.size)
 have I1 := I.laid (a := s.heap.objs.size) (o := .dK []) (h' := s.heap.push { cls := .type "dict", data := .dict #[] }) (t' := s.toks) (fun _ _ q => Heap.get?_push_of_some _ q) (Nat.le_refl _) (dk_empty s.heap I.big)
 refine wpAny_Dict_walk (knd := mixKind X.prog X.w) hall hl h0 h15 (thn (h pins _ σ _ _ I1 (q _ hn)) fun ws s2 ⟨ps, H2, I2, rel, e, kvs, ep, lk, q2⟩ => ?_)
 subst ep
 obtain ⟨rs, c, rk⟩ := carries_of (P := X.prog) (w := X.w) rel
 obtain ⟨z, hd, vs0, r0, dd⟩ := dk_of I2.hok e
 cases r0
 refine ⟨rs, c, dd, fun h' dd' hs => ⟨.ref s.heap.objs.size, _, ?_, rfl, q2⟩⟩
 have hz : (mergeK [] kvs).length ≤ sizeLine := by
  have h1 := length_mergeK kvs []
  rw [List.length_nil] at h1
  rw [sizeLine_eq]; omega
 have he : ∃ q, h'.get? s.heap.objs.size = some q := let ⟨q, _, _, hq, _⟩ := dd'; ⟨q, hq⟩
 exact d_write I2 (by rw [e]; exact True.intro) hs he (dk_new hz hd (rk.merge .nil) dd')
structure M1 (X : Cx) (o : Expr) (m : Str) (apos : Pos) (e : Expr) (cpos : Pos) : Prop where
 base : attributeBase o m X.env (eval o X.env) = eval o X.env
 few : ((backTo cpos (starEach [e] X.env)).all (fun x => !x.1) && (backToKw cpos (keywordEach [] X.env)).all (fun x => x.1.isSome)
  && decide (([e] : List Expr).length + ([] : List Keyword).length + (if ([] : List Keyword).isEmpty then 0 else 1) < 30)) = true
 line : (apos.endLine == cpos.line) = true
 trees : backTo cpos (starEach [e] X.env) = [(false, eval e X.env)]
structure M2 (X : Cx) (o : Expr) (m : Str) (apos : Pos) (e f : Expr) (cpos : Pos) : Prop where
 base : attributeBase o m X.env (eval o X.env) = eval o X.env
 few : ((backTo cpos (starEach [e, f] X.env)).all (fun x => !x.1) && (backToKw cpos (keywordEach [] X.env)).all (fun x => x.1.isSome)
  && decide (([e, f] : List Expr).length + ([] : List Keyword).length + (if ([] : List Keyword).isEmpty then 0 else 1) < 30)) = true
 line : (apos.endLine == cpos.line) = true
 trees : backTo cpos (starEach [e, f] X.env) = [(false, eval e X.env), (false, eval f X.env)]
noncomputable def IsD (H : Hp) (a : Addr) : Prop := (∃ kvs, Rd H a (.dK kvs)) ∨ ∃ kvs, Rd H a (.dT kvs)
theorem isD_at {X : Cx} {pins : List (Addr × Obj)} {σ : St} {H : Hp} {s : Shared} {a : Addr} (I : Inv X pins σ H s) (d : IsD H a) :
  s.TypeIs (.ref a) "dict" ∧ (∀ b, Value.ref a = .ref b → ∃ ob, s.heap.get? b = some ob ∧ ob.dict = none) ∧ (a == sysModules) = false := by
 rcases d with ⟨kvs, e⟩ | ⟨kvs, e⟩
 ·obtain ⟨_, hd, vs, _, dd⟩ := dk_rd I.hok e
  refine ⟨dd.typeIs, fun b q => ?_, hd⟩
  cases q
  obtain ⟨ob, _, _, h1, h2, _⟩ := dd
  exact ⟨ob, h1, h2.2.1⟩
 ·obtain ⟨_, hd, xs, _, dd⟩ := dt_rd I.hok e
  refine ⟨dd.typeIs, fun b q => ?_, hd⟩
  cases q
  obtain ⟨ob, _, _, h1, h2, _⟩ := dd
  exact ⟨ob, h1, h2.2.1⟩
section
variable {X : Cx} {pins : List (Addr × Obj)} {σ : St} {H : Hp} {s : Shared} {a : Addr} {y d : V} {u r : Value} {o : Option V} {A : Around} {E : Value → Shared → Prop}
end
noncomputable def tDGet1 (td ty : TE) : TE := fun σ H Q => td σ H fun x H1 => ∃ a, x = .ref a ∧ IsD H1 a ∧ ty σ H1 fun y H2 => ∃ o, DGet H2 a y o ∧ Q (o.getD .non) H2
noncomputable def tDGet2 (td ty tx : TE) : TE := fun σ H Q => td σ H fun x H1 => ∃ a, x = .ref a ∧ IsD H1 a ∧ ty σ H1 fun y H2 => tx σ H2 fun z H3 => ∃ o, DGet H3 a y o ∧ Q (o.getD z) H3
noncomputable def tDPop1 (td ty : TE) : TE := fun σ H Q => td σ H fun x H1 => ∃ a, x = .ref a ∧ IsD H1 a ∧ ty σ H1 fun y H2 => ∃ kvs k v, H2 a = some (.dK kvs) ∧ y = kV k ∧ valV kvs k = some v ∧ Q v (upd H2 a (.dK (dropK kvs k)))
noncomputable def tDPop2 (td ty tx : TE) : TE := fun σ H Q => td σ H fun x H1 => ∃ a, x = .ref a ∧ IsD H1 a ∧ ty σ H1 fun y H2 => tx σ H2 fun z H3 => ∃ kvs k, H3 a = some (.dK kvs) ∧ y = kV k ∧
 (∀ v, valV kvs k = some v → Q v (upd H3 a (.dK (dropK kvs k)))) ∧ (valV kvs k = none → Q z H3)
section
variable {X : Cx} {o e f : Expr} {apos cpos : Pos} {td ty tx : TE}
end
section
variable {X : Cx} {pins : List (Addr × Obj)} {σ : St} {H : Hp} {s : Shared} {a : Addr} {kvs : List (Key × V)} {A : Around} {E : Value → Shared → Prop}
end
section
variable {X : Cx} {pins : List (Addr × Obj)} {σ : St} {H : Hp} {s : Shared} {a : Addr} {y : V} {u : Value} {A : Around} {E : Value → Shared → Prop}
end
end L2
namespace Att
open PySem PySem.W PySem.Calls PyProof.Rows
theorem ints_of_wellAll {P : Params} {h : Heap} : ∀ (ns : List Int) (vs : List Value), WellAll P h vs (ns.map WData.int) → IntsAre vs ns := by
 intro ns
 induction ns with
 | nil =>
  intro vs w
  rw [List.map_nil] at w
  cases w
  exact .nil
 | cons n ns ih =>
  intro vs w
  rw [List.map_cons] at w
  cases w with
  | cons a b =>
   cases a
   exact .cons _ _ (ih _ b)
theorem script_of {l : OpenLaw} {n : Nat} (hn : l.most = some n) {P : Params} {h : Heap} {args : List WData} {vals : List Value}
  (hpre : l.row.toRowW.claim.pre args = true) (hwl : WellAll P h vals args) :
  ∃ a vs ns, vals = [Value.ref a] ∧ args = [WData.list (ns.map WData.int)] ∧ h.get? a = some { cls := .type "list", data := .seq vs.toArray } ∧ IntsAre vs ns ∧ ns.length ≤ n := by
 have hsh : WShape.hasAll [] args [.list .int] = true := (pre_splitW hpre).1
 have hc : l.pre.holds [] { args := args } = true := (pre_splitW hpre).2
 obtain ⟨d, r, rfl, h1, h2⟩ := hasAllW_cons hsh
 obtain rfl := hasAllW_nil h2
 obtain ⟨xs, rfl, h3⟩ := hasW_list h1
 obtain ⟨ns, rfl⟩ := items_int h3
 have hlen : ns.length ≤ n := by
  unfold OpenLaw.pre at hc
  have h4 : (WTm.not (.lt (.lit (.int (n : Int))) (.len (.arg 0)))).holds [] { args := [.list (ns.map .int)] } = true := by
   have h4 := (holds_andW hc).1
   rw [hn] at h4
   exact h4
  have h5 := condW_of h4 (w_not (w_lt w_lit (w_len_list (w_arg rfl))))
  rw [List.length_map] at h5
  refine Nat.le_of_not_lt fun q => ?_
  have q' : (n : Int) < ((ns.length : Nat) : Int) := by omega
  first
   | (rw [decide_eq_true q'] at h5; exact absurd h5 (by decide))
   | (simp at h5; omega)
 cases hwl with
 | cons w1 w2 =>
  cases w2
  cases w1 with
  | list ho hall => exact ⟨_, _, ns, rfl, rfl, ho, ints_of_wellAll ns _ hall, hlen⟩
theorem post_true (l : OpenLaw) (args : List WData) : l.row.toRowW.claim.post args (.bool true) args = true :=
 postW_of (r := l.row.toRowW) (X := (true == true))
  (show WShape.has [] (.bool true) .bool = true by first | rfl | decide | simp [WShape.has, WShape.arms, WShape.armsAll])
  (show (WTm.eq .res (.lit (.bool true))).value [] { args := args, res := some (.bool true), after := args } = some (.bool (true == true)) from w_eq_bool (w_res rfl) w_lit) rfl
theorem attach_call {l : OpenLaw} {n : Nat} {q : Program} {loose : List Str} {XP : (Str → Option Value) → Heap → Prop} {YP : World → Heap → Prop} {d : DefRec}
  (hn : l.most = some n) (hdf : d.params.defaults = [])
  (call : ∀ (w : World) (s₀ s₁ : Shared) (mg mb : Str → Option Value) (fa : Addr) (o : Obj) (pm cd doc : Value) (a : Addr) (vs : List Value) (ns : List Int),
   Ground q loose [] XP w s₀ mg mb s₁.heap → YP w s₁.heap →
   s₁.heap.get? fa = some o → o.data = .func (docDef d.name d.params d.body d.scope pm cd doc) → s₁.heap.CodeRec cd d.name → mg d.name = some (.ref fa) →
   s₁.heap.get? a = some { cls := .type "list", data := .seq vs.toArray } → IntsAre vs ns → ns.length ≤ n → s₁.gens = #[] →
   codeAny (model l.prog w) callerA (.call (.ref fa) ⟨[.ref a], []⟩) (fun r s' => r = .ok (.ret (.bool true)) ∧ OldK s₁.heap s'.heap ∧ s'.os = s₁.os ∧ AllBare s'.gens) s₁) :
  WalkO q loose XP YP l.row.toRowW d [] (fun f vs => PySem.call f vs) := by
 intro w s₀ s₁ mg mb G Y fa o pm cd doc dV kV ho hd hcd hD hmg hg args vals as hpre hlay hrd hwl hlo
 obtain rfl : dV = .none := Dflts.none hD hdf
 obtain rfl : kV = .none := Dflts.noKw hD
 obtain ⟨a, vs, ns, rfl, rfl, hobj, hints, hlen⟩ := script_of hn hpre hwl
 refine enter_call (codeAny_mono (call w s₀ s₁ mg mb fa o pm cd doc a vs ns G Y ho (fd_plain hd) hcd hmg hobj hints hlen hg) fun r s' hq => ?_)
 obtain ⟨rfl, h2, h3, h4⟩ := hq
 exact ⟨.inl ⟨.bool true, .bool true, [], rfl, fun _ => rfl, .bool true, post_true l _, fun _ => ⟨List.Pairwise.nil, fun _ hm => (nomatch hm)⟩⟩, h2, h3, h4⟩
section
variable {prog : Program} {w : World} {A : Around} {E : Value → Shared → Prop} {s : Shared} {K : Frag}
noncomputable def noObjs (h : Heap) : Heap := { h with objs := #[] }
noncomputable def ledger (h : Heap) (L d : Addr) : List (Addr × Obj) := (List.range h.objs.size).filterMap fun a => if a = L ∨ a = d then none else (h.get? a).map fun o => (a, o)
end
end Att
namespace L2
open PySem PySem.Spec PyProof.Rows
theorem vals_ints : ∀ {vs : List Value} {ns : List Int}, IntsAre vs ns → Vals (ns.map V.int) vs
 | _, _, .nil => .nil
 | _, _, .cons n t h => .cons ⟨t, rfl⟩ (vals_ints h)
noncomputable def Only (H : Hp) : Prop := ∀ b, H b = none ∨ ∃ o xs, H b = some (.frz o (.lst xs))
theorem law_call {P : Program} {w : World} {K : PySem.W.Frag} {mg mb : Str → Option Value} {CX : CXT} {k : Nat} {fa a : Addr} {fd : FuncData} {x : Str} {sp : Sp} {s₁ : Shared} {vs : List Value} {ns : List Int}
  (KX : K.In s₁.heap) (hns : s₁.heap.Ns mainGlobals mg) (hb : s₁.heap.Ns builtinsNs mb) (hbb : ∀ x : Str, x ≠ "__name__" → mb x = bootBuiltins x) (hlim : s₁.heap.NoLimit) (hg : s₁.gens = #[])
  (ha : s₁.heap.get? a = some { cls := .type "list", data := .seq vs.toArray }) (hi : IntsAre vs ns) (hl : ns.length ≤ sizeLine) (hr : Room k callerA)
  (F : ∀ base : Heap, K.In base → base.Ns mainGlobals mg → FnOk P w K mg base CX k fa fd [x] sp) (hbind : ∀ (s : Shared) (u : Value), BindsTo s fd ⟨[u], []⟩ [(x, u)])
  (hsp : ∀ H : Hp, Only H → SqL K H a (ns.map V.int) → sp [.ref a] H (fun v _ => v = .bl true) fun _ _ _ => False)
  (hCX : ∀ H e s', CX [] H s₁ (fun _ _ _ => False) e s' → False) :
  codeAny (model P w) callerA (.call (.ref fa) ⟨[.ref a], []⟩) (fun r s' => r = .ok (.ret (.bool true)) ∧ OldK s₁.heap s'.heap ∧ s'.os = s₁.os ∧ AllBare s'.gens) s₁ := by
 have rv := vals_ints hi
 have lenV := hi.length
 have core : ∀ H : Hp, Only H → SqL K H a (ns.map V.int) → HOk P w H s₁.heap → (∀ b, H b ≠ none → b = a) → (H a ≠ none → K.lookup a = none) →
   codeAny (model P w) callerA (.call (.ref fa) ⟨[.ref a], []⟩) (fun r s' => r = .ok (.ret (.bool true)) ∧ OldK s₁.heap s'.heap ∧ s'.os = s₁.os ∧ AllBare s'.gens) s₁ := by
  intro H hO hS hok hA hK
  have base_of : ∀ {b : Addr} {o : Obj}, s₁.heap.get? b = some o → H b = none → (hidT s₁.heap H).get? b = some o := fun e n => hidT_get e n
  have noA : ∀ {b : Addr} {o : Obj} {es : Array DictEntry} {ep : Nat}, s₁.heap.get? b = some o → o.data = .dict es ep → H b = none := fun {b o es ep} e d => by
   cases q : H b with
   | none => rfl
   | some u =>
    have e' : b = a := hA b (by rw [q]; simp)
    subst e'
    rw [ha] at e; cases e
    have d' : Data.seq vs.toArray _ = Data.dict es ep := d
    cases d'
  have nsK : ∀ {b : Addr} {m : Str → Option Value}, s₁.heap.Ns b m → (hidT s₁.heap H).Ns b m := fun {b m} ⟨o, es, ep, e, d, r⟩ => ⟨o, es, ep, base_of e (noA e d), d, r⟩
  have hKb : K.In (hidT s₁.heap H) := fun b o e => base_of (KX b o e) (by
   cases q : H b with
   | none => rfl
   | some u =>
    have e' : b = a := hA b (by rw [q]; simp)
    subst e'
    rw [hK (by rw [q]; simp)] at e; cases e)
  have hM : Mod K mg (hidT s₁.heap H) := ⟨hKb, nsK hns, ⟨mb, nsK hb, hbb⟩, let ⟨mc, h1, h2⟩ := hlim; ⟨mc, nsK h1, h2⟩⟩
  have e0 : Env0 P w K mg (hidT s₁.heap H) callerA [] s₁ H := ⟨rfl, hM, fun b o e => of_hidT e, Nat.le_of_eq (hidT_size _ _), trivial, fun b hb => absurd (show b ∈ ([] : List Addr) from hb) (by simp), hok, .of_eq hg⟩
  refine codeAny_mono ((F _ hKb (nsK hns)).run callerA [] s₁ H ⟨[.ref a], []⟩ [.ref a] [.ref a] _ _ hr e0 (hbind s₁ (.ref a)) (.cons rfl .nil) (hsp H hO hS)) fun r s' h => ?_
  cases r with
  | error e => exact (hCX H e s' h).elim
  | ok fl =>
   cases fl with
   | next => exact False.elim h
   | brk => exact False.elim h
   | cont => exact False.elim h
   | ret u =>
    obtain ⟨v, H', os, bare, un, hok', r', q⟩ := h
    have q' : v = .bl true := q
    subst q'
    obtain rfl : u = Value.bool true := r'
    refine ⟨rfl, OldK.of_keep fun b o e => ?_, os, bare⟩
    cases q : H b with
    | none => exact un.keep b o e q (by intro z; exact absurd (show b ∈ ([] : List Addr) from z) (by simp)) (by simp)
    | some u =>
     rcases hO b with z | ⟨ob, xs, z⟩
     ·rw [q] at z; cases z
     ·have z2 := un.frzs b ob _ z
      obtain ⟨e1, _⟩ := hok b _ z
      obtain ⟨e2, _⟩ := hok' b _ z2
      rw [e] at e1; cases e1
      exact e2
 cases hk : K.lookup a with
 | some o =>
  have e := KX a o hk
  rw [ha] at e
  cases e
  refine core (fun _ => none) (fun _ => .inl rfl) (.inr ⟨_, vs.toArray, _, hk, rfl, rfl, rfl, by rw [List.size_toArray, lenV]; exact hl, by simpa using rv⟩) (fun b u z => by have z' : (none : Option HO) = some u := z; cases z') (fun b z => absurd rfl z) fun z => absurd rfl z
 | none =>
  refine core (fun b => if b = a then some (.frz { cls := .type "list", data := .seq vs.toArray } (.lst (ns.map V.int))) else none) (fun b => ?_) (.inl (.inr ⟨{ cls := .type "list", data := .seq vs.toArray }, if_pos rfl⟩)) (fun b u z => ?_) (fun b z => ?_) fun _ => hk
  ·by_cases hb : b = a
   ·exact .inr ⟨_, _, if_pos hb⟩
   ·exact .inl (if_neg hb)
  ·by_cases hb : b = a
   ·have z' := (if_pos hb).symm.trans z
    cases z'
    subst hb
    exact ⟨ha, by rw [List.length_map]; exact hl, vs, _, rv, ha⟩
   ·have z' := (if_neg hb).symm.trans z
    cases z'
  ·by_cases hb : b = a
   ·exact hb
   ·exact absurd (if_neg hb) z
end L2
namespace L2
open PySem PySem.Spec PyProof.Rows
noncomputable abbrev KOf {K : PySem.W.Frag} {h : Heap} (_ : K.In h) : PySem.W.Frag := K
theorem walk_of {l : PySem.W.OpenLaw} {n k : Nat} {q : Program} {loose : List Str} {XP : (Str → Option Value) → Heap → Prop} {YP : World → Heap → Prop} {d : DefRec} {K : Params → PySem.W.Frag} {CX : World → CXT} {sp : World → Sp} {x : Str}
  (hn : l.most = some n) (hn2 : n ≤ sizeLine) (hdf : d.params.defaults = []) (hr : Room k callerA)
  (hY : ∀ (w : World) (h : Heap), YP w h → (K w.params).In h)
  (F : ∀ (w : World) (mg : Str → Option Value) (fa : Addr) (h : Heap), (K w.params).In h → h.Ns mainGlobals mg → mg d.name = some (.ref fa) →
   ∃ fd : FuncData, (∀ (s : Shared) (u : Value), BindsTo s fd ⟨[u], []⟩ [(x, u)]) ∧
    ∀ base : Heap, (K w.params).In base → base.Ns mainGlobals mg → FnOk l.prog w (K w.params) mg base (CX w) k fa fd [x] (sp w))
  (hsp : ∀ (w : World) (H : Hp) (a : Addr) (ns : List Int), ns.length ≤ n → Only H → SqL (K w.params) H a (ns.map V.int) → sp w [.ref a] H (fun v _ => v = .bl true) fun _ _ _ => False)
  (hCX : ∀ (w : World) (H : Hp) (s : Shared) (e : Value) (s' : Shared), CX w [] H s (fun _ _ _ => False) e s' → False) :
  PySem.W.WalkO q loose XP YP l.row.toRowW d [] (fun f vs => PySem.call f vs) := by
 refine Att.attach_call hn hdf fun w s₀ s₁ mg mb fa o pm cd doc a vs ns G Y ho hd hcd hmg hobj hints hlen hg => ?_
 have KX := hY w _ Y
 obtain ⟨fd, hb, hF⟩ := F w mg fa _ KX G.T.g hmg
 exact law_call KX G.T.g G.T.b G.T.builtins G.T.nolimit hg hobj hints (Nat.le_trans hlen hn2) hr hF hb (fun H hO hS => hsp w H a ns hlen hO hS) fun H e s' => hCX w H s₁ e s'
end L2
/- THE LAST THEOREM (shape; LID, My.* are yours):
   My.Adr: a structure of the addresses that your layer names (classes, functions); My.Txt K t: a structure (Prop) of the equations over K;
   My.txt_mk : {K} {implicit addresses ..} (e1 : nsIn K mainGlobals "law" = some (some (.ref f))) (e2 : K.lookup f = some ⟨oc, od, .func (fnOf "law" "law" params body scope dV kV doc pm an cdv ct), sl⟩) (e3 : codeIn K cdv "law" = true) .. : ∃ t, My.Txt K t
set_option maxRecDepth 100000 in
set_option maxHeartbeats 0 in
theorem PySem.Challenge.cw_LID_holds : PySem.Challenge.rw_LID.Holds := by
 w_on; o_law; k_head; (case hw => w_witness2)
 k_fill
 refine L2.walk_of (l := PySem.Challenge.rw_LID) (n := 63) (k := 40) (x := "script") (CX := fun w => ..) (sp := fun _ => My.sp_law) rfl (by decide) rfl ⟨rfl, by decide, by decide⟩ (fun w h Y => PySem.W.kIn_of Y) ?F ?S ?C
 case F =>
  intro w mg fa h KX G hmg
  have T : ∃ t, My.Txt (L2.KOf KX) t := by
   dsimp only [L2.KOf]                          -- K must stand as «<heap const> w.params» for k_is
   refine' My.txt_mk ?e1 ?e2 ?e3 ..
   (case e1 => PySem.W.k_is)                    -- in the order: a name -> its address -> its object -> its parts
   (case e2 => PySem.W.k_is)
   ..
  obtain ⟨t, T⟩ := T
  have e0 := hmg.symm.trans (PySem.W.mg_of KX G T.law)
  cases e0                                       -- fa is the law's own address
  exact ⟨_, fun s u => .of_eq rfl, fun base kb nb => My.law_fn T kb nb⟩     -- if «.of_eq rfl» comes too early: refine' ⟨_, ?b, fun base kb nb => My.law_fn T kb nb⟩; exact fun s u => .of_eq rfl
 case S => exact fun w H a ns hl hO hS => ..
 case C => exact ..
(the tactic k_is has no namespace: write k_is) -/
namespace L2
open PySem PySem.Spec PyProof.Rows
noncomputable def inClass (s : Stmt) (j : Nat) : Stmt := match s with
 | .ClassDef _ _ _ body _ _ _ _ _ _ _ => body.getD j (.Pass ⟨0, 0, 0, 0⟩)
 | _ => .Pass ⟨0, 0, 0, 0⟩
noncomputable def defArgs (s : Stmt) : Arguments := match s with
 | .FunctionDef _ a _ _ _ _ _ _ _ _ => a
 | _ => { posonlyargs := [], args := [], vararg := none, kwonlyargs := [], kw_defaults := [], kwarg := none, defaults := [] }
noncomputable def defBody (s : Stmt) : List Stmt := match s with
 | .FunctionDef _ _ b _ _ _ _ _ _ _ => b
 | _ => []
noncomputable def defScope (s : Stmt) : Scope := match s with
 | .FunctionDef _ _ _ _ _ _ sc _ _ _ => sc
 | _ => { kind := .function, names := [], isGenerator := false, isCoroutine := false }
noncomputable abbrev CX0 : CXT := fun _ _ _ _ _ _ => False
noncomputable abbrev E0 : XK := fun _ _ _ => False
theorem pass0 {X : Cx} : Passes CX0 X E0 := fun _ _ _ _ _ _ _ h => h.elim
structure Fun (K : PySem.W.Frag) (x qual : Str) (st : Stmt) (f : Addr) (fd : FuncData) : Prop where
 ex : ∃ (oc : Value) (od : Option Addr) (kV doc pm : Value) (an : Option Addr) (cdv ct : Value) (osl : Array (Option Value)),
  fd = PySem.W.fnOf x qual (defArgs st) (defBody st) (defScope st) .none kV doc pm an cdv ct ∧ K.lookup f = some ⟨oc, od, .func fd, osl⟩ ∧ PySem.W.codeIn K cdv qual = true
 kp : PySem.W.keepIn K (.ref f) = true
section
variable {P : Program} {w : World} {K : PySem.W.Frag} {mg : Str → Option Value} {base : Heap}
end
section
variable {X : Cx}
end
noncomputable def Same (H H' : Hp) : Prop := ∀ b o, H b = some o → H' b = some o
section
variable {κ : Type} [DecidableEq κ]
end
end L2
set_option Elab.async false
set_option linter.all false
set_option maxRecDepth 100000
set_option maxHeartbeats 4000000
namespace L3
open PySem PySem.Spec PyProof.Rows L2
inductive W where
 | non | bl (b : Bool) | int (i : Int) | str (x : Str) | ty (n : String) | ref (a : Addr) | tup (ws : List W) | lsf (ws : List W)
  | exc (C : Addr) (ns : List Str) (ws : List W) | dcf (ks : List Str) (ws : List W)
noncomputable abbrev Frg := PySem.W.Frag
noncomputable def KL (K : Frg) (a : Addr) (xs : List V) : Prop := ∃ (o : Obj) (its : Array Value) (n : Nat), K.lookup a = some o ∧ o.cls = .type "list" ∧ o.dict = none ∧ o.data = .seq its n ∧ its.size ≤ sizeLine ∧ Vals xs its.toList
noncomputable def KRows : List DictEntry → List Str → List V → Prop
 | [], ks, vs => ks = [] ∧ vs = []
 | e :: r, ks, vs => ∃ k t v ks' vs', ks = k :: ks' ∧ vs = v :: vs' ∧ e.key = .str k t ∧ RelV v e.val ∧ KRows r ks' vs'
noncomputable def KD (K : Frg) (a : Addr) (ks : List Str) (vs : List V) : Prop := ∃ (o : Obj) (es : Array DictEntry) (ep : Nat), K.lookup a = some o ∧ o.ExactDict ∧ o.data = .dict es ep ∧ es.size ≤ sizeLine ∧ (a == sysModules) = false ∧ KRows es.toList ks vs
noncomputable def ExO (a C : Addr) (dx : Option Addr) : Heap → Prop := fun h => ∃ fs, h.get? a = some { cls := .ref C, dict := dx, data := .fields fs }
noncomputable def ExAt (H : Hp) (a C : Addr) (l : List (Str × V)) : Prop := (H a = some (.ext (ExO a C none)) ∧ l = []) ∨ ∃ dx, H a = some (.ext (ExO a C (some dx))) ∧ H dx = some (.xd l)
noncomputable def isX : HO → Prop
 | .ext _ => True
 | .xd _ => True
 | _ => False
mutual
noncomputable def Rep (K : Frg) (H : Hp) : W → V → Prop
 | .non, v => v = .non
 | .bl b, v => v = .bl b
 | .int i, v => v = .int i
 | .str x, v => v = .str x
 | .ty n, v => v = .ty n
 | .ref a, v => v = .ref a
 | .tup ws, v => ∃ a vs, v = .ref a ∧ SqT K H a vs ∧ Reps K H ws vs
 | .lsf ws, v => ∃ a vs, v = .ref a ∧ KL K a vs ∧ Reps K H ws vs
 | .exc C ns ws, v => ∃ a vs, v = .ref a ∧ ExAt H a C (ns.zip vs) ∧ Reps K H ws vs
 | .dcf ks ws, v => ∃ a vs, v = .ref a ∧ KD K a ks vs ∧ Reps K H ws vs
noncomputable def Reps (K : Frg) (H : Hp) : List W → List V → Prop
 | [], vs => vs = []
 | w :: ws, vs => ∃ v r, vs = v :: r ∧ Rep K H w v ∧ Reps K H ws r
end
noncomputable def Grow (K : Frg) (H H' : Hp) : Prop := (∀ a xs, SqT K H a xs → SqT K H' a xs) ∧ ∀ a o, isX o → H a = some o → H' a = some o
theorem Grow.refl {K : Frg} {H : Hp} : Grow K H H := ⟨fun _ _ h => h, fun _ _ _ h => h⟩
theorem Grow.trans {K : Frg} {H H1 H2 : Hp} (a : Grow K H H1) (b : Grow K H1 H2) : Grow K H H2 := ⟨fun x xs h => b.1 x xs (a.1 x xs h), fun x o i h => b.2 x o i (a.2 x o i h)⟩
theorem ExAt.mono {K : Frg} {H H' : Hp} (g : Grow K H H') {a C : Addr} {l : List (Str × V)} (h : ExAt H a C l) : ExAt H' a C l := by
 rcases h with ⟨h, e⟩ | ⟨dx, h, h'⟩
 ·exact .inl ⟨g.2 _ _ True.intro h, e⟩
 ·exact .inr ⟨dx, g.2 _ _ True.intro h, g.2 _ _ True.intro h'⟩
section
variable {K : Frg} {H H' : Hp}
mutual
theorem Rep.mono (g : Grow K H H') : ∀ {w : W} {v : V}, Rep K H w v → Rep K H' w v
 | .non, _, h => h
 | .bl _, _, h => h
 | .int _, _, h => h
 | .str _, _, h => h
 | .ty _, _, h => h
 | .ref _, _, h => h
 | .tup _, _, ⟨a, vs, e, s, r⟩ => ⟨a, vs, e, g.1 a vs s, Reps.mono g r⟩
 | .lsf _, _, ⟨a, vs, e, s, r⟩ => ⟨a, vs, e, s, Reps.mono g r⟩
 | .exc _ _ _, _, ⟨a, vs, e, s, r⟩ => ⟨a, vs, e, s.mono g, Reps.mono g r⟩
 | .dcf _ _, _, ⟨a, vs, e, s, r⟩ => ⟨a, vs, e, s, Reps.mono g r⟩
theorem Reps.mono (g : Grow K H H') : ∀ {ws : List W} {vs : List V}, Reps K H ws vs → Reps K H' ws vs
 | [], _, h => h
 | _ :: _, _, ⟨v, r, e, h, t⟩ => ⟨v, r, e, Rep.mono g h, Reps.mono g t⟩
end
theorem Reps.length : ∀ {ws : List W} {vs : List V}, Reps K H ws vs → vs.length = ws.length
 | [], _, h => by rw [show _ = [] from h]; rfl
 | _ :: _, _, ⟨v, r, e, _, t⟩ => by rw [e, List.length_cons, List.length_cons, Reps.length t]
theorem Reps.append : ∀ {ws : List W} {vs : List V} {ws' : List W} {vs' : List V}, Reps K H ws vs → Reps K H ws' vs' → Reps K H (ws ++ ws') (vs ++ vs')
 | [], _, _, _, h, h' => by rw [show _ = [] from h]; exact h'
 | _ :: _, _, _, _, ⟨v, r, e, h, t⟩, h' => by rw [e]; exact ⟨v, _, rfl, h, Reps.append t h'⟩
theorem Reps.get : ∀ {ws : List W} {vs : List V} {i : Nat} {w : W}, Reps K H ws vs → ws[i]? = some w → ∃ v, vs[i]? = some v ∧ Rep K H w v
 | [], _, _, _, _, e => by simp at e
 | _ :: _, _, 0, _, ⟨v, r, e, h, t⟩, q => by simp at q; subst q; subst e; exact ⟨v, rfl, h⟩
 | _ :: _, _, i + 1, w, ⟨v, r, e, h, t⟩, q => by
  subst e
  obtain ⟨u, h1, h2⟩ := Reps.get (i := i) (w := w) t (by simpa using q)
  exact ⟨u, by simpa using h1, h2⟩
theorem Reps.get' : ∀ {ws : List W} {vs : List V} {i : Nat} {v : V}, Reps K H ws vs → vs[i]? = some v → ∃ w, ws[i]? = some w ∧ Rep K H w v
 | [], _, _, _, h, e => by rw [show _ = [] from h] at e; simp at e
 | _ :: _, _, 0, _, ⟨v, r, e, h, t⟩, q => by subst e; simp at q; subst q; exact ⟨_, rfl, h⟩
 | _ :: _, _, i + 1, w, ⟨v, r, e, h, t⟩, q => by
  subst e
  obtain ⟨u, h1, h2⟩ := Reps.get' (i := i) (v := w) t (by simpa using q)
  exact ⟨u, by simpa using h1, h2⟩
theorem Reps.set {w : W} {v : V} (q : Rep K H w v) : ∀ {ws : List W} {vs : List V} (i : Nat), Reps K H ws vs → Reps K H (ws.set i w) (vs.set i v)
 | [], _, _, h => by rw [show _ = [] from h]; rfl
 | _ :: _, _, 0, ⟨_, r, e, _, t⟩ => by rw [e]; exact ⟨_, _, rfl, q, t⟩
 | _ :: _, _, i + 1, ⟨v, r, e, h, t⟩ => by rw [e]; exact ⟨_, _, rfl, h, Reps.set q i t⟩
theorem Reps.take : ∀ {ws : List W} {vs : List V} (n : Nat), Reps K H ws vs → Reps K H (ws.take n) (vs.take n)
 | [], _, _, h => by rw [show _ = [] from h]; simp; rfl
 | _ :: _, _, 0, _ => by simp; rfl
 | _ :: _, _, n + 1, ⟨v, r, e, h, t⟩ => by rw [e]; exact ⟨_, _, rfl, h, Reps.take n t⟩
theorem Reps.drop : ∀ {ws : List W} {vs : List V} (n : Nat), Reps K H ws vs → Reps K H (ws.drop n) (vs.drop n)
 | [], _, _, h => by rw [show _ = [] from h]; simp; rfl
 | _ :: _, _, 0, h => h
 | _ :: _, _, n + 1, ⟨v, r, e, h, t⟩ => by rw [e]; exact Reps.drop n t
theorem Reps.reverse : ∀ {ws : List W} {vs : List V}, Reps K H ws vs → Reps K H ws.reverse vs.reverse
 | [], _, h => by rw [show _ = [] from h]; rfl
 | _ :: _, _, ⟨v, r, e, h, t⟩ => by
  rw [e, List.reverse_cons, List.reverse_cons]
  exact Reps.append (Reps.reverse t) ⟨v, [], rfl, h, rfl⟩
theorem Reps.dropLast {ws : List W} {vs : List V} (h : Reps K H ws vs) : Reps K H ws.dropLast vs.dropLast := by
 rw [List.dropLast_eq_take, List.dropLast_eq_take, h.length]
 exact h.take _
end
inductive O where
 | lst (ws : List W)
  | fix (ws : List W)
 | dic (kvs : List (Key × W))
 | ins (C : Addr) (fs : List (Str × W))
noncomputable abbrev Hw := Addr → Option O
noncomputable def put (G : Hw) (a : Addr) (o : O) : Hw := fun b => if b = a then some o else G b
theorem put_same {G : Hw} {a : Addr} {o : O} : put G a o a = some o := by unfold put; rw [if_pos rfl]
theorem put_ne {G : Hw} {a b : Addr} {o : O} (h : b ≠ a) : put G a o b = G b := by unfold put; rw [if_neg h]
theorem gnone {G : Hw} {a b : Addr} {o : O} (h : G a = some o) (h' : G b = none) : a ≠ b := by
 intro e; subst e; rw [h] at h'; cases h'
noncomputable def RepKV (K : Frg) (H : Hp) {κ : Type} : List (κ × W) → List (κ × V) → Prop
 | [], l => l = []
 | p :: r, l => ∃ v t, l = (p.1, v) :: t ∧ Rep K H p.2 v ∧ RepKV K H r t
noncomputable def RepO (K : Frg) (H : Hp) : O → HO → Prop
 | .lst ws, o => ∃ vs, o = .lst vs ∧ Reps K H ws vs
 | .fix ws, o => ∃ vs ob, (o = .lst vs ∨ o = .frz ob (.lst vs)) ∧ Reps K H ws vs
 | .dic kvs, o => ∃ l, o = .dK l ∧ RepKV K H kvs l
 | .ins C fs, o => ∃ dx l, o = .ins C dx l ∧ RepKV K H fs l
noncomputable def Abs (K : Frg) (H : Hp) (G : Hw) : Prop := ∀ a o, G a = some o → ∃ u, H a = some u ∧ RepO K H o u
theorem RepKV.mono {K : Frg} {H H' : Hp} (g : Grow K H H') {κ : Type} : ∀ {l : List (κ × W)} {l' : List (κ × V)}, RepKV K H l l' → RepKV K H' l l'
 | [], _, h => h
 | _ :: _, _, ⟨v, t, e, h, r⟩ => ⟨v, t, e, h.mono g, RepKV.mono g r⟩
theorem RepO.mono {K : Frg} {H H' : Hp} (g : Grow K H H') : ∀ {o : O} {u : HO}, RepO K H o u → RepO K H' o u
 | .lst _, _, ⟨vs, e, r⟩ => ⟨vs, e, r.mono g⟩
 | .fix _, _, ⟨vs, ob, e, r⟩ => ⟨vs, ob, e, r.mono g⟩
 | .dic _, _, ⟨l, e, r⟩ => ⟨l, e, r.mono g⟩
 | .ins _ _, _, ⟨dx, l, e, r⟩ => ⟨dx, l, e, r.mono g⟩
theorem RepO.notX {K : Frg} {H : Hp} : ∀ {o : O} {u : HO}, RepO K H o u → ¬ isX u
 | .lst _, _, ⟨vs, e, r⟩ => by subst e; exact id
 | .fix _, _, ⟨vs, ob, e, r⟩ => by rcases e with e | e <;> subst e <;> exact id
 | .dic _, _, ⟨l, e, r⟩ => by subst e; exact id
 | .ins _ _, _, ⟨dx, l, e, r⟩ => by subst e; exact id
theorem RepO.notTup {K : Frg} {H : Hp} : ∀ {o : O} {u : HO}, RepO K H o u → (∀ xs, u ≠ .tup xs) ∧ ∀ ob xs, u ≠ .frz ob (.tup xs)
 | .lst _, _, ⟨vs, e, r⟩ => by subst e; exact ⟨(fun _ z => nomatch z), (fun _ _ z => nomatch z)⟩
 | .fix _, _, ⟨vs, ob, e, r⟩ => by
  rcases e with e | e <;> subst e
  ·exact ⟨(fun _ z => nomatch z), (fun _ _ z => nomatch z)⟩
  ·exact ⟨(fun _ z => nomatch z), (fun _ _ z => nomatch z)⟩
 | .dic _, _, ⟨l, e, r⟩ => by subst e; exact ⟨(fun _ z => nomatch z), (fun _ _ z => nomatch z)⟩
 | .ins _ _, _, ⟨dx, l, e, r⟩ => by subst e; exact ⟨(fun _ z => nomatch z), (fun _ _ z => nomatch z)⟩
section
variable {K : Frg} {H H' : Hp} {G : Hw} {a : Addr}
theorem Abs.free (h : Abs K H G) (e : H a = none) : G a = none := by
 cases q : G a with
 | none => rfl
 | some o =>
  obtain ⟨u, e', _⟩ := h a o q
  rw [e] at e'; cases e'
theorem grow_upd {u : HO} (h : ∀ xs, ¬ Rd H a (.tup xs)) (hx : ∀ o, isX o → H a ≠ some o) : Grow K H (upd H a u) := ⟨fun b xs s => by
 rcases s with s | s
 ·have hb : b ≠ a := by rintro rfl; exact h xs s
  left
  rcases s with s | ⟨o, s⟩
  ·exact .inl (by rw [upd_ne hb]; exact s)
  ·exact .inr ⟨o, by rw [upd_ne hb]; exact s⟩
 ·exact .inr s, fun b o i s => by
 have hb : b ≠ a := by rintro rfl; exact hx o i s
 rw [upd_ne hb]; exact s⟩
theorem grow_new {u : HO} (h : H a = none) : Grow K H (upd H a u) := grow_upd (fun xs s => by
 rcases s with s | ⟨o, s⟩ <;> (rw [h] at s; cases s)) (fun o _ s => by rw [h] at s; cases s)
theorem Abs.grow {o : O} {u : HO} (h : Abs K H G) (e : G a = some o) : Grow K H (upd H a u) := by
 obtain ⟨u', e', r⟩ := h a o e
 refine grow_upd (fun xs s => ?_) (fun o' i s => ?_)
 ·rcases s with s | ⟨ob, s⟩
  ·rw [e'] at s; cases s; exact r.notTup.1 xs rfl
  ·rw [e'] at s; cases s; exact r.notTup.2 ob xs rfl
 ·rw [e'] at s; cases s; exact r.notX i
theorem Abs.new {o : O} {u : HO} (h : Abs K H G) (e : H a = none) (r : RepO K (upd H a u) o u) : Abs K (upd H a u) (put G a o) := fun b ob q => by
 by_cases hb : b = a
 ·subst hb; rw [put_same] at q; cases q; exact ⟨u, upd_same, r⟩
 ·rw [put_ne hb] at q
  obtain ⟨u', e', r'⟩ := h b ob q
  exact ⟨u', by rw [upd_ne hb]; exact e', r'.mono (grow_new e)⟩
theorem Abs.tup {u : HO} (h : Abs K H G) (e : H a = none) : Abs K (upd H a u) G := fun b ob q => by
 obtain ⟨u', e', r'⟩ := h b ob q
 exact ⟨u', by rw [upd_ne (ne_of_none e' e)]; exact e', r'.mono (grow_new e)⟩
theorem Abs.chg {o o' : O} {u : HO} (h : Abs K H G) (e : G a = some o') (r : RepO K (upd H a u) o u) : Abs K (upd H a u) (put G a o) := fun b ob q => by
 by_cases hb : b = a
 ·subst hb; rw [put_same] at q; cases q; exact ⟨u, upd_same, r⟩
 ·rw [put_ne hb] at q
  obtain ⟨u', e', r'⟩ := h b ob q
  exact ⟨u', by rw [upd_ne hb]; exact e', r'.mono (h.grow e)⟩
theorem Abs.lst {ws : List W} (h : Abs K H G) (e : G a = some (.lst ws)) : ∃ vs, H a = some (.lst vs) ∧ Reps K H ws vs := by
 obtain ⟨u, e', vs, rfl, r⟩ := h a _ e
 exact ⟨vs, e', r⟩
theorem Abs.dic {kvs : List (Key × W)} (h : Abs K H G) (e : G a = some (.dic kvs)) : ∃ l, H a = some (.dK l) ∧ RepKV K H kvs l := by
 obtain ⟨u, e', vs, rfl, r⟩ := h a _ e
 exact ⟨vs, e', r⟩
theorem Abs.ins {C : Addr} {fs : List (Str × W)} (h : Abs K H G) (e : G a = some (.ins C fs)) : ∃ dx l, H a = some (.ins C dx l) ∧ RepKV K H fs l := by
 obtain ⟨u, e', dx, vs, rfl, r⟩ := h a _ e
 exact ⟨dx, vs, e', r⟩
end
noncomputable def lstOf (G : Hw) (a : Addr) : Option (List W) := match G a with
 | some (.lst ws) => some ws
 | some (.fix ws) => some ws
 | _ => none
theorem Abs.seq {K : Frg} {H : Hp} {G : Hw} {a : Addr} {ws : List W} (h : Abs K H G) (e : lstOf G a = some ws) : ∃ vs, SqL K H a vs ∧ Reps K H ws vs := by
 unfold lstOf at e
 split at e
 ·rename_i q
  cases e
  obtain ⟨vs, e', r⟩ := h.lst q
  exact ⟨vs, .of e', r⟩
 ·rename_i q
  cases e
  obtain ⟨u, e', vs, ob, z, r⟩ := h a _ q
  refine ⟨vs, ?_, r⟩
  rcases z with rfl | rfl
  ·exact .inl (.inl e')
  ·exact .inl (.inr ⟨_, e'⟩)
 ·cases e
noncomputable abbrev St3 := List (Option W)
noncomputable def RepSt (K : Frg) (H : Hp) (σ : St3) (τ : L2.St) : Prop := σ.length = τ.length ∧ ∀ (i : Nat) (w : W), σ[i]? = some (some w) → ∃ v, τ[i]? = some (some v) ∧ Rep K H w v
theorem RepSt.mono {K : Frg} {H H' : Hp} (g : Grow K H H') {σ : St3} {τ : L2.St} (h : RepSt K H σ τ) : RepSt K H' σ τ :=
 ⟨h.1, fun i w e => let ⟨v, e', r⟩ := h.2 i w e; ⟨v, e', r.mono g⟩⟩
theorem RepSt.set {K : Frg} {H : Hp} {σ : St3} {τ : L2.St} {w : W} {v : V} (h : RepSt K H σ τ) (r : Rep K H w v) (i : Nat) : RepSt K H (σ.set i (some w)) (τ.set i (some v)) := by
 refine ⟨by simp [h.1], fun j w' e => ?_⟩
 rw [List.getElem?_set] at e ⊢
 by_cases hj : i = j
 ·subst hj
  rw [if_pos rfl] at e ⊢
  by_cases hl : i < σ.length
  ·rw [if_pos hl] at e; cases e
   rw [if_pos (h.1 ▸ hl)]; exact ⟨v, rfl, r⟩
  ·rw [if_neg hl] at e; cases e
 ·rw [if_neg hj] at e ⊢; exact h.2 j w' e
noncomputable abbrev Q3 := W → Hw → Prop
noncomputable abbrev E3 := St3 → Hw → Q3 → Prop
noncomputable abbrev T3 := St3 → Hw → (Bool → Hw → Prop) → Prop
noncomputable abbrev A3 := St3 → Hw → (List W → Hw → Prop) → Prop
structure End3 where
 nx : St3 → Hw → Prop
 rt : Q3
 bk : St3 → Hw → Prop := fun _ _ => False
 ct : St3 → Hw → Prop := fun _ _ => False
noncomputable abbrev S3 := End3 → St3 → Hw → Prop
section
variable (K : Frg)
noncomputable def lowE (t : E3) : TE := fun τ H Q => ∃ σ G, RepSt K H σ τ ∧ Abs K H G ∧ t σ G fun w G' => ∀ v H', Grow K H H' → Rep K H' w v → Abs K H' G' → Q v H'
noncomputable def lowT (t : T3) : TT := fun τ H Q => ∃ σ G, RepSt K H σ τ ∧ Abs K H G ∧ t σ G fun b G' => ∀ H', Grow K H H' → Abs K H' G' → Q b H'
noncomputable def lowA (t : A3) : TA := fun τ H Q => ∃ σ G, RepSt K H σ τ ∧ Abs K H G ∧ t σ G fun ws G' => ∀ vs H', Grow K H H' → Reps K H' ws vs → Abs K H' G' → Q vs H'
structure Fine (H : Hp) (D3 : End3) (D : Ends) : Prop where
 nx : ∀ σ G τ H', Grow K H H' → RepSt K H' σ τ → Abs K H' G → D3.nx σ G → D.nx τ H'
 bk : ∀ σ G τ H', Grow K H H' → RepSt K H' σ τ → Abs K H' G → D3.bk σ G → D.bk τ H'
 ct : ∀ σ G τ H', Grow K H H' → RepSt K H' σ τ → Abs K H' G → D3.ct σ G → D.ct τ H'
 rt : ∀ w G v H', Grow K H H' → Rep K H' w v → Abs K H' G → D3.rt w G → D.rt v H'
noncomputable def lowS (t : S3) : TS := fun D τ H => ∃ σ G D3, RepSt K H σ τ ∧ Abs K H G ∧ Fine K H D3 D ∧ t D3 σ G
end
theorem Fine.grow {K : Frg} {H H' : Hp} {D3 : End3} {D : Ends} (f : Fine K H D3 D) (g : Grow K H H') : Fine K H' D3 D :=
 ⟨fun σ G τ H2 g2 => f.nx σ G τ H2 (g.trans g2), fun σ G τ H2 g2 => f.bk σ G τ H2 (g.trans g2), fun σ G τ H2 g2 => f.ct σ G τ H2 (g.trans g2), fun w G v H2 g2 => f.rt w G v H2 (g.trans g2)⟩
noncomputable def MonoE (t : E3) : Prop := ∀ σ G (Q Q' : Q3), (∀ w G', Q w G' → Q' w G') → t σ G Q → t σ G Q'
noncomputable def MonoT (t : T3) : Prop := ∀ σ G (Q Q' : Bool → Hw → Prop), (∀ w G', Q w G' → Q' w G') → t σ G Q → t σ G Q'
noncomputable def MonoA (t : A3) : Prop := ∀ σ G (Q Q' : List W → Hw → Prop), (∀ w G', Q w G' → Q' w G') → t σ G Q → t σ G Q'
section
variable {K : Frg} {H : Hp} {σ : St3} {τ : L2.St} {G : Hw}
theorem bindE {t : E3} {R : Q3} {S : VK} (m : MonoE t) (hs : RepSt K H σ τ) (ha : Abs K H G) (h : t σ G R)
  (k : ∀ w G1 v H1, Grow K H H1 → RepSt K H1 σ τ → Rep K H1 w v → Abs K H1 G1 → R w G1 → S v H1) : lowE K t τ H S :=
 ⟨σ, G, hs, ha, m σ G _ _ (fun w G' r v H' g rp ab => k w G' v H' g (hs.mono g) rp ab r) h⟩
theorem bindT {t : T3} {R : Bool → Hw → Prop} {S : Bool → Hp → Prop} (m : MonoT t) (hs : RepSt K H σ τ) (ha : Abs K H G) (h : t σ G R)
  (k : ∀ b G1 H1, Grow K H H1 → RepSt K H1 σ τ → Abs K H1 G1 → R b G1 → S b H1) : lowT K t τ H S :=
 ⟨σ, G, hs, ha, m σ G _ _ (fun w G' r H' g ab => k w G' H' g (hs.mono g) ab r) h⟩
theorem bindA {t : A3} {R : List W → Hw → Prop} {S : List V → Hp → Prop} (m : MonoA t) (hs : RepSt K H σ τ) (ha : Abs K H G) (h : t σ G R)
  (k : ∀ w G1 v H1, Grow K H H1 → RepSt K H1 σ τ → Reps K H1 w v → Abs K H1 G1 → R w G1 → S v H1) : lowA K t τ H S :=
 ⟨σ, G, hs, ha, m σ G _ _ (fun w G' r v H' g rp ab => k w G' v H' g (hs.mono g) rp ab r) h⟩
end
end L3
namespace L2
section
variable {X : Cx} {e : PySem.Expr} {st : PySem.Stmt} {sts : List PySem.Stmt}
theorem PE.imp {t t' : TE} (h : PE X e t) (k : ∀ σ H Q, t' σ H Q → t σ H Q) : PE X e t' := fun pins s σ H Q I q => h pins s σ H Q I (k σ H Q q)
theorem PT.imp {t t' : TT} (h : PT X e t) (k : ∀ σ H Q, t' σ H Q → t σ H Q) : PT X e t' := fun pins s σ H Q I q => h pins s σ H Q I (k σ H Q q)
theorem PW.imp {t t' : TT} (h : PW X e t) (k : ∀ σ H Q, t' σ H Q → t σ H Q) : PW X e t' := fun wh pins s σ H Q I q => h wh pins s σ H Q I (k σ H Q q)
theorem PA.imp {es : List PySem.Expr} {t t' : TA} (h : PA X es t) (k : ∀ σ H Q, t' σ H Q → t σ H Q) : PA X es t' := fun pos pins s σ H Q I q => h pos pins s σ H Q I (k σ H Q q)
theorem PS.imp {t t' : TS} (h : PS X st t) (k : ∀ D σ H, t' D σ H → t D σ H) : PS X st t' := fun pins s σ H D I q => h pins s σ H D I (k D σ H q)
theorem PSs.imp {t t' : TS} (h : PSs X sts t) (k : ∀ D σ H, t' D σ H → t D σ H) : PSs X sts t' := fun pins s σ H D I q => h pins s σ H D I (k D σ H q)
end
end L2
set_option genInjectivity false
set_option genSizeOfSpec false
set_option Elab.async false
set_option linter.all false
set_option maxRecDepth 100000
set_option maxHeartbeats 4000000
namespace L2
open PySem PySem.Spec PyProof.Rows PySem.Calls
noncomputable def clo (env : Env) : List (Str × NameKind) → List (Str × Addr) → List (Str × Addr)
 | [], acc => acc
 | (n, k) :: r, acc => if (k == NameKind.free) = true then clo env r ((n, (env.cells.lookup n).getD 0) :: acc) else clo env r acc
theorem clo_mem (env : Env) : ∀ (l : List (Str × NameKind)) (acc : List (Str × Addr)) {x : Str} {c : Addr}, (clo env l acc).lookup x = some c →
  ((∃ k, (x, k) ∈ l ∧ k = .free) ∧ c = (env.cells.lookup x).getD 0) ∨ acc.lookup x = some c
 | [], acc, x, c, h => .inr h
 | (n, k) :: r, acc, x, c, h => by
  unfold clo at h
  by_cases hk : (k == NameKind.free) = true
  ·rw [if_pos hk] at h
   rcases clo_mem env r _ h with ⟨⟨k', m, e⟩, q⟩ | h
   ·exact .inl ⟨⟨k', List.mem_cons_of_mem _ m, e⟩, q⟩
   ·rw [List.lookup_cons] at h
    by_cases hx : (x == n) = true
    ·rw [hx] at h
     have e : x = n := eq_of_beq hx
     subst e
     exact .inl ⟨⟨k, List.mem_cons_self, eq_of_beq hk⟩, (Option.some.inj h).symm⟩
    ·rw [Bool.not_eq_true] at hx
     rw [hx] at h; exact .inr h
  ·rw [if_neg hk] at h
   rcases clo_mem env r _ h with ⟨⟨k', m, e⟩, q⟩ | h
   ·exact .inl ⟨⟨k', List.mem_cons_of_mem _ m, e⟩, q⟩
   ·exact .inr h
theorem clo_acc (env : Env) : ∀ (l : List (Str × NameKind)) (acc : List (Str × Addr)) {x : Str}, (∃ c, acc.lookup x = some c) → ∃ c, (clo env l acc).lookup x = some c
 | [], acc, x, h => h
 | (n, k) :: r, acc, x, h => by
  unfold clo
  split
  ·refine clo_acc env r _ ?_
   rw [List.lookup_cons]
   cases x == n
   ·exact h
   ·exact ⟨_, rfl⟩
  ·exact clo_acc env r _ h
theorem clo_has (env : Env) : ∀ (l : List (Str × NameKind)) (acc : List (Str × Addr)) {x : Str}, (x, NameKind.free) ∈ l → ∃ c, (clo env l acc).lookup x = some c
 | (n, k) :: r, acc, x, h => by
  unfold clo
  rcases List.mem_cons.mp h with h | h
  ·cases h
   rw [if_pos (by decide)]
   refine clo_acc env r _ ?_
   rw [List.lookup_cons, beq_self_eq_true]
   exact ⟨_, rfl⟩
  ·split
   ·exact clo_has env r _ h
   ·exact clo_has env r _ h
theorem closure_eq {env : Env} {scope : Scope} (h : ∀ x, (x, NameKind.free) ∈ scope.names → ∃ c, env.cells.lookup x = some c) : closureFor scope env = pure (clo env scope.names []) := by
 simp only [closureFor]
 have key : ∀ (l : List (Str × NameKind)) (acc : List (Str × Addr)), (∀ x, (x, NameKind.free) ∈ l → ∃ c, env.cells.lookup x = some c) →
   (forIn l acc fun x r => match x with | (name, kind) => if (kind == NameKind.free) = true then (do let a ← cellOf env name; pure (ForInStep.yield ((name, a) :: r))) else pure (ForInStep.yield r) : Sem (List (Str × Addr))) = pure (clo env l acc) := by
  intro l
  induction l with
  | nil => intro acc _; rfl
  | cons p r ih =>
   intro acc hh
   obtain ⟨n, k⟩ := p
   rw [List.forIn_cons]
   by_cases hk : (k == NameKind.free) = true
   ·have ek : k = .free := eq_of_beq hk
    obtain ⟨c, hc⟩ := hh n (by rw [ek]; exact List.mem_cons_self)
    simp only [hk, if_true]
    have e1 : cellOf env n = pure c := by unfold cellOf; rw [hc]
    rw [e1]
    simp only [pure_bind]
    rw [ih _ fun x hx => hh x (List.mem_cons_of_mem _ hx)]
    conv => rhs; unfold clo
    rw [if_pos hk, hc]
    all_goals rfl
   ·simp only [hk]
    rw [if_neg (by simp)]
    simp only [pure_bind]
    rw [ih _ fun x hx => hh x (List.mem_cons_of_mem _ hx)]
    conv => rhs; unfold clo
    rw [if_neg hk]
 have := key scope.names [] h
 simpa using this
theorem lookup_relabel {env : Env} : ∀ {names : List (Str × NameKind)} {x : Str} {k' : NameKind},
  (names.map fun (n, k) => if (k == NameKind.free && env.scope.kind == .function && env.kindOf n == some .cell) then (n, NameKind.cell) else (n, k)).lookup x = some k' →
  ∃ k, names.lookup x = some k ∧ (k' = k ∨ (k = .free ∧ k' = .cell))
 | [], _, _, h => by simp at h
 | (n, k) :: r, x, k', h => by
  rw [List.map_cons] at h
  by_cases hc : (k == NameKind.free && env.scope.kind == .function && env.kindOf n == some .cell) = true
  ·simp only [hc, if_true] at h
   rw [List.lookup_cons] at h ⊢
   cases hx : x == n with
   | true =>
    rw [hx] at h
    cases h
    simp only [Bool.and_eq_true, beq_iff_eq] at hc
    exact ⟨k, rfl, .inr ⟨hc.1.1, rfl⟩⟩
   | false => rw [hx] at h; exact lookup_relabel h
  ·simp only [hc, if_false] at h
   rw [if_neg (by simp)] at h
   rw [List.lookup_cons] at h ⊢
   cases hx : x == n with
   | true => rw [hx] at h; cases h; exact ⟨k, rfl, .inl rfl⟩
   | false => rw [hx] at h; exact lookup_relabel h
theorem lookup_mem {α : Type} : ∀ {l : List (Str × α)} {x : Str} {v : α}, l.lookup x = some v → (x, v) ∈ l
 | (n, k) :: r, x, v, h => by
  rw [List.lookup_cons] at h
  cases hx : x == n with
  | true => rw [hx] at h; cases h; rw [eq_of_beq hx]; exact List.mem_cons_self
  | false => rw [hx] at h; exact List.mem_cons_of_mem _ (lookup_mem h)
end L2
set_option Elab.async false
set_option linter.all false
set_option maxRecDepth 100000
set_option maxHeartbeats 4000000
namespace L2
open PySem PySem.Spec PyProof.Rows PySem.Calls
theorem compTurn_lst (elt target iter : Expr) (ifs : List Expr) (scope : Scope) (pos : Pos) (it acc : Value) (env : Env) :
  compTurn (.ListComp elt [⟨target, iter, ifs, 0⟩] scope pos) 0 it acc env = (do
   standAt iter.pos
   match ← pyNext it with
   | none => pure (.done .next)
   | some v =>
    letOwnedTupleGo target it v
    assign target env v
    let mut ok := true
    for c in ifs do
     if ok then ok ← isTrue c env (eval c env)
    if ok then
     (do let _ ← call (.builtin "list.append") [acc, ← eval elt env])
    again (.compLoop (.ListComp elt [⟨target, iter, ifs, 0⟩] scope pos) 0 it acc env)) := by rfl
section
variable {prog : Program} {w : World} {A : Around} {R : Result → Shared → Prop} {s : Shared}
theorem compLoop_any {elt target iter : Expr} {ifs : List Expr} {scope : Scope} {pos : Pos} {it acc : Value} {env : Env} (I : Nat → Shared → Prop)
  (turn : ∀ n s, I n s → wpAny (model prog w) A (pyNext it) (fun r s₁ => match r with
   | none => R (.ok .next) s₁
   | some v => wpAny (model prog w) A (letOwnedTupleGo target it v) (fun _ s₁ => wpAny (model prog w) A (assign target env v) (fun _ s₂ =>
     wpAny (model prog w) A (forIn ifs true fun c r => if r = true then do let ok ← isTrue c env (eval c env); pure (ForInStep.yield ok) else pure (ForInStep.yield r)) (fun ok s₃ =>
      if ok = true then wpAny (model prog w) A (eval elt env) (fun x s₄ =>
       wpAny (model prog w) A (call (.builtin "list.append") [acc, x]) (fun _ s₅ => ∃ m, m < n ∧ I m s₅) (fun _ _ => False) s₄) (fun _ _ => False) s₃
      else ∃ m, m < n ∧ I m s₃) (fun _ _ => False) s₂) (fun _ _ => False) s₁) (fun _ _ => False) s₁) (fun _ _ => False) s)
  (n : Nat) (h : I n s) :
  codeAny (model prog w) A (.compLoop (.ListComp elt [⟨target, iter, ifs, 0⟩] scope pos) 0 it acc env) R s := by
 refine codeAny_loop rfl I (fun n s hI => ?_) n h
 show wpAny _ A ((compTurn (.ListComp elt [⟨target, iter, ifs, 0⟩] scope pos) 0 it acc env).onRaise (fun x => do noteFrame x env; theTreesLotGoes x)) _ _ s
 refine wpAny_noted ?_
 rw [compTurn_lst]
 refine wpAny_bind (wpAny_standAt (wpAny_bind (wpAny_mono (turn n s hI) (fun r s₁ h₁ => ?_) fun _ _ h' => h'.elim)))
 cases r with
 | none => exact wpAny_pure h₁
 | some v =>
  refine wpAny_bind (wpAny_mono h₁ (fun _ s₁ h₁ => ?_) fun _ _ h' => h'.elim)
  refine wpAny_bind (wpAny_mono h₁ (fun _ s₂ h₂ => wpAny_bind (wpAny_mono h₂ (fun ok s₃ h₃ => ?_) fun _ _ h' => h'.elim)) fun _ _ h' => h'.elim)
  cases ok with
  | false => exact wpAny_pure ⟨rfl, h₃⟩
  | true =>
   exact wpAny_bind (wpAny_bind (wpAny_mono h₃ (fun x s₄ h₄ => wpAny_bind (wpAny_mono h₄ (fun _ s₅ h₅ => wpAny_pure (wpAny_pure ⟨rfl, h₅⟩)) fun _ _ h' => h'.elim)) fun _ _ h' => h'.elim))
end
structure IsBlock (X : Cx) (N : List Str) (sc : Scope) (X' : Cx) : Prop where
 prog : X'.prog = X.prog
 w : X'.w = X.w
 K : X'.K = X.K
 mg : X'.mg = X.mg
 base : X'.base = X.base
 A : X'.A = X.A
 calm : X'.calm = X.calm
 N : X'.N = N
 scope : X'.env.scope = relabel sc X.env
 xe : X'.xe = fun _ _ => False
noncomputable def blockCx (X : Cx) (N : List Str) (sc : Scope) (C : Addr) (s2 : Shared) (H2 : Hp) (fp : List Addr) (pins : List (Addr × Obj)) : Cx where
 prog := X.prog
 w := X.w
 K := X.K
 mg := X.mg
 base := X.base
 A := X.A
 N := N
 s₀ := s2
 H₀ := H2
 env := compEnvC sc (clo X.env sc.names []) C X.env
 outer := X.stack
 stack := X.stack
 ex := fp
 fn := fun _ => false
 calm := X.calm
 pn := X.pn ++ pins
 xe := fun _ _ => False
theorem blockCx_is (X : Cx) (N : List Str) (sc : Scope) (C : Addr) (s2 : Shared) (H2 : Hp) (fp : List Addr) (pins : List (Addr × Obj)) : IsBlock X N sc (blockCx X N sc C s2 H2 fp pins) :=
 ⟨rfl, rfl, rfl, rfl, rfl, rfl, rfl, rfl, rfl, rfl⟩
structure BlkSc (X : Cx) (sc : Scope) : Prop where
 kind : sc.kind = .function
 nocell : ∀ y ∈ sc.names, y.2 ≠ .cell
 free : ∀ x, (x, NameKind.free) ∈ sc.names → X.env.kindOf x = some .cell ∨ X.env.kindOf x = some .free
 names : ∀ y ∈ sc.names, y.2 = .local → sc.names.lookup y.1 = some .local
section
variable {X : Cx} {pins : List (Addr × Obj)} {σ : St} {H2 : Hp} {s2 : Shared} {sc : Scope} {N : List Str} {C : Addr} {fp : List Addr}
theorem clo_look (ok : X.Ok) (B : BlkSc X sc) {x : Str} {c : Addr} (h : (clo X.env sc.names []).lookup x = some c) : X.env.cells.lookup x = some c ∧ (X.env.kindOf x = some .cell ∨ X.env.kindOf x = some .free) := by
 rcases clo_mem _ _ _ h with ⟨⟨k, m, e⟩, q⟩ | h
 ·subst e
  have hf := B.free x m
  obtain ⟨c', hc'⟩ := ok.has x hf
  rw [hc'] at q
  exact ⟨by rw [hc', q]; rfl, hf⟩
 ·simp at h
theorem B_has (B : BlkSc X sc) {x : Str} (h : (relabel sc X.env).names.lookup x = some .cell ∨ (relabel sc X.env).names.lookup x = some .free) : (x, NameKind.free) ∈ sc.names := by
 rcases h with h | h
 ·obtain ⟨k, hk, e⟩ := lookup_relabel h
  rcases e with e | ⟨e, _⟩
  ·subst e; exact absurd rfl (B.nocell _ (lookup_mem hk))
  ·subst e; exact lookup_mem hk
 ·obtain ⟨k, hk, e⟩ := lookup_relabel h
  rcases e with e | ⟨e, z⟩
  ·subst e; exact lookup_mem hk
  ·cases z
theorem block_ok (I2 : Inv X pins σ H2 s2) (B : BlkSc X sc) (f2 : ∀ b ∈ fp, FpOk X pins H2 b) (hfp : ∀ b ∈ fp, b < s2.heap.objs.size) (hC : s2.heap.objs.size ≤ C) : (blockCx X N sc C s2 H2 fp pins).Ok where
 mod := I2.ok.mod
 kind := B.kind
 glob := I2.ok.glob
 blt := I2.ok.blt
 above := hC
 inj := fun x y c hx hy => I2.ok.inj x y c (clo_look I2.ok B hx).1 (clo_look I2.ok B hy).1
 has := fun x h => clo_has _ _ _ (B_has B h)
 cab := fun x c h => by cases h
 hd := I2.ok.hd
 frames := I2.ok.frames
 stk := .inl rfl
 exf := fun b hb => ⟨Nat.ne_of_lt (Nat.lt_of_lt_of_le (hfp b hb) hC), fun x c h => (f2 b hb).2.2.2.2.1 x c (clo_look I2.ok B h).1⟩
 bs := I2.bs
 bsz := Nat.le_trans I2.ok.bsz I2.sz
 noex := fun b o e hb => by
  rcases (f2 b hb).2.2.2.1 with h | h
  ·exact I2.ok.noex b o e h
  ·exact absurd (Nat.lt_of_lt_of_le (Heap.lt_size e) (Nat.le_trans I2.ok.bsz h)) (Nat.lt_irrefl _)
 exfs := fun b hb hm => by
  rcases List.mem_cons.mp (I2.stkSub b hm) with h | h
  ·exact (f2 b hb).2.1 h
  ·exact (f2 b hb).2.2.1 h
 funs := I2.stack
 frf := I2.stkFree
theorem block_inv {s4 : Shared} {τ : St} {m : Str → Option Value} (I2 : Inv X pins σ H2 s2) (B : BlkSc X sc) (f2 : ∀ b ∈ fp, FpOk X pins H2 b) (hfp : ∀ b ∈ fp, b < s2.heap.objs.size) (hC : s2.heap.objs.size ≤ C)
  (ho : s4.os = s2.os) (hg : s4.gens = s2.gens) (keep : ∀ b o, s2.heap.get? b = some o → s4.heap.get? b = some o) (hns : s4.heap.Ns C m) (hl : τ.length = N.length)
  (cap : ∀ (i : Nat) (x : Str) (v : V), N[i]? = some x → τ[i]? = some (some v) → Vis (relabel sc X.env) x → (relabel sc X.env).names.lookup x ≠ some .local ∧ ∃ j : Nat, X.N[j]? = some x ∧ σ[j]? = some (some v)) :
  Inv (blockCx X N sc C s2 H2 fp pins) [] τ H2 s4 := by
 refine ⟨block_ok I2 B f2 hfp hC, ho, by rw [hg]; exact I2.bare, Un.kept keep, ⟨m, hns, fun i x v hN hτ hv => ?_⟩, fun x c h => ?_, I2.hok.fresh hC, fun x c h => I2.freeC x c (clo_look I2.ok B h).1, fun p hp => ?_, I2.hok.kept keep, hl⟩
 ·obtain ⟨hnl, j, hj, hσ⟩ := cap i x v hN hτ hv
  have hkind : (relabel sc X.env).names.lookup x = some .cell ∨ (relabel sc X.env).names.lookup x = some .free := by
   rcases hv with h | h | h
   ·exact absurd h hnl
   ·exact .inl h
   ·exact .inr h
  have hmem := B_has B hkind
  have hf := B.free x hmem
  obtain ⟨m0, _, hl0⟩ := I2.loc
  obtain ⟨u, r, lk⟩ := hl0 j x v hj hσ (hf.elim (fun h => .inr (.inl h)) fun h => .inr (.inr h))
  refine ⟨u, r, .inr ⟨hkind, ?_⟩⟩
  rcases lk with ⟨hk, _⟩ | ⟨_, c, hc, hcell⟩
  ·rw [hk] at hf; rcases hf with hf | hf <;> cases hf
  ·obtain ⟨c', hc'⟩ := clo_has X.env sc.names [] hmem
   have e := (clo_look I2.ok B hc').1
   rw [hc] at e; cases e
   refine ⟨c, hc', ?_⟩
   obtain ⟨o, e1, r1⟩ := hcell
   exact ⟨o, keep _ _ e1, r1⟩
 ·obtain ⟨v, o, e1, r1⟩ := I2.cell x c (clo_look I2.ok B h).1
  exact ⟨v, o, keep _ _ e1, r1⟩
 ·have hp' : p ∈ X.pn ++ pins := by simpa [blockCx] using hp
  obtain ⟨q1, q2, q3, q4, q5⟩ := I2.pin p hp'
  refine ⟨keep _ _ q1, q2, Nat.ne_of_lt (Nat.lt_of_lt_of_le (Heap.lt_size q1) hC), fun z => ?_, q5⟩
  rcases List.mem_cons.mp (I2.stkSub _ z) with h | h
  ·exact q3 h
  ·exact q4 h
end
theorem HOk.adopt {P : Program} {w : World} {H : Hp} {h h' : Heap} {a : Addr} {o : HO} (x : HOk P w H h) (k : ∀ b u v, H b = some v → h.get? b = some u → h'.get? b = some u) (hn : H a = none) (new : ObjOk P w (upd H a o) h' a o) : HOk P w (upd H a o) h' := fun b u e => by
 by_cases hb : b = a
 ·subst hb; rw [upd_same] at e; cases e; exact new
 ·rw [upd_ne hb] at e
  refine (x b u e).stay (fun c v hc q => ?_) (fun c q => by rw [upd_ne (ne_of_none q hn)]; exact q) fun c xs q => by rw [upd_ne (ne_of_none q hn)]; exact q
  rcases hc with rfl | hc
  ·exact k _ _ _ e q
  ·exact k _ _ _ hc q
end L2
set_option Elab.async false
set_option linter.all false
set_option maxRecDepth 100000
set_option maxHeartbeats 4000000
namespace L2
open PySem PySem.Spec PyProof.Rows PySem.Calls
noncomputable def PTs (X : Cx) (ifs : List Expr) (t : TT) : Prop :=
 ∀ (pins : List (Addr × Obj)) (s : Shared) (σ : St) (H : Hp) (Q : Bool → Hp → Prop), Inv X pins σ H s → t σ H Q →
  wpAny (model X.prog X.w) X.A (forIn ifs true fun c r => if r = true then do let ok ← isTrue c X.env (eval c X.env); pure (ForInStep.yield ok) else pure (ForInStep.yield r)) (TP X pins σ Q) X.xe s
theorem pts_nil {X : Cx} : PTs X [] (fun _ H Q => Q true H) := fun _ _ _ H _ I h => wpAny_tests_nil ⟨H, I, h⟩
theorem pts_one {X : Cx} {c : Expr} {t : TT} (h : PT X c t) : PTs X [c] t := fun pins s σ H Q I q => wpAny_tests_one (h pins s σ H Q I q)
noncomputable def tLCb (J : It) (τ : St) (g : TG) (tc : TT) (te : TE) (Qf : List V → Hp → Prop) (H1 : Hp) : Prop :=
 ∃ Pv : Nat → Nat → St → List V → Hp → Prop, (∃ m, Pv 0 m τ [] H1) ∧ ∀ i m τ acc H, Pv i m τ acc H →
  (J.stop i H ∧ Qf acc H) ∨
  (J.go i H ∧ acc.length < sizeLine ∧ ∀ x H', J.yld i H x H' → g x τ H' fun σ2 H2 => tc σ2 H2 fun b H3 => if b = true then te σ2 H3 fun v H4 => ∃ m', m' < m ∧ Pv (i + 1) m' σ2 (acc ++ [v]) H4 else ∃ m', m' < m ∧ Pv (i + 1) m' σ2 acc H3)
structure Off (X : Cx) (pins : List (Addr × Obj)) (C : Addr) : Prop where
 ne : C ≠ X.env.locals
 ge : X.s₀.heap.objs.size ≤ C
 cl : ∀ x c, X.env.cells.lookup x = some c → c ≠ C
 pn : ∀ p ∈ X.pn ++ pins, p.1 ≠ C
theorem Off.turned {X : Cx} {pins : List (Addr × Obj)} {C : Addr} {σ : St} {H : Hp} {s : Shared} {h' : Heap} (o : Off X pins C) (I : Inv X pins σ H s) (hn : H C = none) (k : Heap.SameBut C s.heap h') : Inv X pins σ H { s with heap := h' } :=
 I.turned (t' := s.toks) (fun b u hb e => k.extBut b u hb e) hn o.ne (.inr o.ge) o.cl o.pn
theorem Inv.off {X : Cx} {pins : List (Addr × Obj)} {σ : St} {H : Hp} {s : Shared} {C : Addr} (I : Inv X pins σ H s) (hC : s.heap.objs.size ≤ C) : Off X pins C :=
 ⟨(Nat.ne_of_lt (Nat.lt_of_lt_of_le I.lt hC)).symm, Nat.le_trans I.sz hC, fun x c h => by
  obtain ⟨v, o, e, _⟩ := I.cell x c h
  exact Nat.ne_of_lt (Nat.lt_of_lt_of_le (Heap.lt_size e) hC), fun p hp => Nat.ne_of_lt (Nat.lt_of_lt_of_le (Heap.lt_size (I.pin p hp).1) hC)⟩
noncomputable abbrev lobj (its : List Value) (n : Nat) : Obj := { cls := .type "list", data := .seq its.toArray n }
set_option maxHeartbeats 8000000 in
theorem lc_core {X : Cx} {pins : List (Addr × Obj)} {σ τ : St} {H2 : Hp} {s2 : Shared} {sc : Scope} {N : List Str} {fp : List Addr} {it : Addr} {tn : Nat → Heap → Prop} {J : It} {tg iter elt : Expr} {ifs : List Expr} {pos : Pos} {g : TG} {tc : TT} {te : TE}
  {Qf : List V → Hp → Prop} {RR : Value → Addr → Result → Shared → Prop} {E : Value → Shared → Prop}
  (hc : X.calm = true) (I2 : Inv X pins σ H2 s2) (T : Turn X.prog X.w X.K tg J fp it tn) (t0 : tn 0 s2.heap) (f2 : ∀ b ∈ fp, FpOk X pins H2 b) (B : BlkSc X sc) (hl : τ.length = N.length)
  (cap : ∀ (i : Nat) (x : Str) (v : V), N[i]? = some x → τ[i]? = some (some v) → Vis (relabel sc X.env) x → (relabel sc X.env).names.lookup x ≠ some .local ∧ ∃ j : Nat, X.N[j]? = some x ∧ σ[j]? = some (some v))
  (hg : ∀ X', IsBlock X N sc X' → PG X' tg g) (ht : ∀ X', IsBlock X N sc X' → PTs X' ifs tc) (he : ∀ X', IsBlock X N sc X' → PE X' elt te)
  (h : tLCb J τ g tc te Qf H2)
  (fin : ∀ (D C : Addr) (acc : List V) (H' : Hp) (s' : Shared) (m : Str → Option Value), D ≠ C → H' D = none → H' C = none → Off X pins C → Inv X pins σ (upd H' D (.lst acc)) s' → s'.heap.Ns C m → Qf acc H' → RR (.ref D) C (.ok .next) s') :
  wpAny (model X.prog X.w) X.A (newList []) (fun acc s₃ => wpAny (model X.prog X.w) X.A (newFunctionEnv sc X.env.globals (clo X.env sc.names []) [] X.env.qual none .none (some X.env)) (fun cenv s₄ =>
   codeAny (model X.prog X.w) X.A (.compStart (.ListComp elt [⟨tg, iter, ifs, 0⟩] sc pos) 0 (.ref it) acc { cenv with scope := relabel sc X.env }) (RR acc cenv.locals) s₄) E s₃) E s2 := by
 refine wpAny_newObj_type (wpAny_newFunctionEnv B.nocell (by intro y hy; simp at hy) (fun h₁ hns₁ hsb₁ => ?_) B.kind)
 dsimp only at hns₁ hsb₁ ⊢
 generalize hH2 : s2.heap.push { cls := .type "list", dict := none, data := .seq ([] : List Value).toArray } = G2 at hns₁ hsb₁ ⊢
 have hC : G2.objs.size = s2.heap.objs.size + 1 := by rw [← hH2, Heap.size_push]
 have hDC : s2.heap.objs.size ≠ G2.objs.size := by rw [hC]; exact Nat.ne_of_lt (Nat.lt_succ_self _)
 have hCle : s2.heap.objs.size ≤ G2.objs.size := by rw [hC]; exact Nat.le_succ _
 have below : ∀ b, b < s2.heap.objs.size → b ≠ G2.objs.size ∧ b ≠ s2.heap.objs.size := fun b hb => ⟨by rw [hC]; exact Nat.ne_of_lt (Nat.lt_succ_of_lt hb), Nat.ne_of_lt hb⟩
 have hfp : ∀ b ∈ fp, b < s2.heap.objs.size := fun b hb => by
  obtain ⟨o, e, _⟩ := T.obj _ _ t0 b hb
  exact Heap.lt_size e
 have hDf : ∀ b ∈ fp, b ≠ s2.heap.objs.size := fun b hb => (below b (hfp b hb)).2
 have hCf : ∀ b ∈ fp, b ≠ G2.objs.size := fun b hb => (below b (hfp b hb)).1
 have old : ∀ b o, s2.heap.get? b = some o → h₁.get? b = some o := fun b o e => hsb₁.extBut b o (below b (Heap.lt_size e)).1 (Heap.get?_push_of_some _ (hH2 ▸ Heap.get?_push_of_some _ e))
 have hacc : h₁.get? s2.heap.objs.size = some (lobj [] 0) := hsb₁.extBut _ _ hDC (Heap.get?_push_of_some _ (hH2 ▸ Heap.get?_push_size _ rfl))
 have fresh : ∀ a, s2.heap.objs.size ≤ a → s2.heap.get? a = none := fun a ha => by
  cases e : s2.heap.get? a with
  | none => rfl
  | some o' => exact absurd (Heap.lt_size e) (Nat.not_lt.mpr ha)
 have hsub : ∀ b ∈ frs X.stack, b < s2.heap.objs.size := fun b hb => by
  obtain ⟨_, o, e, _⟩ := I2.stack.mem hb
  exact Heap.lt_size e
 obtain ⟨Pv, ⟨m0, p0⟩, step⟩ := h
 generalize hD : s2.heap.objs.size = D at *
 generalize hCe : G2.objs.size = C at *
 have hXb : IsBlock X N sc (blockCx X N sc C s2 H2 fp pins) := blockCx_is ..
 generalize hXd : blockCx X N sc C s2 H2 fp pins = X' at hXb
 have J0 : Inv X' [] τ H2 { s2 with heap := h₁, toks := s2.toks + ([] : List (Str × Value)).length } := by
  rw [← hXd]
  exact block_inv I2 B f2 (by rw [hD]; exact hfp) (by rw [hD]; exact hCle) rfl rfl old hns₁ hl cap
 have offD : Off X' [] D := by
  rw [← hXd]
  refine ⟨hDC, by show s2.heap.objs.size ≤ D; rw [hD]; exact Nat.le_refl _, fun x c hx => ?_, fun p hp => ?_⟩
  ·obtain ⟨v, o, e, _⟩ := I2.cell x c (clo_look I2.ok B hx).1
   have := Heap.lt_size e
   rw [hD] at this
   exact Nat.ne_of_lt this
  ·have hp' : p ∈ X.pn ++ pins := by simpa [blockCx] using hp
   have := Heap.lt_size (I2.pin p hp').1
   rw [hD] at this
   exact Nat.ne_of_lt this
 have offC : Off X pins C := I2.off (by rw [hD]; exact hCle)
 have fpok : ∀ {H' : Hp} {ob : Obj}, (∀ b ∈ fp, H' b = none) → ∀ b ∈ fp, FpOk X' [(D, ob)] H' b := fun {H' ob} hn b hb => by
  rw [← hXd]
  refine ⟨hn b hb, hCf b hb, fun z => (block_ok (N := N) I2 B f2 (by rw [hD]; exact hfp) (by rw [hD]; exact hCle)).exfs b hb z, .inl hb, fun x c hx => (f2 b hb).2.2.2.2.1 x c (clo_look I2.ok B hx).1, fun p hp => ?_⟩
  rcases List.mem_append.mp hp with hp | hp
  ·exact (f2 b hb).2.2.2.2.2 p hp
  ·rw [List.mem_singleton.mp hp]; exact (hDf b hb).symm
 have Dfs : D ∉ X'.fs := by
  rw [← hXd]
  intro z
  exact Nat.lt_irrefl _ (hsub D z)
 have pinD : ∀ {H' : Hp} {τ' : St} {s' : Shared} {its : List Value} {n : Nat}, Inv X' [] τ' H' s' → H' D = none → s'.heap.get? D = some (lobj its n) → Inv X' [(D, lobj its n)] τ' H' s' := fun {H' τ' s' its n} I hn e =>
  I.pins_of fun p hp => by
   rw [List.mem_singleton.mp hp]
   exact ⟨e, hn, by rw [← hXd]; exact hDC, Dfs, fun v z => nomatch z⟩
 have loop : ∀ s₃ : Shared, s₃ = { s2 with heap := h₁, toks := s2.toks + ([] : List (Str × Value)).length } →
   codeAny (model X.prog X.w) X.A (.compLoop (.ListComp elt [⟨tg, iter, ifs, 0⟩] sc pos) 0 (.ref it) (.ref D) (compEnvC sc (clo X.env sc.names []) C X.env)) (RR (.ref D) C) s₃ := by
  rintro s₃ rfl
  have tn0 : tn 0 h₁ := T.keep _ _ _ t0 fun b _ o e => old b o e
  have fr0 : ∀ b ∈ fp, H2 b = none := fun b hb => (f2 b hb).1
  have Df0 : H2 D = none := I2.hok.fresh (by rw [hD]; exact Nat.le_refl _)
  have eX : X'.env = compEnvC sc (clo X.env sc.names []) C X.env := by rw [← hXd]; rfl
  have ep : X'.prog = X.prog := hXb.prog
  have ew : X'.w = X.w := hXb.w
  have eA : X'.A = X.A := hXb.A
  refine compLoop_any (fun k s' => ∃ i τ' acc H' its n, Inv X' [] τ' H' s' ∧ tn i s'.heap ∧ (∀ b ∈ fp, H' b = none) ∧ H' D = none ∧ s'.heap.get? D = some (lobj its n) ∧ Vals acc its ∧ acc.length ≤ sizeLine ∧ Pv i k τ' acc H') ?_ m0 ⟨0, τ, [], H2, [], 0, J0, tn0, fr0, Df0, hacc, .nil, Nat.zero_le _, p0⟩
  rintro k s3 ⟨i, τ3, acc, H3, its, n, I3, st3, fr3, D3, o3, v3, lenA, p3⟩
  have I3' := pinD I3 D3 o3
  rcases step i k τ3 acc H3 p3 with ⟨stop, qf⟩ | ⟨go, hsz, turn⟩
  ·have td := T.done X' ep ew hXb.K (by rw [hXb.calm]; exact hc) i _ s3 τ3 H3 (fun _ _ => False) I3' (fpok fr3) st3 stop
   rw [eA] at td
   refine thn td fun r s4 ⟨hr, I4⟩ => ?_
   subst hr
   have o4 := (I4.pin (D, lobj its n) (List.mem_append_right _ (List.mem_singleton.mpr rfl))).1
   obtain ⟨m4, hn4, _⟩ := I4.loc
   rw [eX] at hn4
   refine fin D C acc H3 s4 m4 hDC D3 ?_ offC ?_ hn4 qf
   ·have := I4.free; rw [eX] at this; exact this
   ·have base : Un (frs X.stack) fp H2 H3 s2.heap s4.heap := by have := I4.base; rw [← hXd] at this; exact this
    have hb : ∀ b o, s2.heap.get? b = some o → b ≠ D := fun b o e => by have := Heap.lt_size e; rw [hD] at this; exact Nat.ne_of_lt this
    refine I2.call' (ch := fp) (by have := I4.os; rw [← hXd] at this; exact this) ⟨base.keep, base.slot, fun b o e n' hx => ?_, base.there, fun b xs e => ?_, fun b o u e => ?_, fun b ps e => ?_⟩ ?_ I4.bare ?_
    ·rw [upd_ne (hb b o e)]; exact base.free b o e n' hx
    ·rw [upd_ne (ne_of_none (base.tups b xs e) D3)]; exact base.tups b xs e
    ·rw [upd_ne (ne_of_none (base.frzs b o u e) D3)]; exact base.frzs b o u e
    ·obtain ⟨mo, e'⟩ := base.tbls b ps e
     exact ⟨mo, by rw [upd_ne (ne_of_none e' D3)]; exact e'⟩
    ·have hk := I4.hok
     rw [ep, ew] at hk
     exact hk.adopt (fun b u v _ q => q) D3 ⟨lenA, its, n, v3, o4⟩
    ·intro b hb'
     obtain ⟨q1, q2, q3, q4, q5, q6⟩ := f2 b hb'
     exact ⟨q4, q2, q5, q6⟩
  ·have td := T.item X' ep ew hXb.K (by rw [hXb.calm]; exact hc) i _ s3 τ3 H3 (fun _ _ => False) I3' (fpok fr3) st3 go
   rw [eA] at td
   refine thn td fun r s4 ⟨u, hr, h4⟩ => ?_
   subst hr
   refine thn h4 fun _ s5 ⟨x, H5, I5, r5, y5, st5, fr5⟩ => ?_
   have I5' := I5.pinned (fpok fr5) (T.obj _ _ st5)
   have q1 := hg X' hXb _ s5 τ3 H5 x u _ I5' r5 (turn x H5 y5)
   rw [ep, ew, eA, eX, hXb.xe] at q1
   refine thn q1 fun _ s6 ⟨σ6, H6, I6, q6⟩ => ?_
   have q2 := ht X' hXb _ s6 σ6 H6 _ I6 q6
   rw [ep, ew, eA, eX, hXb.xe] at q2
   refine thn q2 fun b s7 ⟨H7, I7, q7⟩ => ?_
   have back : ∀ {H8 : Hp} {s8 : Shared}, Inv X' ([(D, lobj its n)] ++ pinsAt fp s5.heap) σ6 H8 s8 → Inv X' [] σ6 H8 s8 ∧ tn (i + 1) s8.heap ∧ (∀ b ∈ fp, H8 b = none) ∧ H8 D = none ∧ s8.heap.get? D = some (lobj its n) := fun {H8 s8} I8 => by
    have pp : ∀ p, p ∈ [(D, lobj its n)] ++ pinsAt fp s5.heap → _ := fun p hp => I8.pin p (List.mem_append_right _ hp)
    refine ⟨I8.pins_of (pins' := []) (fun p hp => nomatch hp), T.keep _ _ _ st5 fun b hb o e => (pp (b, o) (List.mem_append_right _ (mem_pinsAt hb e))).1, fun b hb => ?_, ?_, ?_⟩
    ·obtain ⟨o, e, d⟩ := T.obj _ _ st5 b hb
     exact (pp (b, o) (List.mem_append_right _ (mem_pinsAt hb e))).2.1
    ·exact (pp (D, lobj its n) (List.mem_append_left _ (List.mem_singleton.mpr rfl))).2.1
    ·exact (pp (D, lobj its n) (List.mem_append_left _ (List.mem_singleton.mpr rfl))).1
   cases b with
   | false =>
    rw [if_neg (by decide)] at q7
    rw [if_neg (by decide)]
    obtain ⟨m', hm, p'⟩ := q7
    obtain ⟨b1, b2, b3, b4, b5⟩ := back I7
    exact ⟨m', hm, i + 1, σ6, acc, H7, its, n, b1, b2, b3, b4, b5, v3, lenA, p'⟩
   | true =>
    rw [if_pos rfl] at q7
    rw [if_pos rfl]
    have q3 := he X' hXb _ s7 σ6 H7 _ I7 q7
    rw [ep, ew, eA, eX, hXb.xe] at q3
    refine thn q3 fun y s8 ⟨v, H8, I8, r8, m', hm, p'⟩ => ?_
    obtain ⟨b1, b2, b3, b4, b5⟩ := back I8
    refine append_at (hsz := by show its.toArray.size ≤ sizeLine; rw [List.size_toArray, ← v3.length]; exact Nat.le_of_lt hsz) b5 fun h₅ hs₅ hD₅ => ?_
    refine ⟨m', hm, i + 1, σ6, acc ++ [v], H8, its ++ [y], n + 1, offD.turned b1 b4 hs₅, T.keep _ _ _ b2 fun b hb o e => hs₅.extBut b o (hDf b hb) e, b3, b4, ?_, v3.append (.cons r8 .nil), by rw [List.length_append]; exact hsz, p'⟩
    show h₅.get? D = _
    rw [hD₅, List.push_toArray]
 exact codeAny_compStart_list (loop _ rfl) (T.self _ 0 _ _ _ (T.keep _ _ _ t0 fun b _ o e => old b o e) (loop _ rfl))
noncomputable def tLC (wi : TI) (cap : St → St) (g : TG) (tc : TT) (te : TE) : TE := fun σ H Q => wi σ H fun J H1 => tLCb J (cap σ) g tc te (fun acc H' => ∀ p, H' p = none → Q (.ref p) (upd H' p (.lst acc))) H1
section
variable {X : Cx} {sc : Scope} {N : List Str} {tg iter elt : Expr} {ifs : List Expr} {pos : Pos} {wi : TI} {g : TG} {tc : TT} {te : TE} {cap : St → St}
noncomputable def Caps (X : Cx) (sc : Scope) (N : List Str) (cap : St → St) : Prop := ∀ σ : St, σ.length = X.N.length → (cap σ).length = N.length ∧
 ∀ (i : Nat) (x : Str) (v : V), N[i]? = some x → (cap σ)[i]? = some (some v) → Vis (relabel sc X.env) x → (relabel sc X.env).names.lookup x ≠ some .local ∧ ∃ j : Nat, X.N[j]? = some x ∧ σ[j]? = some (some v)
theorem pe_lc (hc : X.calm = true) (hi : PI X tg iter wi) (B : BlkSc X sc) (hcap : Caps X sc N cap)
  (hg : ∀ X', IsBlock X N sc X' → PG X' tg g) (ht : ∀ X', IsBlock X N sc X' → PTs X' ifs tc) (he : ∀ X', IsBlock X N sc X' → PE X' elt te)
  (hs : ∀ x, foldedSetIterable iter X.env x = pure x := by intro _; rfl) : PE X (.ListComp elt [⟨tg, iter, ifs, 0⟩] sc pos) (tLC wi cap g tc te) := by
 intro pins s σ H Q I h
 rw [eval_ListComp]
 refine wpAny_comprehension_free (use := none) rfl hs (closure_eq fun x hx => I.ok.has x (B.free x hx)) B.kind B.names (thn (hi pins s σ H _ I h) fun v s1 h1 => thn h1 fun itv s2 h2 => ?_)
 obtain ⟨it, fp, tn, J, H2, e, I2, T, st2, f2, q⟩ := h2
 subst e
 obtain ⟨cl, cc⟩ := hcap σ I.len
 refine lc_core (RR := fun acc C => compPost (model X.prog X.w) X.A X.xe none (EP X pins σ Q) acc C) hc I2 T st2 f2 B cl cc hg ht he q fun D C acc H' s' m hDC hD hC off I' hn qf => ?_
 refine ⟨m, hn, fun h' hk => ⟨.ref D, _, off.turned I' (by rw [upd_ne hDC.symm]; exact hC) hk, rfl, qf D hD⟩⟩
theorem ps_setlc {i : Nat} {y : Str} {py spos : Pos} (hc : X.calm = true) (hi : PI X tg iter wi) (B : BlkSc X sc) (hcap : Caps X sc N cap)
  (hg : ∀ X', IsBlock X N sc X' → PG X' tg g) (ht : ∀ X', IsBlock X N sc X' → PTs X' ifs tc) (he : ∀ X', IsBlock X N sc X' → PE X' elt te)
  (hN : X.N.Nodup) (hy : X.N[i]? = some y) (hx : Loc X.env.scope y) (hf : X.fn y = true ∨ X.env.scope.names.lookup y = some .local)
  (hsw : swapsWith (.ListComp elt [⟨tg, iter, ifs, 0⟩] sc pos) (some (.Name y py)) spos.line X.env = pure true)
  (hs : ∀ x, foldedSetIterable iter X.env x = pure x := by intro _; rfl) : PS X (.Assign [.Name y py] (.ListComp elt [⟨tg, iter, ifs, 0⟩] sc pos) spos) (tAsg (tLC wi cap g tc te) (gName i)) := by
 intro pins s σ H D I h
 rw [exec_Assign_Name_used _ _ _ _ hsw]
 refine wpAny_bind (wpAny_standAt (wpAny_bind ?_))
 show wpAny _ X.A (do let _ ← comprehension (.ListComp elt [⟨tg, iter, ifs, 0⟩] sc pos) sc X.env _ (newList []) false (eval iter X.env) (some (assign (.Name y py) X.env))) _ _ s
 refine wpAny_bind (wpAny_mono (wpAny_comprehension_free (use := some (assign (.Name y py) X.env)) (Q := fun _ s' => SP X pins D .next s') rfl hs (closure_eq fun x hx => I.ok.has x (B.free x hx)) B.kind B.names
  (thn (hi pins s σ H _ I h) fun v s1 h1 => thn h1 fun itv s2 h2 => ?_)) (fun _ s' hq => wpAny_pure (wpAny_pure hq)) fun _ _ e => e)
 obtain ⟨it, fp, tn, J, H2, e, I2, T, st2, f2, q⟩ := h2
 subst e
 obtain ⟨cl, cc⟩ := hcap σ I.len
 refine lc_core (RR := fun acc C => compPost (model X.prog X.w) X.A X.xe (some (assign (.Name y py) X.env)) (fun _ s' => SP X pins D .next s') acc C) hc I2 T st2 f2 B cl cc hg ht he q fun D' C acc H' s' m hDC hD hC off I' hn qf => ?_
 show wpAny _ X.A (assign (.Name y py) X.env (.ref D')) _ _ _
 refine wpAny_assign_Name (store_ok2 I' hN hy hx (v := .ref D') rfl (fun s'' I'' hsm => ?_) hf)
 obtain ⟨a, hsb, ha⟩ := hsm
 have hCa : C ≠ a := by
  rcases ha with ha | ha
  ·rw [ha]; exact off.ne
  ·exact (off.cl y a ha).symm
 refine ⟨m, hn.sameBut hsb hCa, fun h' hk => ⟨_, _, off.turned I'' (by rw [upd_ne hDC.symm]; exact hC) hk, qf D' hD⟩⟩
end
end L2
set_option Elab.async false
set_option linter.all false
set_option maxRecDepth 100000
set_option maxHeartbeats 4000000
namespace L3
open PySem PySem.Spec PyProof.Rows L2 PySem.SeqAt
mutual
noncomputable def eqW : W → W → Bool
 | .non, .non => true
 | .bl a, .bl b => a == b
 | .bl a, .int j => (if a then 1 else 0) == j
 | .int i, .bl b => i == (if b then 1 else 0)
 | .int i, .int j => i == j
 | .str x, .str y => x == y
 | .tup xs, .tup ys => eqWs xs ys
 | _, _ => false
noncomputable def eqWs : List W → List W → Bool
 | [], [] => true
 | x :: xs, y :: ys => eqW x y && eqWs xs ys
 | _, _ => false
end
mutual
noncomputable def pur : W → Bool
 | .ref _ => false
 | .ty _ => false
 | .lsf _ => false
 | .exc _ _ _ => false
 | .dcf _ _ => false
 | .tup ws => purs ws
 | _ => true
noncomputable def purs : List W → Bool
 | [] => true
 | w :: ws => pur w && purs ws
end
mutual
noncomputable def dep : W → Nat
 | .tup ws => deps ws + 1
 | _ => 0
noncomputable def deps : List W → Nat
 | [] => 0
 | w :: ws => max (dep w) (deps ws)
end
theorem purs_cons {w : W} {ws : List W} : purs (w :: ws) = true ↔ pur w = true ∧ purs ws = true := by simp [purs]
section
variable {X : Cx} {pins : List (Addr × Obj)} {σ : L2.St} {H : Hp} {s : Shared}
theorem W.ind {P : W → Prop} (non : P .non) (bl : ∀ b, P (.bl b)) (int : ∀ i, P (.int i)) (str : ∀ x, P (.str x)) (ty : ∀ n, P (.ty n)) (ref : ∀ a, P (.ref a)) (tup : ∀ ws, (∀ w ∈ ws, P w) → P (.tup ws)) (lsf : ∀ ws, P (.lsf ws)) (exc : ∀ C ns ws, P (.exc C ns ws)) (dcf : ∀ ks ws, P (.dcf ks ws)) : ∀ w : W, P w := fun w =>
 W.rec (motive_1 := P) (motive_2 := fun ws => ∀ w ∈ ws, P w) non bl int str ty ref (fun ws h => tup ws h) (fun ws _ => lsf ws) (fun C ns ws _ => exc C ns ws) (fun ks ws _ => dcf ks ws) (fun _ h => nomatch h) (fun w ws h hs v hv => (List.mem_cons.mp hv).elim (fun e => e ▸ h) (hs v)) w
theorem purs_mem {ws : List W} (h : purs ws = true) : ∀ w ∈ ws, pur w = true := by
 induction ws with
 | nil => intro w hw; cases hw
 | cons x xs ih =>
  intro w hw
  have h' := purs_cons.mp h
  rcases List.mem_cons.mp hw with e | hw
  ·rw [e]; exact h'.1
  ·exact ih h'.2 w hw
theorem eqWs_refl' : ∀ (ws : List W), (∀ w ∈ ws, pur w = true → eqW w w = true) → purs ws = true → eqWs ws ws = true := by
 intro ws
 induction ws with
 | nil => intro _ _; simp [eqWs]
 | cons w ws ih =>
  intro h hp
  have h' := purs_cons.mp hp
  simp only [eqWs, h w List.mem_cons_self h'.1, ih (fun z hz => h z (List.mem_cons_of_mem _ hz)) h'.2, Bool.and_self]
theorem eqW_refl {w : W} : pur w = true → eqW w w = true := by
 induction w using W.ind with
 | non => intro _; simp [eqW]
 | bl _ => intro _; simp [eqW]
 | int _ => intro _; simp [eqW]
 | str _ => intro _; simp [eqW]
 | ty _ => intro h; cases h
 | lsf _ => intro h; cases h
 | exc _ _ _ => intro h; cases h
 | dcf _ _ => intro h; cases h
 | ref _ => intro h; cases h
 | tup ws ih => intro h; exact eqWs_refl' ws ih h
theorem eqWs_refl {ws : List W} (h : purs ws = true) : eqWs ws ws = true := eqWs_refl' ws (fun _ _ => eqW_refl) h
theorem reps_inj' (I : Inv X pins σ H s) : ∀ (xs ys : List W) (vs : List V), (∀ x ∈ xs, ∀ (y : W) (v : V), Rep X.K H x v → Rep X.K H y v → pur x = true → pur y = true → x = y) → Reps X.K H xs vs → Reps X.K H ys vs → purs xs = true → purs ys = true → xs = ys := by
 intro xs
 induction xs with
 | nil =>
  intro ys vs _ h h' _ _
  cases ys with
  | nil => rfl
  | cons y ys => obtain ⟨_, _, e, _⟩ := h'; rw [show _ = [] from h] at e; cases e
 | cons x xs ih =>
  intro ys vs hx h h' px py
  obtain ⟨v, r, e, q, t⟩ := h
  subst e
  cases ys with
  | nil => cases h'
  | cons y ys =>
   obtain ⟨v', r', e', q', t'⟩ := h'
   cases e'
   rw [hx x List.mem_cons_self y v q q' (purs_cons.mp px).1 (purs_cons.mp py).1, ih ys r (fun z hz => hx z (List.mem_cons_of_mem _ hz)) t t' (purs_cons.mp px).2 (purs_cons.mp py).2]
theorem rep_inj (I : Inv X pins σ H s) : ∀ (x y : W) (v : V), Rep X.K H x v → Rep X.K H y v → pur x = true → pur y = true → x = y := by
 intro x
 induction x using W.ind with
 | tup xs ih =>
  intro y v h h' hx hy
  obtain ⟨a, vs, e, q, r⟩ := h
  subst e
  cases y with
  | tup ys =>
   obtain ⟨b, us, e', q', r'⟩ := h'
   cases e'
   have := I.tuple_inj q q'
   subst this
   rw [reps_inj' I xs ys vs ih r r' hx hy]
  | ref _ => cases hy
  | ty _ => cases hy
  | lsf _ => cases hy
  | exc _ _ _ => cases hy
  | dcf _ _ => cases hy
  | non => cases h'
  | bl _ => cases h'
  | int _ => cases h'
  | str _ => cases h'
 | ty _ => intro y v _ _ hx; cases hx
 | lsf _ => intro y v _ _ hx; cases hx
 | exc _ _ _ => intro y v _ _ hx; cases hx
 | dcf _ _ => intro y v _ _ hx; cases hx
 | ref _ => intro y v _ _ hx; cases hx
 | non =>
  intro y v h h' _ hy
  cases h
  cases y with
  | tup ys => obtain ⟨_, _, e, _⟩ := h'; cases e
  | ref _ => cases hy
  | ty _ => cases hy
  | lsf _ => cases hy
  | exc _ _ _ => cases hy
  | dcf _ _ => cases hy
  | non => rfl
  | bl _ => cases h'
  | int _ => cases h'
  | str _ => cases h'
 | bl _ =>
  intro y v h h' _ hy
  cases h
  cases y with
  | tup ys => obtain ⟨_, _, e, _⟩ := h'; cases e
  | ref _ => cases hy
  | ty _ => cases hy
  | lsf _ => cases hy
  | exc _ _ _ => cases hy
  | dcf _ _ => cases hy
  | non => cases h'
  | bl _ => cases h'; rfl
  | int _ => cases h'
  | str _ => cases h'
 | int _ =>
  intro y v h h' _ hy
  cases h
  cases y with
  | tup ys => obtain ⟨_, _, e, _⟩ := h'; cases e
  | ref _ => cases hy
  | ty _ => cases hy
  | lsf _ => cases hy
  | exc _ _ _ => cases hy
  | dcf _ _ => cases hy
  | non => cases h'
  | bl _ => cases h'
  | int _ => cases h'; rfl
  | str _ => cases h'
 | str _ =>
  intro y v h h' _ hy
  cases h
  cases y with
  | tup ys => obtain ⟨_, _, e, _⟩ := h'; cases e
  | ref _ => cases hy
  | ty _ => cases hy
  | lsf _ => cases hy
  | exc _ _ _ => cases hy
  | dcf _ _ => cases hy
  | non => cases h'
  | bl _ => cases h'
  | int _ => cases h'
  | str _ => cases h'; rfl
theorem reps_inj (I : Inv X pins σ H s) {xs ys : List W} {vs : List V} (h : Reps X.K H xs vs) (h' : Reps X.K H ys vs) (hx : purs xs = true) (hy : purs ys = true) : xs = ys :=
 reps_inj' I xs ys vs (fun x _ => rep_inj I x) h h' hx hy
noncomputable def pairW (xs ys : List W) (j : Nat) : Bool := match xs[j]?, ys[j]? with
 | some x, some y => eqW x y
 | _, _ => false
theorem eqWs_eq : ∀ xs ys : List W, ((List.range (min xs.length ys.length)).all (pairW xs ys) && xs.length == ys.length) = eqWs xs ys
 | [], [] => rfl
 | [], _ :: _ => by simp [eqWs]
 | _ :: _, [] => by simp [eqWs]
 | x :: xs, y :: ys => by
  have ih := eqWs_eq xs ys
  simp only [List.length_cons, Nat.add_min_add_right, eqWs]
  rw [List.range_succ_eq_map, List.all_cons, List.all_map]
  have h0 : pairW (x :: xs) (y :: ys) 0 = eqW x y := rfl
  have h1 : (pairW (x :: xs) (y :: ys) ∘ Nat.succ) = pairW xs ys := by funext j; simp [pairW]
  rw [h0, h1, ← ih, Bool.and_assoc]
  congr 2
  simp
theorem eqWs_len {xs ys : List W} (h : xs.length ≠ ys.length) : eqWs xs ys = false := by
 rw [← eqWs_eq]
 have : (xs.length == ys.length) = false := by simpa using h
 rw [this, Bool.and_false]
theorem eqWs_same {xs ys : List W} (h : xs.length = ys.length) : (List.range xs.length).all (pairW xs ys) = eqWs xs ys := by
 rw [← eqWs_eq, h, Nat.min_self]; simp
theorem tup_at (I : Inv X pins σ H s) {ws : List W} {v : V} {u : Value} (h : Rep X.K H (.tup ws) v) (r : RelV v u) : ∃ a vs its, v = .ref a ∧ u = .ref a ∧ SqT X.K H a vs ∧ Reps X.K H ws vs ∧ Vals vs its ∧ s.heap.IsTuple a its.toArray ∧ ws.length ≤ sizeLine := by
 obtain ⟨a, vs, rfl, q, rs⟩ := h
 obtain ⟨its, vr, it, hl⟩ := I.tuple q
 exact ⟨a, vs, its, rfl, r, q, rs, vr, it, by rw [← rs.length]; exact hl⟩
theorem eqAt_Ws' (I : Inv X pins σ H s) : ∀ (xs ys : List W) (vs vs' : List V) (us us' : List Value) (A : Around), (∀ x ∈ xs, ∀ (y : W) (v v' : V) (u u' : Value) (A : Around), Rep X.K H x v → RelV v u → Rep X.K H y v' → RelV v' u' → pur x = true → pur y = true → A.units + min (dep x) (dep y) < cLine → EqAt A s u u' (eqW x y)) →
  Reps X.K H xs vs → Vals vs us → Reps X.K H ys vs' → Vals vs' us' → purs xs = true → purs ys = true →
  A.units + min (deps xs) (deps ys) < cLine → ∀ (j : Nat) (h1 : j < us.length) (h2 : j < us'.length), EqAt A s us[j] us'[j] (pairW xs ys j) := by
 intro xs
 induction xs with
 | nil => intro ys vs vs' us us' A _ h r _ _ _ _ _ j h1; rw [show _ = [] from h] at r; cases r; exact absurd h1 (Nat.not_lt_zero _)
 | cons x xs ih =>
  intro ys vs vs' us us' A he h r h' r' hx hy hu j h1 h2
  cases ys with
  | nil => rw [show _ = [] from h'] at r'; cases r'; exact absurd h2 (Nat.not_lt_zero _)
  | cons y ys =>
   obtain ⟨v, t, e, h, hs⟩ := h
   obtain ⟨v', t', e', h', hs'⟩ := h'
   subst e; subst e'
   cases r with
   | cons r rs =>
    cases r' with
    | cons r' rs' =>
     have px := purs_cons.mp hx
     have py := purs_cons.mp hy
     simp only [deps] at hu
     cases j with
     | zero => exact he x List.mem_cons_self y _ _ _ _ A h r h' r' px.1 py.1 (by omega)
     | succ j => exact ih ys _ _ _ _ A (fun z hz => he z (List.mem_cons_of_mem _ hz)) hs rs hs' rs' px.2 py.2 (by omega) j (Nat.lt_of_succ_lt_succ h1) (Nat.lt_of_succ_lt_succ h2)
theorem eqAt_W (I : Inv X pins σ H s) : ∀ (x y : W) (v v' : V) (u u' : Value) (A : Around), Rep X.K H x v → RelV v u → Rep X.K H y v' → RelV v' u' → pur x = true → pur y = true → A.units + min (dep x) (dep y) < cLine → EqAt A s u u' (eqW x y) := by
 intro x
 induction x using W.ind with
 | tup xs ih =>
  intro y v v' u u' A h r h' r' hx hy hu
  obtain ⟨a, vs, its, rfl, rfl, q, rs, vr, it, _⟩ := tup_at I h r
  cases y with
  | tup ys =>
   obtain ⟨b, us, its', rfl, rfl, q', rs', vr', it', _⟩ := tup_at I h' r'
   by_cases e : a = b
   ·subst e
    have := I.tuple_inj q q'
    subst this
    have := reps_inj I rs rs' hx hy
    subst this
    rw [show eqW (.tup xs) (.tup xs) = true from eqW_refl (w := .tup xs) hx]
    exact EqAt.same _
   ·show EqAt A s _ _ (eqWs xs ys)
    rw [← eqWs_eq]
    have l1 : its.toArray.size = xs.length := by rw [List.size_toArray, ← vr.length, rs.length]
    have l2 : its'.toArray.size = ys.length := by rw [List.size_toArray, ← vr'.length, rs'.length]
    rw [← l1, ← l2]
    refine EqAt.of_refs e (RcAt.tuples it it' (by simp only [dep] at hu; omega) fun j j1 j2 => ?_)
    exact eqAt_Ws' I xs ys _ _ _ _ A.in1 ih rs vr rs' vr' hx hy (by simp only [dep] at hu; show A.units + 1 + _ < _; omega) j (by simpa using j1) (by simpa using j2)
  | ref _ => cases hy
  | ty _ => cases hy
  | lsf _ => cases hy
  | exc _ _ _ => cases hy
  | dcf _ _ => cases hy
  | non => cases h'; cases r'; exact EqAt.tuple_none it (by omega)
  | bl _ => cases h'; cases r'; exact EqAt.tuple_bool _ it (by omega)
  | int _ => cases h'; obtain ⟨t, rfl⟩ := r'; exact EqAt.tuple_int _ _ it (by omega)
  | str _ => cases h'; obtain ⟨t, rfl⟩ := r'; exact EqAt.tuple_str _ _ it (by omega)
 | ty _ => intro y v v' u u' A _ _ _ _ hx; cases hx
 | lsf _ => intro y v v' u u' A _ _ _ _ hx; cases hx
 | exc _ _ _ => intro y v v' u u' A _ _ _ _ hx; cases hx
 | dcf _ _ => intro y v v' u u' A _ _ _ _ hx; cases hx
 | ref _ => intro y v v' u u' A _ _ _ _ hx; cases hx
 | non =>
  intro y v v' u u' A h r h' r' hx hy hu
  cases h; cases r
  cases y with
  | tup ys => obtain ⟨b, us, its', rfl, rfl, q', rs', vr', it', _⟩ := tup_at I h' r'; exact EqAt.none_tuple it' (by omega)
  | ref _ => cases hy
  | ty _ => cases hy
  | lsf _ => cases hy
  | exc _ _ _ => cases hy
  | dcf _ _ => cases hy
  | non => cases h'; cases r'; exact EqAt.same _
  | bl _ => cases h'; cases r'; exact EqAt.none_bool _
  | int _ => cases h'; obtain ⟨t, rfl⟩ := r'; exact EqAt.none_int _ _
  | str _ => cases h'; obtain ⟨t, rfl⟩ := r'; exact EqAt.none_str _ _
 | bl _ =>
  intro y v v' u u' A h r h' r' hx hy hu
  cases h; cases r
  cases y with
  | tup ys => obtain ⟨b, us, its', rfl, rfl, q', rs', vr', it', _⟩ := tup_at I h' r'; exact EqAt.bool_tuple _ it' (by omega)
  | ref _ => cases hy
  | ty _ => cases hy
  | lsf _ => cases hy
  | exc _ _ _ => cases hy
  | dcf _ _ => cases hy
  | non => cases h'; cases r'; exact EqAt.bool_none _
  | bl _ => cases h'; cases r'; exact EqAt.bool_bool _ _
  | int _ => cases h'; obtain ⟨t, rfl⟩ := r'; exact EqAt.bool_int _ _ _
  | str _ => cases h'; obtain ⟨t, rfl⟩ := r'; exact EqAt.bool_str _ _ _
 | int _ =>
  intro y v v' u u' A h r h' r' hx hy hu
  cases h; obtain ⟨t0, rfl⟩ := r
  cases y with
  | tup ys => obtain ⟨b, us, its', rfl, rfl, q', rs', vr', it', _⟩ := tup_at I h' r'; exact EqAt.int_tuple _ _ it' (by omega)
  | ref _ => cases hy
  | ty _ => cases hy
  | lsf _ => cases hy
  | exc _ _ _ => cases hy
  | dcf _ _ => cases hy
  | non => cases h'; cases r'; exact EqAt.int_none _ _
  | bl _ => cases h'; cases r'; exact EqAt.int_bool _ _ _
  | int _ => cases h'; obtain ⟨t, rfl⟩ := r'; exact EqAt.int_int _ _ _ _
  | str _ => cases h'; obtain ⟨t, rfl⟩ := r'; exact EqAt.int_str _ _ _ _
 | str _ =>
  intro y v v' u u' A h r h' r' hx hy hu
  cases h; obtain ⟨t0, rfl⟩ := r
  cases y with
  | tup ys => obtain ⟨b, us, its', rfl, rfl, q', rs', vr', it', _⟩ := tup_at I h' r'; exact EqAt.str_tuple _ _ it' (by omega)
  | ref _ => cases hy
  | ty _ => cases hy
  | lsf _ => cases hy
  | exc _ _ _ => cases hy
  | dcf _ _ => cases hy
  | non => cases h'; cases r'; exact EqAt.str_none _ _
  | bl _ => cases h'; cases r'; exact EqAt.str_bool _ _ _
  | int _ => cases h'; obtain ⟨t, rfl⟩ := r'; exact EqAt.str_int _ _ _ _
  | str _ => cases h'; obtain ⟨t, rfl⟩ := r'; exact EqAt.str_str _ _ _ _
theorem eqAt_Ws (I : Inv X pins σ H s) {xs ys : List W} {vs vs' : List V} {us us' : List Value} {A : Around} (h : Reps X.K H xs vs) (r : Vals vs us) (h' : Reps X.K H ys vs') (r' : Vals vs' us') (hx : purs xs = true) (hy : purs ys = true)
  (hu : A.units + min (deps xs) (deps ys) < cLine) : ∀ (j : Nat) (h1 : j < us.length) (h2 : j < us'.length), EqAt A s us[j] us'[j] (pairW xs ys j) :=
 eqAt_Ws' I xs ys _ _ _ _ A (fun x _ => eqAt_W I x) h r h' r' hx hy hu
end
end L3
set_option Elab.async false
set_option linter.all false
set_option maxRecDepth 100000
set_option maxHeartbeats 4000000
namespace L3
open PySem PySem.Spec PyProof.Rows L2 PySem.SeqAt
section
variable {X : Cx} {pins : List (Addr × Obj)} {σ : L2.St} {H : Hp} {s : Shared}
theorem rcAt_W (I : Inv X pins σ H s) (x y : W) (v v' : V) (u u' : Value) (A : Around) (h : Rep X.K H x v) (r : RelV v u) (h' : Rep X.K H y v') (r' : RelV v' u') (hx : pur x = true) (hy : pur y = true) (hu : A.units + min (dep x) (dep y) < cLine) : RcAt A s u u' (eqW x y) ∧ RcNeAt A s u u' (!eqW x y) := by
 have h0 : A.units < cLine := by omega
 cases x with
 | ref _ => cases hx
 | ty _ => cases hx
 | lsf _ => cases hx
 | exc _ _ _ => cases hx
 | dcf _ _ => cases hx
 | tup xs =>
  obtain ⟨a, vs, its, rfl, rfl, q, rs, vr, it, _⟩ := tup_at I h r
  cases y with
  | ref _ => cases hy
  | ty _ => cases hy
  | lsf _ => cases hy
  | exc _ _ _ => cases hy
  | dcf _ _ => cases hy
  | tup ys =>
   obtain ⟨b, us, its', rfl, rfl, q', rs', vr', it', _⟩ := tup_at I h' r'
   have l1 : its.toArray.size = xs.length := by rw [List.size_toArray, ← vr.length, rs.length]
   have l2 : its'.toArray.size = ys.length := by rw [List.size_toArray, ← vr'.length, rs'.length]
   have key : ∀ (j : Nat) (j1 : j < its.toArray.size) (j2 : j < its'.toArray.size), EqAt A.in1 s its.toArray[j] its'.toArray[j] (pairW xs ys j) := fun j j1 j2 =>
    eqAt_Ws I rs vr rs' vr' hx hy (A := A.in1) (by simp only [dep] at hu; show A.units + 1 + _ < _; omega) j (by simpa using j1) (by simpa using j2)
   show RcAt A s _ _ (eqWs xs ys) ∧ RcNeAt A s _ _ (!eqWs xs ys)
   rw [← eqWs_eq, ← l1, ← l2]
   exact ⟨RcAt.tuples it it' h0 key, RcNeAt.tuples it it' h0 key⟩
  | non => cases h'; cases r'; exact ⟨RcAt.tuple_none it h0, RcNeAt.tuple_none it h0⟩
  | bl _ => cases h'; cases r'; exact ⟨RcAt.tuple_bool _ it h0, RcNeAt.tuple_bool _ it h0⟩
  | int _ => cases h'; obtain ⟨t, rfl⟩ := r'; exact ⟨RcAt.tuple_int _ _ it h0, RcNeAt.tuple_int _ _ it h0⟩
  | str _ => cases h'; obtain ⟨t, rfl⟩ := r'; exact ⟨RcAt.tuple_str _ _ it h0, RcNeAt.tuple_str _ _ it h0⟩
 | non =>
  cases h; cases r
  cases y with
  | ref _ => cases hy
  | ty _ => cases hy
  | lsf _ => cases hy
  | exc _ _ _ => cases hy
  | dcf _ _ => cases hy
  | tup ys => obtain ⟨b, us, its', rfl, rfl, q', rs', vr', it', _⟩ := tup_at I h' r'; exact ⟨RcAt.none_tuple it' h0, RcNeAt.none_tuple it' h0⟩
  | non => cases h'; cases r'; exact ⟨RcAt.none_none, RcNeAt.none_none⟩
  | bl _ => cases h'; cases r'; exact ⟨RcAt.none_bool _, RcNeAt.none_bool _⟩
  | int _ => cases h'; obtain ⟨t, rfl⟩ := r'; exact ⟨RcAt.none_int _ _, RcNeAt.none_int _ _⟩
  | str _ => cases h'; obtain ⟨t, rfl⟩ := r'; exact ⟨RcAt.none_str _ _, RcNeAt.none_str _ _⟩
 | bl _ =>
  cases h; cases r
  cases y with
  | ref _ => cases hy
  | ty _ => cases hy
  | lsf _ => cases hy
  | exc _ _ _ => cases hy
  | dcf _ _ => cases hy
  | tup ys => obtain ⟨b, us, its', rfl, rfl, q', rs', vr', it', _⟩ := tup_at I h' r'; exact ⟨RcAt.bool_tuple _ it' h0, RcNeAt.bool_tuple _ it' h0⟩
  | non => cases h'; cases r'; exact ⟨RcAt.bool_none _, RcNeAt.bool_none _⟩
  | bl _ => cases h'; cases r'; exact ⟨RcAt.bool_bool _ _, RcNeAt.bool_bool _ _⟩
  | int _ => cases h'; obtain ⟨t, rfl⟩ := r'; exact ⟨RcAt.bool_int _ _ _, RcNeAt.bool_int _ _ _⟩
  | str _ => cases h'; obtain ⟨t, rfl⟩ := r'; exact ⟨RcAt.bool_str _ _ _, RcNeAt.bool_str _ _ _⟩
 | int _ =>
  cases h; obtain ⟨t0, rfl⟩ := r
  cases y with
  | ref _ => cases hy
  | ty _ => cases hy
  | lsf _ => cases hy
  | exc _ _ _ => cases hy
  | dcf _ _ => cases hy
  | tup ys => obtain ⟨b, us, its', rfl, rfl, q', rs', vr', it', _⟩ := tup_at I h' r'; exact ⟨RcAt.int_tuple _ _ it' h0, RcNeAt.int_tuple _ _ it' h0⟩
  | non => cases h'; cases r'; exact ⟨RcAt.int_none _ _, RcNeAt.int_none _ _⟩
  | bl _ => cases h'; cases r'; exact ⟨RcAt.int_bool _ _ _, RcNeAt.int_bool _ _ _⟩
  | int _ => cases h'; obtain ⟨t, rfl⟩ := r'; exact ⟨RcAt.int_int _ _ _ _, RcNeAt.int_int _ _ _ _⟩
  | str _ => cases h'; obtain ⟨t, rfl⟩ := r'; exact ⟨RcAt.int_str _ _ _ _, RcNeAt.int_str _ _ _ _⟩
 | str _ =>
  cases h; obtain ⟨t0, rfl⟩ := r
  cases y with
  | ref _ => cases hy
  | ty _ => cases hy
  | lsf _ => cases hy
  | exc _ _ _ => cases hy
  | dcf _ _ => cases hy
  | tup ys => obtain ⟨b, us, its', rfl, rfl, q', rs', vr', it', _⟩ := tup_at I h' r'; exact ⟨RcAt.str_tuple _ _ it' h0, RcNeAt.str_tuple _ _ it' h0⟩
  | non => cases h'; cases r'; exact ⟨RcAt.str_none _ _, RcNeAt.str_none _ _⟩
  | bl _ => cases h'; cases r'; exact ⟨RcAt.str_bool _ _ _, RcNeAt.str_bool _ _ _⟩
  | int _ => cases h'; obtain ⟨t, rfl⟩ := r'; exact ⟨RcAt.str_int _ _ _ _, RcNeAt.str_int _ _ _ _⟩
  | str _ => cases h'; obtain ⟨t, rfl⟩ := r'; exact ⟨RcAt.str_str _ _ _ _, RcNeAt.str_str _ _ _ _⟩
theorem lst_at (I : Inv X pins σ H s) {G : Hw} {p : Addr} {ws : List W} (ab : Abs X.K H G) (e : lstOf G p = some ws) : ∃ vs its, SqL X.K H p vs ∧ Reps X.K H ws vs ∧ Vals vs its ∧ s.heap.IsList p its.toArray ∧ PlainL s.heap p its.toArray ∧ ws.length ≤ sizeLine := by
 obtain ⟨vs, q, r⟩ := ab.seq e
 obtain ⟨its, vr, pl, hl⟩ := I.list q
 exact ⟨vs, its, q, r, vr, (let ⟨o, n, h1, h2, _, h3⟩ := pl; ⟨o, h1, h2, n, h3⟩), pl, by rw [← r.length]; exact hl⟩
theorem rcAt_L (I : Inv X pins σ H s) {G : Hw} {p q : Addr} {xs ys : List W} {A : Around} (ab : Abs X.K H G) (e : lstOf G p = some xs) (e' : lstOf G q = some ys) (hx : purs xs = true) (hy : purs ys = true) (hu : A.units + 1 + min (deps xs) (deps ys) < cLine) :
  RcAt A s (.ref p) (.ref q) (eqWs xs ys) ∧ RcNeAt A s (.ref p) (.ref q) (!eqWs xs ys) := by
 obtain ⟨vs, its, _, rs, vr, il, _⟩ := lst_at I ab e
 obtain ⟨us, its', _, rs', vr', il', _⟩ := lst_at I ab e'
 have h0 : A.units < cLine := by omega
 have l1 : its.toArray.size = xs.length := by rw [List.size_toArray, ← vr.length, rs.length]
 have l2 : its'.toArray.size = ys.length := by rw [List.size_toArray, ← vr'.length, rs'.length]
 have key : ∀ (j : Nat) (j1 : j < its.toArray.size) (j2 : j < its'.toArray.size), EqAt A.in1 s its.toArray[j] its'.toArray[j] (pairW xs ys j) := fun j j1 j2 =>
  eqAt_Ws I rs vr rs' vr' hx hy (A := A.in1) hu j (by simpa using j1) (by simpa using j2)
 by_cases hl : xs.length = ys.length
 ·rw [← eqWs_same hl, ← l1]
  exact ⟨RcAt.lists il il' (by omega) h0 key, RcNeAt.lists il il' (by omega) h0 key⟩
 ·rw [eqWs_len hl]
  have : (its.toArray.size != its'.toArray.size) = true := by simp only [bne_iff_ne]; omega
  exact ⟨RcAt.lists_lengths il il' this h0, RcNeAt.lists_lengths il il' this h0⟩
end
end L3
set_option Elab.async false
set_option linter.all false
set_option maxRecDepth 100000
set_option maxHeartbeats 8000000
namespace PySem
open Sem (wp)
open Builtin
theorem tm_noFill : fillsNumberSlot (.type "tuple") "mul" = pure false :=
 fillsNumberSlot_seq (id := "tuple.__mul__") (r := some (.builtin "tuple.__rmul__")) F.slot_tuple_mul.lookup (by decide +kernel) F.slot_tuple_rmul.lookup (by decide +kernel)
theorem tm_repeat : seqRepeat? (.type "tuple") = pure (some (.builtin "tuple.__mul__")) := by
 unfold seqRepeat?
 rw [seqSlot_of (T := "tuple") (name := "__mul__") (id := "tuple.__mul__") F.slot_tuple_mul.lookup (by decide +kernel), seqSlot_of (T := "tuple") (name := "__rmul__") (id := "tuple.__rmul__") F.slot_tuple_rmul.lookup (by decide +kernel)]
 rfl
theorem tm_rmul (a : Int) (t : Tok) (l : Addr) (items : Array Value) (n : Nat) (dd : Option Addr) (sl : Array (Option Value)) :
  Meets (Builtin.«int.__rmul__» ⟨[.int a t, .ref l], []⟩) (fun _ R s => s.heap.get? l = some { cls := .type "tuple", dict := dd, data := .seq items n, slots := sl } ∧ R (.ok (.ret Value.notImplemented)) s) :=
 .of_wp fun prog w A R s h => by obtain ⟨hp, g, d, tk, os⟩ := s; obtain ⟨hl, h⟩ := h; wp_walk; exact ⟨_, rfl, h⟩
theorem tm_one (l : Addr) (items : Array Value) (n : Nat) (u : Tok) (dd : Option Addr) (sl : Array (Option Value)) :
  Meets (Builtin.«tuple.__mul__» ⟨[.ref l, .int 1 u], []⟩) (fun _ R s => s.heap.get? l = some { cls := .type "tuple", dict := dd, data := .seq items n, slots := sl } ∧ R (.ok (.ret (Value.ref l))) s) :=
 .of_wp fun prog w A R s h => by obtain ⟨hp, g, d, tk, os⟩ := s; obtain ⟨hl, h⟩ := h; wp_walk; exact ⟨_, rfl, h⟩
theorem tm_zero (l : Addr) (items : Array Value) (n : Nat) (u : Tok) (dd : Option Addr) (sl : Array (Option Value)) (hi : items.isEmpty = false) :
  Meets (Builtin.«tuple.__mul__» ⟨[.ref l, .int 0 u], []⟩) (fun _ R s => s.heap.get? l = some { cls := .type "tuple", dict := dd, data := .seq items n, slots := sl } ∧ R (.ok (.ret (Value.ref s.heap.objs.size))) { s with heap := s.heap.push { cls := .type "tuple", data := .seq #[] } }) :=
 .of_wp fun prog w A R s h => by obtain ⟨hp, g, d, tk, os⟩ := s; obtain ⟨hl, h⟩ := h; wp_walk; exact ⟨_, rfl, h⟩
end PySem
namespace L3
open PySem PySem.Spec PyProof.Rows L2
section
variable {X : Cx}
noncomputable def rRepT (K : Frg) : R2 := fun x y H Q => ∃ a k xs, x = .ref a ∧ y = .int k ∧ SqT K H a xs ∧ ((k = 1 ∧ Q (.ref a) H) ∨ (k = 0 ∧ xs ≠ [] ∧ ∀ p, H p = none → Q (.ref p) (upd H p (.tup []))))
theorem op_repT : OpR X (binaryOp .Mult) (rRepT X.K) := by
 intro pins s σ H x y v u Q I rx ry h
 obtain ⟨a, k, xs, rfl, rfl, ha, h⟩ := h
 cases rx
 obtain ⟨t, rfl⟩ := ry
 obtain ⟨its, r1, p1, _⟩ := I.tuple ha
 obtain ⟨⟨cls, dd, data, sl⟩, ho, hc, n, hd⟩ := id p1
 simp only at hc hd
 subst hc hd
 rcases h with ⟨rfl, q⟩ | ⟨rfl, hx, q⟩
 ·exact wpAny_binaryOp_repeat_ref (T := "tuple") (U := "int") (by decide) ⟨_, ho, rfl⟩ (fun s' => typeIs_int s' 1 t) tm_noFill F.fills_int_mul F.slot_int_rmul tm_repeat F.slot_int_index.lookup
   (call_meets F.slot_int_rmul (typeIs_int s 1 t) F.entry_int_rmul (F.args_int_rmul_2 _ _) (tm_rmul 1 t a its.toArray n dd sl)
    ⟨ho, rfl, ⟨_, ho, rfl⟩, call_meets F.slot_tuple_mul ⟨_, ho, rfl⟩ F.entry_tuple_mul (F.args_tuple_mul_2 _ _) (tm_one a its.toArray n t dd sl) ⟨ho, .ref a, H, I, rfl, q⟩⟩)
 ·have he : its.toArray.isEmpty = false := by
   cases its with
   | nil => exact absurd (r1.nil_iff.mp rfl) hx
   | cons _ _ => rfl
  refine wpAny_binaryOp_repeat_ref (T := "tuple") (U := "int") (by decide) ⟨_, ho, rfl⟩ (fun s' => typeIs_int s' 0 t) tm_noFill F.fills_int_mul F.slot_int_rmul tm_repeat F.slot_int_index.lookup
   (call_meets F.slot_int_rmul (typeIs_int s 0 t) F.entry_int_rmul (F.args_int_rmul_2 _ _) (tm_rmul 0 t a its.toArray n dd sl)
    ⟨ho, rfl, ⟨_, ho, rfl⟩, call_meets F.slot_tuple_mul ⟨_, ho, rfl⟩ F.entry_tuple_mul (F.args_tuple_mul_2 _ _) (tm_zero a its.toArray n t dd sl he) ⟨ho, ?_⟩⟩)
  refine ⟨.ref s.heap.objs.size, _, I.laid (t' := s.toks) (o := .tup []) (fun b ob q => Heap.get?_push_of_some _ q) (Nat.le_refl _) ?_, rfl, q _ (I.hok.fresh (Nat.le_refl _))⟩
  exact ⟨Nat.zero_le _, [], .nil, IsTup.new _ _⟩
end
end L3
set_option Elab.async false
set_option linter.all false
set_option maxRecDepth 100000
set_option maxHeartbeats 4000000
namespace L3
open PySem PySem.Spec PyProof.Rows L2 PySem.SeqAt
noncomputable abbrev R3 := W → W → Hw → Q3 → Prop
noncomputable def lowQ (K : Frg) (H : Hp) (Q : VK) : Q3 := fun w G' => ∀ v H', Grow K H H' → Rep K H' w v → Abs K H' G' → Q v H'
noncomputable def Mono2 (r : R3) : Prop := ∀ x y G (Q Q' : Q3), (∀ w G', Q w G' → Q' w G') → r x y G Q → r x y G Q'
noncomputable def low2 (K : Frg) (r : R3) : R2 := fun v u H Q => ∃ x y G, Rep K H x v ∧ Rep K H y u ∧ Abs K H G ∧ r x y G (lowQ K H Q)
noncomputable def binR : Operator → R3
 | .Add => fun x y G Q => match x, y with
  | .int i, .int j => Q (.int (i + j)) G
  | .str a, .str b => a.length + b.length ≤ sizeLine ∧ Q (.str (a ++ b)) G
  | .tup a, .tup b => a.length + b.length ≤ sizeLine ∧ Q (.tup (a ++ b)) G
  | .ref p, .ref q => (match G p, G q with
   | some (.lst xs), some (.lst ys) => xs.length + ys.length ≤ sizeLine ∧ ∀ r, G r = none → Q (.ref r) (put G r (.lst (xs ++ ys)))
   | _, _ => False)
  | _, _ => False
 | .Sub => fun x y G Q => match x, y with
  | .int i, .int j => Q (.int (i - j)) G
  | _, _ => False
 | .Mult => fun x y G Q => match x, y with
  | .int i, .int j => CMul i j ∧ Q (.int (i * j)) G
  | .tup xs, .int k => (k = 1 ∧ Q (.tup xs) G) ∨ (k = 0 ∧ xs ≠ [] ∧ Q (.tup []) G)
  | .ref p, .int k => (match G p with
   | some (.lst xs) => (-(2 ^ 63) ≤ k ∧ k < 2 ^ 63 ∧ xs.length * k.toNat ≤ sizeLine) ∧ ∀ r, G r = none → Q (.ref r) (put G r (.lst (List.replicate k.toNat xs).flatten))
   | _ => False)
  | _, _ => False
 | .Mod => fun x y G Q => match x, y with
  | .int i, .int j => 0 < j ∧ Q (.int (i % j)) G
  | _, _ => False
 | .FloorDiv => fun x y G Q => match x, y with
  | .int i, .int j => CDiv i j ∧ Q (.int (i / j)) G
  | _, _ => False
 | .Pow => fun x y G Q => match x, y with
  | .int i, .int j => CPow i j ∧ Q (.int (i ^ j.toNat)) G
  | _, _ => False
 | _ => fun _ _ _ _ => False
theorem binR_mono : ∀ op, Mono2 (binR op) := by
 intro op x y G Q Q' k h
 cases op with
 | Add =>
  cases x with
  | int i => cases y with
   | int j => exact k _ _ h
   | _ => exact h.elim
  | str i => cases y with
   | str j => exact ⟨h.1, k _ _ h.2⟩
   | _ => exact h.elim
  | tup a => cases y with
   | tup b => exact ⟨h.1, k _ _ h.2⟩
   | _ => exact h.elim
  | ref p => cases y with
   | ref q =>
    simp only [binR] at h ⊢
    split at h
    ·exact ⟨h.1, fun r hr => k _ _ (h.2 r hr)⟩
    ·exact h.elim
   | _ => exact h.elim
  | _ => exact h.elim
 | Mult =>
  cases x with
  | int i => cases y with
   | int j => exact ⟨h.1, k _ _ h.2⟩
   | _ => exact h.elim
  | tup a => cases y with
   | int j => exact h.imp (fun z => ⟨z.1, k _ _ z.2⟩) fun z => ⟨z.1, z.2.1, k _ _ z.2.2⟩
   | _ => exact h.elim
  | ref p => cases y with
   | int q =>
    simp only [binR] at h ⊢
    split at h
    ·exact ⟨h.1, fun r hr => k _ _ (h.2 r hr)⟩
    ·exact h.elim
   | _ => exact h.elim
  | _ => exact h.elim
 | Sub =>
  cases x with
  | int i => cases y with
   | int j => exact k _ _ h
   | _ => exact h.elim
  | _ => exact h.elim
 | Mod =>
  cases x with
  | int i => cases y with
   | int j => exact ⟨h.1, k _ _ h.2⟩
   | _ => exact h.elim
  | _ => exact h.elim
 | FloorDiv =>
  cases x with
  | int i => cases y with
   | int j => exact ⟨h.1, k _ _ h.2⟩
   | _ => exact h.elim
  | _ => exact h.elim
 | Pow =>
  cases x with
  | int i => cases y with
   | int j => exact ⟨h.1, k _ _ h.2⟩
   | _ => exact h.elim
  | _ => exact h.elim
 | _ => exact h.elim
section
variable {X : Cx}
theorem Reps.nil_iff {K : Frg} {H : Hp} {ws : List W} {vs : List V} (h : Reps K H ws vs) : vs = [] ↔ ws = [] := by
 have := h.length
 constructor
 ·intro e; subst e; exact List.eq_nil_of_length_eq_zero this.symm
 ·intro e; subst e; exact List.eq_nil_of_length_eq_zero this
theorem cat_nil {pins : List (Addr × Obj)} {s : Shared} {σ : L2.St} {H : Hp} {a b : Addr} {Q : Value → Shared → Prop} {E : Value → Shared → Prop} {ws : List Value} (ht : IsTup s.heap a #[]) (hb : IsTup s.heap b ws.toArray) (h : Q (.ref b) s) :
  wpAny (model X.prog X.w) X.A (binaryOp .Add (.ref a) (.ref b)) Q E s := by
 obtain ⟨⟨cls, dd, data, sl⟩, ho, hc, n, hd⟩ := id ht
 obtain ⟨⟨cls2, dd2, data2, sl2⟩, ho2, hc2, n2, hd2⟩ := id hb
 simp only at hc hd hc2 hd2
 subst hc hd hc2 hd2
 exact concat_meets ⟨_, ho, rfl⟩ ⟨_, ho2, rfl⟩ noFill_tuple_add seq_tuple_add PySem.F.slot_tuple_add PySem.F.entry_tuple_add (PySem.F.args_tuple_add_2 _ _)
  (tuple_addW0 a b #[] ws.toArray n n2 dd dd2 sl sl2 rfl) ⟨ho, ho2, h⟩
theorem new_lst {K : Frg} {H : Hp} {G : Hw} {Q : VK} {ws : List W} {vs : List V} (ab : Abs K H G) (r : Reps K H ws vs) (h : ∀ p, G p = none → lowQ K H Q (.ref p) (put G p (.lst ws))) : ∀ p, H p = none → Q (.ref p) (upd H p (.lst vs)) := fun p hp =>
 h p (ab.free hp) _ _ (grow_new hp) rfl (ab.new hp ⟨vs, rfl, r.mono (grow_new hp)⟩)
theorem new_tup {K : Frg} {H : Hp} {G : Hw} {Q : VK} {ws : List W} {vs : List V} (ab : Abs K H G) (r : Reps K H ws vs) (h : lowQ K H Q (.tup ws) G) : ∀ p, H p = none → Q (.ref p) (upd H p (.tup vs)) := fun p hp =>
 h _ _ (grow_new hp) ⟨p, vs, rfl, .of upd_same, r.mono (grow_new hp)⟩ (ab.tup hp)
theorem Reps.flat {K : Frg} {H : Hp} {ws : List W} {vs : List V} (h : Reps K H ws vs) : ∀ k : Nat, Reps K H (List.replicate k ws).flatten (List.replicate k vs).flatten
 | 0 => rfl
 | k + 1 => by rw [List.replicate_succ, List.replicate_succ, List.flatten_cons, List.flatten_cons]; exact h.append (Reps.flat h k)
theorem bin_ok (op : Operator) : OpR X (binaryOp op) (low2 X.K (binR op)) := by
 intro pins s σ H v u a b Q I rv ru h
 obtain ⟨x, y, G, rx, ry, ab, h⟩ := h
 cases op with
 | Add =>
  cases x with
  | int i =>
   cases y with
   | int j => cases rx; cases ry; exact op_add pins s σ H _ _ _ _ Q I rv ru ⟨i, j, rfl, rfl, h _ _ .refl rfl ab⟩
   | _ => exact h.elim
  | str i =>
   cases y with
   | str j => cases rx; cases ry; exact op_add_str pins s σ H _ _ _ _ Q I rv ru ⟨i, j, rfl, rfl, h.1, h.2 _ _ .refl rfl ab⟩
   | _ => exact h.elim
  | tup xs =>
   cases y with
   | tup ys =>
    obtain ⟨a1, vs, its, rfl, rfl, q, rs, vr, it, _⟩ := tup_at I rx rv
    obtain ⟨b1, us, its', rfl, rfl, q', rs', vr', it', _⟩ := tup_at I ry ru
    by_cases e : xs = []
    ·subst e
     have e1 : vs = [] := (rs.nil_iff).mpr rfl
     subst e1
     cases vr
     exact cat_nil (pins := pins) (σ := σ) (H := H) it it' ⟨.ref b1, H, I, rfl, h.2 _ _ .refl ⟨b1, us, rfl, q', rs'⟩ ab⟩
    ·refine op_catT pins s σ H (.ref a1) (.ref b1) _ _ Q I rfl rfl ⟨a1, b1, vs, us, rfl, rfl, q, q', fun z => e (rs.nil_iff.mp z), by rw [rs.length, rs'.length]; exact h.1, fun z => ?_, fun _ => ?_⟩
     ·have : ys = [] := rs'.nil_iff.mp z
      subst this
      exact h.2 _ _ .refl ⟨a1, vs, rfl, q, by rw [List.append_nil]; exact rs⟩ ab
     ·exact new_tup ab (rs.append rs') h.2
   | _ => exact h.elim
  | ref p =>
   cases y with
   | ref q =>
    cases rx; cases ry
    simp only [binR] at h
    split at h
    ·rename_i xs ys e1 e2
     obtain ⟨vs, q1, r1⟩ := ab.lst e1
     obtain ⟨us, q2, r2⟩ := ab.lst e2
     exact op_cat pins s σ H _ _ _ _ Q I rv ru ⟨p, q, vs, us, rfl, rfl, q1, q2, by rw [r1.length, r2.length]; exact h.1, new_lst ab (r1.append r2) h.2⟩
    ·exact h.elim
   | _ => exact h.elim
  | _ => exact h.elim
 | Sub =>
  cases x with
  | int i =>
   cases y with
   | int j => cases rx; cases ry; exact op_sub pins s σ H _ _ _ _ Q I rv ru ⟨i, j, rfl, rfl, h _ _ .refl rfl ab⟩
   | _ => exact h.elim
  | _ => exact h.elim
 | Mult =>
  cases x with
  | int i =>
   cases y with
   | int j => cases rx; cases ry; exact op_mul pins s σ H _ _ _ _ Q I rv ru ⟨i, j, rfl, rfl, h.1, h.2 _ _ .refl rfl ab⟩
   | _ => exact h.elim
  | tup xs =>
   cases y with
   | int k =>
    obtain ⟨a1, vs, its, rfl, rfl, q, rs, vr, it, _⟩ := tup_at I rx rv
    cases ry
    refine op_repT pins s σ H (.ref a1) (.int k) _ _ Q I rfl ru ⟨a1, k, vs, rfl, rfl, q, ?_⟩
    rcases h with ⟨e, h⟩ | ⟨e, hx, h⟩
    ·exact .inl ⟨e, h _ _ .refl ⟨a1, vs, rfl, q, rs⟩ ab⟩
    ·exact .inr ⟨e, fun z => hx (rs.nil_iff.mp z), new_tup ab (ws := []) (vs := []) rfl h⟩
   | _ => exact h.elim
  | ref p =>
   cases y with
   | int k =>
    cases rx; cases ry
    simp only [binR] at h
    split at h
    ·rename_i xs e1
     obtain ⟨vs, q1, r1⟩ := ab.lst e1
     exact op_rep pins s σ H _ _ _ _ Q I rv ru ⟨p, k, vs, rfl, rfl, q1, h.1.1, h.1.2.1, by rw [r1.length]; exact h.1.2.2, new_lst ab (r1.flat _) h.2⟩
    ·exact h.elim
   | _ => exact h.elim
  | _ => exact h.elim
 | Mod =>
  cases x with
  | int i =>
   cases y with
   | int j => cases rx; cases ry; exact op_mod pins s σ H _ _ _ _ Q I rv ru ⟨i, j, rfl, rfl, h.1, h.2 _ _ .refl rfl ab⟩
   | _ => exact h.elim
  | _ => exact h.elim
 | FloorDiv =>
  cases x with
  | int i =>
   cases y with
   | int j => cases rx; cases ry; exact op_fdiv pins s σ H _ _ _ _ Q I rv ru ⟨i, j, rfl, rfl, h.1, h.2 _ _ .refl rfl ab⟩
   | _ => exact h.elim
  | _ => exact h.elim
 | Pow =>
  cases x with
  | int i =>
   cases y with
   | int j => cases rx; cases ry; exact op_pow pins s σ H _ _ _ _ Q I rv ru ⟨i, j, rfl, rfl, h.1, h.2 _ _ .refl rfl ab⟩
   | _ => exact h.elim
  | _ => exact h.elim
 | _ => exact h.elim
end
end L3
set_option Elab.async false
set_option linter.all false
set_option maxRecDepth 100000
set_option maxHeartbeats 4000000
namespace L3
open PySem PySem.Spec PyProof.Rows L2 PySem.SeqAt
noncomputable def eqG (G : Hw) : W → W → Option Bool
 | .ref p, .ref q => match lstOf G p, lstOf G q with
  | some a, some b => if (purs a && purs b && decide (min (deps a) (deps b) ≤ 150)) = true then some (eqWs a b) else none
  | _, _ => none
 | x, y => if (pur x && pur y && decide (min (dep x) (dep y) ≤ 150)) = true then some (eqW x y) else none
noncomputable def inR (neg : Bool) (x : W) (ws : List W) (G : Hw) (Q : Q3) : Prop := (pur x = true ∧ purs ws = true ∧ min (deps ws) (dep x) ≤ 150) ∧ Q (.bl (if neg then !ws.any fun w => eqW w x else ws.any fun w => eqW w x)) G
noncomputable def inStr (neg : Bool) (i j : Str) : Bool := if neg then !(!(Builtin.Str.occurrences j i 0 j.length 1).isEmpty) else !(Builtin.Str.occurrences j i 0 j.length 1).isEmpty
noncomputable def keyOf : W → Option Key
 | .int i => some (.inl i)
 | .str x => some (.inr x)
 | _ => none
noncomputable def hasK {α : Type} (kvs : List (Key × α)) (k : Key) : Bool := kvs.any fun p => decide (p.1 = k)
noncomputable def memR (neg : Bool) : R3 := fun x y G Q => match y with
 | .tup ws => inR neg x ws G Q
 | .ref p => (match G p with
  | some (.lst ws) => inR neg x ws G Q
  | some (.fix ws) => inR neg x ws G Q
  | _ => False)
 | .str j => (match x with
  | .str i => Q (.bl (inStr neg i j)) G
  | _ => False)
 | _ => False
noncomputable def isR (neg : Bool) : R3 := fun x y G Q => match y with
 | .non => Q (.bl (if neg then (match x with | .non => false | _ => true) else (match x with | .non => true | _ => false))) G
 | .bl b => Q (.bl (if neg then (match x with | .bl c => !(c == b) | _ => true) else (match x with | .bl c => c == b | _ => false))) G
 | _ => False
noncomputable def ordR (p : Int → Int → Bool) : R3 := fun x y G Q => match x, y with
 | .int i, .int j => Q (.bl (p i j)) G
 | _, _ => False
noncomputable def leS (x y : Str) : Bool := !decide (y.cps.toList < x.cps.toList)
noncomputable def leR : R3 := fun x y G Q => match x, y with
 | .int i, .int j => Q (.bl (decide (i ≤ j))) G
 | .str i, .str j => Q (.bl (leS i j)) G
 | _, _ => False
noncomputable def cmpR : CmpOp → R3
 | .Eq => fun x y G Q => match eqG G x y with | some b => Q (.bl b) G | none => False
 | .NotEq => fun x y G Q => match eqG G x y with | some b => Q (.bl (!b)) G | none => False
 | .Is => isR false
 | .IsNot => isR true
 | .In => memR false
 | .NotIn => memR true
 | .Lt => ordR fun i j => decide (i < j)
 | .LtE => leR
 | .Gt => ordR fun i j => decide (j < i)
 | .GtE => ordR fun i j => decide (j ≤ i)
theorem ordR_mono (p : Int → Int → Bool) : Mono2 (ordR p) := by
 intro x y G Q Q' k h
 cases x <;> cases y <;> simp only [ordR] at h ⊢ <;> first | exact h.elim | exact k _ _ h
theorem leR_mono : Mono2 leR := by
 intro x y G Q Q' k h
 cases x <;> cases y <;> simp only [leR] at h ⊢ <;> first | exact h.elim | exact k _ _ h
theorem memR_mono (neg : Bool) : Mono2 (memR neg) := by
 intro x y G Q Q' k h
 unfold memR at h ⊢
 cases y with
 | tup ws => exact ⟨h.1, k _ _ h.2⟩
 | ref p =>
  simp only at h ⊢
  split at h
  ·exact ⟨h.1, k _ _ h.2⟩
  ·exact ⟨h.1, k _ _ h.2⟩
  ·exact h.elim
 | str j =>
  cases x with
  | str i => exact k _ _ h
  | _ => exact h.elim
 | _ => exact h.elim
theorem isR_mono (neg : Bool) : Mono2 (isR neg) := by
 intro x y G Q Q' k h
 unfold isR at h ⊢
 cases y with
 | non => exact k _ _ h
 | bl b => exact k _ _ h
 | _ => exact h.elim
theorem cmpR_mono : ∀ op, Mono2 (cmpR op) := by
 intro op x y G Q Q' k h
 cases op with
 | Eq =>
  simp only [cmpR] at h ⊢
  split at h
  ·exact k _ _ h
  ·exact h.elim
 | NotEq =>
  simp only [cmpR] at h ⊢
  split at h
  ·exact k _ _ h
  ·exact h.elim
 | Is => exact isR_mono false x y G Q Q' k h
 | IsNot => exact isR_mono true x y G Q Q' k h
 | In => exact memR_mono false x y G Q Q' k h
 | NotIn => exact memR_mono true x y G Q Q' k h
 | Lt => exact ordR_mono _ x y G Q Q' k h
 | LtE => exact leR_mono x y G Q Q' k h
 | Gt => exact ordR_mono _ x y G Q Q' k h
 | GtE => exact ordR_mono _ x y G Q Q' k h
section
variable {X : Cx} {pins : List (Addr × Obj)} {σ : L2.St} {H : Hp} {s : Shared}
open Classical in
noncomputable def eqI (K : Frg) (H : Hp) (x : W) (y : Value) : Bool := if ∃ w v, Rep K H w v ∧ RelV v y ∧ pur w = true ∧ eqW w x = true then true else false
theorem eqI_is (I : Inv X pins σ H s) {x w : W} {v : V} {y : Value} (r : Rep X.K H w v) (q : RelV v y) (p : pur w = true) : eqI X.K H x y = eqW w x := by
 unfold eqI
 cases e : eqW w x with
 | true => rw [if_pos ⟨w, v, r, q, p, e⟩]
 | false =>
  rw [if_neg]
  rintro ⟨w', v', r', q', p', e'⟩
  have := RelV.inj q q'
  subst this
  rw [rep_inj I w' w v r' r p' p, e] at e'
  cases e'
theorem eqI_any (I : Inv X pins σ H s) {x : W} : ∀ {ws : List W} {vs : List V} {us : List Value}, Reps X.K H ws vs → Vals vs us → purs ws = true → us.any (eqI X.K H x) = ws.any fun w => eqW w x := by
 intro ws
 induction ws with
 | nil => intro vs us h r _; rw [show _ = [] from h] at r; cases r; rfl
 | cons w ws ih =>
  intro vs us h r p
  obtain ⟨v, t, e, h, hs⟩ := h
  subst e
  cases r with
  | cons r rs =>
   have p' := purs_cons.mp p
   rw [List.any_cons, List.any_cons, eqI_is I h r p'.1, ih hs rs p'.2]
theorem deps_mem {w : W} : ∀ {ws : List W}, w ∈ ws → dep w ≤ deps ws := by
 intro ws
 induction ws with
 | nil => intro h; cases h
 | cons x xs ih =>
  intro h
  simp only [deps]
  rcases List.mem_cons.mp h with e | h
  ·rw [e]; exact Nat.le_max_left _ _
  ·exact Nat.le_trans (ih h) (Nat.le_max_right _ _)
theorem eqI_at (I : Inv X pins σ H s) {x : W} {vx : V} {ux : Value} {A : Around} (rx : Rep X.K H x vx) (qx : RelV vx ux) (px : pur x = true) : ∀ {ws : List W} {vs : List V} {us : List Value}, Reps X.K H ws vs → Vals vs us → purs ws = true → A.units + min (deps ws) (dep x) < cLine →
  ∀ y ∈ us, EqAt A s y ux (eqI X.K H x y) := by
 intro ws
 induction ws with
 | nil => intro vs us h r _ _ y hy; rw [show _ = [] from h] at r; cases r; cases hy
 | cons w ws ih =>
  intro vs us h r p hu y hy
  obtain ⟨v, t, e, h, hs⟩ := h
  subst e
  simp only [deps] at hu
  cases r with
  | cons r rs =>
   have p' := purs_cons.mp p
   rcases List.mem_cons.mp hy with e | hy
   ·subst e
    rw [eqI_is I h r p'.1]
    exact eqAt_W I w x v vx _ ux A h r rx qx p'.1 px (by omega)
   ·exact ih hs rs p'.2 (by omega) y hy
theorem is_bool_gen {M : Model} {A : Around} {E : Value → Shared → Prop} {Q : Value → Shared → Prop} {v : Value} {b : Bool} (hb : ∀ p, v ≠ .builtin p) (h : Q (.bool (v == .bool b)) s) : wpAny M A (compareOp .Is v (.bool b)) Q E s := by
 cases v <;> first | exact wpAny_pure h | exact absurd rfl (hb _)
theorem isnot_bool_gen {M : Model} {A : Around} {E : Value → Shared → Prop} {Q : Value → Shared → Prop} {v : Value} {b : Bool} (hb : ∀ p, v ≠ .builtin p) (h : Q (.bool (!(v == .bool b))) s) : wpAny M A (compareOp .IsNot v (.bool b)) Q E s := by
 cases v <;> first | exact wpAny_pure h | exact absurd rfl (hb _)
theorem rel_nb {v : V} {u : Value} (r : RelV v u) : ∀ p, u ≠ .builtin p := by
 cases v <;> first
  | (obtain ⟨t, e⟩ := r; subst e; intro p z; cases z)
  | (intro p z; subst z; cases r)
theorem is_ok (neg : Bool) : OpR X (compareOp (if neg then .IsNot else .Is)) (low2 X.K (isR neg)) := by
 intro pins s σ H v u a b Q I rv ru h
 obtain ⟨x, y, G, rx, ry, ab, h⟩ := h
 have fin : ∀ k k' : Bool, lowQ X.K H Q (.bl k) G → k = k' → EP X pins σ Q (.bool k') s := fun k k' q e => ⟨.bl k', H, I, rfl, by rw [← e]; exact q _ _ .refl rfl ab⟩
 cases y with
 | non =>
  cases ry; cases ru
  cases neg with
  | false =>
   refine is_none_gen (fin _ _ h ?_)
   cases x <;> first
    | (cases rx; cases rv; rfl)
    | (cases rx; obtain ⟨t, rfl⟩ := rv; rfl)
    | (obtain ⟨_, _, rfl, _⟩ := rx; cases rv; rfl)
  | true =>
   refine isnot_none_gen (fin _ _ h ?_)
   cases x <;> first
    | (cases rx; cases rv; rfl)
    | (cases rx; obtain ⟨t, rfl⟩ := rv; rfl)
    | (obtain ⟨_, _, rfl, _⟩ := rx; cases rv; rfl)
 | bl c =>
  cases ry; cases ru
  cases neg with
  | false =>
   refine is_bool_gen (rel_nb rv) (fin _ _ h ?_)
   cases x <;> first
    | (cases rx; cases rv; rfl)
    | (cases rx; cases rv; rename_i d; cases c <;> cases d <;> rfl)
    | (cases rx; obtain ⟨t, rfl⟩ := rv; rfl)
    | (obtain ⟨_, _, rfl, _⟩ := rx; cases rv; rfl)
  | true =>
   refine isnot_bool_gen (rel_nb rv) (fin _ _ h ?_)
   cases x <;> first
    | (cases rx; cases rv; rfl)
    | (cases rx; cases rv; rename_i d; cases c <;> cases d <;> rfl)
    | (cases rx; obtain ⟨t, rfl⟩ := rv; rfl)
    | (obtain ⟨_, _, rfl, _⟩ := rx; cases rv; rfl)
 | _ => exact h.elim
theorem any_arr (us : List Value) (e : Value → Bool) : us.toArray.any e = us.any e := by simp
theorem mem_ok (neg : Bool) (hu : X.A.units + 200 < cLine) : OpR X (compareOp (if neg then .NotIn else .In)) (low2 X.K (memR neg)) := by
 intro pins s σ H v u a b Q I rv ru h
 obtain ⟨x, y, G, rx, ry, ab, h⟩ := h
 have fin : ∀ k : Bool, lowQ X.K H Q (.bl k) G → EP X pins σ Q (.bool k) s := fun k q => ⟨.bl k, H, I, rfl, q _ _ .refl rfl ab⟩
 have sq : ∀ (p : Addr) (ws : List W) (vs : List V) (its : List Value), Reps X.K H ws vs → Vals vs its → (s.heap.IsTuple p its.toArray ∨ s.heap.IsList p its.toArray) → inR neg x ws G (lowQ X.K H Q) →
   wpAny (model X.prog X.w) X.A (compareOp (if neg then .NotIn else .In) a (.ref p)) (EP X pins σ Q) X.xe s := fun p ws vs its rs vr ht hin => by
  obtain ⟨⟨p1, p2, p3⟩, q⟩ := hin
  have he : ∀ y, y ∈ its.toArray → EqAt X.A.in1 s y a (eqI X.K H x y) := fun y hy => eqI_at I rx rv p1 rs vr p2 (by show X.A.units + 1 + _ < _; omega) y (by simpa using hy)
  have ea := eqI_any I (x := x) rs vr p2
  cases neg with
  | false =>
   rcases ht with ht | ht
   ·exact in_tupleAt _ ht he (by rw [any_arr, ea]; exact fin _ q)
   ·exact in_listAt _ ht he (by rw [any_arr, ea]; exact fin _ q)
  | true =>
   rcases ht with ht | ht
   ·exact notIn_tupleAt _ ht he (by rw [any_arr, ea]; exact fin _ q)
   ·exact notIn_listAt _ ht he (by rw [any_arr, ea]; exact fin _ q)
 cases y with
 | tup ws =>
  obtain ⟨b1, us, its', rfl, rfl, q', rs', vr', it', _⟩ := tup_at I ry ru
  exact sq b1 ws us its' rs' vr' (.inl it') h
 | ref p =>
  cases ry; cases ru
  have lk : ∀ ws, lstOf G p = some ws → inR neg x ws G (lowQ X.K H Q) → wpAny (model X.prog X.w) X.A (compareOp (if neg then .NotIn else .In) a (.ref p)) (EP X pins σ Q) X.xe s := fun ws e q => by
   obtain ⟨vs, its, _, rs, vr, il, _⟩ := lst_at I ab e
   exact sq p ws vs its rs vr (.inr il) q
  simp only [memR] at h
  split at h
  ·rename_i ws e; exact lk ws (by unfold lstOf; rw [e]) h
  ·rename_i ws e; exact lk ws (by unfold lstOf; rw [e]) h
  ·exact h.elim
 | str j =>
  cases x with
  | str i =>
   cases rx; cases ry
   cases neg with
   | false => exact op_in_str pins s σ H _ _ _ _ Q I rv ru ⟨i, j, rfl, rfl, h _ _ .refl rfl ab⟩
   | true => exact op_notIn_str pins s σ H _ _ _ _ Q I rv ru ⟨i, j, rfl, rfl, h _ _ .refl rfl ab⟩
  | _ => exact h.elim
 | _ => exact h.elim
theorem ord_ok {op : CmpOp} {p : Int → Int → Bool} (ho : OpR X (compareOp op) (rI0 fun i j => .bl (p i j))) : OpR X (compareOp op) (low2 X.K (ordR p)) := by
 intro pins s σ H v u a b Q I rv ru h
 obtain ⟨x, y, G, rx, ry, ab, h⟩ := h
 cases x with
 | int i =>
  cases y with
  | int j => cases rx; cases ry; exact ho pins s σ H _ _ _ _ Q I rv ru ⟨i, j, rfl, rfl, h _ _ .refl rfl ab⟩
  | _ => exact h.elim
 | _ => exact h.elim
theorem le_ok : OpR X (compareOp .LtE) (low2 X.K leR) := by
 intro pins s σ H v u a b Q I rv ru h
 obtain ⟨x, y, G, rx, ry, ab, h⟩ := h
 cases x with
 | int i =>
  cases y with
  | int j => cases rx; cases ry; exact op_le pins s σ H _ _ _ _ Q I rv ru ⟨i, j, rfl, rfl, h _ _ .refl rfl ab⟩
  | _ => exact h.elim
 | str i =>
  cases y with
  | str j =>
   cases rx; cases ry
   obtain ⟨t, rfl⟩ := rv
   obtain ⟨t', rfl⟩ := ru
   exact PySem.P.le_str ⟨.bl (leS i j), H, I, rfl, h _ _ .refl rfl ab⟩
  | _ => exact h.elim
 | _ => exact h.elim
theorem eqG_at (I : Inv X pins σ H s) (hu : X.A.units + 200 < cLine) {G : Hw} {x y : W} {v v' : V} {u u' : Value} {b : Bool} (ab : Abs X.K H G) (h : Rep X.K H x v) (r : RelV v u) (h' : Rep X.K H y v') (r' : RelV v' u') (e : eqG G x y = some b) :
  RcAt X.A s u u' b ∧ RcNeAt X.A s u u' (!b) := by
 have gen : ∀ (hh : (if (pur x && pur y && decide (min (dep x) (dep y) ≤ 150)) = true then some (eqW x y) else none) = some b), RcAt X.A s u u' b ∧ RcNeAt X.A s u u' (!b) := fun hh => by
  split at hh
  ·rename_i c
   simp only [Bool.and_eq_true, decide_eq_true_eq] at c
   cases hh
   exact rcAt_W I x y v v' u u' X.A h r h' r' c.1.1 c.1.2 (by omega)
  ·cases hh
 cases x with
 | ref p =>
  cases y with
  | ref q =>
   simp only [eqG] at e
   split at e
   ·rename_i a1 b1 e1 e2
    split at e
    ·rename_i c
     simp only [Bool.and_eq_true, decide_eq_true_eq] at c
     cases e
     cases h; cases h'; cases r; cases r'
     exact rcAt_L I ab e1 e2 c.1.1 c.1.2 (by omega)
    ·cases e
   ·cases e
  | _ => exact gen e
 | _ => cases y <;> exact gen e
theorem cmp_ok (hu : X.A.units + 200 < cLine) (op : CmpOp) : OpR X (compareOp op) (low2 X.K (cmpR op)) := by
 cases op with
 | Eq =>
  intro pins s σ H v u a b Q I rv ru h
  obtain ⟨x, y, G, rx, ry, ab, h⟩ := h
  simp only [cmpR] at h
  split at h
  ·rename_i k e
   exact (eqG_at I hu ab rx rv ry ru e).1 _ _ _ _ ⟨.bl k, H, I, rfl, h _ _ .refl rfl ab⟩
  ·exact h.elim
 | NotEq =>
  intro pins s σ H v u a b Q I rv ru h
  obtain ⟨x, y, G, rx, ry, ab, h⟩ := h
  simp only [cmpR] at h
  split at h
  ·rename_i k e
   exact (eqG_at I hu ab rx rv ry ru e).2 _ _ _ _ ⟨.bl (!k), H, I, rfl, h _ _ .refl rfl ab⟩
  ·exact h.elim
 | Is => exact is_ok false
 | IsNot => exact is_ok true
 | In => exact mem_ok false hu
 | NotIn => exact mem_ok true hu
 | Lt => exact ord_ok op_lt
 | LtE => exact le_ok
 | Gt => exact ord_ok op_gt
 | GtE => exact ord_ok op_ge
end
end L3
set_option Elab.async false
set_option linter.all false
set_option maxRecDepth 100000
set_option maxHeartbeats 8000000
namespace L3
open PySem PySem.Spec PyProof.Rows L2 HT
section
variable {prog : Program} {w : World} {A : Around} {E : Value → Shared → Prop} {s : Shared}
theorem get_whole {t sl : Addr} {items : Array Value} {vl vu : Value} {lo hi : Option Int} {Q : Value → Shared → Prop} (ht : IsTup s.heap t items) (hs : s.heap.IsSliceOf sl vl vu .none) (pl : IsPart vl lo) (pu : IsPart vu hi)
  (hw : sIx items.size 0 lo = 0 ∧ sIx items.size items.size hi = items.size) (h : Q (.ref t) s) : wpAny (model prog w) A (getItem (.ref t) (.ref sl)) Q E s := by
 obtain ⟨os, hos, hcs, hds⟩ := id hs
 have hTs : s.TypeIs (.ref sl) "slice" := ⟨os, hos, hcs⟩
 unfold getItem
 try with_reducible refine wpAny_holding ?_
 first | refine wpAny_bind (wpAny_pure ?_) | skip
 refine wpAny_bind (wpAny_sequenceKey ht.typeIs (by decide) ?_)
 refine wpAny_bind (wpAny_callSpecial?_slot (name := Str.ofString "__getitem__") ht.typeIs PyProof.Rows.slot_tuple_getitem
  (wpAny_call_entry PyProof.Rows.slot_tuple_getitem ht.typeIs entry_tuple_getitem ?_ (args_tuple_getitem _ _)))
 show wpAny _ _ (Builtin.Tuple.tupleItemsOf (.ref t) >>= _) _ _ s
 refine wpAny_bind (tupleItemsOf_ ht ?_)
 refine wpAny_bind (wpAny_typeOf hTs ?_)
 rw [if_pos (by decide)]
 refine wpAny_bind (sliceApplied_gen hs pl pu ?_)
 have yes : (((sIx items.size 0 lo : Nat) : Int) == 0 && (1 : Int) == 1 && (sIx items.size items.size hi - sIx items.size 0 lo) == items.size) = true := by
  rw [hw.1, hw.2]; simp
 show wpAny _ _ (if (((sIx items.size 0 lo : Nat) : Int) == 0 && (1 : Int) == 1 && (sIx items.size items.size hi - sIx items.size 0 lo) == items.size) = true then _ else _) _ _ s
 rw [if_pos yes]
 refine wpAny_bind (m := Builtin.Tuple.tupleIsExact (.ref t)) ?_
 unfold Builtin.Tuple.tupleIsExact
 refine wpAny_bind (wpAny_typeOf ht.typeIs (wpAny_pure ?_))
 rw [if_pos (by decide)]
 exact wpAny_bind (wpAny_rule (wpAny_pure ⟨_, rfl, wpAny_pure h⟩))
end
section
variable {X : Cx}
noncomputable def rSlW (K : Frg) : V → Option Int → Option Int → Hp → VK → Prop := fun x lo hi H Q => ∃ a xs, x = .ref a ∧ SqT K H a xs ∧ (HT.sIx xs.length 0 lo = 0 ∧ HT.sIx xs.length xs.length hi = xs.length) ∧ Q (.ref a) H
theorem sl_whole : SlR X (rSlW X.K) := by
 intro pins s σ H x v vl vu lo hi sl Q I rx hs pl pu h
 obtain ⟨a, xs, rfl, hx, hw, q⟩ := h
 cases rx
 obtain ⟨its, r, ht, hz⟩ := I.tuple hx
 have hlen : its.toArray.size = xs.length := by rw [List.size_toArray]; exact r.length.symm
 exact ⟨"tuple", _, PyProof.Rows.slot_tuple_getitem.lookup, ht.typeIs, get_whole ht hs pl pu (by rw [hlen]; exact hw) ⟨.ref a, H, I, rfl, q⟩⟩
end
end L3
set_option Elab.async false
set_option linter.all false
set_option maxRecDepth 100000
set_option maxHeartbeats 4000000
namespace L3
open PySem PySem.Spec PyProof.Rows L2 PySem.SeqAt
noncomputable def truW (G : Hw) : W → Option Bool
 | .non => some false
 | .bl b => some b
 | .int i => some (i != 0)
 | .str y => if y.length ≤ sizeLine then some ((y.length : Int) != 0) else none
 | .tup ws => some (!ws.isEmpty)
 | .ref p => match G p with
  | some (.lst ws) => some (!ws.isEmpty)
  | some (.fix ws) => some (!ws.isEmpty)
  | some (.dic kvs) => some (!kvs.isEmpty)
  | _ => none
 | _ => none
theorem Reps.empty {K : Frg} {H : Hp} {ws : List W} {vs : List V} (h : Reps K H ws vs) : vs.isEmpty = ws.isEmpty := by
 have := h.length
 cases ws <;> cases vs <;> simp_all
theorem RepKV.length {K : Frg} {H : Hp} {κ : Type} : ∀ {l : List (κ × W)} {l' : List (κ × V)}, RepKV K H l l' → l'.length = l.length
 | [], _, h => by rw [show _ = [] from h]; rfl
 | _ :: _, _, ⟨v, t, e, _, r⟩ => by rw [e, List.length_cons, List.length_cons, RepKV.length r]
theorem tru_low {K : Frg} {H : Hp} {G : Hw} {w : W} {v : V} {k : Bool} (r : Rep K H w v) (ab : Abs K H G) (h : truW G w = some k) : TruV K v H k := by
 cases w with
 | non => cases r; cases h; rfl
 | bl b => cases r; cases h; rfl
 | int i => cases r; cases h; rfl
 | str y =>
  cases r
  simp only [truW] at h
  split at h
  ·rename_i c; cases h; exact ⟨c, rfl⟩
  ·cases h
 | ty n => cases h
 | lsf n => cases h
 | exc _ _ _ => cases h
 | dcf _ _ => cases h
 | tup ws =>
  obtain ⟨a, vs, rfl, q, rs⟩ := r
  cases h
  exact .inr (.inl ⟨vs, q, by rw [rs.empty]⟩)
 | ref p =>
  cases r
  have lk : ∀ ws, lstOf G p = some ws → k = !ws.isEmpty → TruV K (.ref p) H k := fun ws e q => by
   obtain ⟨vs, sq, rs⟩ := ab.seq e
   exact .inl ⟨vs, sq, by rw [rs.empty]; exact q⟩
  simp only [truW] at h
  split at h
  ·rename_i ws e; cases h; exact lk ws (by unfold lstOf; rw [e]) rfl
  ·rename_i ws e; cases h; exact lk ws (by unfold lstOf; rw [e]) rfl
  ·rename_i kvs e
   cases h
   obtain ⟨l, e', rk⟩ := ab.dic e
   refine .inr (.inr ⟨l, e', ?_⟩)
   have := rk.length
   cases kvs <;> cases l <;> simp_all
  ·cases h
noncomputable def dget {α : Type} (kvs : List (Key × α)) (k : Key) : Option α := (kvs.find? fun kv => decide (kv.1 = k)).map (·.2)
noncomputable def dput {α : Type} (kvs : List (Key × α)) (k : Key) (v : α) : List (Key × α) :=
 if (kvs.any fun kv => decide (kv.1 = k)) = true then kvs.map (fun kv => if kv.1 = k then (kv.1, v) else kv) else kvs ++ [(k, v)]
theorem RepKV.get {K : Frg} {H : Hp} {k : Key} {w : W} : ∀ {l : List (Key × W)} {l' : List (Key × V)}, RepKV K H l l' → dget l k = some w → ∃ v, valV l' k = some v ∧ Rep K H w v
 | [], _, h, e => by cases e
 | p :: r, _, ⟨v, t, e, h, hr⟩, q => by
  subst e
  unfold dget at q
  rw [List.find?_cons] at q
  unfold valV
  rw [List.find?_cons]
  by_cases hk : p.1 = k
  ·simp only [hk, decide_true] at q ⊢
   cases q
   exact ⟨v, rfl, h⟩
  ·simp only [hk, decide_false] at q ⊢
   exact RepKV.get hr q
theorem RepKV.any {K : Frg} {H : Hp} {k : Key} : ∀ {l : List (Key × W)} {l' : List (Key × V)}, RepKV K H l l' → (l'.any fun kv => decide (kv.1 = k)) = l.any fun kv => decide (kv.1 = k)
 | [], _, h => by rw [show _ = [] from h]; rfl
 | p :: r, _, ⟨v, t, e, h, hr⟩ => by subst e; rw [List.any_cons, List.any_cons, RepKV.any hr]
theorem RepKV.app {K : Frg} {H : Hp} {κ : Type} : ∀ {l : List (κ × W)} {l' : List (κ × V)} {m : List (κ × W)} {m' : List (κ × V)}, RepKV K H l l' → RepKV K H m m' → RepKV K H (l ++ m) (l' ++ m')
 | [], _, _, _, h, h' => by rw [show _ = [] from h]; exact h'
 | p :: r, _, _, _, ⟨v, t, e, h, hr⟩, h' => by rw [e]; exact ⟨v, _, rfl, h, RepKV.app hr h'⟩
theorem RepKV.repl {K : Frg} {H : Hp} {k : Key} {w : W} {v : V} (q : Rep K H w v) : ∀ {l : List (Key × W)} {l' : List (Key × V)}, RepKV K H l l' →
  RepKV K H (l.map fun kv => if kv.1 = k then (kv.1, w) else kv) (l'.map fun kv => if kv.1 = k then (kv.1, v) else kv)
 | [], _, h => by rw [show _ = [] from h]; rfl
 | p :: r, _, ⟨u, t, e, h, hr⟩ => by
  subst e
  rw [List.map_cons, List.map_cons]
  by_cases hk : p.1 = k
  ·simp only [hk, if_true]; exact ⟨v, _, rfl, q, RepKV.repl q hr⟩
  ·simp only [hk, if_false]; exact ⟨u, _, rfl, h, RepKV.repl q hr⟩
theorem RepKV.put {K : Frg} {H : Hp} {k : Key} {w : W} {v : V} {l : List (Key × W)} {l' : List (Key × V)} (h : RepKV K H l l') (q : Rep K H w v) : RepKV K H (dput l k w) (putK l' k v) := by
 unfold dput putK
 rw [h.any]
 split
 ·exact RepKV.repl q h
 ·exact h.app ⟨v, [], rfl, q, rfl⟩
theorem key_rep {K : Frg} {H : Hp} {y : W} {v : V} {k : Key} (r : Rep K H y v) (h : keyOf y = some k) : v = kV k := by
 cases y <;> first | (cases h; cases r; rfl) | cases h
theorem krows_find {k : Str} : ∀ {es : List DictEntry} {ks : List Str} {vs : List V}, KRows es ks vs → (es.all fun e => isExactStrKey e.key) = true ∧ (match (ks.zip vs).lookup k with
  | some v => ∃ u, (es.find? fun e => e.key.isStr k).map (·.val) = some u ∧ RelV v u
  | none => (es.find? fun e => e.key.isStr k).map (·.val) = none)
 | [], ks, vs, h => by obtain ⟨rfl, rfl⟩ := h; exact ⟨rfl, rfl⟩
 | e :: r, ks, vs, h => by
  obtain ⟨x, t, v, ks', vs', rfl, rfl, hk, hv, hr⟩ := h
  have ih := krows_find (k := k) hr
  refine ⟨by rw [List.all_cons, hk, ih.1]; rfl, ?_⟩
  rw [List.zip_cons_cons, List.lookup_cons, List.find?_cons, KTD.key_is hk k]
  by_cases hx : k = x
  ·subst hx
   simp only [beq_self_eq_true, decide_true]
   exact ⟨e.val, rfl, hv⟩
  ·have e1 : (k == x) = false := by simpa using hx
   rw [e1, decide_eq_false hx]
   exact ih.2
theorem kd_get {X : Cx} {pins : List (Addr × Obj)} {σ : L2.St} {H : Hp} {s : Shared} {a : Addr} {ks : List Str} {vs : List V} {k : Str} {tk : Tok} {A : Around} {Q : Option Value → Shared → Prop} {E : Value → Shared → Prop} (I : Inv X pins σ H s) (h : KD X.K a ks vs)
  (q : match (ks.zip vs).lookup k with | some v => ∀ u s', RelV v u → Inv X pins σ H s' → Q (some u) s' | none => ∀ s', Inv X pins σ H s' → Q none s') : wpAny (model X.prog X.w) A (dictGet a (.str k tk)) Q E s := by
 obtain ⟨o, es, ep, l, _, hd, _, _, hr⟩ := h
 have ho := I.kIn _ _ l
 obtain ⟨hx, hf⟩ := krows_find (k := k) hr
 have J : Inv X pins σ H { s with toks := s.toks + 1 } := I.tok _
 unfold dictGet
 try with_reducible refine wpAny_holding ?_
 refine wpAny_bind (wpAny_pyHash_str (wpAny_bind ?_))
 refine KTD.kt_dictFind_strs (s := { s with toks := s.toks + 1 }) ho hd (by obtain ⟨es'⟩ := es; simpa using hx) ?_
 have key : Q (findBy (fun k v => v.isStr k) es k) { s with toks := s.toks + 1 } := by
  have e : findBy (fun k v => v.isStr k) es k = (es.toList.find? fun e => e.key.isStr k).map (·.val) := by obtain ⟨es'⟩ := es; simp [findBy]
  rw [e]
  revert q hf
  cases (ks.zip vs).lookup k with
  | some v => intro q hf; obtain ⟨u, e1, r⟩ := hf; rw [e1]; exact q u _ r J
  | none => intro q hf; rw [hf]; exact q _ J
 rw [findBy_of_findIdx?] at key
 revert key
 cases es.findIdx? fun e => e.key.isStr k with
 | none => exact fun key => wpAny_pure key
 | some i => exact fun key => wpAny_bind (wpAny_dictEntries (s := { s with toks := s.toks + 1 }) ho hd (wpAny_pure key))
theorem kd_ty {X : Cx} {pins : List (Addr × Obj)} {σ : L2.St} {H : Hp} {s : Shared} {a : Addr} {ks : List Str} {vs : List V} (I : Inv X pins σ H s) (h : KD X.K a ks vs) : s.TypeIs (.ref a) "dict" := by
 obtain ⟨o, es, ep, l, hc, _⟩ := h
 exact ⟨o, I.kIn _ _ l, hc.1⟩
theorem ix_kd {X : Cx} {value slice : PySem.Expr} {pins : List (Addr × Obj)} {s : Shared} {σ : L2.St} {H : Hp} {a : Addr} {u : Value} {ks : List Str} {vs : List V} {k : Str} {v : V} {Q : VK} (I : Inv X pins σ H s) (h : KD X.K a ks vs) (ry : RelV (.str k) u) (e : (ks.zip vs).lookup k = some v) (q : Q v H)
  (hs : subscripted slice false (.ref a) u = operate [.ref a, u] (getItem (.ref a) u)) : wpAny (model X.prog X.w) X.A (subscriptTail value slice (.ref a) u) (EP X pins σ Q) X.xe s := by
 have hT := kd_ty I h
 obtain ⟨tk, rfl⟩ := ry
 refine tail_any hT PySem.F.slot_dict_getitem.lookup ?_ hs
 unfold getItem
 try with_reducible refine wpAny_holding ?_
 refine wpAny_bind (wpAny_sequenceKey hT (by decide) (wpAny_bind ?_))
 refine wpAny_callSpecial?_slot (name := Str.ofString "__getitem__") hT PySem.F.slot_dict_getitem (wpAny_call_entry PySem.F.slot_dict_getitem hT PySem.F.entry_dict_getitem ?_ (PySem.F.args_dict_getitem_2 _ _))
 show wpAny _ _ (dictGet a (.str k tk) >>= _) _ _ s
 refine wpAny_bind (kd_get I h ?_)
 rw [e]
 exact fun u s' r J => wpAny_pure ⟨u, rfl, wpAny_pure ⟨v, H, J, r, q⟩⟩
theorem lookupK_rep {K : Frg} {H : Hp} {k : Str} {w : W} : ∀ {ks : List Str} {ws : List W} {vs : List V}, Reps K H ws vs → (ks.zip ws).lookup k = some w → ∃ v, (ks.zip vs).lookup k = some v ∧ Rep K H w v
 | [], ws, vs, _, e => by simp at e
 | x :: ks, [], vs, _, e => by simp at e
 | x :: ks, y :: ws, vs, r, e => by
  obtain ⟨v, vs', rfl, rv, rs⟩ := r
  rw [List.zip_cons_cons, List.lookup_cons] at e ⊢
  cases hx : (k == x) with
  | true => rw [hx] at e; cases e; exact ⟨v, rfl, rv⟩
  | false => rw [hx] at e; exact lookupK_rep rs e
noncomputable def ixR : R3 := fun x y G Q => match x, y with
 | .tup ws, .int i => (match atI ws i with | some w => Q w G | none => False)
 | .str z, .int i => z.length ≤ sizeLine ∧ (match atI z.cps.toList i with | some c => Q (.str ⟨#[c]⟩) G | none => False)
 | .ref p, y => (match G p with
  | some (.lst ws) => (match y with | .int i => (match atI ws i with | some w => Q w G | none => False) | _ => False)
  | some (.fix ws) => (match y with | .int i => (match atI ws i with | some w => Q w G | none => False) | _ => False)
  | some (.dic kvs) => (match keyOf y with | some k => (match dget kvs k with | some w => Q w G | none => False) | none => False)
  | _ => False)
 | .dcf ks ws, .str k => (match (ks.zip ws).lookup k with | some w => Q w G | none => False)
 | _, _ => False
theorem atI_rep {K : Frg} {H : Hp} {ws : List W} {vs : List V} {i : Int} {w : W} (h : Reps K H ws vs) (e : atI ws i = some w) : ∃ v, atI vs i = some v ∧ Rep K H w v := by
 unfold atI at e ⊢
 rw [h.length]
 cases q : ixN ws.length i with
 | none => rw [q] at e; cases e
 | some j =>
  rw [q] at e
  exact h.get e
theorem ixR_mono : Mono2 ixR := by
 intro x y G Q Q' k h
 cases x with
 | tup ws =>
  cases y <;> simp only [ixR] at h ⊢ <;> first
   | exact h.elim
   | (split at h <;> first | exact k _ _ h | exact h.elim)
 | str z =>
  cases y <;> simp only [ixR] at h ⊢ <;> first
   | exact h.elim
   | (refine ⟨h.1, ?_⟩; have h := h.2; split at h <;> first | exact k _ _ h | exact h.elim)
 | ref p =>
  simp only [ixR] at h ⊢
  split at h
  ·cases y <;> simp only at h ⊢ <;> first
    | exact h.elim
    | (split at h <;> first | exact k _ _ h | exact h.elim)
  ·cases y <;> simp only at h ⊢ <;> first
    | exact h.elim
    | (split at h <;> first | exact k _ _ h | exact h.elim)
  ·split at h
   ·split at h
    ·exact k _ _ h
    ·exact h.elim
   ·exact h.elim
  ·exact h.elim
 | dcf ks ws =>
  cases y <;> simp only [ixR] at h ⊢ <;> first
   | exact h.elim
   | (split at h <;> first | exact k _ _ h | exact h.elim)
 | _ => exact h.elim
section
variable {X : Cx}
theorem ix_dic (hu : X.A.units + 200 < cLine) {value slice : PySem.Expr} {pins : List (Addr × Obj)} {s : Shared} {σ : L2.St} {H : Hp} {a : Addr} {u : Value} {y v : V} {Q : VK} (I : Inv X pins σ H s) (g : DGet H a y (some v)) (hd : IsD H a) (ry : RelV y u) (q : Q v H)
  (hs : subscripted slice false (.ref a) u = operate [.ref a, u] (getItem (.ref a) u)) : wpAny (model X.prog X.w) X.A (subscriptTail value slice (.ref a) u) (EP X pins σ Q) X.xe s := by
 exact tail_any (isD_at I hd).1 PySem.F.slot_dict_getitem.lookup (d_getItem (by omega) I g ry fun w' s' I' r' => ⟨v, H, I', r', q⟩) hs
theorem ix_ok (hu : X.A.units + 200 < cLine) : IxR X (low2 X.K ixR) := by
 intro value slice pins s σ H v u a b Q I rv ru h hs
 obtain ⟨x, y, G, rx, ry, ab, h⟩ := h
 cases x with
 | tup ws =>
  cases y with
  | int i =>
   obtain ⟨a1, vs, rfl, q, rs⟩ := rx
   cases ry
   simp only [ixR] at h
   split at h
   ·rename_i w e
    obtain ⟨vv, ev, rp⟩ := atI_rep rs e
    exact ix_tup value slice pins s σ H _ _ _ _ Q I rv ru ⟨a1, vs, i, vv, rfl, rfl, q, ev, h _ _ .refl rp ab⟩ hs
   ·exact h.elim
  | _ => exact h.elim
 | str z =>
  cases y with
  | int i =>
   cases rx; cases ry
   simp only [ixR] at h
   obtain ⟨hz, h⟩ := h
   split at h
   ·rename_i c e
    exact ix_str value slice pins s σ H _ _ _ _ Q I rv ru ⟨z, i, c, rfl, rfl, hz, e, h _ _ .refl rfl ab⟩ hs
   ·exact h.elim
  | _ => exact h.elim
 | ref p =>
  cases rx
  have lk : ∀ ws i w, lstOf G p = some ws → y = .int i → atI ws i = some w → lowQ X.K H Q w G → wpAny (model X.prog X.w) X.A (subscriptTail value slice a b) (EP X pins σ Q) X.xe s := fun ws i w e ey ew q => by
   subst ey
   obtain ⟨vs, sq, rs⟩ := ab.seq e
   obtain ⟨vv, ev, rp⟩ := atI_rep rs ew
   cases ry
   exact ix_list value slice pins s σ H _ _ _ _ Q I rv ru ⟨p, vs, i, vv, rfl, rfl, sq, ev, q _ _ .refl rp ab⟩ hs
  simp only [ixR] at h
  split at h
  ·rename_i ws e
   cases y with
   | int i =>
    simp only at h
    split at h
    ·rename_i w ew; exact lk ws i w (by unfold lstOf; rw [e]) rfl ew h
    ·exact h.elim
   | _ => exact h.elim
  ·rename_i ws e
   cases y with
   | int i =>
    simp only at h
    split at h
    ·rename_i w ew; exact lk ws i w (by unfold lstOf; rw [e]) rfl ew h
    ·exact h.elim
   | _ => exact h.elim
  ·rename_i kvs e
   split at h
   ·rename_i k ek
    split at h
    ·rename_i w ew
     obtain ⟨l, e', rk⟩ := ab.dic e
     obtain ⟨vv, ev, rp⟩ := rk.get ew
     have ey := key_rep ry ek
     subst ey
     obtain rfl : a = Value.ref p := rv
     exact ix_dic hu I (.inl ⟨l, k, .inl e', rfl, ev.symm⟩) (.inl ⟨l, .inl e'⟩) ru (h _ _ .refl rp ab) hs
    ·exact h.elim
   ·exact h.elim
  ·exact h.elim
 | dcf ks ws =>
  cases y with
  | str k =>
   obtain ⟨a1, vs, rfl, kd, rs⟩ := rx
   obtain rfl : a = Value.ref a1 := rv
   cases (show u = .str k from ry)
   simp only [ixR] at h
   split at h
   ·rename_i w e
    obtain ⟨vv, ev, rp⟩ := lookupK_rep rs e
    exact ix_kd I kd ru ev (h _ _ .refl rp ab) hs
   ·exact h.elim
  | _ => exact h.elim
 | _ => exact h.elim
end
noncomputable def cut {α : Type} (xs : List α) (lo hi : Option Int) : List α := (xs.drop (HT.sIx xs.length 0 lo)).take (HT.sIx xs.length xs.length hi - HT.sIx xs.length 0 lo)
theorem cut_rep {K : Frg} {H : Hp} {ws : List W} {vs : List V} (h : Reps K H ws vs) (lo hi : Option Int) : Reps K H (cut ws lo hi) (cutV vs lo hi) := by
 unfold cut cutV
 rw [h.length]
 exact (h.drop _).take _
noncomputable def slR : W → Option Int → Option Int → Hw → Q3 → Prop := fun x lo hi G Q => match x with
 | .tup ws => Q (.tup (cut ws lo hi)) G
 | .ref p => (match lstOf G p with | some ws => ∀ r, G r = none → Q (.ref r) (put G r (.lst (cut ws lo hi))) | none => False)
 | .lsf ws => ∀ r, G r = none → Q (.ref r) (put G r (.lst (cut ws lo hi)))
 | .str x => x.length ≤ sizeLine ∧ Q (.str (Txt.slice x lo hi)) G
 | _ => False
theorem slR_mono {x : W} {lo hi : Option Int} {G : Hw} {Q Q' : Q3} (k : ∀ w G', Q w G' → Q' w G') (h : slR x lo hi G Q) : slR x lo hi G Q' := by
 cases x with
 | tup ws => exact k _ _ h
 | ref p =>
  simp only [slR] at h ⊢
  split at h
  ·exact fun r hr => k _ _ (h r hr)
  ·exact h.elim
 | lsf ws => exact fun r hr => k _ _ (h r hr)
 | str x => exact ⟨h.1, k _ _ h.2⟩
 | _ => exact h.elim
theorem sl_str {X : Cx} {pins : List (Addr × Obj)} {s : Shared} {σ : L2.St} {H : Hp} {x : Str} {v vl vu : Value} {lo hi : Option Int} {sl : Addr} {Q : VK} (I : Inv X pins σ H s) (rv : RelV (.str x) v) (hs : s.heap.IsSliceOf sl vl vu .none)
  (pl : IsPart vl lo) (pu : IsPart vu hi) (hz : x.length ≤ sizeLine) (q : Q (.str (Txt.slice x lo hi)) H) : ∃ T id, typeLookup (.type T) "__getitem__" = pure (some (.builtin id)) ∧ s.TypeIs v T ∧ wpAny (model X.prog X.w) X.A (getItem v (.ref sl)) (EP X pins σ Q) X.xe s := by
 obtain ⟨t, rfl⟩ := rv
 have fin : ∀ t' k, EP X pins σ Q (.str (Txt.slice x lo hi) t') { s with toks := k } := fun t' k => ⟨.str (Txt.slice x lo hi), H, I.tok _, ⟨t', rfl⟩, q⟩
 have hz' := Nat.le_trans (Txt.slice_le x lo hi) hz
 refine ⟨"str", _, F.slot_str_getitem.lookup, typeIs_str _ _ _, ?_⟩
 obtain ⟨o, ho, hc, hd⟩ := hs
 cases pl with
 | none =>
  cases pu with
  | none => exact wpAny_getItem_str_slice (l := none) (u := none) (st := none) ⟨o, ho, hc, hd⟩ rfl (post_val_or_str ⟨hz', fin⟩)
  | int j tj => exact wpAny_getItem_str_slice (l := none) (u := some (j, tj)) (st := none) ⟨o, ho, hc, hd⟩ rfl (post_val_or_str ⟨hz', fin⟩)
 | int i ti =>
  cases pu with
  | none => exact wpAny_getItem_str_slice (l := some (i, ti)) (u := none) (st := none) ⟨o, ho, hc, hd⟩ rfl (post_val_or_str ⟨hz', fin⟩)
  | int j tj => exact wpAny_getItem_str_slice (l := some (i, ti)) (u := some (j, tj)) (st := none) ⟨o, ho, hc, hd⟩ rfl (post_val_or_str ⟨hz', fin⟩)
noncomputable def lowSl (K : Frg) (r : W → Option Int → Option Int → Hw → Q3 → Prop) : V → Option Int → Option Int → Hp → VK → Prop := fun v lo hi H Q => ∃ x G, Rep K H x v ∧ Abs K H G ∧ r x lo hi G (lowQ K H Q)
theorem sl_ok {X : Cx} : SlR X (lowSl X.K slR) := by
 intro pins s σ H v u vl vu lo hi sl Q I rv hs pl pu h
 obtain ⟨x, G, rx, ab, h⟩ := h
 cases x with
 | tup ws =>
  obtain ⟨a, vs, rfl, q, rs⟩ := rx
  by_cases hw : HT.sIx vs.length 0 lo = 0 ∧ HT.sIx vs.length vs.length hi = vs.length
  ·have e : cut ws lo hi = ws := by
    have hw' := hw
    rw [rs.length] at hw'
    unfold cut
    rw [hw'.1, hw'.2, List.drop_zero, Nat.sub_zero, List.take_length]
   have h' : lowQ X.K H Q (.tup (cut ws lo hi)) G := h
   rw [e] at h'
   exact sl_whole pins s σ H _ _ vl vu lo hi sl Q I rv hs pl pu ⟨a, vs, rfl, q, hw, h' _ _ .refl ⟨a, vs, rfl, q, rs⟩ ab⟩
  ·exact sl_tup pins s σ H _ _ vl vu lo hi sl Q I rv hs pl pu ⟨a, vs, rfl, q, hw, new_tup ab (cut_rep rs lo hi) h⟩
 | ref p =>
  cases rx
  simp only [slR] at h
  split at h
  ·rename_i ws e
   obtain ⟨vs, sq, rs⟩ := ab.seq e
   exact sl_list pins s σ H _ _ vl vu lo hi sl Q I rv hs pl pu ⟨p, vs, rfl, sq, new_lst ab (cut_rep rs lo hi) h⟩
  ·exact h.elim
 | lsf ws =>
  obtain ⟨a, vs, rfl, q, rs⟩ := rx
  exact sl_list pins s σ H _ _ vl vu lo hi sl Q I rv hs pl pu ⟨a, vs, rfl, .inr q, new_lst ab (cut_rep rs lo hi) h⟩
 | str x =>
  cases (show v = .str x from rx)
  exact sl_str I rv hs pl pu h.1 (h.2 _ _ .refl rfl ab)
 | _ => exact h.elim
noncomputable def setR : W → W → W → Hw → (Hw → Prop) → Prop := fun o i v G Q => match o with
 | .ref p => (match G p with
  | some (.lst ws) => (match i with | .int k => (match ixN ws.length k with | some j => Q (put G p (.lst (ws.set j v))) | none => False) | _ => False)
  | some (.dic kvs) => (match keyOf i with | some k => kvs.length < sizeLine ∧ Q (put G p (.dic (dput kvs k v))) | none => False)
  | _ => False)
 | _ => False
theorem setR_mono {o i v : W} {G : Hw} {Q Q' : Hw → Prop} (k : ∀ G', Q G' → Q' G') (h : setR o i v G Q) : setR o i v G Q' := by
 cases o with
 | ref p =>
  simp only [setR] at h ⊢
  split at h
  ·cases i <;> simp only at h ⊢ <;> first
    | exact h.elim
    | (split at h <;> first | exact k _ h | exact h.elim)
  ·split at h
   ·exact ⟨h.1, k _ h.2⟩
   ·exact h.elim
  ·exact h.elim
 | _ => exact h.elim
noncomputable def lowSet (K : Frg) : TSet := fun o i v H Q => ∃ x y z G, Rep K H x o ∧ Rep K H y i ∧ Rep K H z v ∧ Abs K H G ∧ setR x y z G fun G' => ∀ H', Grow K H H' → Abs K H' G' → Q H'
theorem set_ok {X : Cx} (hu : X.A.units + 200 < cLine) : PSet X (lowSet X.K) := by
 intro pins s σ H o i v ov iv u Q I ro ri rv h
 obtain ⟨x, y, z, G, rx, ry, rz, ab, h⟩ := h
 cases x with
 | ref p =>
  cases rx
  simp only [setR] at h
  split at h
  ·rename_i ws e
   cases y with
   | int k =>
    simp only at h
    split at h
    ·rename_i j ej
     cases ry
     obtain ⟨vs, q1, r1⟩ := ab.lst e
     refine set_list pins s σ H _ _ _ _ _ _ Q I ro ri rv ⟨p, vs, k, j, rfl, rfl, q1, by rw [r1.length]; exact ej, ?_⟩
     have g := ab.grow (u := .lst (vs.set j v)) e
     exact h _ g (ab.chg e ⟨_, rfl, ((r1.mono g).set (rz.mono g) j)⟩)
    ·exact h.elim
   | _ => exact h.elim
  ·rename_i kvs e
   split at h
   ·rename_i k ek
    obtain ⟨l, e', rk⟩ := ab.dic e
    have ey := key_rep ry ek
    subst ey
    obtain rfl : ov = Value.ref p := ro
    refine d_setItem (by omega) I (.inl ⟨l, k, e', rfl, by rw [rk.length]; exact h.1, rfl⟩) ri rv fun s' I' => ⟨_, I', ?_⟩
    have g := ab.grow (u := .dK (putK l k v)) e
    exact h.2 _ g (ab.chg e ⟨_, rfl, (rk.mono g).put (rz.mono g)⟩)
   ·exact h.elim
  ·exact h.elim
 | _ => exact h.elim
end L3
set_option Elab.async false
set_option linter.all false
set_option maxRecDepth 100000
set_option maxHeartbeats 4000000
namespace L3
open PySem PySem.Spec PyProof.Rows L2
noncomputable abbrev XQ := Str → List (Str × W) → Hw → Prop
noncomputable def XN : XQ := fun _ _ _ => False
noncomputable abbrev Sp3 := List W → Hw → Q3 → XQ → Prop
structure Fn3 where
 nm : Str
 sp : Sp3
structure Mt3 where
 nm : Str
 T : String
 sp : W → List W → Hw → Q3 → Prop
noncomputable abbrev I3 := St3 → Hw → (List W → (Hw → Prop) → Hw → Prop) → Prop
structure It3 where
 nm : Str
 sp : List W → Hw → (List W → (Hw → Prop) → Hw → Prop) → Prop
structure Sx3 where
 m : Scope → Expr → Option (List Expr)
 sp : List W → Hw → Q3 → Prop
structure Ix3 where
 m : Scope → Expr → Option (List Expr)
 sp : List W → Hw → (List W → (Hw → Prop) → Hw → Prop) → Prop
structure Ctx3 where
 fn : List Fn3
 gl : List (Str × W)
 mt : List Mt3
 it : List It3
 cl : List (Addr × List Str)
 sx : List Sx3
 ix : List Ix3
set_option genInjectivity false
mutual
inductive IE where
 | var (i : Nat) | con (c : Const) | glb (i : Nat)
 | bin (op : Operator) (a b : IE) | neg (a : IE) | not (a : IE)
 | cmp (op : CmpOp) (a b : IE) | chn (o1 o2 : CmpOp) (a b c : IE)
 | and (a b : IE) | or (a b : IE) | ite (c a b : IE)
 | ix (a i : IE) | sl (a : IE) (lo hi : IO)
 | tup (es : IEs) | lst (es : IEs) | dct (ks : List Str) (es : IEs)
 | call (f : Nat) (es : IEs) | mth (m : Nat) (o : IE) (es : IEs) | att (o : IE) (f : Str)
 | lc (tg : ITg) (names : List Str) (caps : List Nat) (it : II) (c : IO) (elt : IE)
 | spc (i : Nat) (es : IEs) | ch3 (o1 o2 o3 : CmpOp) (a b c d : IE)
inductive IO where
 | no | yes (e : IE)
inductive IEs where
 | nil | cons (e : IE) (es : IEs)
inductive II where
 | val (e : IE) | blt (i : Nat) (es : IEs) | spc (i : Nat) (es : IEs)
inductive ITg where
 | nm (i : Nat) | tup (ts : ITgs)
inductive ITgs where
 | nil | cons (t : ITg) (ts : ITgs)
end
mutual
inductive IS where
 | asg (i : Nat) (e : IE) | asgT (ts : ITgs) (e : IE) | asgI (o i e : IE) | asgA (o : IE) (f : Str) (e : IE)
 | ex (e : IE) | ret (e : IE) | retN | pass | brk | cnt
 | ite (c : IE) (a b : ISs) | whl (c : IE) (b : ISs) | for (tg : ITg) (it : II) (b : ISs) | dead
inductive ISs where
 | nil | cons (s : IS) (ss : ISs)
end
noncomputable def conW : Const → Option W
 | .none => some .non
 | .bool b => some (.bl b)
 | .int i => some (.int i)
 | .str x => some (.str x)
 | _ => none
noncomputable abbrev G3 := W → St3 → Hw → (St3 → Hw → Prop) → Prop
noncomputable abbrev Gs3 := List W → St3 → Hw → (St3 → Hw → Prop) → Prop
mutual
noncomputable def semG : ITg → G3
 | .nm i => fun w σ G Q => Q (σ.set i (some w)) G
 | .tup ts => fun w σ G Q => match w with
  | .tup ws => semGs ts ws σ G Q
  | _ => False
noncomputable def semGs : ITgs → Gs3
 | .nil => fun ws σ G Q => match ws with | [] => Q σ G | _ => False
 | .cons t ts => fun ws σ G Q => match ws with
  | w :: r => semG t w σ G fun σ' G' => semGs ts r σ' G' Q
  | [] => False
end
noncomputable def capS (k : Nat) (caps : List Nat) (σ : St3) : St3 := List.replicate k none ++ caps.map fun j => (σ[j]?).join
noncomputable def sgs (x : Str) : List W := x.cps.toList.map fun c => .str ⟨#[c]⟩
noncomputable def iterW (w : W) (G : Hw) (R : List W → (Hw → Prop) → Hw → Prop) : Prop := match w with
 | .tup ws => R ws (fun _ => True) G
 | .ref p => (match lstOf G p with | some ws => R ws (fun G' => lstOf G' p = some ws) G | none => False)
 | .str x => R (sgs x) (fun _ => True) G
 | _ => False
noncomputable def lcR (items : List W) (stab : Hw → Prop) (G1 : Hw) (turn : W → Hw → (Option W → Hw → Prop) → Prop) (Q : Q3) : Prop :=
 ∃ Pv : Nat → List W → Hw → Prop, Pv 0 [] G1 ∧ (∀ i acc G, Pv i acc G → i ≤ items.length → stab G ∧ acc.length ≤ i) ∧ items.length ≤ sizeLine ∧
  (∀ i w acc G, items[i]? = some w → Pv i acc G → turn w G fun o G' => match o with | some x => Pv (i + 1) (acc ++ [x]) G' | none => Pv (i + 1) acc G') ∧
  ∀ acc G, Pv items.length acc G → ∀ p, G p = none → Q (.ref p) (put G p (.lst acc))
noncomputable def negR (w : W) (G : Hw) (Q : Q3) : Prop := match w with | .int i => Q (.int (-i)) G | _ => False
noncomputable def blR (w : W) (Q : Bool → Prop) : Prop := match w with | .bl b => Q b | _ => False
noncomputable def intR (w : W) (Q : Int → Prop) : Prop := match w with | .int i => Q i | _ => False
noncomputable def tyW (G : Hw) : W → String → Prop
 | .str _, T => T = "str"
 | .ref p, T => match G p with
  | some (.lst _) => T = "list"
  | some (.fix _) => T = "list"
  | some (.dic _) => T = "dict"
  | _ => False
 | _, _ => False
noncomputable def attR (cl : List (Addr × List Str)) (f : Str) (w : W) (G : Hw) (Q : Q3) : Prop := match w with
 | .ref p => (match G p with
  | some (.ins C fs) => (∃ l, (C, l) ∈ cl ∧ f ∈ l) ∧ (match fs.lookup f with | some v => Q v G | none => False)
  | _ => False)
 | _ => False
noncomputable def putFW (f : Str) (v : W) : List (Str × W) → List (Str × W)
 | [] => [(f, v)]
 | (g, x) :: r => if g = f then (g, v) :: r else (g, x) :: putFW f v r
noncomputable def satR (cl : List (Addr × List Str)) (f : Str) (o v : W) (G : Hw) (Q : Hw → Prop) : Prop := match o with
 | .ref p => (match G p with
  | some (.ins C fs) => (∃ l, (C, l) ∈ cl ∧ f ∈ l) ∧ fs.length < 1000 ∧ Q (put G p (.ins C (putFW f v fs)))
  | _ => False)
 | _ => False
noncomputable def dctOf (ks : List Str) (ws : List W) : List (Key × W) := (ks.zip ws).foldl (fun acc kv => dput acc (.inr kv.1) kv.2) []
structure ET where
 e : E3
 t : T3
noncomputable def truE (e : E3) : T3 := fun σ G Q => e σ G fun w G1 => match truW G1 w with | some b => Q b G1 | none => False
noncomputable def blE (e : E3) : T3 := fun σ G Q => e σ G fun w G1 => blR w fun b => Q b G1
noncomputable def mkE (e : E3) : ET := ⟨e, truE e⟩
noncomputable def mkB (e : E3) : ET := ⟨e, blE e⟩
noncomputable def seqA : List E3 → A3
 | [] => fun _ G Q => Q [] G
 | e :: es => fun σ G Q => e σ G fun x G1 => seqA es σ G1 fun xs G2 => Q (x :: xs) G2
section
variable (Γ : Ctx3)
mutual
noncomputable def sem (E : XQ) : IE → ET
 | .var i => mkE fun σ G Q => match σ[i]? with | some (some w) => Q w G | _ => False
 | .con c => mkE fun σ G Q => match conW c with | some w => Q w G | none => False
 | .glb i => mkE fun σ G Q => match Γ.gl[i]? with | some p => Q p.2 G | none => False
 | .bin op a b => mkE fun σ G Q => (sem E a).e σ G fun x G1 => (sem E b).e σ G1 fun y G2 => binR op x y G2 Q
 | .neg a => mkE fun σ G Q => (sem E a).e σ G fun x G1 => negR x G1 Q
 | .not a => ⟨fun σ G Q => (sem E a).e σ G fun x G1 => blR x fun b => Q (.bl (!b)) G1, fun σ G Q => (sem E a).t σ G fun b G1 => Q (!b) G1⟩
 | .cmp op a b => mkB fun σ G Q => (sem E a).e σ G fun x G1 => (sem E b).e σ G1 fun y G2 => cmpR op x y G2 Q
 | .chn o1 o2 a b c => mkB fun σ G Q => (sem E a).e σ G fun x G1 => (sem E b).e σ G1 fun y G2 => cmpR o1 x y G2 fun z G3 => blR z fun k =>
   if k = true then (sem E c).e σ G3 fun u G4 => cmpR o2 y u G4 Q else Q (.bl false) G3
 | .and a b => ⟨fun σ G Q => (sem E a).e σ G fun x G1 => blR x fun k => if k = true then (sem E b).e σ G1 Q else Q (.bl false) G1,
   fun σ G Q => (sem E a).t σ G fun k G1 => if k = true then (sem E b).t σ G1 Q else Q false G1⟩
 | .or a b => ⟨fun σ G Q => (sem E a).e σ G fun x G1 => blR x fun k => if k = true then Q (.bl true) G1 else (sem E b).e σ G1 Q,
   fun σ G Q => (sem E a).t σ G fun k G1 => if k = true then Q true G1 else (sem E b).t σ G1 Q⟩
 | .ite c a b => ⟨fun σ G Q => (sem E c).t σ G fun k G1 => if k = true then (sem E a).e σ G1 Q else (sem E b).e σ G1 Q, fun _ _ _ => False⟩
 | .ix a i => mkE fun σ G Q => (sem E a).e σ G fun x G1 => (sem E i).e σ G1 fun y G2 => ixR x y G2 Q
 | .sl a lo hi => mkE fun σ G Q => (sem E a).e σ G fun x G1 => semO E lo σ G1 fun l G2 => semO E hi σ G2 fun u G3 => slR x l u G3 Q
 | .tup es => mkE fun σ G Q => semA E es σ G fun ws G1 => ws.length ≤ sizeLine ∧ Q (.tup ws) G1
 | .lst es => mkE fun σ G Q => semA E es σ G fun ws G1 => ws.length ≤ sizeLine ∧ ∀ p, G1 p = none → Q (.ref p) (put G1 p (.lst ws))
 | .dct ks es => mkE fun σ G Q => ∀ p, G p = none → semA E es σ (put G p (.dic [])) fun ws G1 => G1 p = some (.dic []) ∧ ws.length = ks.length ∧ Q (.ref p) (put G1 p (.dic (dctOf ks ws)))
 | .call f es => mkE fun σ G Q => semA E es σ G fun ws G1 => match Γ.fn[f]? with | some h => h.sp ws G1 Q E | none => False
 | .mth m o es => mkE fun σ G Q => (sem E o).e σ G fun x G1 => match Γ.mt[m]? with | some h => tyW G1 x h.T ∧ semA E es σ G1 fun ws G2 => h.sp x ws G2 Q | none => False
 | .att o f => mkE fun σ G Q => (sem E o).e σ G fun x G1 => attR Γ.cl f x G1 Q
 | .lc tg names caps it c elt => mkE fun σ G Q => semI E it σ G fun items stab G1 =>
   lcR items stab G1 (fun w G' K => semG tg w (capS names.length caps σ) G' fun σ2 G2 => semC c σ2 G2 fun b G3 => if b = true then (sem XN elt).e σ2 G3 fun x G4 => K (some x) G4 else K none G3) Q
 | .spc i es => mkE fun σ G Q => semA E es σ G fun ws G1 => match Γ.sx[i]? with | some h => h.sp ws G1 Q | none => False
 | .ch3 o1 o2 o3 a b c d => mkB fun σ G Q => (sem E a).e σ G fun x G1 => (sem E b).e σ G1 fun y G2 => cmpR o1 x y G2 fun z G3 => blR z fun k =>
   if k = true then (sem E c).e σ G3 fun u G4 => cmpR o2 y u G4 fun z2 G5 => blR z2 fun k2 =>
    if k2 = true then (sem E d).e σ G5 fun t G6 => cmpR o3 u t G6 Q else Q (.bl false) G5
   else Q (.bl false) G3
noncomputable def semO (E : XQ) : IO → St3 → Hw → (Option Int → Hw → Prop) → Prop
 | .no => fun _ G Q => Q none G
 | .yes e => fun σ G Q => (sem E e).e σ G fun x G1 => intR x fun i => Q (some i) G1
noncomputable def semC : IO → T3
 | .no => fun _ G Q => Q true G
 | .yes e => (sem XN e).t
noncomputable def semA (E : XQ) : IEs → A3
 | .nil => fun _ G Q => Q [] G
 | .cons e es => fun σ G Q => (sem E e).e σ G fun x G1 => semA E es σ G1 fun xs G2 => Q (x :: xs) G2
noncomputable def semI (E : XQ) : II → I3
 | .val e => fun σ G R => (sem E e).e σ G fun w G1 => iterW w G1 R
 | .blt i es => fun σ G R => semA E es σ G fun ws G1 => match Γ.it[i]? with | some h => h.sp ws G1 R | none => False
 | .spc i es => fun σ G R => semA E es σ G fun ws G1 => match Γ.ix[i]? with | some h => h.sp ws G1 R | none => False
end
noncomputable def semL : IEs → List E3
 | .nil => []
 | .cons e es => (sem Γ XN e).e :: semL es
noncomputable abbrev semE (E : XQ) (e : IE) : E3 := (sem Γ E e).e
noncomputable abbrev semT (E : XQ) (e : IE) : T3 := (sem Γ E e).t
noncomputable def forR (items : List W) (stab : Hw → Prop) (D : End3) (σ : St3) (G1 : Hw) (turn : W → End3 → St3 → Hw → Prop) : Prop :=
 ∃ Pv : Nat → St3 → Hw → Prop, Pv 0 σ G1 ∧ (∀ i σ G, Pv i σ G → i ≤ items.length → stab G) ∧
  (∀ i w σ G, items[i]? = some w → Pv i σ G → turn w { D with nx := Pv (i + 1), ct := Pv (i + 1), bk := D.nx } σ G) ∧ ∀ σ G, Pv items.length σ G → D.nx σ G
mutual
noncomputable def semS (E : XQ) : IS → S3
 | .asg i e => fun D σ G => semE Γ E e σ G fun w G1 => D.nx (σ.set i (some w)) G1
 | .asgT ts e => fun D σ G => semE Γ E e σ G fun w G1 => semG (.tup ts) w σ G1 D.nx
 | .asgI o i e => fun D σ G => semE Γ E e σ G fun w G1 => semE Γ E o σ G1 fun x G2 => semE Γ E i σ G2 fun y G3 => setR x y w G3 fun G4 => D.nx σ G4
 | .asgA o f e => fun D σ G => semE Γ E e σ G fun w G1 => semE Γ E o σ G1 fun x G2 => satR Γ.cl f x w G2 fun G3 => D.nx σ G3
 | .ex e => fun D σ G => semE Γ E e σ G fun _ G1 => D.nx σ G1
 | .ret e => fun D σ G => semE Γ E e σ G D.rt
 | .retN => fun D _ G => D.rt .non G
 | .pass => fun D σ G => D.nx σ G
 | .brk => fun D σ G => D.bk σ G
 | .cnt => fun D σ G => D.ct σ G
 | .ite c a b => fun D σ G => semT Γ E c σ G fun k G1 => if k = true then semSs E a D σ G1 else semSs E b D σ G1
 | .whl c b => fun D σ G => ∃ Pv : Nat → St3 → Hw → Prop, (∃ m, Pv m σ G) ∧ ∀ m σ G, Pv m σ G → semT Γ E c σ G fun k G1 =>
   if k = true then semSs E b { D with nx := fun σ' G' => ∃ m', m' < m ∧ Pv m' σ' G', ct := fun σ' G' => ∃ m', m' < m ∧ Pv m' σ' G', bk := D.nx } σ G1 else D.nx σ G1
 | .for tg it b => fun D σ G => semI Γ E it σ G fun items stab G1 => forR items stab D σ G1 fun w D' σ' G' => semG tg w σ' G' fun σ2 G2 => semSs E b D' σ2 G2
 | .dead => fun _ _ _ => False
noncomputable def semSs (E : XQ) : ISs → S3
 | .nil => fun D σ G => D.nx σ G
 | .cons s ss => fun D σ G => semS E s { D with nx := semSs E ss D } σ G
end
end
theorem semA_seq (Γ : Ctx3) : ∀ es : IEs, semA Γ XN es = seqA (semL Γ es)
 | .nil => rfl
 | .cons e es => by
  show (fun (σ : St3) (G : Hw) (Q : List W → Hw → Prop) => (sem Γ XN e).e σ G fun x G1 => semA Γ XN es σ G1 fun xs G2 => Q (x :: xs) G2) = _
  rw [semA_seq Γ es]
  rfl
end L3
set_option Elab.async false
set_option linter.all false
set_option maxRecDepth 100000
set_option maxHeartbeats 4000000
namespace L3
open PySem PySem.Spec PyProof.Rows L2
structure TabMono (Γ : Ctx3) : Prop where
 fn : ∀ f ∈ Γ.fn, ∀ ws G (Q Q' : Q3) E, (∀ w G', Q w G' → Q' w G') → f.sp ws G Q E → f.sp ws G Q' E
 mt : ∀ m ∈ Γ.mt, ∀ x ws G (Q Q' : Q3), (∀ w G', Q w G' → Q' w G') → m.sp x ws G Q → m.sp x ws G Q'
 it : ∀ m ∈ Γ.it, ∀ ws G (R R' : List W → (Hw → Prop) → Hw → Prop), (∀ a b c, R a b c → R' a b c) → m.sp ws G R → m.sp ws G R'
 sx : ∀ m ∈ Γ.sx, ∀ ws G (Q Q' : Q3), (∀ w G', Q w G' → Q' w G') → m.sp ws G Q → m.sp ws G Q'
 ix : ∀ m ∈ Γ.ix, ∀ ws G (R R' : List W → (Hw → Prop) → Hw → Prop), (∀ a b c, R a b c → R' a b c) → m.sp ws G R → m.sp ws G R'
noncomputable def MonoI (t : I3) : Prop := ∀ σ G (R R' : List W → (Hw → Prop) → Hw → Prop), (∀ a b c, R a b c → R' a b c) → t σ G R → t σ G R'
noncomputable def MonoO (t : St3 → Hw → (Option Int → Hw → Prop) → Prop) : Prop := ∀ σ G (Q Q' : Option Int → Hw → Prop), (∀ a b, Q a b → Q' a b) → t σ G Q → t σ G Q'
theorem blR_mono {w : W} {Q Q' : Bool → Prop} (k : ∀ b, Q b → Q' b) (h : blR w Q) : blR w Q' := by
 cases w <;> first | exact k _ h | exact h.elim
theorem intR_mono {w : W} {Q Q' : Int → Prop} (k : ∀ b, Q b → Q' b) (h : intR w Q) : intR w Q' := by
 cases w <;> first | exact k _ h | exact h.elim
theorem negR_mono {w : W} {G : Hw} {Q Q' : Q3} (k : ∀ w G, Q w G → Q' w G) (h : negR w G Q) : negR w G Q' := by
 cases w <;> first | exact k _ _ h | exact h.elim
theorem attR_mono {cl : List (Addr × List Str)} {f : Str} {w : W} {G : Hw} {Q Q' : Q3} (k : ∀ w G, Q w G → Q' w G) (h : attR cl f w G Q) : attR cl f w G Q' := by
 cases w with
 | ref p =>
  simp only [attR] at h ⊢
  split at h
  ·refine ⟨h.1, ?_⟩
   have h2 := h.2
   split at h2
   ·exact k _ _ h2
   ·exact h2.elim
  ·exact h.elim
 | _ => exact h.elim
theorem iterW_mono {w : W} {G : Hw} {R R' : List W → (Hw → Prop) → Hw → Prop} (k : ∀ a b c, R a b c → R' a b c) (h : iterW w G R) : iterW w G R' := by
 cases w with
 | tup ws => exact k _ _ _ h
 | ref p =>
  simp only [iterW] at h ⊢
  split at h
  ·exact k _ _ _ h
  ·exact h.elim
 | str x => exact k _ _ _ h
 | _ => exact h.elim
theorem lcR_mono {items : List W} {stab : Hw → Prop} {G1 : Hw} {turn : W → Hw → (Option W → Hw → Prop) → Prop} {Q Q' : Q3} (k : ∀ w G, Q w G → Q' w G) (h : lcR items stab G1 turn Q) : lcR items stab G1 turn Q' := by
 obtain ⟨Pv, h0, h1, h2, h3, h4⟩ := h
 exact ⟨Pv, h0, h1, h2, h3, fun acc G hp p hn => k _ _ (h4 acc G hp p hn)⟩
theorem truE_mono {e : E3} (m : MonoE e) : MonoT (truE e) := fun σ G Q Q' k h => m σ G _ _ (fun w G1 q => by
 split at q
 ·exact k _ _ q
 ·exact q.elim) h
theorem blE_mono {e : E3} (m : MonoE e) : MonoT (blE e) := fun σ G Q Q' k h => m σ G _ _ (fun w G1 q => blR_mono (fun b => k b G1) q) h
theorem mkE_mono {e : E3} (m : MonoE e) : MonoE (mkE e).e ∧ MonoT (mkE e).t := ⟨m, truE_mono m⟩
theorem mkB_mono {e : E3} (m : MonoE e) : MonoE (mkB e).e ∧ MonoT (mkB e).t := ⟨m, blE_mono m⟩
theorem mem_get {α : Type} {l : List α} {i : Nat} {x : α} (h : l[i]? = some x) : x ∈ l := List.mem_of_getElem? h
variable {Γ : Ctx3} (g : TabMono Γ)
include g
theorem mono_all (e : IE) : ∀ E, MonoE (sem Γ E e).e ∧ MonoT (sem Γ E e).t := by
 refine IE.rec (motive_1 := fun e => ∀ E, MonoE (sem Γ E e).e ∧ MonoT (sem Γ E e).t) (motive_2 := fun o => (∀ E, MonoO (semO Γ E o)) ∧ MonoT (semC Γ o)) (motive_3 := fun es => ∀ E, MonoA (semA Γ E es)) (motive_4 := fun it => ∀ E, MonoI (semI Γ E it))
  (motive_5 := fun _ => True) (motive_6 := fun _ => True) ?var ?con ?glb ?bin ?neg ?not ?cmp ?chn ?and ?or ?ite ?ix ?sl ?tup ?lst ?dct ?call ?mth ?att ?lc ?spc ?ch3 ?no ?yes ?nil ?cons ?val ?blt ?ispc ?nm ?tt ?tn ?tc e
 case var =>
  intro i E
  refine mkE_mono fun σ G Q Q' k h => ?_
  split at h
  ·exact k _ _ h
  ·exact h.elim
 case con =>
  intro c E
  refine mkE_mono fun σ G Q Q' k h => ?_
  split at h
  ·exact k _ _ h
  ·exact h.elim
 case glb =>
  intro i E
  refine mkE_mono fun σ G Q Q' k h => ?_
  split at h
  ·exact k _ _ h
  ·exact h.elim
 case bin => exact fun op a b ha hb E => mkE_mono fun σ G Q Q' k h => (ha E).1 σ G _ _ (fun x G1 h => (hb E).1 σ G1 _ _ (fun y G2 h => binR_mono op x y G2 _ _ k h) h) h
 case neg => exact fun a ha E => mkE_mono fun σ G Q Q' k h => (ha E).1 σ G _ _ (fun x G1 h => negR_mono k h) h
 case not => exact fun a ha E => ⟨fun σ G Q Q' k h => (ha E).1 σ G _ _ (fun x G1 h => blR_mono (fun b => k _ _) h) h, fun σ G Q Q' k h => (ha E).2 σ G _ _ (fun b G1 h => k _ _ h) h⟩
 case cmp => exact fun op a b ha hb E => mkB_mono fun σ G Q Q' k h => (ha E).1 σ G _ _ (fun x G1 h => (hb E).1 σ G1 _ _ (fun y G2 h => cmpR_mono op x y G2 _ _ k h) h) h
 case chn =>
  exact fun o1 o2 a b c ha hb hc E => mkB_mono fun σ G Q Q' k h => (ha E).1 σ G _ _ (fun x G1 h => (hb E).1 σ G1 _ _ (fun y G2 h => cmpR_mono o1 x y G2 _ _ (fun z G3 h => blR_mono (fun b h => by
   split
   ·rename_i hb; rw [if_pos hb] at h; exact (hc E).1 σ G3 _ _ (fun u G4 h => cmpR_mono o2 y u G4 _ _ k h) h
   ·rename_i hb; rw [if_neg hb] at h; exact k _ _ h) h) h) h) h
 case ch3 =>
  exact fun o1 o2 o3 a b c d ha hb hc hd E => mkB_mono fun σ G Q Q' k h => (ha E).1 σ G _ _ (fun x G1 h => (hb E).1 σ G1 _ _ (fun y G2 h => cmpR_mono o1 x y G2 _ _ (fun z G3 h => blR_mono (fun b h => by
   split
   ·rename_i hb; rw [if_pos hb] at h
    exact (hc E).1 σ G3 _ _ (fun u G4 h => cmpR_mono o2 y u G4 _ _ (fun z2 G5 h => blR_mono (fun b2 h => by
     split
     ·rename_i hb2; rw [if_pos hb2] at h; exact (hd E).1 σ G5 _ _ (fun t G6 h => cmpR_mono o3 u t G6 _ _ k h) h
     ·rename_i hb2; rw [if_neg hb2] at h; exact k _ _ h) h) h) h
   ·rename_i hb; rw [if_neg hb] at h; exact k _ _ h) h) h) h) h
 case and =>
  exact fun a b ha hb E => ⟨fun σ G Q Q' k h => (ha E).1 σ G _ _ (fun x G1 h => blR_mono (fun c h => by
   split
   ·rename_i hc; rw [if_pos hc] at h; exact (hb E).1 σ G1 _ _ k h
   ·rename_i hc; rw [if_neg hc] at h; exact k _ _ h) h) h, fun σ G Q Q' k h => (ha E).2 σ G _ _ (fun c G1 h => by
   split
   ·rename_i hc; rw [if_pos hc] at h; exact (hb E).2 σ G1 _ _ k h
   ·rename_i hc; rw [if_neg hc] at h; exact k _ _ h) h⟩
 case or =>
  exact fun a b ha hb E => ⟨fun σ G Q Q' k h => (ha E).1 σ G _ _ (fun x G1 h => blR_mono (fun c h => by
   split
   ·rename_i hc; rw [if_pos hc] at h; exact k _ _ h
   ·rename_i hc; rw [if_neg hc] at h; exact (hb E).1 σ G1 _ _ k h) h) h, fun σ G Q Q' k h => (ha E).2 σ G _ _ (fun c G1 h => by
   split
   ·rename_i hc; rw [if_pos hc] at h; exact k _ _ h
   ·rename_i hc; rw [if_neg hc] at h; exact (hb E).2 σ G1 _ _ k h) h⟩
 case ite =>
  exact fun c a b hc ha hb E => ⟨fun σ G Q Q' k h => (hc E).2 σ G _ _ (fun c G1 h => by
   split
   ·rename_i hc; rw [if_pos hc] at h; exact (ha E).1 σ G1 _ _ k h
   ·rename_i hc; rw [if_neg hc] at h; exact (hb E).1 σ G1 _ _ k h) h, fun _ _ _ _ _ h => h.elim⟩
 case ix => exact fun a b ha hb E => mkE_mono fun σ G Q Q' k h => (ha E).1 σ G _ _ (fun x G1 h => (hb E).1 σ G1 _ _ (fun y G2 h => ixR_mono x y G2 _ _ k h) h) h
 case sl => exact fun a lo hi ha hl hh E => mkE_mono fun σ G Q Q' k h => (ha E).1 σ G _ _ (fun x G1 h => (hl.1 E) σ G1 _ _ (fun l G2 h => (hh.1 E) σ G2 _ _ (fun u G3 h => slR_mono k h) h) h) h
 case tup => exact fun es hs E => mkE_mono fun σ G Q Q' k h => (hs E) σ G _ _ (fun ws G1 h => ⟨h.1, k _ _ h.2⟩) h
 case lst => exact fun es hs E => mkE_mono fun σ G Q Q' k h => (hs E) σ G _ _ (fun ws G1 h => ⟨h.1, fun p hp => k _ _ (h.2 p hp)⟩) h
 case dct => exact fun ks es hs E => mkE_mono fun σ G Q Q' k h => fun p hp => (hs E) σ _ _ _ (fun ws G1 h => ⟨h.1, h.2.1, k _ _ h.2.2⟩) (h p hp)
 case call =>
  exact fun f es hs E => mkE_mono fun σ G Q Q' k h => (hs E) σ G _ _ (fun ws G1 h => by
   split at h
   ·rename_i f' e; exact g.fn f' (mem_get e) ws G1 Q Q' E k h
   ·exact h.elim) h
 case mth =>
  exact fun m o es ho hs E => mkE_mono fun σ G Q Q' k h => (ho E).1 σ G _ _ (fun x G1 h => by
   split at h
   ·rename_i m' e; exact ⟨h.1, (hs E) σ G1 _ _ (fun ws G2 h => g.mt m' (mem_get e) x ws G2 Q Q' k h) h.2⟩
   ·exact h.elim) h
 case att => exact fun o f ho E => mkE_mono fun σ G Q Q' k h => (ho E).1 σ G _ _ (fun x G1 h => attR_mono k h) h
 case lc => exact fun tg names caps it c elt _ hi hc he E => mkE_mono fun σ G Q Q' k h => (hi E) σ G _ _ (fun items stab G1 h => lcR_mono k h) h
 case spc =>
  exact fun i es hs E => mkE_mono fun σ G Q Q' k h => (hs E) σ G _ _ (fun ws G1 h => by
   split at h
   ·rename_i f' e; exact g.sx f' (mem_get e) ws G1 Q Q' k h
   ·exact h.elim) h
 case ispc =>
  exact fun i es hs E σ G R R' k h => (hs E) σ G _ _ (fun ws G1 h => by
   split at h
   ·rename_i m' e; exact g.ix m' (mem_get e) ws G1 R R' k h
   ·exact h.elim) h
 case no => exact ⟨fun E σ G Q Q' k h => k _ _ h, fun σ G Q Q' k h => k _ _ h⟩
 case yes => exact fun e he => ⟨fun E σ G Q Q' k h => (he E).1 σ G _ _ (fun x G1 h => intR_mono (fun i => k _ _) h) h, (he XN).2⟩
 case nil => exact fun E σ G Q Q' k h => k _ _ h
 case cons => exact fun e es he hs E σ G Q Q' k h => (he E).1 σ G _ _ (fun x G1 h => (hs E) σ G1 _ _ (fun xs G2 h => k _ _ h) h) h
 case val => exact fun e he E σ G R R' k h => (he E).1 σ G _ _ (fun w G1 h => iterW_mono k h) h
 case blt =>
  exact fun i es hs E σ G R R' k h => (hs E) σ G _ _ (fun ws G1 h => by
   split at h
   ·rename_i m' e; exact g.it m' (mem_get e) ws G1 R R' k h
   ·exact h.elim) h
 case nm => exact fun _ => trivial
 case tt => exact fun _ _ => trivial
 case tn => trivial
 case tc => exact fun _ _ _ _ => trivial
theorem monoE (E : XQ) (e : IE) : MonoE (sem Γ E e).e := (mono_all g e E).1
theorem monoT (E : XQ) (e : IE) : MonoT (sem Γ E e).t := (mono_all g e E).2
theorem monoA (E : XQ) : ∀ es : IEs, MonoA (semA Γ E es)
 | .nil => fun σ G Q Q' k h => k _ _ h
 | .cons e es => fun σ G Q Q' k h => monoE g E e σ G _ _ (fun x G1 h => monoA E es σ G1 _ _ (fun xs G2 h => k _ _ h) h) h
theorem monoO (E : XQ) : ∀ o : IO, MonoO (semO Γ E o)
 | .no => fun σ G Q Q' k h => k _ _ h
 | .yes e => fun σ G Q Q' k h => monoE g E e σ G _ _ (fun x G1 h => intR_mono (fun i => k _ _) h) h
theorem monoC : ∀ o : IO, MonoT (semC Γ o)
 | .no => fun σ G Q Q' k h => k _ _ h
 | .yes e => monoT g XN e
theorem monoI (E : XQ) : ∀ it : II, MonoI (semI Γ E it)
 | .val e => fun σ G R R' k h => monoE g E e σ G _ _ (fun w G1 h => iterW_mono k h) h
 | .blt i es => fun σ G R R' k h => monoA g E es σ G _ _ (fun ws G1 h => by
   split at h
   ·rename_i m' e; exact g.it m' (mem_get e) ws G1 R R' k h
   ·exact h.elim) h
 | .spc i es => fun σ G R R' k h => monoA g E es σ G _ _ (fun ws G1 h => by
   split at h
   ·rename_i m' e; exact g.ix m' (mem_get e) ws G1 R R' k h
   ·exact h.elim) h
end L3
set_option Elab.async false
set_option linter.all false
set_option maxRecDepth 100000
set_option maxHeartbeats 4000000
namespace L3
open PySem PySem.Spec PyProof.Rows L2
structure MC where
 sc : Scope
 N : List Str
 own : Bool
 fns : List Str
 gls : List Str
 mts : List Str
 its : List Str
 sxm : List (Scope → Expr → Option (List Expr))
 ixm : List (Scope → Expr → Option (List Expr))
noncomputable def visB (sc : Scope) (x : Str) : Bool := match sc.names.lookup x with
 | some .local => true
 | some .cell => true
 | some .free => true
 | _ => false
noncomputable def glbB (sc : Scope) (x : Str) : Bool := sc.names.lookup x == some .globalImplicit && !(x == ("__debug__" : Str)) && !(x == ("__name__" : Str))
noncomputable def noSet : Expr → Bool
 | .Set .. => false
 | _ => true
noncomputable def noStar : Expr → Bool
 | .Starred .. => false
 | _ => true
noncomputable def noSlice : Expr → Bool
 | .Slice .. => false
 | _ => true
noncomputable def noLC : Expr → Bool
 | .ListComp .. => false
 | .SetComp .. => false
 | .DictComp .. => false
 | _ => true
noncomputable def attOk : Expr → Bool
 | .Call (.Name ..) [] [] _ => false
 | _ => true
noncomputable def relS (sc out : Scope) : Scope := { sc with names := sc.names.map fun (n, k) => if (k == .free && out.kind == .function && out.names.lookup n == some .cell) then (n, .cell) else (n, k) }
noncomputable def blkB (out sc : Scope) : Bool := (sc.kind == .function) && (sc.names.all fun y => !(y.2 == .cell)) &&
 (sc.names.all fun y => !(y.2 == .free) || out.names.lookup y.1 == some .cell || out.names.lookup y.1 == some .free) &&
 (sc.names.all fun y => !(y.2 == .local) || sc.names.lookup y.1 == some .local)
noncomputable def nodupB : List Str → Bool
 | [] => true
 | x :: r => !r.contains x && nodupB r
noncomputable def locB (M : MC) (x : Str) : Bool := match M.sc.names.lookup x with
 | some .local => true
 | some .cell => M.own
 | _ => false
mutual
noncomputable def tgIx : ITg → List Nat
 | .nm i => [i]
 | .tup ts => tgIxs ts
noncomputable def tgIxs : ITgs → List Nat
 | .nil => []
 | .cons t ts => tgIx t ++ tgIxs ts
end
mutual
noncomputable def mG (M : MC) : ITg → Expr → Bool
 | .nm i, .Name x _ => M.N[i]? == some x && locB M x
 | .tup ts, .Tuple es _ _ => mGs M ts es
 | _, _ => false
noncomputable def mGs (M : MC) : ITgs → List Expr → Bool
 | .nil, [] => true
 | .cons t ts, e :: es => noStar e && mG M t e && mGs M ts es
 | _, _ => false
end
mutual
noncomputable def mE : IE → MC → Expr → Bool
 | .var i => fun M e => match e with
  | .Name x _ => M.N[i]? == some x && visB M.sc x && !(x == ("__debug__" : Str)) && !(x == ("__classdict__" : Str))
  | _ => false
 | .con c => fun M e => match e with
  | .Constant d _ _ => decide (c = d)
  | _ => false
 | .glb i => fun M e => match e with
  | .Name x _ => M.gls[i]? == some x && glbB M.sc x
  | _ => false
 | .bin op a b => fun M e => match e with
  | .BinOp l o r _ => decide (op = o) && mE a M l && mE b M r
  | _ => false
 | .neg a => fun M e => match e with
  | .UnaryOp .USub l _ => mE a M l
  | _ => false
 | .not a => fun M e => match e with
  | .UnaryOp .Not l _ => mE a M l
  | _ => false
 | .cmp op a b => fun M e => match e with
  | .Compare l [o] [r] _ => decide (op = o) && mE a M l && mE b M r && noSet r
  | _ => false
 | .chn o1 o2 a b c => fun M e => match e with
  | .Compare l [p1, p2] [r, t] _ => decide (o1 = p1) && decide (o2 = p2) && mE a M l && mE b M r && mE c M t && noSet t
  | _ => false
 | .ch3 o1 o2 o3 a b c d => fun M e => match e with
  | .Compare l [p1, p2, p3] [r, t, u] _ => decide (o1 = p1) && decide (o2 = p2) && decide (o3 = p3) && mE a M l && mE b M r && mE c M t && mE d M u && noSet u
  | _ => false
 | .and a b => fun M e => match e with
  | .BoolOp .And [l, r] _ => mE a M l && mE b M r
  | .BoolOp .And (l :: r :: q :: rest) pos => mE a M l && mE b M (.BoolOp .And (r :: q :: rest) pos)
  | _ => false
 | .or a b => fun M e => match e with
  | .BoolOp .Or [l, r] _ => mE a M l && mE b M r
  | .BoolOp .Or (l :: r :: q :: rest) pos => mE a M l && mE b M (.BoolOp .Or (r :: q :: rest) pos)
  | _ => false
 | .ite c a b => fun M e => match e with
  | .IfExp t l r _ => mE c M t && mE a M l && mE b M r
  | _ => false
 | .ix a i => fun M e => match e with
  | .Subscript l r _ => mE a M l && mE i M r && noSlice r
  | _ => false
 | .sl a lo hi => fun M e => match e with
  | .Subscript l (.Slice x y none _) _ => mE a M l && mO lo M x && mO hi M y
  | _ => false
 | .tup es => fun M e => match e with
  | .Tuple xs _ _ => mA es M xs
  | _ => false
 | .lst es => fun M e => match e with
  | .List xs _ => mA es M xs
  | _ => false
 | .dct ks es => fun M e => match e with
  | .Dict keys xs _ => keyB ks keys && mA es M xs && decide (keys.length = xs.length) && decide (keys.length ≤ 15) && !ks.isEmpty
  | _ => false
 | .call f es => fun M e => match e with
  | .Call (.Name x _) xs [] _ => M.fns[f]? == some x && glbB M.sc x && mA es M xs
  | _ => false
 | .mth m o es => fun M e => match e with
  | .Call (.Attribute l x apos) xs [] cpos => M.mts[m]? == some x && attOk l && (apos.endLine == cpos.line) && decide (xs.length < 25) && mE o M l && mA es M xs
  | _ => false
 | .att o f => fun M e => match e with
  | .Attribute l x _ => x == f && attOk l && mE o M l
  | _ => false
 | .lc tg names caps it c elt => fun M e => match e with
  | .ListComp x [⟨t, ix, ifs, asy⟩] sc _ =>
   let M' : MC := { M with sc := relS sc M.sc, N := names ++ caps.map (fun j => M.N.getD j Str.empty), own := false }
   decide (asy = 0) && blkB M.sc sc && noSet ix && nodupB M'.N && (caps.all fun j => decide (j < M.N.length) && !((relS sc M.sc).names.lookup (M.N.getD j Str.empty) == some .local)) &&
    mI it M ix && ((tgIx tg).all fun i => decide (i < names.length)) && mG M' tg t && mC c M' ifs && mE elt M' x
  | _ => false
 | .spc i es => fun M e => noLC e && (match M.sxm[i]? with
  | some m => (match m M.sc e with | some xs => mA es M xs | none => false)
  | none => false)
noncomputable def mO : IO → MC → Option Expr → Bool
 | .no => fun M e => match e with | none => true | _ => false
 | .yes a => fun M e => match e with | some x => mE a M x | _ => false
noncomputable def mC : IO → MC → List Expr → Bool
 | .no => fun M e => match e with | [] => true | _ => false
 | .yes a => fun M e => match e with | [x] => mE a M x | _ => false
noncomputable def mA : IEs → MC → List Expr → Bool
 | .nil => fun M e => match e with | [] => true | _ => false
 | .cons a as => fun M e => match e with | x :: xs => noStar x && mE a M x && mA as M xs | _ => false
noncomputable def mI : II → MC → Expr → Bool
 | .val a => fun M e => mE a M e
 | .blt i es => fun M e => match e with
  | .Call (.Name x _) xs [] _ => M.its[i]? == some x && glbB M.sc x && mA es M xs
  | _ => false
 | .spc i es => fun M e => match M.ixm[i]? with
  | some m => (match m M.sc e with | some xs => mA es M xs | none => false)
  | none => false
noncomputable def keyB : List Str → List (Option Expr) → Bool
 | [] => fun e => match e with | [] => true | _ => false
 | k :: ks => fun e => match e with | some (.Constant (.str x) _ _) :: es => k == x && keyB ks es | _ => false
end
noncomputable def swapB (M : MC) (y : Str) (py : Pos) (e : Expr) : Bool := match e with
 | .ListComp _ _ sc pos => M.sc.names.lookup y == some .local && py.line == pos.line && !(sc.names.any fun (n, k) => n == y && (k == .local || k == .cell))
 | _ => false
mutual
noncomputable def mS : IS → MC → Stmt → Bool
 | .asg i a => fun M s => match s with
  | .Assign [.Name x py] e _ => M.N[i]? == some x && locB M x && mE a M e
  | _ => false
 | .asgT ts a => fun M s => match s with
  | .Assign [.Tuple es _ _] e _ => noLC e && noTup e && mGs M ts es && mE a M e
  | _ => false
 | .asgI o i a => fun M s => match s with
  | .Assign [.Subscript l r _] e _ => noLC e && noSlice r && mE o M l && mE i M r && mE a M e
  | _ => false
 | .asgA o f a => fun M s => match s with
  | .Assign [.Attribute l x _] e _ => x == f && noLC e && mE o M l && mE a M e
  | _ => false
 | .ex a => fun M s => match s with
  | .Expr e _ => noLC e && mE a M e
  | _ => false
 | .ret a => fun M s => match s with
  | .Return (some e) _ => mE a M e
  | _ => false
 | .retN => fun M s => match s with | .Return none _ => true | _ => false
 | .pass => fun M s => match s with | .Pass _ => true | _ => false
 | .brk => fun M s => match s with | .Break _ => true | _ => false
 | .cnt => fun M s => match s with | .Continue _ => true | _ => false
 | .ite c a b => fun M s => match s with
  | .If t x y _ => mE c M t && mSs a M x && mSs b M y
  | _ => false
 | .whl c b => fun M s => match s with
  | .While t x [] _ => mE c M t && mSs b M x
  | _ => false
 | .for tg it b => fun M s => match s with
  | .For t x y [] _ => noSet x && mG M tg t && mI it M x && mSs b M y
  | _ => false
 | .dead => fun M s => true
noncomputable def mSs : ISs → MC → List Stmt → Bool
 | .nil => fun M s => match s with | [] => true | _ => false
 | .cons a as => fun M s => match s with | x :: xs => mS a M x && mSs as M xs | _ => false
noncomputable def noTup : Expr → Bool
 | .Tuple .. => false
 | _ => true
end
theorem bd2 {a b : Bool} (h : (a && b) = true) : a = true ∧ b = true := (Bool.and_eq_true a b).mp h
theorem bd3 {a b c : Bool} (h : (a && b && c) = true) : (a = true ∧ b = true) ∧ c = true := ⟨bd2 (bd2 h).1, (bd2 h).2⟩
theorem bd4 {a b c d : Bool} (h : (a && b && c && d) = true) : ((a = true ∧ b = true) ∧ c = true) ∧ d = true := ⟨bd3 (bd2 h).1, (bd2 h).2⟩
theorem bd5 {a b c d e : Bool} (h : (a && b && c && d && e) = true) : (((a = true ∧ b = true) ∧ c = true) ∧ d = true) ∧ e = true := ⟨bd4 (bd2 h).1, (bd2 h).2⟩
theorem bd6 {a b c d e f : Bool} (h : (a && b && c && d && e && f) = true) : ((((a = true ∧ b = true) ∧ c = true) ∧ d = true) ∧ e = true) ∧ f = true := ⟨bd5 (bd2 h).1, (bd2 h).2⟩
theorem bd7 {a b c d e f g : Bool} (h : (a && b && c && d && e && f && g) = true) : (((((a = true ∧ b = true) ∧ c = true) ∧ d = true) ∧ e = true) ∧ f = true) ∧ g = true := ⟨bd6 (bd2 h).1, (bd2 h).2⟩
theorem bd8 {a b c d e f g k : Bool} (h : (a && b && c && d && e && f && g && k) = true) : ((((((a = true ∧ b = true) ∧ c = true) ∧ d = true) ∧ e = true) ∧ f = true) ∧ g = true) ∧ k = true := ⟨bd7 (bd2 h).1, (bd2 h).2⟩
theorem bd9 {a b c d e f g k l : Bool} (h : (a && b && c && d && e && f && g && k && l) = true) : (((((((a = true ∧ b = true) ∧ c = true) ∧ d = true) ∧ e = true) ∧ f = true) ∧ g = true) ∧ k = true) ∧ l = true := ⟨bd8 (bd2 h).1, (bd2 h).2⟩
theorem bd10 {a b c d e f g k l m : Bool} (h : (a && b && c && d && e && f && g && k && l && m) = true) : ((((((((a = true ∧ b = true) ∧ c = true) ∧ d = true) ∧ e = true) ∧ f = true) ∧ g = true) ∧ k = true) ∧ l = true) ∧ m = true := ⟨bd9 (bd2 h).1, (bd2 h).2⟩
end L3
set_option Elab.async false
set_option linter.all false
set_option maxRecDepth 100000
set_option maxHeartbeats 4000000
namespace L3
open PySem PySem.Spec PyProof.Rows L2 PySem.SeqAt
structure Par where
 prog : Program
 w : World
 K : Frg
 mg : Str → Option Value
 base : Heap
 A : Around
structure Fits (p : Par) (X : Cx) : Prop where
 prog : X.prog = p.prog
 w : X.w = p.w
 K : X.K = p.K
 mg : X.mg = p.mg
 base : X.base = p.base
 A : X.A = p.A
 calm : X.calm = true
 xe : X.xe = fun _ _ => False
structure ItIs (K : Frg) (J : It) (H1 : Hp) (ws : List W) (stab : Hw → Prop) : Prop where
 go : ∀ i H G, Grow K H1 H → Abs K H G → stab G → i < ws.length → J.go i H
 yld : ∀ i H G x H', Grow K H1 H → Abs K H G → stab G → i < ws.length → J.yld i H x H' → ∃ w, ws[i]? = some w ∧ Grow K H H' ∧ Rep K H' w x ∧ Abs K H' G
 stop : ∀ i H G, Grow K H1 H → Abs K H G → stab G → ws.length ≤ i → J.stop i H
noncomputable def lowI (K : Frg) (t : I3) : TI := fun τ H R => ∃ σ G, RepSt K H σ τ ∧ Abs K H G ∧ t σ G fun ws stab G1 => ∀ J H1, Grow K H H1 → Abs K H1 G1 → ItIs K J H1 ws stab → R J H1
noncomputable def EachE (X : Cx) : List Expr → List E3 → Prop
 | [], [] => True
 | x :: xs, e :: es => MonoE e ∧ PE X x (lowE X.K e) ∧ EachE X xs es
 | _, _ => False
structure Good (Γ : Ctx3) (p : Par) : Prop where
 mono : TabMono Γ
 un : p.A.units + 200 < cLine
 fn : ∀ f ∈ Γ.fn, ∀ X, Fits p X → Gl X f.nm → ∀ (args : List Expr) (t : A3) (q pos : Pos), MonoA t → args.all noStar = true → PA X args (lowA X.K t) → (args = [] → ∀ σ G Q, t σ G Q → Q [] G) → (f.nm == ("__debug__" : Str)) = false → f.nm ≠ "__name__" →
  PE X (.Call (.Name f.nm q) args [] pos) (lowE X.K fun σ G Q => t σ G fun ws G1 => f.sp ws G1 Q XN)
 gl : ∀ g ∈ Γ.gl, ∀ X, Fits p X → Gl X g.1 → ∀ q : Pos, (g.1 == ("__debug__" : Str)) = false → g.1 ≠ "__name__" → PE X (.Name g.1 q) (lowE X.K fun _ G Q => Q g.2 G)
 mt : ∀ m ∈ Γ.mt, ∀ X, Fits p X → ∀ (o : Expr) (args : List Expr) (to : E3) (t : A3) (apos cpos : Pos), MonoE to → MonoA t → attOk o = true → (apos.endLine == cpos.line) = true → args.length < 25 → args.all noStar = true →
  PE X o (lowE X.K to) → PA X args (lowA X.K t) → (args = [] → ∀ σ G Q, t σ G Q → Q [] G) → PE X (.Call (.Attribute o m.nm apos) args [] cpos) (lowE X.K fun σ G Q => to σ G fun x G1 => tyW G1 x m.T ∧ t σ G1 fun ws G2 => m.sp x ws G2 Q)
 it : ∀ i ∈ Γ.it, ∀ X, Fits p X → Gl X i.nm → ∀ (tg : Expr) (args : List Expr) (t : A3) (q pos : Pos), MonoA t → args.all noStar = true → PA X args (lowA X.K t) → (args = [] → ∀ σ G Q, t σ G Q → Q [] G) → (i.nm == ("__debug__" : Str)) = false → i.nm ≠ "__name__" →
  PI X tg (.Call (.Name i.nm q) args [] pos) (lowI X.K fun σ G R => t σ G fun ws G1 => i.sp ws G1 R)
 cl : ∀ c ∈ Γ.cl, Cls p.K c.1 ∧ ∀ f ∈ c.2, NoAttr p.K c.1 f
 sx : ∀ k ∈ Γ.sx, ∀ X, Fits p X → ∀ (e : Expr) (xs : List Expr) (es : List E3), k.m X.env.scope e = some xs → EachE X xs es → xs.all noStar = true → PA X xs (lowA X.K (seqA es)) →
  PE X e (lowE X.K fun σ G Q => seqA es σ G fun ws G1 => k.sp ws G1 Q) ∧ (∀ whole, isTrue e X.env whole = (do let v ← whole; standAt e.pos; holding [v] (truthy v))) ∧ ∀ op vs pos, e ≠ .BoolOp op vs pos
 ix : ∀ k ∈ Γ.ix, ∀ X, Fits p X → ∀ (tg e : Expr) (xs : List Expr) (es : List E3), k.m X.env.scope e = some xs → EachE X xs es → xs.all noStar = true → PA X xs (lowA X.K (seqA es)) →
  PI X tg e (lowI X.K fun σ G R => seqA es σ G fun ws G1 => k.sp ws G1 R)
structure Lk (Γ : Ctx3) (M : MC) (p : Par) (X : Cx) : Prop where
 fits : Fits p X
 N : X.N = M.N
 sc : X.env.scope = M.sc
 nd : M.N.Nodup
 own : M.own = true → ∀ x, X.fn x = true
 kind : M.sc.kind = .function
 fns : Γ.fn.map (·.nm) = M.fns
 gls : Γ.gl.map (·.1) = M.gls
 mts : Γ.mt.map (·.nm) = M.mts
 its : Γ.it.map (·.nm) = M.its
 sxs : Γ.sx.map (·.m) = M.sxm
 ixs : Γ.ix.map (·.m) = M.ixm
theorem starEach_no {e : Expr} {es : List Expr} {env : Env} (h : noStar e = true) : starEach (e :: es) env = (false, eval e env) :: starEach es env := by
 cases e <;> first | rfl | exact absurd h Bool.false_ne_true
theorem attBase_ok {o : Expr} {f : Str} {env : Env} {t : Sem Value} (h : attOk o = true) : attributeBase o f env t = t := by
 unfold attributeBase
 split
 ·exact absurd h Bool.false_ne_true
 ·rfl
theorem folded_ok {e : Expr} {env : Env} (h : noSet e = true) : ∀ x, foldedSetIterable e env x = pure x := fun x => by
 cases e <;> first | rfl | exact absurd h Bool.false_ne_true
theorem marks_ok {op : CmpOp} {e : Expr} (h : noSet e = true) : behindInMarks op e = false := by
 cases e <;> first | rfl | exact absurd h Bool.false_ne_true
theorem plain_ok {e : Expr} (h : noSlice e = true) : PlainIx e := fun o i => by
 cases e <;> first | rfl | exact absurd h Bool.false_ne_true
theorem swaps_ok {e : Expr} {t : Option Expr} {n : Nat} {env : Env} (h : noLC e = true) : swapsWith e t n env = pure false := by
 cases e <;> first | rfl | exact absurd h Bool.false_ne_true
theorem vis_of {sc : Scope} {x : Str} (h : visB sc x = true) : Vis sc x := by
 unfold visB at h
 split at h
 ·rename_i e; exact .inl e
 ·rename_i e; exact .inr (.inl e)
 ·rename_i e; exact .inr (.inr e)
 ·exact absurd h Bool.false_ne_true
theorem gl_of {X : Cx} {sc : Scope} {x : Str} (e : X.env.scope = sc) (h : glbB sc x = true) : Gl X x ∧ (x == ("__debug__" : Str)) = false ∧ x ≠ "__name__" := by
 unfold glbB at h
 simp only [Bool.and_eq_true, Bool.not_eq_true'] at h
 refine ⟨?_, h.1.2, fun z => ?_⟩
 ·show X.env.scope.names.lookup x = _
  rw [e]; exact eq_of_beq h.1.1
 ·subst z; have := h.2; simp at this
theorem beq_some {α : Type} [BEq α] [LawfulBEq α] {a : Option α} {b : α} (h : (a == some b) = true) : a = some b := eq_of_beq h
theorem map_get {α β : Type} {f : α → β} {l : List α} {i : Nat} {y : β} (h : (l.map f)[i]? = some y) : ∃ x, l[i]? = some x ∧ f x = y := by
 rw [List.getElem?_map] at h
 cases e : l[i]? with
 | none => rw [e] at h; cases h
 | some x => rw [e] at h; exact ⟨x, rfl, Option.some.inj h⟩
section
variable {X : Cx}
theorem truE_low {K : Frg} {e : E3} (m : MonoE e) {τ : L2.St} {H : Hp} {Q : Bool → Hp → Prop} (h : lowT K (truE e) τ H Q) : lowE K e τ H (fun x H' => ∃ k, TruV K x H' k ∧ Q k H') := by
 obtain ⟨σ, G, hs, ha, h⟩ := h
 refine bindE m hs ha h fun w G1 v H1 gr _ rp ab q => ?_
 split at q
 ·rename_i b hb; exact ⟨b, tru_low rp ab hb, q H1 gr ab⟩
 ·exact q.elim
theorem pt_of {x : Expr} {e : E3} (m : MonoE e) (h : PE X x (lowE X.K e)) (he : ∀ whole, isTrue x X.env whole = (do let v ← whole; standAt x.pos; holding [v] (truthy v))) : PT X x (lowT X.K (truE e)) :=
 (pt_truth h he).imp fun σ H Q q => truE_low m q
theorem blE_low {K : Frg} {e : E3} (m : MonoE e) {τ : L2.St} {H : Hp} {Q : Bool → Hp → Prop} (h : lowT K (blE e) τ H Q) : lowE K e τ H (fun x H' => ∃ k, x = .bl k ∧ Q k H') := by
 obtain ⟨σ, G, hs, ha, h⟩ := h
 refine bindE m hs ha h fun w G1 v H1 gr _ rp ab q => ?_
 cases w with
 | bl b => cases rp; exact ⟨b, rfl, q H1 gr ab⟩
 | _ => exact q.elim
theorem op_low {K : Frg} {ea eb : E3} {r : R3} (ma : MonoE ea) (mb : MonoE eb) (mr : Mono2 r) {τ : L2.St} {H : Hp} {Q : VK} (h : lowE K (fun σ G Q => ea σ G fun x G1 => eb σ G1 fun y G2 => r x y G2 Q) τ H Q) :
  tOp (low2 K r) (lowE K ea) (lowE K eb) τ H Q := by
 obtain ⟨σ, G, hs, ha, h⟩ := h
 refine bindE ma hs ha h fun x G1 v H1 g1 hs1 rx a1 h1 => ?_
 refine bindE mb hs1 a1 h1 fun y G2 u H2 g2 hs2 ry a2 h2 => ?_
 exact ⟨x, y, G2, rx.mono g2, ry, a2, mr x y G2 _ _ (fun w G' q v' H' g' => q v' H' ((g1.trans g2).trans g')) h2⟩
noncomputable def Its (x : Str) : It := ⟨fun i _ => i < x.cps.size, fun i H v H' => H' = H ∧ ∃ c, x.cps[i]? = some c ∧ v = .str ⟨#[c]⟩, fun i _ => x.cps.size ≤ i⟩
theorem turn_str {P : Program} {w : World} {K : Frg} {tg : Expr} (T : String) (hT : T = "str_ascii_iterator" ∨ T = "str_iterator") (x : Str) (t : Tok) (it : Addr) : Turn P w K tg (Its x) [it] it (fun i h => h.IsStrIter it T x t i) where
 mem := by simp
 obj := fun i h st b hb => by
  have e : b = it := by simpa using hb
  subst e
  obtain ⟨o, e, c, d⟩ := st
  exact ⟨o, e, fun v z => by rw [d] at z; cases z⟩
 keep := fun i h h' st k => let ⟨o, e, r⟩ := st; ⟨o, k it (by simp) o e, r⟩
 item := by
  intro X hP hw hK hc i pins s σ H E I hf st hg
  subst hP hw hK
  obtain ⟨f0, f1, f2, f3, f4, f5⟩ := hf it (by simp)
  have hi : i < x.cps.size := hg
  have hx : x.cps[i]? = some x.cps[i] := by simp [hi]
  have fin : ∀ h' : Heap, h'.IsStrIter it T x t (i + 1) → Heap.SameBut it s.heap h' → ∃ u, some (Value.str ⟨#[x.cps[i]]⟩ s.toks) = some u ∧
    wpAny (model X.prog X.w) X.A (letOwnedTupleGo tg (.ref it) u) (fun _ s2 => ∃ v H', Inv X pins σ H' s2 ∧ RelV v u ∧ (Its x).yld i H v H' ∧ s2.heap.IsStrIter it T x t (i + 1) ∧ ∀ b ∈ [it], H' b = none) E { s with heap := h', toks := s.toks + 1 } := fun h' st' sb => by
   have I1 : Inv X pins σ H { s with heap := h', toks := s.toks + 1 } := I.turned (t' := s.toks + 1) (fun b o hb e => (sb.2 b hb).trans e) f0 f1 f3 f4 f5
   obtain ⟨o, e, c, d⟩ := id st'
   exact ⟨_, rfl, go_of (s := { s with heap := h', toks := s.toks + 1 }) e c d (by rcases hT with rfl | rfl <;> decide) ⟨.str ⟨#[x.cps[i]]⟩, H, I1, ⟨_, rfl⟩, ⟨rfl, _, hx, rfl⟩, st', fun b hb => (hf b hb).1⟩⟩
  rcases hT with rfl | rfl
  ·exact wpAny_pyNext_ascii_item st hx fin
  ·exact wpAny_pyNext_wide_item st hx fin
 done := by
  intro X hP hw hK hc i pins s σ H E I hf st hg
  subst hP hw hK
  obtain ⟨f0, f1, f2, f3, f4, f5⟩ := hf it (by simp)
  have hx : x.cps[i]? = none := by have h : x.cps.size ≤ i := hg; simp [h]
  rcases hT with rfl | rfl
  ·exact wpAny_pyNext_ascii_end (I.ok.hd hc) st hx fun h' eb => ⟨rfl, I.turned (t' := s.toks) (fun b o hb e => eb b o hb e) f0 f1 f3 f4 f5⟩
  ·exact wpAny_pyNext_wide_end (I.ok.hd hc) st hx fun h' eb => ⟨rfl, I.turned (t' := s.toks) (fun b o hb e => eb b o hb e) f0 f1 f3 f4 f5⟩
 self := fun _ _ _ _ _ st h => by
  rcases hT with rfl | rfl
  ·exact wpAny_pyIter_striter_ascii st h
  ·exact wpAny_pyIter_striter_wide st h
theorem pi_val {tg l : Expr} {tl : TE} (hl : PE X l tl) : PI X tg l (fun σ H R => tl σ H fun x H1 => (∃ t, x = .str t ∧ R (Its t) H1) ∨ ∃ a, x = .ref a ∧ (((∃ xs, SqL X.K H1 a xs) ∧ R (Itl X.K a) H1) ∨ ((∃ xs, SqT X.K H1 a xs) ∧ R (Itt X.K a) H1))) := by
 intro pins s σ H R I h
 refine thn (hl pins s σ H _ I h) fun v s1 ⟨x, H1, I1, r1, q1⟩ => ?_
 rcases q1 with ⟨tx, e, q⟩ | q1
 ·subst e
  obtain ⟨tk, rfl⟩ := r1
  have fin : ∀ T, (T = "str_ascii_iterator" ∨ T = "str_iterator") → ∀ o : Obj, o.isFreed = false → o.cls = .type T → o.data = .fields #[.str tx tk, .int 0 0] → PIE X pins σ tg R (.ref s1.heap.objs.size) { s1 with heap := s1.heap.push o }   := fun T hT o hz hc hd => by
   refine ⟨s1.heap.objs.size, [s1.heap.objs.size], _, _, H1, rfl, I1.kept (t' := s1.toks) fun b o e => Heap.get?_push_of_some _ e, turn_str T hT tx tk _, ⟨_, Heap.get?_push_size _ hz, hc, hd⟩, fun b hb => ?_, q⟩
   have e : b = s1.heap.objs.size := by simpa using hb
   subst e
   exact I1.fpOk (Nat.le_refl _) (I1.hok.fresh (Nat.le_refl _))
  cases hasc : tx.cps.all (· < 128)
  ·exact wpAny_pyIter_wide hasc (fin _ (.inr rfl) _ rfl rfl rfl)
  ·exact wpAny_pyIter_ascii hasc (fin _ (.inl rfl) _ rfl rfl rfl)
 obtain ⟨a, e, q1⟩ := q1
 subst e
 cases r1
 rcases q1 with ⟨⟨xs, hq⟩, q⟩ | ⟨⟨xs, hq⟩, q⟩
 ·obtain ⟨its, rv, p, hz⟩ := I1.list hq
  refine wpAny_pyIter_list p.isList ?_
  refine ⟨s1.heap.objs.size, [s1.heap.objs.size], _, _, H1, rfl, I1.kept (t' := s1.toks) fun b o e => Heap.get?_push_of_some _ e, turn_list a _, ⟨_, Heap.get?_push_size _ rfl, rfl, rfl⟩, fun b hb => ?_, q⟩
  have e : b = s1.heap.objs.size := by simpa using hb
  subst e
  exact I1.fpOk (Nat.le_refl _) (I1.hok.fresh (Nat.le_refl _))
 ·obtain ⟨its, rv, p, hz⟩ := I1.tuple hq
  refine wpAny_pyIter_tuple (show s1.heap.IsTuple a its.toArray from p) ?_
  refine ⟨s1.heap.objs.size, [s1.heap.objs.size], _, _, H1, rfl, I1.kept (t' := s1.toks) fun b o e => Heap.get?_push_of_some _ e, turn_tuple a _, ⟨_, Heap.get?_push_size _ rfl, rfl, rfl⟩, fun b hb => ?_, q⟩
  have e : b = s1.heap.objs.size := by simpa using hb
  subst e
  exact I1.fpOk (Nat.le_refl _) (I1.hok.fresh (Nat.le_refl _))
theorem its_is {K : Frg} {x : Str} {H1 : Hp} : ItIs K (Its x) H1 (sgs x) (fun _ => True) where
 go := fun i H G _ ab st hi => by
  have h : i < (sgs x).length := hi
  show i < x.cps.size
  simpa [sgs] using h
 yld := fun i H G v H' _ ab st hi y => by
  obtain ⟨rfl, c, e, rfl⟩ := y
  refine ⟨.str ⟨#[c]⟩, ?_, .refl, rfl, ab⟩
  simp [sgs, e]
 stop := fun i H G _ ab st hi => by
  have h : (sgs x).length ≤ i := hi
  show x.cps.size ≤ i
  simpa [sgs] using h
theorem itl_is {K : Frg} {a : Addr} {H1 : Hp} {ws : List W} : ItIs K (Itl K a) H1 ws (fun G => lstOf G a = some ws) where
 go := fun i H G _ ab st hi => by
  obtain ⟨vs, sq, rs⟩ := ab.seq st
  have hl := rs.length
  obtain ⟨v, e⟩ : ∃ v, vs[i]? = some v := ⟨vs[i]'(by omega), List.getElem?_eq_getElem _⟩
  exact ⟨vs, v, sq, e⟩
 yld := fun i H G x H' _ ab st hi y => by
  obtain ⟨vs, sq, rs⟩ := ab.seq st
  obtain ⟨e, y⟩ := y
  subst e
  obtain ⟨w, ew, rp⟩ := rs.get' (y vs sq)
  exact ⟨w, ew, .refl, rp, ab⟩
 stop := fun i H G _ ab st hi => by
  obtain ⟨vs, sq, rs⟩ := ab.seq st
  exact ⟨vs, sq, by rw [rs.length]; exact hi⟩
theorem itt_is {K : Frg} {a : Addr} {H1 : Hp} {ws : List W} {vs : List V} (sq : SqT K H1 a vs) (rs : Reps K H1 ws vs) : ItIs K (Itt K a) H1 ws (fun _ => True) where
 go := fun i H G g ab st hi => by
  have hl := rs.length
  obtain ⟨v, e⟩ : ∃ v, vs[i]? = some v := ⟨vs[i]'(by omega), List.getElem?_eq_getElem _⟩
  exact ⟨vs, v, g.1 _ _ sq, e⟩
 yld := fun i H G x H' g ab st hi y => by
  obtain ⟨e, y⟩ := y
  subst e
  obtain ⟨w, ew, rp⟩ := (rs.mono g).get' (y vs (g.1 _ _ sq))
  exact ⟨w, ew, .refl, rp, ab⟩
 stop := fun i H G g ab st hi => ⟨vs, g.1 _ _ sq, by rw [rs.length]; exact hi⟩
theorem pi_low {tg x : Expr} {e : E3} (m : MonoE e) (h : PE X x (lowE X.K e)) : PI X tg x (lowI X.K fun σ G R => e σ G fun w G1 => iterW w G1 R) := by
 intro pins s σ H R I q
 refine pi_val h pins s σ H R I ?_
 obtain ⟨σ3, G, hs, ha, q⟩ := q
 refine bindE m hs ha q fun w G1 v H1 gr hs1 rp ab q => ?_
 cases w with
 | tup ws =>
  obtain ⟨a, vs, rfl, sq, rs⟩ := rp
  exact .inr ⟨a, rfl, .inr ⟨⟨vs, sq⟩, q _ H1 gr ab (itt_is sq rs)⟩⟩
 | ref p =>
  cases rp
  simp only [iterW] at q
  split at q
  ·rename_i ws e
   obtain ⟨vs, sq, rs⟩ := ab.seq e
   exact .inr ⟨p, rfl, .inl ⟨⟨vs, sq⟩, q _ H1 gr ab itl_is⟩⟩
  ·exact q.elim
 | str t =>
  cases rp
  exact .inl ⟨t, rfl, q _ H1 gr ab its_is⟩
 | _ => exact q.elim
noncomputable def lowG (K : Frg) (t : G3) : TG := fun v τ H Q => ∃ w σ G, Rep K H w v ∧ RepSt K H σ τ ∧ Abs K H G ∧ t w σ G fun σ' G' => ∀ τ' H', Grow K H H' → RepSt K H' σ' τ' → Abs K H' G' → Q τ' H'
noncomputable def lowGs (K : Frg) (t : Gs3) : TGs := fun vs τ H Q => ∃ ws σ G, Reps K H ws vs ∧ RepSt K H σ τ ∧ Abs K H G ∧ t ws σ G fun σ' G' => ∀ τ' H', Grow K H H' → RepSt K H' σ' τ' → Abs K H' G' → Q τ' H'
theorem _root_.L2.PG.imp {tg : Expr} {t t' : TG} (h : PG X tg t) (k : ∀ v σ H Q, t' v σ H Q → t v σ H Q) : PG X tg t' := fun pins s σ H v u Q I r q => h pins s σ H v u Q I r (k v σ H Q q)
theorem _root_.L2.PGs.imp {tg : List Expr} {t t' : TGs} (h : PGs X tg t) (k : ∀ v σ H Q, t' v σ H Q → t v σ H Q) : PGs X tg t' := fun pins s σ H v u Q I r q => h pins s σ H v u Q I r (k v σ H Q q)
theorem assignEach_no {e : Expr} {es : List Expr} {env : Env} (h : noStar e = true) : assignEach (e :: es) env = (false, assign e env) :: assignEach es env := by
 cases e <;> first | rfl | exact absurd h Bool.false_ne_true
end
noncomputable def MonoG (t : G3) : Prop := ∀ w σ G (Q Q' : St3 → Hw → Prop), (∀ a b, Q a b → Q' a b) → t w σ G Q → t w σ G Q'
noncomputable def MonoGs (t : Gs3) : Prop := ∀ w σ G (Q Q' : St3 → Hw → Prop), (∀ a b, Q a b → Q' a b) → t w σ G Q → t w σ G Q'
mutual
theorem monoG : ∀ t : ITg, MonoG (semG t)
 | .nm i => fun w σ G Q Q' k h => k _ _ h
 | .tup ts => fun w σ G Q Q' k h => by
  cases w with
  | tup ws => exact monoGs ts ws σ G Q Q' k h
  | _ => exact h.elim
theorem monoGs : ∀ ts : ITgs, MonoGs (semGs ts)
 | .nil => fun w σ G Q Q' k h => by
  cases w with
  | nil => exact k _ _ h
  | cons _ _ => exact h.elim
 | .cons t ts => fun w σ G Q Q' k h => by
  cases w with
  | nil => exact h.elim
  | cons x r => exact monoG t x σ G _ _ (fun σ' G' h => monoGs ts r σ' G' Q Q' k h) h
end
theorem loc_of {Γ : Ctx3} {M : MC} {p : Par} {X : Cx} (L : Lk Γ M p X) {x : Str} (h : locB M x = true) : Loc X.env.scope x ∧ (X.fn x = true ∨ X.env.scope.names.lookup x = some .local) := by
 unfold locB at h
 rw [L.sc]
 split at h
 ·rename_i e; exact ⟨.inl e, .inr e⟩
 ·rename_i e; exact ⟨.inr e, .inl (L.own h x)⟩
 ·exact absurd h Bool.false_ne_true
mutual
theorem sndG {Γ : Ctx3} {M : MC} {p : Par} {X : Cx} (L : Lk Γ M p X) : ∀ (t : ITg) (x : Expr), mG M t x = true → PG X x (lowG X.K (semG t))
  | .nm i, x, h => by
   cases x with
   | Name y q =>
    replace h := bd2 h
    have lo := loc_of L h.2
    refine (pg_name (i := i) (L.N ▸ L.nd) (by rw [L.N]; exact beq_some h.1) lo.1 lo.2).imp fun v σ H Q q => ?_
    obtain ⟨w, σ3, G, rp, hs, ab, q⟩ := q
    exact q _ _ .refl (hs.set rp i) ab
   | _ => exact absurd h Bool.false_ne_true
  | .tup ts, x, h => by
   cases x with
   | Tuple es k q =>
    skip
    obtain ⟨ps, hn, hst⟩ := sndGs L ts es h
    refine (pg_tup (n := es.length) L.fits.calm ps hn hst).imp fun v σ H Q q => ?_
    obtain ⟨w, σ3, G, rp, hs, ab, q⟩ := q
    cases w with
    | tup ws =>
      obtain ⟨a, vs, rfl, sq, rs⟩ := rp
      refine ⟨a, vs, rfl, sq, ?_, ws, σ3, G, rs, hs, ab, q⟩
      rw [rs.length]
      exact lenGs ts es ws σ3 G _ h q
    | _ => exact q.elim
   | _ => exact absurd h Bool.false_ne_true
theorem sndGs {Γ : Ctx3} {M : MC} {p : Par} {X : Cx} (L : Lk Γ M p X) : ∀ (ts : ITgs) (xs : List Expr), mGs M ts xs = true → PGs X xs (lowGs X.K (semGs ts)) ∧ (assignEach xs X.env).length = xs.length ∧ (assignEach xs X.env).findIdx? (·.1) = none
 | .nil, [], _ => ⟨(pgs_nil).imp fun vs σ H Q q => by
   obtain ⟨ws, σ3, G, rs, hs, ab, q⟩ := q
   cases ws with
   | nil => exact ⟨rs, q _ _ .refl hs ab⟩
   | cons _ _ => exact q.elim, rfl, rfl⟩
 | .cons t ts, x :: xs, h => by
  simp only [mGs, Bool.and_eq_true] at h
  obtain ⟨ps, hn, hst⟩ := sndGs L ts xs h.2
  have es := assignEach_no (es := xs) (env := X.env) h.1.1
  refine ⟨(pgs_cons (sndG L t x h.1.2) ps (by rw [es]; rfl)).imp fun vs σ H Q q => ?_, by rw [es, List.length_cons, List.length_cons, hn], ?_⟩
  ·obtain ⟨ws, σ3, G, rs, hs, ab, q⟩ := q
   cases ws with
   | nil => exact q.elim
   | cons w r =>
    obtain ⟨v, vr, e, rp, rr⟩ := rs
    refine ⟨v, vr, e, w, σ3, G, rp, hs, ab, monoG t w σ3 G _ _ (fun σ' G' q τ' H' g' hs' ab' => ?_) q⟩
    exact ⟨r, σ', G', rr.mono g', hs', ab', monoGs ts r σ' G' _ _ (fun σ2 G2 q τ2 H2 g2 => q τ2 H2 (g'.trans g2)) q⟩
  ·rw [es, List.findIdx?_cons]
   simp only [Bool.false_eq_true, if_false, hst]
   rfl
theorem lenGs {M : MC} : ∀ (ts : ITgs) (xs : List Expr) (ws : List W) (σ : St3) (G : Hw) (Q : St3 → Hw → Prop), mGs M ts xs = true → semGs ts ws σ G Q → ws.length = xs.length
 | .nil, [], ws, σ, G, Q, _, q => by
  cases ws with
  | nil => rfl
  | cons _ _ => exact q.elim
 | .cons t ts, x :: xs, ws, σ, G, Q, h, q => by
  simp only [mGs, Bool.and_eq_true] at h
  cases ws with
  | nil => exact q.elim
  | cons w r =>
   have : ∃ σ' G', semGs ts r σ' G' Q := exG t w σ G _ q
   obtain ⟨σ', G', q'⟩ := this
   rw [List.length_cons, List.length_cons, lenGs ts xs r σ' G' Q h.2 q']
theorem exG : ∀ (t : ITg) (w : W) (σ : St3) (G : Hw) (Q : St3 → Hw → Prop), semG t w σ G Q → ∃ σ' G', Q σ' G'
 | .nm i, w, σ, G, Q, q => ⟨_, _, q⟩
 | .tup ts, w, σ, G, Q, q => by
  cases w with
  | tup ws => exact exGs ts ws σ G Q q
  | _ => exact q.elim
theorem exGs : ∀ (ts : ITgs) (ws : List W) (σ : St3) (G : Hw) (Q : St3 → Hw → Prop), semGs ts ws σ G Q → ∃ σ' G', Q σ' G'
 | .nil, ws, σ, G, Q, q => by
  cases ws with
  | nil => exact ⟨_, _, q⟩
  | cons _ _ => exact q.elim
 | .cons t ts, ws, σ, G, Q, q => by
  cases ws with
  | nil => exact q.elim
  | cons w r =>
   obtain ⟨σ', G', q'⟩ := exG t w σ G _ q
   exact exGs ts r σ' G' Q q'
end
end L3
set_option Elab.async false
set_option linter.all false
set_option maxRecDepth 100000
set_option maxHeartbeats 4000000
namespace L3
open PySem PySem.Spec PyProof.Rows L2 PySem.SeqAt
noncomputable def lowO (K : Frg) (t : St3 → Hw → (Option Int → Hw → Prop) → Prop) : TO := fun τ H Q => ∃ σ G, RepSt K H σ τ ∧ Abs K H G ∧ t σ G fun o G' => ∀ H', Grow K H H' → Abs K H' G' → Q o H'
theorem _root_.L2.PO.imp {X : Cx} {e : Option Expr} {t t' : TO} (h : PO X e t) (k : ∀ σ H Q, t' σ H Q → t σ H Q) : PO X e t' := fun pins s σ H Q I q => h pins s σ H Q I (k σ H Q q)
theorem _root_.L2.PTs.imp {X : Cx} {e : List Expr} {t t' : TT} (h : PTs X e t) (k : ∀ σ H Q, t' σ H Q → t σ H Q) : PTs X e t' := fun pins s σ H Q I q => h pins s σ H Q I (k σ H Q q)
theorem _root_.L2.PI.imp {X : Cx} {tg x : Expr} {t t' : TI} (h : PI X tg x t) (k : ∀ σ H R, t' σ H R → t σ H R) : PI X tg x t' := fun pins s σ H R I q => h pins s σ H R I (k σ H R q)
noncomputable def capV (k : Nat) (caps : List Nat) (σ : L2.St) : L2.St := List.replicate k none ++ caps.map fun j => (σ[j]?).join
theorem cap_get {α : Type} {k : Nat} {caps : List Nat} {σ : List (Option α)} {i : Nat} {v : α} (h : (List.replicate k none ++ caps.map fun j => (σ[j]?).join)[i]? = some (some v)) : k ≤ i ∧ ∃ j, caps[i - k]? = some j ∧ σ[j]? = some (some v) := by
 by_cases hi : i < k
 ·rw [List.getElem?_append_left (by simpa using hi), List.getElem?_replicate, if_pos hi] at h
  cases h
 ·rw [List.getElem?_append_right (by simpa using hi), List.length_replicate, List.getElem?_map] at h
  refine ⟨by omega, ?_⟩
  cases e : caps[i - k]? with
  | none => rw [e] at h; cases h
  | some j =>
   rw [e] at h
   have h' : (σ[j]?).join = some v := Option.some.inj h
   refine ⟨j, rfl, ?_⟩
   cases q : σ[j]? with
   | none => rw [q] at h'; cases h'
   | some o => rw [q] at h'; exact congrArg some h'
theorem cap_rep {K : Frg} {H : Hp} {σ : St3} {τ : L2.St} (h : RepSt K H σ τ) (k : Nat) (caps : List Nat) : RepSt K H (capS k caps σ) (capV k caps τ) := by
 refine ⟨by simp [capS, capV], fun i w e => ?_⟩
 obtain ⟨hk, j, ej, es⟩ := cap_get e
 obtain ⟨v, ev, rp⟩ := h.2 j w es
 refine ⟨v, ?_, rp⟩
 unfold capV
 rw [List.getElem?_append_right (by simpa using hk), List.length_replicate, List.getElem?_map, ej]
 simp [ev]
theorem nodup_of : ∀ {l : List Str}, nodupB l = true → l.Nodup
 | [], _ => List.nodup_nil
 | x :: r, h => by
  simp only [nodupB, Bool.and_eq_true, Bool.not_eq_true'] at h
  refine List.nodup_cons.mpr ⟨fun hm => ?_, nodup_of h.2⟩
  have := List.elem_eq_true_of_mem hm
  rw [List.contains_eq_mem] at h
  simp [hm] at h
theorem relS_eq {X : Cx} {sc out : Scope} (e : X.env.scope = out) : relabel sc X.env = relS sc out := by
 unfold relabel relS Env.kindOf
 rw [e]
theorem blk_of {X : Cx} {sc out : Scope} (e : X.env.scope = out) (h : blkB out sc = true) : BlkSc X sc := by
 unfold blkB at h
 simp only [Bool.and_eq_true, List.all_eq_true] at h
 obtain ⟨⟨⟨h1, h2⟩, h3⟩, h4⟩ := h
 refine ⟨eq_of_beq h1, fun y hy z => ?_, fun x hx => ?_, fun y hy z => ?_⟩
 ·have := h2 y hy; rw [z] at this; simp at this
 ·have := h3 _ hx
  simp only [beq_self_eq_true, Bool.not_true, Bool.false_or, Bool.or_eq_true, beq_iff_eq] at this
  show X.env.scope.names.lookup x = _ ∨ X.env.scope.names.lookup x = _
  rw [e]; exact this
 ·have := h4 y hy
  rw [z] at this
  simpa using this
theorem capAll_of {X : Cx} {M : MC} {sc : Scope} {names : List Str} {caps : List Nat} (eN : X.N = M.N) (es : X.env.scope = M.sc)
  (h : (caps.all fun j => decide (j < M.N.length) && !((relS sc M.sc).names.lookup (M.N.getD j Str.empty) == some .local)) = true) :
  Caps X sc (names ++ caps.map (fun j => M.N.getD j Str.empty)) (capV names.length caps) := by
 intro σ hl
 simp only [List.all_eq_true, Bool.and_eq_true, decide_eq_true_eq, Bool.not_eq_true'] at h
 refine ⟨by simp [capV], fun i x v hN hσ _ => ?_⟩
 obtain ⟨hk, j, ej, e⟩ := cap_get hσ
 rw [List.getElem?_append_right hk, List.getElem?_map, ej] at hN
 have hx : M.N.getD j Str.empty = x := Option.some.inj hN
 have hj := h j (List.mem_of_getElem? ej)
 rw [relS_eq es]
 refine ⟨fun z => ?_, j, ?_, e⟩
 ·have := hj.2
  rw [hx, z] at this
  simp at this
 ·rw [eN, ← hx, List.getD_eq_getElem?_getD, List.getElem?_eq_getElem hj.1]
  rfl
theorem lc_low {K : Frg} {J : It} {H1 : Hp} {items : List W} {stab : Hw → Prop} {G1 : Hw} {σ : St3} {τ : L2.St} {tg : ITg} {c : T3} {e : E3} {Q : VK} {H0 : Hp} (mc : MonoT c) (me : MonoE e) (it : ItIs K J H1 items stab) (ab : Abs K H1 G1) (hs : RepSt K H1 σ τ) (g0 : Grow K H0 H1)
  (hw : ∀ w G' (Q : St3 → Hw → Prop), semG tg w σ G' Q → semG tg w σ G' fun σ2 G2 => (σ2.length = σ.length ∧ ∀ (i : Nat) (v : W), σ[i]? = some (some v) → σ2[i]? = some (some v)) ∧ Q σ2 G2)
  (h : lcR items stab G1 (fun w G' K => semG tg w σ G' fun σ2 G2 => c σ2 G2 fun b G3 => if b = true then e σ2 G3 fun x G4 => K (some x) G4 else K none G3) (lowQ K H0 Q)) :
  tLCb J τ (lowG K (semG tg)) (lowT K c) (lowE K e) (fun acc H' => ∀ p, H' p = none → Q (.ref p) (upd H' p (.lst acc))) H1 := by
 obtain ⟨Pv, p0, pst, hlen, step, fin⟩ := h
 refine ⟨fun i m τ acc H => m + i = items.length ∧ Grow K H1 H ∧ RepSt K H σ τ ∧ ∃ ws G, Reps K H ws acc ∧ Abs K H G ∧ Pv i ws G, ⟨items.length, rfl, .refl, hs, [], G1, rfl, ab, p0⟩, ?_⟩
 rintro i m τ acc H ⟨hm, gr, hs, ws, G, rs, a, pv⟩
 have hst := pst i ws G pv (by omega)
 have hacc : acc.length = ws.length := rs.length
 by_cases hi : i < items.length
 ·refine .inr ⟨it.go i H G gr a hst.1 hi, by omega, fun x H' y => ?_⟩
  obtain ⟨w, ew, g1, rp, a1⟩ := it.yld i H G x H' gr a hst.1 hi y
  refine ⟨w, σ, G, rp, hs.mono g1, a1, monoG tg w σ G _ _ (fun σ2 G2 q τ2 H2 g2 hs2 a2 => ?_) (hw w G _ (step i w ws G ew pv))⟩
  obtain ⟨⟨wl, wk⟩, q⟩ := q
  have back : ∀ {τ' : L2.St} {H' : Hp}, RepSt K H' σ2 τ' → RepSt K H' σ τ' := fun {τ' H'} r => ⟨by rw [← wl]; exact r.1, fun k w e => r.2 k w (wk k w e)⟩
  refine bindT mc hs2 a2 q fun b G3 H3 g3 hs3 a3 q3 => ?_
  cases b with
  | true =>
   rw [if_pos rfl] at q3 ⊢
   refine bindE me hs3 a3 q3 fun x G4 v H4 g4 hs4 rx a4 q4 => ?_
   refine ⟨m - 1, by omega, by omega, gr.trans (g1.trans (g2.trans (g3.trans g4))), back hs4, ws ++ [x], G4, ?_, a4, q4⟩
   exact (rs.mono (g1.trans (g2.trans (g3.trans g4)))).append ⟨v, [], rfl, rx, rfl⟩
  | false =>
   rw [if_neg (by decide)] at q3 ⊢
   exact ⟨m - 1, by omega, by omega, gr.trans (g1.trans (g2.trans g3)), back hs3, ws, G3, rs.mono (g1.trans (g2.trans g3)), a3, q3⟩
 ·refine .inl ⟨it.stop i H G gr a hst.1 (by omega), fun p hp => ?_⟩
  have ei : i = items.length := by omega
  subst ei
  exact fin ws G pv p (a.free hp) _ _ ((g0.trans gr).trans (grow_new hp)) rfl (a.new hp ⟨acc, rfl, rs.mono (grow_new hp)⟩)
end L3
set_option Elab.async false
set_option linter.all false
set_option maxRecDepth 100000
set_option maxHeartbeats 8000000
namespace L3
open PySem PySem.Spec PyProof.Rows L2 PySem.SeqAt
theorem semG_keep : ∀ (tg : ITg) (w : W) (σ : St3) (G : Hw) (Q : St3 → Hw → Prop), semG tg w σ G Q → semG tg w σ G fun σ2 G2 => σ2.length = σ.length ∧ Q σ2 G2 := by
 intro tg
 refine ITg.rec (motive_1 := fun _ => True) (motive_2 := fun _ => True) (motive_3 := fun _ => True) (motive_4 := fun _ => True) (motive_5 := fun tg => ∀ (w : W) (σ : St3) (G : Hw) (Q : St3 → Hw → Prop), semG tg w σ G Q → semG tg w σ G fun σ2 G2 => σ2.length = σ.length ∧ Q σ2 G2)
  (motive_6 := fun ts => ∀ (ws : List W) (σ : St3) (G : Hw) (Q : St3 → Hw → Prop), semGs ts ws σ G Q → semGs ts ws σ G fun σ2 G2 => σ2.length = σ.length ∧ Q σ2 G2)
  ?_ ?_ ?_ ?_ ?_ ?_ ?_ ?_ ?_ ?_ ?_ ?_ ?_ ?_ ?_ ?_ ?_ ?_ ?_ ?_ ?_ ?_ ?_ ?_ ?_ ?_ ?_ ?_ ?_ ?nm ?tup ?nil ?cons tg
 case nm => exact fun i w σ G Q h => ⟨by simp, h⟩
 case tup =>
  intro ts ih w σ G Q h
  cases w with
  | tup ws => exact ih ws σ G Q h
  | _ => exact h.elim
 case nil =>
  intro ws σ G Q h
  cases ws with
  | nil => exact ⟨rfl, h⟩
  | cons _ _ => exact h.elim
 case cons =>
  intro t ts ht hts ws σ G Q h
  cases ws with
  | nil => exact h.elim
  | cons w r =>
   refine monoG t w σ G _ _ (fun σ' G' q => ?_) (ht w σ G _ h)
   exact monoGs ts r σ' G' _ _ (fun σ2 G2 q2 => ⟨q2.1.trans q.1, q2.2⟩) (hts r σ' G' Q q.2)
 all_goals intros; trivial
mutual
theorem semG_off : ∀ (tg : ITg) (w : W) (σ : St3) (G : Hw) (Q : St3 → Hw → Prop), semG tg w σ G Q → semG tg w σ G fun σ2 G2 => (∀ i, i ∉ tgIx tg → σ2[i]? = σ[i]?) ∧ Q σ2 G2
 | .nm j, w, σ, G, Q, h => ⟨fun i hi => by rw [List.getElem?_set_ne]; intro z; exact hi (by simp [tgIx, z]), h⟩
 | .tup ts, w, σ, G, Q, h => by
  cases w with
  | tup ws => exact semGs_off ts ws σ G Q h
  | _ => exact h.elim
theorem semGs_off : ∀ (ts : ITgs) (ws : List W) (σ : St3) (G : Hw) (Q : St3 → Hw → Prop), semGs ts ws σ G Q → semGs ts ws σ G fun σ2 G2 => (∀ i, i ∉ tgIxs ts → σ2[i]? = σ[i]?) ∧ Q σ2 G2
 | .nil, ws, σ, G, Q, h => by
  cases ws with
  | nil => exact ⟨fun _ _ => rfl, h⟩
  | cons _ _ => exact h.elim
 | .cons t ts, ws, σ, G, Q, h => by
  cases ws with
  | nil => exact h.elim
  | cons w r =>
   refine monoG t w σ G _ _ (fun σ' G' q => ?_) (semG_off t w σ G _ h)
   refine monoGs ts r σ' G' _ _ (fun σ2 G2 q2 => ⟨fun i hi => ?_, q2.2⟩) (semGs_off ts r σ' G' Q q.2)
   simp only [tgIxs, List.mem_append, not_or] at hi
   rw [q2.1 i hi.2, q.1 i hi.1]
end
theorem dct_rep {K : Frg} {H : Hp} : ∀ (ks : List Str) {ws : List W} {vs : List V} {a : List (Key × W)} {b : List (Key × V)}, Reps K H ws vs → RepKV K H a b →
  RepKV K H ((ks.zip ws).foldl (fun acc kv => dput acc (.inr kv.1) kv.2) a) (((ks.zip vs).map fun kv => ((Sum.inr kv.1 : Key), kv.2)).foldl (fun acc kv => putK acc kv.1 kv.2) b)
 | [], ws, vs, a, b, _, h => by simpa using h
 | k :: ks, [], vs, a, b, hr, h => by rw [show vs = [] from hr]; simpa using h
 | k :: ks, w :: ws, vs, a, b, hr, h => by
  obtain ⟨v, r, e, rw', rr⟩ := hr
  subst e
  simp only [List.zip_cons_cons, List.foldl_cons, List.map_cons]
  exact dct_rep ks rr (h.put rw')
theorem lookup_rep {K : Frg} {H : Hp} {f : Str} {w : W} : ∀ {l : List (Str × W)} {l' : List (Str × V)}, RepKV K H l l' → l.lookup f = some w → ∃ v, l'.lookup f = some v ∧ Rep K H w v
 | [], _, h, e => by cases e
 | p :: r, _, ⟨v, t, e, h, hr⟩, q => by
  subst e
  obtain ⟨n, u⟩ := p
  rw [List.lookup_cons] at q ⊢
  cases hx : f == n with
  | true => rw [hx] at q; cases q; exact ⟨v, rfl, h⟩
  | false => rw [hx] at q; exact lookup_rep hr q
theorem ty_low {K : Frg} {H : Hp} {G : Hw} {w : W} {v : V} {T : String} (r : Rep K H w v) (ab : Abs K H G) (h : tyW G w T) : tyV K T v H := by
 cases w with
 | str x => cases r; exact h
 | ref p =>
  cases r
  simp only [tyW] at h
  split at h
  ·rename_i ws e
   obtain ⟨vs, q, _⟩ := ab.lst e
   exact .inl ⟨h, vs, .of q⟩
  ·rename_i ws e
   obtain ⟨vs, q, _⟩ := ab.seq (a := p) (ws := ws) (by unfold lstOf; rw [e])
   exact .inl ⟨h, vs, q⟩
  ·rename_i kvs e
   obtain ⟨l, q, _⟩ := ab.dic e
   exact .inr (.inr (.inl ⟨h, .inl ⟨l, q⟩⟩))
  ·exact h.elim
 | _ => exact h.elim
theorem memdisj {l : List Nat} {k : Nat} (h : l.all (fun i => decide (i < k)) = true) {i : Nat} (hi : k ≤ i) : i ∉ l := fun hm => by
 have := List.all_eq_true.mp h i hm
 simp at this
 omega
end L3
set_option Elab.async false
set_option linter.all false
set_option maxRecDepth 100000
set_option maxHeartbeats 8000000
namespace L3
open PySem PySem.Spec PyProof.Rows L2 PySem.SeqAt
theorem inv_cmp {op : CmpOp} {a b : IE} {M : MC} {l : Expr} {os : List CmpOp} {rs : List Expr} {q : Pos} (h : mE (.cmp op a b) M (.Compare l os rs q) = true) : ∃ o r, os = [o] ∧ rs = [r] := by
 cases os with
 | nil => exact absurd h Bool.false_ne_true
 | cons o os =>
  cases os with
  | cons _ _ => exact absurd h Bool.false_ne_true
  | nil =>
   cases rs with
   | nil => exact absurd h Bool.false_ne_true
   | cons r rs =>
    cases rs with
    | cons _ _ => exact absurd h Bool.false_ne_true
    | nil => exact ⟨o, r, rfl, rfl⟩
theorem inv_chn {o1 o2 : CmpOp} {a b c : IE} {M : MC} {l : Expr} {os : List CmpOp} {rs : List Expr} {q : Pos} (h : mE (.chn o1 o2 a b c) M (.Compare l os rs q) = true) : ∃ p1 p2 r t, os = [p1, p2] ∧ rs = [r, t] := by
 cases os with
 | nil => exact absurd h Bool.false_ne_true
 | cons p1 os =>
  cases os with
  | nil => exact absurd h Bool.false_ne_true
  | cons p2 os =>
   cases os with
   | cons _ _ => exact absurd h Bool.false_ne_true
   | nil =>
    cases rs with
    | nil => exact absurd h Bool.false_ne_true
    | cons r rs =>
     cases rs with
     | nil => exact absurd h Bool.false_ne_true
     | cons t rs =>
      cases rs with
      | cons _ _ => exact absurd h Bool.false_ne_true
      | nil => exact ⟨p1, p2, r, t, rfl, rfl⟩
theorem inv_ch3 {o1 o2 o3 : CmpOp} {a b c d : IE} {M : MC} {l : Expr} {os : List CmpOp} {rs : List Expr} {q : Pos} (h : mE (.ch3 o1 o2 o3 a b c d) M (.Compare l os rs q) = true) : ∃ p1 p2 p3 r t u, os = [p1, p2, p3] ∧ rs = [r, t, u] := by
 match os, rs, h with
 | [p1, p2, p3], [r, t, u], _ => exact ⟨p1, p2, p3, r, t, u, rfl, rfl⟩
section
variable {X : Cx} {a b c d : Expr} {pos : Pos} {ta tb tc td : TE}
noncomputable def tCh3 (r1 r2 r3 : R2) (ta tb tc td : TE) : TE := fun σ H Q => ta σ H fun x H1 => tb σ H1 fun y H2 => r1 x y H2 fun z H3 => ∃ k, z = .bl k ∧
 (if k = true then tc σ H3 fun u H4 => r2 y u H4 fun z2 H5 => ∃ k2, z2 = .bl k2 ∧ (if k2 = true then td σ H5 fun t H6 => r3 u t H6 Q else Q (.bl false) H5) else Q (.bl false) H3)
theorem pe_ch3 {o1 o2 o3 : CmpOp} {r1 r2 r3 : R2} (h1 : OpR X (compareOp o1) r1) (h2 : OpR X (compareOp o2) r2) (h3 : OpR X (compareOp o3) r3) (ha : PE X a ta) (hb : PE X b tb) (hc : PE X c tc) (hd : PE X d td)
  (hm : lastMarks [o1, o2, o3] [b, c, d] = false) : PE X (.Compare a [o1, o2, o3] [b, c, d] pos) (tCh3 r1 r2 r3 ta tb tc td) := by
 intro pins s σ H Q I h
 refine Compare_chain (thn (ha pins s σ H _ I h) fun v s1 ⟨x, H1, I1, e1, q1⟩ => chain_link (thn (hb pins s1 σ H1 _ I1 q1) fun u s2 ⟨y, H2, I2, e2, q2⟩ =>
  thn (h1 pins s2 σ H2 x y v u _ I2 e1 e2 q2) fun _ s3 ⟨z, H3, I3, e3, k, e, q3⟩ => ?_)) hm
 subst e
 cases e3
 refine wpAny_truthy_bool ?_
 cases k with
 | false => exact ite_ff ⟨.bl false, H3, I3, rfl, q3⟩
 | true =>
  refine ite_tt (chain_link (thn (hc pins s3 σ H3 _ I3 q3) fun w4 s4 ⟨z4, H4, I4, e4, q4⟩ => thn (h2 pins s4 σ H4 y z4 u w4 _ I4 e2 e4 q4) fun _ s5 ⟨z5, H5, I5, e5, k2, e, q5⟩ => ?_))
  subst e
  cases e5
  refine wpAny_truthy_bool ?_
  cases k2 with
  | false => exact ite_ff ⟨.bl false, H5, I5, rfl, q5⟩
  | true => exact ite_tt (chain_last (thn (hd pins s5 σ H5 _ I5 q5) fun w6 s6 ⟨z6, H6, I6, e6, q6⟩ => h3 pins s6 σ H6 z4 z6 w4 w6 Q I6 e4 e6 q6))
theorem pt_ch3 {o1 o2 o3 : CmpOp} {r1 r2 r3 : R2} (h1 : OpR X (compareOp o1) r1) (h2 : OpR X (compareOp o2) r2) (h3 : OpR X (compareOp o3) r3) (ha : PE X a ta) (hb : PE X b tb) (hc : PE X c tc) (hd : PE X d td)
  (hm : lastMarks [o1, o2, o3] [b, c, d] = false) : PT X (.Compare a [o1, o2, o3] [b, c, d] pos) (tTest (tCh3 r1 r2 r3 ta tb tc td)) := by
 intro pins s σ H Q I h
 refine isTrue_chain (thn (ha pins s σ H _ I h) fun v s1 ⟨x, H1, I1, e1, q1⟩ => test_link (thn (hb pins s1 σ H1 _ I1 q1) fun u s2 ⟨y, H2, I2, e2, q2⟩ =>
  thn (h1 pins s2 σ H2 x y v u _ I2 e1 e2 q2) fun _ s3 ⟨z, H3, I3, e3, k, e, q3⟩ => ?_)) hm
 subst e
 cases e3
 refine wpAny_truthy_bool ?_
 cases k with
 | false =>
  obtain ⟨k', e', q'⟩ := q3
  cases e'
  exact ite_ff ⟨H3, I3, q'⟩
 | true =>
  refine ite_tt (test_link (thn (hc pins s3 σ H3 _ I3 q3) fun w4 s4 ⟨z4, H4, I4, e4, q4⟩ => thn (h2 pins s4 σ H4 y z4 u w4 _ I4 e2 e4 q4) fun _ s5 ⟨z5, H5, I5, e5, k2, e, q5⟩ => ?_))
  subst e
  cases e5
  refine wpAny_truthy_bool ?_
  cases k2 with
  | false =>
   obtain ⟨k', e', q'⟩ := q5
   cases e'
   exact ite_ff ⟨H5, I5, q'⟩
  | true =>
   refine ite_tt (test_last (thn (hd pins s5 σ H5 _ I5 q5) fun w6 s6 ⟨z6, H6, I6, e6, q6⟩ => thn (h3 pins s6 σ H6 z4 z6 w4 w6 _ I6 e4 e6 q6) fun _ s7 ⟨z7, H7, I7, e7, k3, e, q7⟩ => ?_))
   subst e
   cases e7
   exact wpAny_truthy_bool ⟨H7, I7, q7⟩
end
section
variable {Γ : Ctx3} {p : Par} (g : Good Γ p)
noncomputable def OkE (Γ : Ctx3) (p : Par) (e : IE) : Prop := ∀ M X x, Lk Γ M p X → mE e M x = true → PE X x (lowE X.K (sem Γ XN e).e) ∧ PT X x (lowT X.K (sem Γ XN e).t) ∧ ∀ op vs pos, x = .BoolOp op vs pos → PW X x (lowT X.K (sem Γ XN e).t)
noncomputable def OkO (Γ : Ctx3) (p : Par) (o : IO) : Prop := ∀ M X, Lk Γ M p X → (∀ x, mO o M x = true → PO X x (lowO X.K (semO Γ XN o))) ∧ ∀ xs, mC o M xs = true → PTs X xs (lowT X.K (semC Γ o))
noncomputable def OkA (Γ : Ctx3) (p : Par) (es : IEs) : Prop := ∀ M X xs, Lk Γ M p X → mA es M xs = true → PA X xs (lowA X.K (semA Γ XN es)) ∧ xs.all noStar = true ∧
 (∀ ks keys pos, keyB ks keys = true → keys.length = xs.length → keys.all (·.isSome) = true ∧ ks.length = keys.length ∧ ∃ trs, PPs X pos keys xs trs ∧ ∀ τ H (Q : List (V × V) → Hp → Prop),
  (∃ σ G, RepSt X.K H σ τ ∧ Abs X.K H G ∧ semA Γ XN es σ G fun ws G' => ∀ vs H', Grow X.K H H' → Reps X.K H' ws vs → Abs X.K H' G' → Q ((ks.zip vs).map fun kv => (V.str kv.1, kv.2)) H') → tPairs trs τ H Q) ∧ EachE X xs (semL Γ es)
noncomputable def OkI (Γ : Ctx3) (p : Par) (it : II) : Prop := ∀ M X x, Lk Γ M p X → mI it M x = true → ∀ tg, PI X tg x (lowI X.K (semI Γ XN it))
theorem ok_mkE {M : MC} {X : Cx} {x : Expr} {e : E3} (m : MonoE e) (h : PE X x (lowE X.K e)) (he : ∀ whole, isTrue x X.env whole = (do let v ← whole; standAt x.pos; holding [v] (truthy v))) (hb : ∀ op vs pos, x ≠ .BoolOp op vs pos) :
  PE X x (lowE X.K (mkE e).e) ∧ PT X x (lowT X.K (mkE e).t) ∧ ∀ op vs pos, x = .BoolOp op vs pos → PW X x (lowT X.K (mkE e).t) :=
 ⟨h, pt_of m h he, fun op vs pos z => absurd z (hb op vs pos)⟩
include g
theorem s_var (i : Nat) : OkE Γ p (.var i) := by
 intro M X x L h
 cases x with
 | Name y q =>
  replace h := bd4 h
  simp only [Bool.not_eq_true'] at h
  refine ok_mkE (M := M) (monoE g.mono XN (.var i)) ((pe_var (i := i) (by rw [L.N]; exact beq_some h.1.1.1) (by rw [L.sc]; exact vis_of h.1.1.2) h.1.2 h.2).imp fun τ H Q q => ?_) (fun _ => rfl) (fun _ _ _ z => nomatch z)
  obtain ⟨σ, G, hs, ab, q⟩ := q
  split at q
  ·rename_i w e
   obtain ⟨v, ev, rp⟩ := hs.2 i w e
   exact ⟨v, ev, q v H .refl rp ab⟩
  ·exact q.elim
 | _ => exact absurd h Bool.false_ne_true
theorem s_con (c : Const) : OkE Γ p (.con c) := by
 intro M X x L h
 cases x with
 | Constant d k q =>
  replace h := of_decide_eq_true h
  subst h
  refine ok_mkE (M := M) (monoE g.mono XN (.con c)) ?_ (fun _ => rfl) (fun _ _ _ z => nomatch z)
  cases c with
  | none => exact pe_non.imp fun τ H Q q => by obtain ⟨σ, G, hs, ab, q⟩ := q; exact q _ H .refl rfl ab
  | bool b => exact pe_bl.imp fun τ H Q q => by obtain ⟨σ, G, hs, ab, q⟩ := q; exact q _ H .refl rfl ab
  | int b => exact pe_int.imp fun τ H Q q => by obtain ⟨σ, G, hs, ab, q⟩ := q; exact q _ H .refl rfl ab
  | str b => exact pe_str.imp fun τ H Q q => by obtain ⟨σ, G, hs, ab, q⟩ := q; exact q _ H .refl rfl ab
  | _ => exact fun pins s σ H Q I q => by obtain ⟨σ, G, hs, ab, q⟩ := q; exact q.elim
 | _ => exact absurd h Bool.false_ne_true
theorem s_glb (i : Nat) : OkE Γ p (.glb i) := by
 intro M X x L h
 cases x with
 | Name y q =>
  replace h := bd2 h
  have gl := gl_of L.sc h.2
  have hi := beq_some h.1
  rw [← L.gls] at hi
  obtain ⟨e, ei, rfl⟩ := map_get hi
  refine ok_mkE (M := M) (monoE g.mono XN (.glb i)) ((g.gl e (mem_get ei) X L.fits gl.1 q gl.2.1 gl.2.2).imp fun τ H Q q => ?_) (fun _ => rfl) (fun _ _ _ z => nomatch z)
  obtain ⟨σ, G, hs, ab, q⟩ := q
  simp only [ei] at q
  exact ⟨σ, G, hs, ab, q⟩
 | _ => exact absurd h Bool.false_ne_true
theorem hu_X {M : MC} {X : Cx} (L : Lk Γ M p X) : X.A.units + 200 < cLine := by rw [L.fits.A]; exact g.un
theorem s_bin (op : Operator) (a b : IE) (ha : OkE Γ p a) (hb : OkE Γ p b) : OkE Γ p (.bin op a b) := by
 intro M X x L h
 cases x with
 | BinOp l o r q =>
  replace h := bd3 h
  simp only [decide_eq_true_eq] at h
  obtain ⟨⟨rfl, h1⟩, h2⟩ := h
  exact ok_mkE (M := M) (monoE g.mono XN (.bin op a b)) ((pe_op (bin_ok op) (ha M X l L h1).1 (hb M X r L h2).1).imp fun τ H Q q => op_low (monoE g.mono XN a) (monoE g.mono XN b) (binR_mono op) q) (fun _ => rfl) (fun _ _ _ z => nomatch z)
 | _ => exact absurd h Bool.false_ne_true
theorem s_neg (a : IE) (ha : OkE Γ p a) : OkE Γ p (.neg a) := by
 intro M X x L h
 cases x with
 | UnaryOp o l q =>
  cases o with
  | USub =>
   skip
   refine ok_mkE (M := M) (monoE g.mono XN (.neg a)) ((pe_un un_neg (ha M X l L h).1).imp fun τ H Q q => ?_) (fun _ => rfl) (fun _ _ _ z => nomatch z)
   obtain ⟨σ, G, hs, ab, q⟩ := q
   refine bindE (monoE g.mono XN a) hs ab q fun w G1 v H1 gr _ rp ab q => ?_
   cases w with
   | int i => cases rp; exact ⟨i, rfl, q _ H1 gr rfl ab⟩
   | _ => exact q.elim
  | _ => exact absurd h Bool.false_ne_true
 | _ => exact absurd h Bool.false_ne_true
theorem s_not (a : IE) (ha : OkE Γ p a) : OkE Γ p (.not a) := by
 intro M X x L h
 cases x with
 | UnaryOp o l q =>
  cases o with
  | Not =>
   skip
   refine ⟨(pe_not (ha M X l L h).1).imp fun τ H Q q => ?_, (pt_not (ha M X l L h).2.1).imp fun τ H Q q => ?_, fun _ _ _ z => nomatch z⟩
   ·obtain ⟨σ, G, hs, ab, q⟩ := q
    refine bindE (monoE g.mono XN a) hs ab q fun w G1 v H1 gr _ rp ab q => ?_
    cases w with
    | bl i => cases rp; exact ⟨i, rfl, q _ H1 gr rfl ab⟩
    | _ => exact q.elim
   ·obtain ⟨σ, G, hs, ab, q⟩ := q
    exact bindT (monoT g.mono XN a) hs ab q fun b G1 H1 gr _ ab q => q H1 gr ab
  | _ => exact absurd h Bool.false_ne_true
 | _ => exact absurd h Bool.false_ne_true
theorem s_cmp (op : CmpOp) (a b : IE) (ha : OkE Γ p a) (hb : OkE Γ p b) : OkE Γ p (.cmp op a b) := by
 intro M X x L h
 cases x with
 | Compare l os rs q =>
   obtain ⟨o, r, rfl, rfl⟩ := inv_cmp h
   replace h := bd4 h
   simp only [decide_eq_true_eq] at h
   obtain ⟨⟨⟨rfl, h1⟩, h2⟩, h3⟩ := h
   have m := monoE g.mono XN (.cmp op a b)
   refine ⟨(pe_cmpR (cmp_ok (hu_X g L) op) (ha M X l L h1).1 (hb M X r L h2).1 (marks_ok h3)).imp fun τ H Q q => op_low (monoE g.mono XN a) (monoE g.mono XN b) (cmpR_mono op) q,
    (pt_cmpR (cmp_ok (hu_X g L) op) (ha M X l L h1).1 (hb M X r L h2).1 (marks_ok h3)).imp fun τ H Q q => op_low (monoE g.mono XN a) (monoE g.mono XN b) (cmpR_mono op) (blE_low m q), fun _ _ _ z => nomatch z⟩
 | _ => exact absurd h Bool.false_ne_true
theorem s_chn (o1 o2 : CmpOp) (a b c : IE) (ha : OkE Γ p a) (hb : OkE Γ p b) (hc : OkE Γ p c) : OkE Γ p (.chn o1 o2 a b c) := by
 intro M X x L h
 cases x with
 | Compare l os rs q =>
   obtain ⟨q1, q2, r, t, rfl, rfl⟩ := inv_chn h
   replace h := bd6 h
   simp only [decide_eq_true_eq] at h
   obtain ⟨⟨⟨⟨⟨rfl, rfl⟩, h1⟩, h2⟩, h3⟩, h4⟩ := h
   have m := monoE g.mono XN (.chn o1 o2 a b c)
   have key : ∀ τ H Q, lowE X.K (sem Γ XN (.chn o1 o2 a b c)).e τ H Q → tChain (low2 X.K (cmpR o1)) (low2 X.K (cmpR o2)) (lowE X.K (sem Γ XN a).e) (lowE X.K (sem Γ XN b).e) (lowE X.K (sem Γ XN c).e) τ H Q := fun τ H Q q => by
    obtain ⟨σ, G, hs, ab, q⟩ := q
    refine bindE (monoE g.mono XN a) hs ab q fun x G1 v H1 g1 hs1 rx a1 q => ?_
    refine bindE (monoE g.mono XN b) hs1 a1 q fun y G2 u H2 g2 hs2 ry a2 q => ?_
    refine ⟨x, y, G2, rx.mono g2, ry, a2, cmpR_mono o1 x y G2 _ _ (fun z G3 q v3 H3 g3 r3 a3 => ?_) q⟩
    cases z with
    | bl k =>
     cases r3
     refine ⟨k, rfl, ?_⟩
     have q : if k = true then _ else _ := q
     split
     ·rename_i hk
      rw [if_pos hk] at q
      refine bindE (monoE g.mono XN c) (hs2.mono g3) a3 q fun w G4 v4 H4 g4 hs4 r4 a4 q => ?_
      exact ⟨y, w, G4, (ry.mono g3).mono g4, r4, a4, cmpR_mono o2 y w G4 _ _ (fun w5 G5 q v5 H5 g5 => q v5 H5 (g1.trans (g2.trans (g3.trans (g4.trans g5))))) q⟩
     ·rename_i hk
      rw [if_neg hk] at q
      exact q _ H3 (g1.trans (g2.trans g3)) rfl a3
    | _ => exact q.elim
   refine ⟨(pe_chain (cmp_ok (hu_X g L) o1) (cmp_ok (hu_X g L) o2) (ha M X l L h1).1 (hb M X r L h2).1 (hc M X t L h3).1 (marks_ok (op := o2) h4)).imp key,
    (pt_chain (cmp_ok (hu_X g L) o1) (cmp_ok (hu_X g L) o2) (ha M X l L h1).1 (hb M X r L h2).1 (hc M X t L h3).1 (marks_ok (op := o2) h4)).imp fun τ H Q q => key _ _ _ (blE_low m q), fun _ _ _ z => nomatch z⟩
 | _ => exact absurd h Bool.false_ne_true
theorem s_ch3 (o1 o2 o3 : CmpOp) (a b c d : IE) (ha : OkE Γ p a) (hb : OkE Γ p b) (hc : OkE Γ p c) (hd : OkE Γ p d) : OkE Γ p (.ch3 o1 o2 o3 a b c d) := by
 intro M X x L h
 cases x with
 | Compare l os rs q =>
   obtain ⟨q1, q2, q3, r, t, t2, rfl, rfl⟩ := inv_ch3 h
   replace h := bd8 h
   simp only [decide_eq_true_eq] at h
   obtain ⟨⟨⟨⟨⟨⟨⟨rfl, rfl⟩, rfl⟩, h1⟩, h2⟩, h3⟩, h4⟩, h5⟩ := h
   have m := monoE g.mono XN (.ch3 o1 o2 o3 a b c d)
   have key : ∀ τ H Q, lowE X.K (sem Γ XN (.ch3 o1 o2 o3 a b c d)).e τ H Q → tCh3 (low2 X.K (cmpR o1)) (low2 X.K (cmpR o2)) (low2 X.K (cmpR o3)) (lowE X.K (sem Γ XN a).e) (lowE X.K (sem Γ XN b).e) (lowE X.K (sem Γ XN c).e) (lowE X.K (sem Γ XN d).e) τ H Q := fun τ H Q q => by
    obtain ⟨σ, G, hs, ab, q⟩ := q
    refine bindE (monoE g.mono XN a) hs ab q fun x G1 v H1 g1 hs1 rx a1 q => ?_
    refine bindE (monoE g.mono XN b) hs1 a1 q fun y G2 u H2 g2 hs2 ry a2 q => ?_
    refine ⟨x, y, G2, rx.mono g2, ry, a2, cmpR_mono o1 x y G2 _ _ (fun z G3 q v3 H3 g3 r3 a3 => ?_) q⟩
    cases z with
    | bl k =>
     cases r3
     refine ⟨k, rfl, ?_⟩
     have q : if k = true then _ else _ := q
     split
     ·rename_i hk
      rw [if_pos hk] at q
      refine bindE (monoE g.mono XN c) (hs2.mono g3) a3 q fun w G4 v4 H4 g4 hs4 r4 a4 q => ?_
      refine ⟨y, w, G4, (ry.mono g3).mono g4, r4, a4, cmpR_mono o2 y w G4 _ _ (fun z5 G5 q v5 H5 g5 r5 a5 => ?_) q⟩
      cases z5 with
      | bl k2 =>
       cases r5
       refine ⟨k2, rfl, ?_⟩
       have q : if k2 = true then _ else _ := q
       split
       ·rename_i hk2
        rw [if_pos hk2] at q
        refine bindE (monoE g.mono XN d) (hs4.mono g5) a5 q fun w6 G6 v6 H6 g6 hs6 r6 a6 q => ?_
        exact ⟨w, w6, G6, (r4.mono g5).mono g6, r6, a6, cmpR_mono o3 w w6 G6 _ _ (fun w7 G7 q v7 H7 g7 => q v7 H7 (g1.trans (g2.trans (g3.trans (g4.trans (g5.trans (g6.trans g7))))))) q⟩
       ·rename_i hk2
        rw [if_neg hk2] at q
        exact q _ H5 (g1.trans (g2.trans (g3.trans (g4.trans g5)))) rfl a5
      | _ => exact q.elim
     ·rename_i hk
      rw [if_neg hk] at q
      exact q _ H3 (g1.trans (g2.trans g3)) rfl a3
    | _ => exact q.elim
   refine ⟨(pe_ch3 (cmp_ok (hu_X g L) o1) (cmp_ok (hu_X g L) o2) (cmp_ok (hu_X g L) o3) (ha M X l L h1).1 (hb M X r L h2).1 (hc M X t L h3).1 (hd M X t2 L h4).1 (marks_ok (op := o3) h5)).imp key,
    (pt_ch3 (cmp_ok (hu_X g L) o1) (cmp_ok (hu_X g L) o2) (cmp_ok (hu_X g L) o3) (ha M X l L h1).1 (hb M X r L h2).1 (hc M X t L h3).1 (hd M X t2 L h4).1 (marks_ok (op := o3) h5)).imp fun τ H Q q => key _ _ _ (blE_low m q), fun _ _ _ z => nomatch z⟩
 | _ => exact absurd h Bool.false_ne_true
theorem s_and (a b : IE) (ha : OkE Γ p a) (hb : OkE Γ p b) : OkE Γ p (.and a b) := by
 intro M X x L h
 have e1 : ∀ τ H Q, lowE X.K (sem Γ XN (.and a b)).e τ H Q → tAndV (lowE X.K (sem Γ XN a).e) (lowE X.K (sem Γ XN b).e) τ H Q := fun τ H Q q => by
  obtain ⟨σ, G, hs, ab, q⟩ := q
  refine bindE (monoE g.mono XN a) hs ab q fun w G1 v H1 g1 hs1 rx a1 q => ?_
  cases w with
  | bl k =>
   cases rx
   refine ⟨k, rfl, ?_⟩
   have q : if k = true then _ else _ := q
   split
   ·rename_i hk
    rw [if_pos hk] at q
    exact ⟨σ, G1, hs1, a1, monoE g.mono XN b σ G1 _ _ (fun w G' q v' H' g' => q v' H' (g1.trans g')) q⟩
   ·rename_i hk
    rw [if_neg hk] at q
    exact q _ H1 g1 rfl a1
  | _ => exact q.elim
 have e2 : ∀ τ H Q, lowT X.K (sem Γ XN (.and a b)).t τ H Q → tAnd (lowT X.K (sem Γ XN a).t) (lowT X.K (sem Γ XN b).t) τ H Q := fun τ H Q q => by
  obtain ⟨σ, G, hs, ab, q⟩ := q
  refine bindT (monoT g.mono XN a) hs ab q fun k G1 H1 g1 hs1 a1 q => ?_
  split
  ·rename_i hk
   rw [if_pos hk] at q
   exact ⟨σ, G1, hs1, a1, monoT g.mono XN b σ G1 _ _ (fun w G' q H' g' => q H' (g1.trans g')) q⟩
  ·rename_i hk
   rw [if_neg hk] at q
   exact q H1 g1 a1
 cases x with
 | BoolOp o vs q =>
  match o, vs, h with
  | .And, [l, r], h =>
   replace h := bd2 h
   have A := ha M X l L h.1
   have B := hb M X r L h.2
   have W2 : PW X (.BoolOp .And [l, r] q) (lowT X.K (sem Γ XN (.and a b)).t) := (pw_and A.2.1 (pw_and1 B.2.1)).imp e2
   exact ⟨(pe_and A.1 (pe_one B.1)).imp e1, W2.pt, fun _ _ _ _ => W2⟩
  | .And, l :: r :: q' :: rest, h =>
   replace h := bd2 h
   have A := ha M X l L h.1
   have B := hb M X _ L h.2
   have W2 : PW X (.BoolOp .And (l :: r :: q' :: rest) q) (lowT X.K (sem Γ XN (.and a b)).t) := (pw_and A.2.1 (B.2.2 _ _ _ rfl)).imp e2
   exact ⟨(pe_and A.1 B.1).imp e1, W2.pt, fun _ _ _ _ => W2⟩
 | _ => exact absurd h Bool.false_ne_true
theorem s_or (a b : IE) (ha : OkE Γ p a) (hb : OkE Γ p b) : OkE Γ p (.or a b) := by
 intro M X x L h
 have e1 : ∀ τ H Q, lowE X.K (sem Γ XN (.or a b)).e τ H Q → tOrV (lowE X.K (sem Γ XN a).e) (lowE X.K (sem Γ XN b).e) τ H Q := fun τ H Q q => by
  obtain ⟨σ, G, hs, ab, q⟩ := q
  refine bindE (monoE g.mono XN a) hs ab q fun w G1 v H1 g1 hs1 rx a1 q => ?_
  cases w with
  | bl k =>
   cases rx
   refine ⟨k, rfl, ?_⟩
   have q : if k = true then _ else _ := q
   split
   ·rename_i hk
    rw [if_pos hk] at q
    exact q _ H1 g1 rfl a1
   ·rename_i hk
    rw [if_neg hk] at q
    exact ⟨σ, G1, hs1, a1, monoE g.mono XN b σ G1 _ _ (fun w G' q v' H' g' => q v' H' (g1.trans g')) q⟩
  | _ => exact q.elim
 have e2 : ∀ τ H Q, lowT X.K (sem Γ XN (.or a b)).t τ H Q → tOr (lowT X.K (sem Γ XN a).t) (lowT X.K (sem Γ XN b).t) τ H Q := fun τ H Q q => by
  obtain ⟨σ, G, hs, ab, q⟩ := q
  refine bindT (monoT g.mono XN a) hs ab q fun k G1 H1 g1 hs1 a1 q => ?_
  split
  ·rename_i hk
   rw [if_pos hk] at q
   exact q H1 g1 a1
  ·rename_i hk
   rw [if_neg hk] at q
   exact ⟨σ, G1, hs1, a1, monoT g.mono XN b σ G1 _ _ (fun w G' q H' g' => q H' (g1.trans g')) q⟩
 cases x with
 | BoolOp o vs q =>
  match o, vs, h with
  | .Or, [l, r], h =>
   replace h := bd2 h
   have A := ha M X l L h.1
   have B := hb M X r L h.2
   have W2 : PW X (.BoolOp .Or [l, r] q) (lowT X.K (sem Γ XN (.or a b)).t) := (pw_or A.2.1 (pw_or1 B.2.1)).imp e2
   exact ⟨(pe_or A.1 (pe_one B.1)).imp e1, W2.pt, fun _ _ _ _ => W2⟩
  | .Or, l :: r :: q' :: rest, h =>
   replace h := bd2 h
   have A := ha M X l L h.1
   have B := hb M X _ L h.2
   have W2 : PW X (.BoolOp .Or (l :: r :: q' :: rest) q) (lowT X.K (sem Γ XN (.or a b)).t) := (pw_or A.2.1 (B.2.2 _ _ _ rfl)).imp e2
   exact ⟨(pe_or A.1 B.1).imp e1, W2.pt, fun _ _ _ _ => W2⟩
 | _ => exact absurd h Bool.false_ne_true
theorem s_ite (c a b : IE) (hc : OkE Γ p c) (ha : OkE Γ p a) (hb : OkE Γ p b) : OkE Γ p (.ite c a b) := by
 intro M X x L h
 cases x with
 | IfExp t l r q =>
  replace h := bd3 h
  refine ⟨(pe_ifExp (hc M X t L h.1.1).2.1 (ha M X l L h.1.2).1 (hb M X r L h.2).1).imp fun τ H Q q => ?_, fun _ _ _ _ _ _ q => ?_, fun _ _ _ z => nomatch z⟩
  ·obtain ⟨σ, G, hs, ab, q⟩ := q
   refine bindT (monoT g.mono XN c) hs ab q fun k G1 H1 g1 hs1 a1 q => ?_
   split
   ·rename_i hk
    rw [if_pos hk] at q
    exact ⟨σ, G1, hs1, a1, monoE g.mono XN a σ G1 _ _ (fun w G' q v' H' g' => q v' H' (g1.trans g')) q⟩
   ·rename_i hk
    rw [if_neg hk] at q
    exact ⟨σ, G1, hs1, a1, monoE g.mono XN b σ G1 _ _ (fun w G' q v' H' g' => q v' H' (g1.trans g')) q⟩
  ·obtain ⟨_, _, _, _, z⟩ := q
   exact z.elim
 | _ => exact absurd h Bool.false_ne_true
theorem s_ix (a i : IE) (ha : OkE Γ p a) (hb : OkE Γ p i) : OkE Γ p (.ix a i) := by
 intro M X x L h
 cases x with
 | Subscript l r q =>
  replace h := bd3 h
  exact ok_mkE (M := M) (monoE g.mono XN (.ix a i)) ((pe_ix (ix_ok (hu_X g L)) (ha M X l L h.1.1).1 (hb M X r L h.1.2).1 (plain_ok h.2)).imp fun τ H Q q => op_low (monoE g.mono XN a) (monoE g.mono XN i) ixR_mono q) (fun _ => rfl) (fun _ _ _ z => nomatch z)
 | _ => exact absurd h Bool.false_ne_true
theorem s_sl (a : IE) (lo hi : IO) (ha : OkE Γ p a) (hl : OkO Γ p lo) (hh : OkO Γ p hi) : OkE Γ p (.sl a lo hi) := by
  intro M X x L h
  cases x with
  | Subscript l r q =>
    cases r with
    | Slice y z sp q2 =>
     cases sp with
     | none =>
      replace h := bd3 h
      refine ok_mkE (M := M) (monoE g.mono XN (.sl a lo hi)) ((pe_slice sl_ok (ha M X l L h.1.1).1 ((hl M X L).1 y h.1.2) ((hh M X L).1 z h.2)).imp fun τ H Q q => ?_) (fun _ => rfl) (fun _ _ _ z => nomatch z)
      obtain ⟨σ, G, hs, ab, q⟩ := q
      refine bindE (monoE g.mono XN a) hs ab q fun w G1 v H1 g1 hs1 rx a1 q => ?_
      refine ⟨σ, G1, hs1, a1, monoO g.mono XN lo σ G1 _ _ (fun o G2 q H2 g2 a2 => ?_) q⟩
      refine ⟨σ, G2, hs1.mono g2, a2, monoO g.mono XN hi σ G2 _ _ (fun o2 G3 q H3 g3 a3 => ?_) q⟩
      exact ⟨w, G3, (rx.mono g2).mono g3, a3, slR_mono (fun w' G' q v' H' g' => q v' H' (g1.trans (g2.trans (g3.trans g')))) q⟩
     | some _ => exact absurd h Bool.false_ne_true
    | _ => exact absurd h Bool.false_ne_true
  | _ => exact absurd h Bool.false_ne_true
theorem s_tup (es : IEs) (hs : OkA Γ p es) : OkE Γ p (.tup es) := by
 intro M X x L h
 cases x with
 | Tuple xs k q =>
  skip
  refine ok_mkE (M := M) (monoE g.mono XN (.tup es)) ((pe_tup (hs M X xs L h).1).imp fun τ H Q q => ?_) (fun _ => rfl) (fun _ _ _ z => nomatch z)
  obtain ⟨σ, G, hs', ab, q⟩ := q
  refine bindA (monoA g.mono XN es) hs' ab q fun ws G1 vs H1 g1 hs1 rs a1 q => ⟨by rw [rs.length]; exact q.1, new_tup a1 rs fun v' H' g' => q.2 v' H' (g1.trans g')⟩
 | _ => exact absurd h Bool.false_ne_true
theorem s_lst (es : IEs) (hs : OkA Γ p es) : OkE Γ p (.lst es) := by
 intro M X x L h
 cases x with
 | List xs q =>
  skip
  refine ok_mkE (M := M) (monoE g.mono XN (.lst es)) ((pe_lst (hs M X xs L h).1).imp fun τ H Q q => ?_) (fun _ => rfl) (fun _ _ _ z => nomatch z)
  obtain ⟨σ, G, hs', ab, q⟩ := q
  refine bindA (monoA g.mono XN es) hs' ab q fun ws G1 vs H1 g1 hs1 rs a1 q => ⟨by rw [rs.length]; exact q.1, new_lst a1 rs fun r hr v' H' g' => q.2 r hr v' H' (g1.trans g')⟩
 | _ => exact absurd h Bool.false_ne_true
theorem semA_nil {Γ : Ctx3} {M : MC} {es : IEs} {xs : List Expr} (h : mA es M xs = true) : xs = [] → ∀ σ G Q, semA Γ XN es σ G Q → Q [] G := by
 rintro rfl σ G Q q
 cases es with
 | nil => exact q
 | cons _ _ => exact absurd h Bool.false_ne_true
theorem s_call (f : Nat) (es : IEs) (hs : OkA Γ p es) : OkE Γ p (.call f es) := by
  intro M X x L h
  cases x with
  | Call fn xs kw q =>
    cases fn with
    | Name y qy =>
     cases kw with
     | nil =>
      replace h := bd3 h
      have gl := gl_of L.sc h.1.2
      have hi := beq_some h.1.1
      rw [← L.fns] at hi
      obtain ⟨e, ei, rfl⟩ := map_get hi
      have A := hs M X xs L h.2
      refine ok_mkE (M := M) (monoE g.mono XN (.call f es)) ((g.fn e (mem_get ei) X L.fits gl.1 xs (semA Γ XN es) qy q (monoA g.mono XN es) A.2.1 A.1 (semA_nil g h.2) gl.2.1 gl.2.2).imp fun τ H Q q => ?_) (fun _ => rfl) (fun _ _ _ z => nomatch z)
      obtain ⟨σ, G, hs', ab, q⟩ := q
      refine ⟨σ, G, hs', ab, monoA g.mono XN es σ G _ _ (fun ws G1 q => ?_) q⟩
      simp only [ei] at q
      exact q
     | cons _ _ => exact absurd h Bool.false_ne_true
    | _ => exact absurd h Bool.false_ne_true
  | _ => exact absurd h Bool.false_ne_true
theorem s_spc (i : Nat) (es : IEs) (hs : OkA Γ p es) : OkE Γ p (.spc i es) := by
 intro M X x L h
 replace h := bd2 h
 replace h := h.2
 split at h
 ·rename_i m hm
  split at h
  ·rename_i xs hx
   rw [← L.sxs] at hm
   obtain ⟨k, ek, rfl⟩ := map_get hm
   have A := hs M X xs L h
   have q := g.sx k (mem_get ek) X L.fits x xs (semL Γ es) (by rw [L.sc]; exact hx) A.2.2.2 A.2.1 (by rw [← semA_seq]; exact A.1)
   refine ok_mkE (M := M) (monoE g.mono XN (.spc i es)) (q.1.imp fun τ H Q q => ?_) q.2.1 q.2.2
   obtain ⟨σ, G, hs', ab, q⟩ := q
   refine ⟨σ, G, hs', ab, ?_⟩
   rw [← semA_seq]
   refine monoA g.mono XN es σ G _ _ (fun ws G1 q => ?_) q
   simp only [ek] at q
   exact q
  ·exact absurd h Bool.false_ne_true
 ·exact absurd h Bool.false_ne_true
theorem s_mth (m : Nat) (o : IE) (es : IEs) (ho : OkE Γ p o) (hs : OkA Γ p es) : OkE Γ p (.mth m o es) := by
  intro M X x L h
  cases x with
  | Call fn xs kw q =>
    cases fn with
    | Attribute l y qy =>
     cases kw with
     | nil =>
      replace h := bd6 h
      simp only [decide_eq_true_eq] at h
      have hi := beq_some h.1.1.1.1.1
      rw [← L.mts] at hi
      obtain ⟨e, ei, rfl⟩ := map_get hi
      have A := hs M X xs L h.2
      have B := ho M X l L h.1.2
      refine ok_mkE (M := M) (monoE g.mono XN (.mth m o es)) ((g.mt e (mem_get ei) X L.fits l xs (sem Γ XN o).e (semA Γ XN es) qy q (monoE g.mono XN o) (monoA g.mono XN es) h.1.1.1.1.2 h.1.1.1.2 h.1.1.2 A.2.1 B.1 A.1 (semA_nil g h.2)).imp fun τ H Q q => ?_) (fun _ => rfl) (fun _ _ _ z => nomatch z)
      obtain ⟨σ, G, hs', ab, q⟩ := q
      refine ⟨σ, G, hs', ab, monoE g.mono XN o σ G _ _ (fun w G1 q => ?_) q⟩
      simp only [ei] at q
      exact q
     | cons _ _ => exact absurd h Bool.false_ne_true
    | _ => exact absurd h Bool.false_ne_true
  | _ => exact absurd h Bool.false_ne_true
theorem s_att (o : IE) (f : Str) (ho : OkE Γ p o) : OkE Γ p (.att o f) := by
 intro M X x L h
 cases x with
 | Attribute l y q =>
  replace h := bd3 h
  simp only [beq_iff_eq] at h
  obtain ⟨⟨rfl, h1⟩, h2⟩ := h
  refine ok_mkE (M := M) (monoE g.mono XN (.att o y)) ((pe_fld (ho M X l L h2).1 (attBase_ok h1)).imp fun τ H Q q => ?_) (fun _ => rfl) (fun _ _ _ z => nomatch z)
  obtain ⟨σ, G, hs, ab, q⟩ := q
  refine bindE (monoE g.mono XN o) hs ab q fun w G1 v H1 g1 hs1 rx a1 q => ?_
  cases w with
  | ref a =>
   cases rx
   simp only [attR] at q
   split at q
   ·rename_i C fs e
    obtain ⟨⟨l, hl, hf⟩, q⟩ := q
    split at q
    ·rename_i w' ew
     obtain ⟨dx, fs', e', rk⟩ := a1.ins e
     obtain ⟨v', ev, rv⟩ := lookup_rep rk ew
     have c := g.cl _ hl
     exact ⟨a, C, dx, fs', v', rfl, e', by rw [L.fits.K]; exact c.1, by rw [L.fits.K]; exact c.2 y hf, ev, q _ H1 g1 rv a1⟩
    ·exact q.elim
   ·exact q.elim
  | _ => exact q.elim
 | _ => exact absurd h Bool.false_ne_true
end
end L3
set_option Elab.async false
set_option linter.all false
set_option maxRecDepth 100000
set_option maxHeartbeats 8000000
namespace L3
open PySem PySem.Spec PyProof.Rows L2 PySem.SeqAt
section
variable {Γ : Ctx3} {p : Par} (g : Good Γ p)
include g
theorem s_dct (ks : List Str) (es : IEs) (hs : OkA Γ p es) : OkE Γ p (.dct ks es) := by
 intro M X x L h
 cases x with
 | Dict keys xs q =>
  replace h := bd5 h
  simp only [decide_eq_true_eq, Bool.not_eq_true'] at h
  obtain ⟨⟨⟨⟨h1, h2⟩, h3⟩, h4⟩, h5⟩ := h
  obtain ⟨all, ek, trs, pp, low⟩ := (hs M X xs L h2).2.2.1 ks keys q h1 h3
  have h0 : keys ≠ [] := by
   intro z; rw [z] at ek
   cases ks with
   | nil => cases h5
   | cons _ _ => cases ek
  refine ok_mkE (M := M) (monoE g.mono XN (.dct ks es)) ((pe_disp pp all h3 h0 h4).imp fun τ H Q q => ?_) (fun _ => rfl) (fun _ _ _ z => nomatch z)
  intro a ha
  obtain ⟨σ, G, hs', ab, q⟩ := q
  have gr : Grow X.K H (upd H a (.dK [])) := grow_new ha
  refine low τ _ _ ⟨σ, put G a (.dic []), hs'.mono gr, ab.new ha ⟨[], rfl, rfl⟩, monoA g.mono XN es σ _ _ _ (fun ws G1 q vs H1 g1 rs a1 => ?_) (q a (ab.free ha))⟩
  obtain ⟨q1, q2, q3⟩ := q
  obtain ⟨l, e, rl⟩ := a1.dic q1
  have el : l = [] := by
   cases l with
   | nil => rfl
   | cons _ _ => cases rl
  subst el
  refine ⟨e, (ks.zip vs).map (fun kv => ((Sum.inr kv.1 : Key), kv.2)), by rw [List.map_map]; rfl, ?_, ?_⟩
  ·rw [List.length_map, List.length_zip]; omega
  ·have gr2 : Grow X.K H1 (upd H1 a (.dK (mergeK [] ((ks.zip vs).map fun kv => ((Sum.inr kv.1 : Key), kv.2))))) := a1.grow q1
   exact q3 _ _ (gr.trans (g1.trans gr2)) rfl (a1.chg q1 ⟨_, rfl, dct_rep ks (rs.mono gr2) rfl⟩)
 | _ => exact absurd h Bool.false_ne_true
theorem s_lc_core (tg : ITg) (names : List Str) (caps : List Nat) (it : II) (c : IO) (elt : IE) (hi : OkI Γ p it) (hc : OkO Γ p c) (he : OkE Γ p elt) {M : MC} {X : Cx} (L : Lk Γ M p X) {x t ix : Expr} {ifs : List Expr} {sc : Scope}
  (h : (blkB M.sc sc && noSet ix && nodupB (names ++ caps.map (fun j => M.N.getD j Str.empty)) && (caps.all fun j => decide (j < M.N.length) && !((relS sc M.sc).names.lookup (M.N.getD j Str.empty) == some .local)) &&
    mI it M ix && ((tgIx tg).all fun i => decide (i < names.length)) && mG { M with sc := relS sc M.sc, N := names ++ caps.map (fun j => M.N.getD j Str.empty), own := false } tg t && mC c { M with sc := relS sc M.sc, N := names ++ caps.map (fun j => M.N.getD j Str.empty), own := false } ifs && mE elt { M with sc := relS sc M.sc, N := names ++ caps.map (fun j => M.N.getD j Str.empty), own := false } x) = true) :
  PI X t ix (lowI X.K (semI Γ XN it)) ∧ BlkSc X sc ∧ Caps X sc (names ++ caps.map (fun j => M.N.getD j Str.empty)) (capV names.length caps) ∧
  (∀ X', IsBlock X (names ++ caps.map (fun j => M.N.getD j Str.empty)) sc X' → PG X' t (lowG X.K (semG tg))) ∧ (∀ X', IsBlock X (names ++ caps.map (fun j => M.N.getD j Str.empty)) sc X' → PTs X' ifs (lowT X.K (semC Γ c))) ∧
  (∀ X', IsBlock X (names ++ caps.map (fun j => M.N.getD j Str.empty)) sc X' → PE X' x (lowE X.K (sem Γ XN elt).e)) ∧ (∀ y, foldedSetIterable ix X.env y = pure y) ∧
  ∀ τ H Q, lowE X.K (sem Γ XN (.lc tg names caps it c elt)).e τ H Q → tLC (lowI X.K (semI Γ XN it)) (capV names.length caps) (lowG X.K (semG tg)) (lowT X.K (semC Γ c)) (lowE X.K (sem Γ XN elt).e) τ H Q := by
 simp only [Bool.and_eq_true] at h
 obtain ⟨⟨⟨⟨⟨⟨⟨⟨h1, h2⟩, h3⟩, h4⟩, h5⟩, h6⟩, h7⟩, h8⟩, h9⟩ := h
 have lk : ∀ X', IsBlock X (names ++ caps.map (fun j => M.N.getD j Str.empty)) sc X' → Lk Γ { M with sc := relS sc M.sc, N := names ++ caps.map (fun j => M.N.getD j Str.empty), own := false } p X' := fun X' b =>
  ⟨⟨b.prog.trans L.fits.prog, b.w.trans L.fits.w, b.K.trans L.fits.K, b.mg.trans L.fits.mg, b.base.trans L.fits.base, b.A.trans L.fits.A, b.calm.trans L.fits.calm, b.xe⟩, b.N, b.scope.trans (relS_eq L.sc), nodup_of h3, (fun z => nomatch z), (blk_of L.sc h1).kind, L.fns, L.gls, L.mts, L.its, L.sxs, L.ixs⟩
 refine ⟨hi M X ix L h5 t, blk_of L.sc h1, capAll_of L.N L.sc h4, fun X' b => ?_, fun X' b => ?_, fun X' b => ?_, folded_ok h2, fun τ H Q q => ?_⟩
 ·rw [← b.K]; exact sndG (lk X' b) tg t h7
 ·rw [← b.K]; exact (hc _ X' (lk X' b)).2 ifs h8
 ·rw [← b.K]; exact (he _ X' x (lk X' b) h9).1
 ·obtain ⟨σ, G, hs, ab, q⟩ := q
  refine ⟨σ, G, hs, ab, monoI g.mono XN it σ G _ _ (fun items stab G1 q J H1 g1 a1 ii => ?_) q⟩
  refine lc_low (monoC g.mono c) (monoE g.mono XN elt) ii a1 (cap_rep (hs.mono g1) names.length caps) g1 (fun w G' Q' z => ?_) q
  refine monoG tg w _ G' _ _ (fun σ2 G2 z => ⟨⟨z.2.1, fun i v e => ?_⟩, z.2.2⟩) (semG_off tg w _ G' _ (semG_keep tg w _ G' _ z))
  have hk := (cap_get e).1
  rw [z.1 i (memdisj h6 hk)]
  exact e
theorem s_lc (tg : ITg) (names : List Str) (caps : List Nat) (it : II) (c : IO) (elt : IE) (hi : OkI Γ p it) (hc : OkO Γ p c) (he : OkE Γ p elt) : OkE Γ p (.lc tg names caps it c elt) := by
 intro M X x L h
 cases x with
 | ListComp x gens sc q =>
  match gens, h with
  | [⟨t, ix, ifs, asy⟩], h =>
   have h' := h
   replace h := bd10 h
   obtain ⟨⟨⟨⟨⟨⟨⟨⟨⟨h0, h1⟩, h2⟩, h3⟩, h4⟩, h5⟩, h6⟩, h7⟩, h8⟩, h9⟩ := h
   replace h0 := of_decide_eq_true h0
   subst h0
   obtain ⟨c1, c2, c3, c4, c5, c6, c7, c8⟩ := s_lc_core g tg names caps it c elt hi hc he L (x := x) (t := t) (ix := ix) (ifs := ifs) (sc := sc) (by simp only [Bool.and_eq_true]; exact ⟨⟨⟨⟨⟨⟨⟨⟨h1, h2⟩, h3⟩, h4⟩, h5⟩, h6⟩, h7⟩, h8⟩, h9⟩)
   exact ok_mkE (M := M) (monoE g.mono XN (.lc tg names caps it c elt)) ((pe_lc L.fits.calm c1 c2 c3 c4 c5 c6 c7).imp c8) (fun _ => rfl) (fun _ _ _ z => nomatch z)
 | _ => exact absurd h Bool.false_ne_true
theorem s_no : OkO Γ p .no := by
 intro M X L
 refine ⟨fun x h => ?_, fun xs h => ?_⟩
 ·cases x with
  | none => exact po_none.imp fun τ H Q q => by obtain ⟨σ, G, hs, ab, q⟩ := q; exact q H .refl ab
  | some _ => exact absurd h Bool.false_ne_true
 ·cases xs with
  | nil => exact pts_nil.imp fun τ H Q q => by obtain ⟨σ, G, hs, ab, q⟩ := q; exact q H .refl ab
  | cons _ _ => exact absurd h Bool.false_ne_true
theorem s_yes (e : IE) (he : OkE Γ p e) : OkO Γ p (.yes e) := by
 intro M X L
 refine ⟨fun x h => ?_, fun xs h => ?_⟩
 ·cases x with
  | none => exact absurd h Bool.false_ne_true
  | some x =>
   skip
   refine (po_some (he M X x L h).1).imp fun τ H Q q => ?_
   obtain ⟨σ, G, hs, ab, q⟩ := q
   refine bindE (monoE g.mono XN e) hs ab q fun w G1 v H1 g1 hs1 rx a1 q => ?_
   cases w with
   | int i => cases rx; exact ⟨i, rfl, q H1 g1 a1⟩
   | _ => exact q.elim
 ·match xs, h with
  | [x], h => exact pts_one (he M X x L (by simpa only [mC] using h)).2.1
theorem s_nil : OkA Γ p .nil := by
 intro M X xs L h
 cases xs with
 | cons _ _ => exact absurd h Bool.false_ne_true
 | nil =>
  refine ⟨pa_nil.imp fun τ H Q q => by obtain ⟨σ, G, hs, ab, q⟩ := q; exact q [] H .refl rfl ab, rfl, fun ks keys pos hk hl => ?_, trivial⟩
  cases keys with
  | cons _ _ => cases hl
  | nil =>
   cases ks with
   | cons _ _ => cases hk
   | nil =>
    refine ⟨rfl, rfl, [], pps_nil, fun τ H Q q => ?_⟩
    obtain ⟨σ, G, hs, ab, q⟩ := q
    exact q [] H .refl rfl ab
theorem s_cons (e : IE) (es : IEs) (he : OkE Γ p e) (hs : OkA Γ p es) : OkA Γ p (.cons e es) := by
  intro M X xs L h
  cases xs with
  | nil => exact absurd h Bool.false_ne_true
  | cons x xs =>
    simp only [mA, Bool.and_eq_true] at h
    obtain ⟨⟨h1, h2⟩, h3⟩ := h
    have A := he M X x L h2
    have B := hs M X xs L h3
    refine ⟨(pa_cons A.1 B.1 (starEach_no h1)).imp fun τ H Q q => ?_, by rw [List.all_cons, h1, B.2.1]; rfl, fun ks keys pos hk hl => ?_, ⟨monoE g.mono XN e, A.1, B.2.2.2⟩⟩
    · obtain ⟨σ, G, hs', ab, q⟩ := q
      refine bindE (monoE g.mono XN e) hs' ab q fun w G1 v H1 g1 hs1 rx a1 q => ?_
      refine bindA (monoA g.mono XN es) hs1 a1 q fun ws G2 vs H2 g2 hs2 rs a2 q => ?_
      exact q _ H2 (g1.trans g2) ⟨v, vs, rfl, rx.mono g2, rs⟩ a2
    · cases ks with
      | nil =>
        cases keys with
        | nil => simp at hl
        | cons _ _ => simp [keyB] at hk
      | cons k ks =>
       cases keys with
       | nil => cases hk
       | cons ko keys =>
        obtain ⟨y, ky, qy, rfl⟩ : ∃ y ky qy, ko = some (.Constant (.str y) ky qy) := by
          cases ko with
          | none => cases hk
          | some ke =>
            cases ke with
            | Constant c ky qy =>
              cases c with
              | str y => exact ⟨y, ky, qy, rfl⟩
              | _ => cases hk
            | _ => cases hk
        simp only [keyB, Bool.and_eq_true, beq_iff_eq] at hk
        obtain ⟨rfl, hk⟩ := hk
        obtain ⟨all, ek, trs, pp, low⟩ := B.2.2.1 ks keys pos hk (by simpa using hl)
        refine ⟨by simpa using all, by simpa using ek, (tC (.str k), lowE X.K (sem Γ XN e).e) :: trs, pps_cons pe_str A.1 pp, fun τ H Q q => ?_⟩
        obtain ⟨σ, G, hs', ab, q⟩ := q
        show lowE X.K (sem Γ XN e).e τ H _
        refine bindE (monoE g.mono XN e) hs' ab q fun w G1 v H1 g1 hs1 rx a1 q => ?_
        refine low τ H1 _ ⟨σ, G1, hs1, a1, monoA g.mono XN es σ G1 _ _ (fun ws G2 q vs H2 g2 rs a2 => ?_) q⟩
        exact q (v :: vs) H2 (g1.trans g2) ⟨v, vs, rfl, rx.mono g2, rs⟩ a2
theorem s_val (e : IE) (he : OkE Γ p e) : OkI Γ p (.val e) := fun M X x L h tg => pi_low (monoE g.mono XN e) (he M X x L h).1
theorem s_blt (i : Nat) (es : IEs) (hs : OkA Γ p es) : OkI Γ p (.blt i es) := by
  intro M X x L h tg
  cases x with
  | Call fn xs kw q =>
    cases fn with
    | Name y qy =>
     cases kw with
     | nil =>
      replace h := bd3 h
      have gl := gl_of L.sc h.1.2
      have hi := beq_some h.1.1
      rw [← L.its] at hi
      obtain ⟨e, ei, rfl⟩ := map_get hi
      have A := hs M X xs L h.2
      refine (g.it e (mem_get ei) X L.fits gl.1 tg xs (semA Γ XN es) qy q (monoA g.mono XN es) A.2.1 A.1 (semA_nil g h.2) gl.2.1 gl.2.2).imp fun τ H R q => ?_
      obtain ⟨σ, G, hs', ab, q⟩ := q
      refine ⟨σ, G, hs', ab, monoA g.mono XN es σ G _ _ (fun ws G1 q => ?_) q⟩
      simp only [ei] at q
      exact q
     | cons _ _ => exact absurd h Bool.false_ne_true
    | _ => exact absurd h Bool.false_ne_true
  | _ => exact absurd h Bool.false_ne_true
theorem s_ispc (i : Nat) (es : IEs) (hs : OkA Γ p es) : OkI Γ p (.spc i es) := by
 intro M X x L h tg
 simp only [mI] at h
 split at h
 ·rename_i m hm
  split at h
  ·rename_i xs hx
   rw [← L.ixs] at hm
   obtain ⟨k, ek, rfl⟩ := map_get hm
   have A := hs M X xs L h
   refine (g.ix k (mem_get ek) X L.fits tg x xs (semL Γ es) (by rw [L.sc]; exact hx) A.2.2.2 A.2.1 (by rw [← semA_seq]; exact A.1)).imp fun τ H R q => ?_
   obtain ⟨σ, G, hs', ab, q⟩ := q
   refine ⟨σ, G, hs', ab, ?_⟩
   rw [← semA_seq]
   refine monoA g.mono XN es σ G _ _ (fun ws G1 q => ?_) q
   simp only [ek] at q
   exact q
  ·exact absurd h Bool.false_ne_true
 ·exact absurd h Bool.false_ne_true
theorem sndE (e : IE) : OkE Γ p e :=
 IE.rec (motive_1 := OkE Γ p) (motive_2 := OkO Γ p) (motive_3 := OkA Γ p) (motive_4 := OkI Γ p) (motive_5 := fun _ => True) (motive_6 := fun _ => True)
  (s_var g) (s_con g) (s_glb g) (s_bin g) (s_neg g) (s_not g) (s_cmp g) (s_chn g) (s_and g) (s_or g) (s_ite g) (s_ix g) (s_sl g) (s_tup g) (s_lst g) (s_dct g) (s_call g) (s_mth g) (s_att g)
  (fun tg names caps it c elt _ hi hc he => s_lc g tg names caps it c elt hi hc he) (s_spc g) (s_ch3 g) (s_no g) (s_yes g) (s_nil g) (s_cons g) (s_val g) (s_blt g) (s_ispc g) (fun _ => trivial) (fun _ _ => trivial) trivial (fun _ _ _ _ => trivial) e
theorem sndA (es : IEs) : OkA Γ p es := match es with
 | .nil => s_nil g
 | .cons e es => s_cons g e es (sndE g e) (sndA es)
theorem sndI (it : II) : OkI Γ p it := match it with
 | .val e => s_val g e (sndE g e)
 | .blt i es => s_blt g i es (sndA g es)
 | .spc i es => s_ispc g i es (sndA g es)
theorem sndO (o : IO) : OkO Γ p o := match o with
 | .no => s_no g
 | .yes e => s_yes g e (sndE g e)
end
end L3
set_option Elab.async false
set_option linter.all false
set_option maxRecDepth 100000
set_option maxHeartbeats 8000000
namespace L3
open PySem PySem.Spec PyProof.Rows L2
theorem inv_asg {i : Nat} {a : IE} {M : MC} {x : Stmt} (h : mS (.asg i a) M x = true) : ∃ y py v q, x = .Assign [.Name y py] v q ∧ (M.N[i]? == some y) = true ∧ locB M y = true ∧ mE a M v = true := by
 cases x with
 | Assign ts v q =>
  cases ts with
  | nil => exact absurd h Bool.false_ne_true
  | cons t r =>
   cases r with
   | cons _ _ => cases t <;> exact absurd h Bool.false_ne_true
   | nil =>
    cases t with
    | Name y py =>
     replace h := bd3 h
     exact ⟨y, py, v, q, rfl, h.1.1, h.1.2, h.2⟩
    | _ => exact absurd h Bool.false_ne_true
 | _ => exact absurd h Bool.false_ne_true
theorem inv_asgT {ts : ITgs} {a : IE} {M : MC} {x : Stmt} (h : mS (.asgT ts a) M x = true) : ∃ es k qt v q, x = .Assign [.Tuple es k qt] v q ∧ noLC v = true ∧ noTup v = true ∧ mGs M ts es = true ∧ mE a M v = true := by
 cases x with
 | Assign ts v q =>
  cases ts with
  | nil => exact absurd h Bool.false_ne_true
  | cons t r =>
   cases r with
   | cons _ _ => cases t <;> exact absurd h Bool.false_ne_true
   | nil =>
    cases t with
    | Tuple es k qt =>
     replace h := bd4 h
     exact ⟨es, k, qt, v, q, rfl, h.1.1.1, h.1.1.2, h.1.2, h.2⟩
    | _ => exact absurd h Bool.false_ne_true
 | _ => exact absurd h Bool.false_ne_true
theorem inv_asgI {o i a : IE} {M : MC} {x : Stmt} (h : mS (.asgI o i a) M x = true) : ∃ l r qs v q, x = .Assign [.Subscript l r qs] v q ∧ noLC v = true ∧ noSlice r = true ∧ mE o M l = true ∧ mE i M r = true ∧ mE a M v = true := by
 cases x with
 | Assign ts v q =>
  cases ts with
  | nil => exact absurd h Bool.false_ne_true
  | cons t r =>
   cases r with
   | cons _ _ => cases t <;> exact absurd h Bool.false_ne_true
   | nil =>
    cases t with
    | Subscript l r qs =>
     replace h := bd5 h
     exact ⟨l, r, qs, v, q, rfl, h.1.1.1.1, h.1.1.1.2, h.1.1.2, h.1.2, h.2⟩
    | _ => exact absurd h Bool.false_ne_true
 | _ => exact absurd h Bool.false_ne_true
theorem inv_asgA {o a : IE} {f : Str} {M : MC} {x : Stmt} (h : mS (.asgA o f a) M x = true) : ∃ l qs v q, x = .Assign [.Attribute l f qs] v q ∧ noLC v = true ∧ mE o M l = true ∧ mE a M v = true := by
 cases x with
 | Assign ts v q =>
  cases ts with
  | nil => exact absurd h Bool.false_ne_true
  | cons t r =>
   cases r with
   | cons _ _ => cases t <;> exact absurd h Bool.false_ne_true
   | nil =>
    cases t with
    | Attribute l y qs =>
     replace h := bd4 h
     simp only [beq_iff_eq] at h
     obtain ⟨⟨⟨rfl, h2⟩, h3⟩, h4⟩ := h
     exact ⟨l, qs, v, q, rfl, h2, h3, h4⟩
    | _ => exact absurd h Bool.false_ne_true
 | _ => exact absurd h Bool.false_ne_true
theorem inv_ex {a : IE} {M : MC} {x : Stmt} (h : mS (.ex a) M x = true) : ∃ v q, x = .Expr v q ∧ noLC v = true ∧ mE a M v = true := by
 cases x with
 | Expr v q =>
  replace h := bd2 h
  exact ⟨v, q, rfl, h.1, h.2⟩
 | _ => exact absurd h Bool.false_ne_true
theorem inv_ret {a : IE} {M : MC} {x : Stmt} (h : mS (.ret a) M x = true) : ∃ v q, x = .Return (some v) q ∧ mE a M v = true := by
 cases x with
 | Return v q =>
  cases v with
  | none => exact absurd h Bool.false_ne_true
  | some v => exact ⟨v, q, rfl, h⟩
 | _ => exact absurd h Bool.false_ne_true
theorem inv_retN {M : MC} {x : Stmt} (h : mS .retN M x = true) : ∃ q, x = .Return none q := by
 cases x with
 | Return v q =>
  cases v with
  | none => exact ⟨q, rfl⟩
  | some v => exact absurd h Bool.false_ne_true
 | _ => exact absurd h Bool.false_ne_true
theorem inv_pass {M : MC} {x : Stmt} (h : mS .pass M x = true) : ∃ q, x = .Pass q := by
 cases x with
 | Pass q => exact ⟨q, rfl⟩
 | _ => exact absurd h Bool.false_ne_true
theorem inv_brk {M : MC} {x : Stmt} (h : mS .brk M x = true) : ∃ q, x = .Break q := by
 cases x with
 | Break q => exact ⟨q, rfl⟩
 | _ => exact absurd h Bool.false_ne_true
theorem inv_cnt {M : MC} {x : Stmt} (h : mS .cnt M x = true) : ∃ q, x = .Continue q := by
 cases x with
 | Continue q => exact ⟨q, rfl⟩
 | _ => exact absurd h Bool.false_ne_true
theorem inv_ite {c : IE} {a b : ISs} {M : MC} {x : Stmt} (h : mS (.ite c a b) M x = true) : ∃ t y z q, x = .If t y z q ∧ mE c M t = true ∧ mSs a M y = true ∧ mSs b M z = true := by
 cases x with
 | If t y z q =>
  replace h := bd3 h
  exact ⟨t, y, z, q, rfl, h.1.1, h.1.2, h.2⟩
 | _ => exact absurd h Bool.false_ne_true
theorem inv_whl {c : IE} {b : ISs} {M : MC} {x : Stmt} (h : mS (.whl c b) M x = true) : ∃ t y q, x = .While t y [] q ∧ mE c M t = true ∧ mSs b M y = true := by
 cases x with
 | While t y z q =>
  cases z with
  | nil =>
   replace h := bd2 h
   exact ⟨t, y, q, rfl, h.1, h.2⟩
  | cons _ _ => exact absurd h Bool.false_ne_true
 | _ => exact absurd h Bool.false_ne_true
theorem inv_for {tg : ITg} {it : II} {b : ISs} {M : MC} {x : Stmt} (h : mS (.for tg it b) M x = true) : ∃ t y z q, x = .For t y z [] q ∧ noSet y = true ∧ mG M tg t = true ∧ mI it M y = true ∧ mSs b M z = true := by
 cases x with
 | For t y z e q =>
  cases e with
  | nil =>
   replace h := bd4 h
   exact ⟨t, y, z, q, rfl, h.1.1.1, h.1.1.2, h.1.2, h.2⟩
  | cons _ _ => exact absurd h Bool.false_ne_true
 | _ => exact absurd h Bool.false_ne_true
theorem inv_nil {M : MC} {x : List Stmt} (h : mSs .nil M x = true) : x = [] := by
 cases x with
 | nil => rfl
 | cons _ _ => exact absurd h Bool.false_ne_true
theorem inv_cons {s : IS} {ss : ISs} {M : MC} {x : List Stmt} (h : mSs (.cons s ss) M x = true) : ∃ y ys, x = y :: ys ∧ mS s M y = true ∧ mSs ss M ys = true := by
 cases x with
 | nil => exact absurd h Bool.false_ne_true
 | cons y ys =>
  replace h := bd2 h
  exact ⟨y, ys, rfl, h.1, h.2⟩
end L3
set_option Elab.async false
set_option linter.all false
set_option maxRecDepth 100000
set_option maxHeartbeats 8000000
namespace L3
open PySem PySem.Spec PyProof.Rows L2 PySem.SeqAt
theorem putF_rep {K : Frg} {H : Hp} {f : Str} {w : W} {v : V} (q : Rep K H w v) : ∀ {l : List (Str × W)} {l' : List (Str × V)}, RepKV K H l l' → RepKV K H (putFW f w l) (putF f v l')
 | [], _, h => by rw [show _ = [] from h]; exact ⟨v, [], rfl, q, rfl⟩
 | (n, u) :: r, _, ⟨x, t, e, h, hr⟩ => by
  subst e
  unfold putFW putF
  by_cases hn : n = f
  ·rw [if_pos hn, if_pos hn]; exact ⟨v, t, rfl, q, hr⟩
  ·rw [if_neg hn, if_neg hn]; exact ⟨x, _, rfl, h, putF_rep q hr⟩
section
variable {Γ : Ctx3} {p : Par} (g : Good Γ p)
noncomputable def OkS (Γ : Ctx3) (p : Par) (s : IS) : Prop := ∀ M X x, Lk Γ M p X → mS s M x = true → PS X x (lowS X.K (semS Γ XN s))
noncomputable def OkSs (Γ : Ctx3) (p : Par) (s : ISs) : Prop := ∀ M X x, Lk Γ M p X → mSs s M x = true → PSs X x (lowS X.K (semSs Γ XN s))
include g
theorem t_asg (i : Nat) (e : IE) : OkS Γ p (.asg i e) := by
 intro M X x L h
 obtain ⟨y, py, v, q, rfl, h1, h2, h3⟩ := inv_asg h
 ·
  have lo := loc_of L h2
  have hN := beq_some h1
  rw [← L.N] at hN
  have nd : X.N.Nodup := L.N ▸ L.nd
  have low : ∀ (te : TE), (∀ τ H Q, lowE X.K (sem Γ XN e).e τ H Q → te τ H Q) → ∀ D τ H, lowS X.K (semS Γ XN (.asg i e)) D τ H → tAsg te (gName i) D τ H := fun te k D τ H hq => by
   obtain ⟨σ, G, D3, hs, ab, f, hq⟩ := hq
   refine k _ _ _ ⟨σ, G, hs, ab, monoE g.mono XN e σ G _ _ (fun w G' hq v' H' g' rp ab' => ?_) hq⟩
   exact f.nx _ G' _ H' g' ((hs.mono g').set rp i) ab' hq
  by_cases hl : noLC v = true
  ·exact (ps_set (i := i) nd hN lo.1 (sndE g e M X v L h3).1 (swaps_ok hl) lo.2).imp (low _ fun _ _ _ z => z)
  ·cases v with
   | ListComp x gens sc qq =>
    cases e with
    | lc tg names caps it c elt =>
     match gens, h3 with
     | [⟨t, ix, ifs, asy⟩], h3 =>
      have h3' := h3
      replace h3 := bd10 h3
      obtain ⟨⟨⟨⟨⟨⟨⟨⟨⟨z0, z1⟩, z2⟩, z3⟩, z4⟩, z5⟩, z6⟩, z7⟩, z8⟩, z9⟩ := h3
      replace z0 := of_decide_eq_true z0
      subst z0
      have cond : ∃ b, swapsWith (.ListComp x [⟨t, ix, ifs, 0⟩] sc qq) (some (.Name y py)) q.line X.env = pure b := ⟨_, rfl⟩
      obtain ⟨b, hb⟩ := cond
      cases b with
      | false => exact (ps_set (i := i) nd hN lo.1 (sndE g _ M X _ L h3').1 hb lo.2).imp (low _ fun _ _ _ z => z)
      | true =>
       obtain ⟨c1, c2, c3, c4, c5, c6, c7, c8⟩ := s_lc_core g tg names caps it c elt (sndI g it) (sndO g c) (sndE g elt) L (x := x) (t := t) (ix := ix) (ifs := ifs) (sc := sc) (by simp only [Bool.and_eq_true]; exact ⟨⟨⟨⟨⟨⟨⟨⟨z1, z2⟩, z3⟩, z4⟩, z5⟩, z6⟩, z7⟩, z8⟩, z9⟩)
       exact (ps_setlc (i := i) L.fits.calm c1 c2 c3 c4 c5 c6 nd hN lo.1 lo.2 hb c7).imp (low _ c8)
    | _ => exact absurd h3 Bool.false_ne_true
   | SetComp _ _ _ _ => cases e <;> exact absurd h3 Bool.false_ne_true
   | DictComp _ _ _ _ _ => cases e <;> exact absurd h3 Bool.false_ne_true
   | _ => exact absurd rfl hl
theorem t_asgT (ts : ITgs) (e : IE) : OkS Γ p (.asgT ts e) := by
 intro M X x L h
 obtain ⟨es, k, qt, v, q, rfl, h1, h2, h3, h4⟩ := inv_asgT h
 ·
  have pg := sndG L (.tup ts) (.Tuple es k qt) h3
  refine (ps_asg (sndE g e M X v L h4).1 pg (by unfold swapsWithSole; exact swaps_ok h1) (by cases v <;> first | rfl | cases h2) rfl).imp fun D τ H hq => ?_
  obtain ⟨σ, G, D3, hs, ab, f, hq⟩ := hq
  refine ⟨σ, G, hs, ab, monoE g.mono XN e σ G _ _ (fun w G' hq v' H' g' rp ab' => ?_) hq⟩
  exact ⟨w, σ, G', rp, hs.mono g', ab', monoG _ w σ G' _ _ (fun σ2 G2 hq τ2 H2 g2 hs2 a2 => f.nx σ2 G2 τ2 H2 (g'.trans g2) hs2 a2 hq) hq⟩
theorem t_asgI (o i e : IE) : OkS Γ p (.asgI o i e) := by
 intro M X x L h
 obtain ⟨l, r, qs, v, q, rfl, h1, h2, h3, h4, h5⟩ := inv_asgI h
 ·
  have pe := (sndE g e M X v L h5).1
  have po := (sndE g o M X l L h3).1
  have pi := (sndE g i M X r L h4).1
  intro pins s τ H D I hq
  obtain ⟨σ, G, D3, hs, ab, f, hq⟩ := hq
  have q1 : lowE X.K (sem Γ XN e).e τ H fun v H1 => lowE X.K (sem Γ XN o).e τ H1 fun ov H2 => lowE X.K (sem Γ XN i).e τ H2 fun iv H3 => lowSet X.K ov iv v H3 fun H4 => D.nx τ H4 := by
   refine bindE (monoE g.mono XN e) hs ab hq fun w G1 v1 H1 g1 hs1 r1 a1 hq => ?_
   refine bindE (monoE g.mono XN o) hs1 a1 hq fun x G2 v2 H2 g2 hs2 r2 a2 hq => ?_
   refine bindE (monoE g.mono XN i) hs2 a2 hq fun y G3 v3 H3 g3 hs3 r3 a3 hq => ?_
   exact ⟨x, y, w, G3, r2.mono g3, r3, (r1.mono g2).mono g3, a3, setR_mono (fun G4 hq H4 g4 a4 => f.nx σ G4 τ H4 (g1.trans (g2.trans (g3.trans g4))) (hs3.mono g4) a4 hq) hq⟩
  refine wpAny_Assign_Subscript (thn (pe pins s τ H _ I q1) fun u1 s1 ⟨v1, H1, I1, r1, q1⟩ => thn (po pins s1 τ H1 _ I1 q1) fun u2 s2 ⟨v2, H2, I2, r2, q2⟩ => thn (pi pins s2 τ H2 _ I2 q2) fun u3 s3 ⟨v3, H3, I3, r3, q3⟩ => ?_) (swaps_ok h1)
  exact thn (set_ok (hu_X g L) pins s3 τ H3 v2 v3 v1 u2 u3 u1 _ I3 r2 r3 r1 q3) fun _ s4 ⟨H4, I4, q4⟩ => ⟨τ, H4, I4, q4⟩
theorem t_asgA (o : IE) (f : Str) (e : IE) : OkS Γ p (.asgA o f e) := by
 intro M X x L h
 obtain ⟨l, qs, v, q, rfl, h2, h3, h4⟩ := inv_asgA h
 ·
  refine (ps_fld (sndE g o M X l L h3).1 (sndE g e M X v L h4).1 (swaps_ok h2)).imp fun D τ H hq => ?_
  obtain ⟨σ, G, D3, hs, ab, fi, hq⟩ := hq
  refine bindE (monoE g.mono XN e) hs ab hq fun w G1 v1 H1 g1 hs1 r1 a1 hq => ?_
  refine bindE (monoE g.mono XN o) hs1 a1 hq fun x G2 v2 H2 g2 hs2 r2 a2 hq => ?_
  cases x with
  | ref a =>
   cases r2
   simp only [satR] at hq
   split at hq
   ·rename_i C fs e2
    obtain ⟨⟨l2, hl, hf⟩, hlen, hq⟩ := hq
    obtain ⟨dx, fs', e', rk⟩ := a2.ins e2
    have c := g.cl _ hl
    refine ⟨a, C, dx, fs', rfl, e', by rw [L.fits.K]; exact c.1, by rw [L.fits.K]; exact c.2 f hf, by rw [rk.length]; exact hlen, ?_⟩
    have gr := a2.grow (u := .ins C dx (putF f v1 fs')) e2
    exact fi.nx σ _ τ _ (g1.trans (g2.trans gr)) (hs2.mono gr) (a2.chg (o := .ins C (putFW f w fs)) e2 ⟨dx, _, rfl, putF_rep ((r1.mono g2).mono gr) (rk.mono gr)⟩) hq
   ·exact hq.elim
  | _ => exact hq.elim
theorem t_simple : OkS Γ p .retN ∧ OkS Γ p .pass ∧ OkS Γ p .brk ∧ OkS Γ p .cnt ∧ OkS Γ p .dead := by
 refine ⟨fun M X x L h => ?_, fun M X x L h => ?_, fun M X x L h => ?_, fun M X x L h => ?_, fun M X x L h => ?_⟩
 ·obtain ⟨q, rfl⟩ := inv_retN h
  exact ps_retN.imp fun D τ H hq => by obtain ⟨σ, G, D3, hs, ab, f, hq⟩ := hq; exact f.rt .non G _ H .refl (show Rep X.K H .non .non from rfl) ab hq
 ·obtain ⟨q, rfl⟩ := inv_pass h
  exact ps_pass.imp fun D τ H hq => by obtain ⟨σ, G, D3, hs, ab, f, hq⟩ := hq; exact f.nx σ G τ H .refl hs ab hq
 ·obtain ⟨q, rfl⟩ := inv_brk h
  exact ps_break.imp fun D τ H hq => by obtain ⟨σ, G, D3, hs, ab, f, hq⟩ := hq; exact f.bk σ G τ H .refl hs ab hq
 ·obtain ⟨q, rfl⟩ := inv_cnt h
  exact ps_continue.imp fun D τ H hq => by obtain ⟨σ, G, D3, hs, ab, f, hq⟩ := hq; exact f.ct σ G τ H .refl hs ab hq
 ·exact ps_never.imp fun D τ H hq => by obtain ⟨σ, G, D3, hs, ab, f, hq⟩ := hq; exact hq.elim
theorem t_ex (e : IE) : OkS Γ p (.ex e) := by
 intro M X x L h
 obtain ⟨v, q, rfl, hh⟩ := inv_ex h
 ·have h := hh
  refine (ps_expr (sndE g e M X v L h.2).1 (swaps_ok h.1)).imp fun D τ H hq => ?_
  obtain ⟨σ, G, D3, hs, ab, f, hq⟩ := hq
  exact bindE (monoE g.mono XN e) hs ab hq fun w G1 v1 H1 g1 hs1 r1 a1 hq => f.nx σ G1 τ H1 g1 hs1 a1 hq
theorem t_ret (e : IE) : OkS Γ p (.ret e) := by
 intro M X x L h
 obtain ⟨v, q, rfl, hh⟩ := inv_ret h
 ·have h := hh
  refine (ps_ret (sndE g e M X v L h).1).imp fun D τ H hq => ?_
  obtain ⟨σ, G, D3, hs, ab, f, hq⟩ := hq
  exact bindE (monoE g.mono XN e) hs ab hq fun w G1 v1 H1 g1 hs1 r1 a1 hq => f.rt w G1 v1 H1 g1 r1 a1 hq
theorem t_ite (c : IE) (a b : ISs) (ha : OkSs Γ p a) (hb : OkSs Γ p b) : OkS Γ p (.ite c a b) := by
 intro M X x L h
 obtain ⟨t, y, z, q, rfl, hh⟩ := inv_ite h
 ·have h := hh
  refine (ps_if (sndE g c M X t L h.1).2.1 (ha M X y L h.2.1) (hb M X z L h.2.2)).imp fun D τ H hq => ?_
  obtain ⟨σ, G, D3, hs, ab, f, hq⟩ := hq
  refine bindT (monoT g.mono XN c) hs ab hq fun k G1 H1 g1 hs1 a1 hq => ?_
  split
  ·rename_i hk
   rw [if_pos hk] at hq
   exact ⟨σ, G1, D3, hs1, a1, f.grow g1, hq⟩
  ·rename_i hk
   rw [if_neg hk] at hq
   exact ⟨σ, G1, D3, hs1, a1, f.grow g1, hq⟩
theorem t_whl (c : IE) (b : ISs) (hb : OkSs Γ p b) : OkS Γ p (.whl c b) := by
 intro M X x L h
 obtain ⟨t, y, q, rfl, hh⟩ := inv_whl h
 ·have h := hh
  have hp : PassesOwn (model X.prog X.w) X.A X.env X.xe := by rw [L.fits.xe]; exact PassesOwn.never
  refine (ps_while hp (sndE g c M X t L h.1).2.1 (hb M X y L h.2)).imp fun D τ H hq => ?_
  obtain ⟨σ, G, D3, hs, ab, f, Pv, ⟨m0, p0⟩, step⟩ := hq
  refine ⟨fun m τ H' => Grow X.K H H' ∧ ∃ σ G, RepSt X.K H' σ τ ∧ Abs X.K H' G ∧ Pv m σ G, ⟨m0, .refl, σ, G, hs, ab, p0⟩, ?_⟩
  rintro m τ1 H1 ⟨g1, σ1, G1, hs1, a1, p1⟩
  refine bindT (monoT g.mono XN c) hs1 a1 (step m σ1 G1 p1) fun k G2 H2 g2 hs2 a2 hq => ?_
  split
  ·rename_i hk
   rw [if_pos hk] at hq
   refine ⟨fun τ' H' => ∃ m', m' < m ∧ Grow X.K H H' ∧ ∃ σ G, RepSt X.K H' σ τ' ∧ Abs X.K H' G ∧ Pv m' σ G, fun τ' H' z => z, ?_⟩
   refine ⟨σ1, G2, _, hs2, a2, ⟨?_, ?_, ?_, ?_⟩, hq⟩
   ·rintro σ3 G3 τ3 H3 g3 hs3 a3 ⟨m', hm, p'⟩
    exact ⟨m', hm, g1.trans (g2.trans g3), σ3, G3, hs3, a3, p'⟩
   ·exact fun σ3 G3 τ3 H3 g3 hs3 a3 z => f.nx σ3 G3 τ3 H3 (g1.trans (g2.trans g3)) hs3 a3 z
   ·rintro σ3 G3 τ3 H3 g3 hs3 a3 ⟨m', hm, p'⟩
    exact ⟨m', hm, g1.trans (g2.trans g3), σ3, G3, hs3, a3, p'⟩
   ·exact fun w G3 v3 H3 g3 r3 a3 z => f.rt w G3 v3 H3 (g1.trans (g2.trans g3)) r3 a3 z
  ·rename_i hk
   rw [if_neg hk] at hq
   exact f.nx σ1 G2 τ1 H2 (g1.trans g2) hs2 a2 hq
theorem t_for (tg : ITg) (it : II) (b : ISs) (hb : OkSs Γ p b) : OkS Γ p (.for tg it b) := by
 intro M X x L h
 obtain ⟨t, y, z, q, rfl, h1, h2, h3, h4⟩ := inv_for h
 ·
  have hp : PassesOwn (model X.prog X.w) X.A X.env X.xe := by rw [L.fits.xe]; exact PassesOwn.never
  refine (ps_for hp L.fits.calm (sndI g it M X y L h3 t) (sndG L tg t h2) (hb M X z L h4) (folded_ok h1)).imp fun D τ H hq => ?_
  obtain ⟨σ, G, D3, hs, ab, f, hq⟩ := hq
  refine ⟨σ, G, hs, ab, monoI g.mono XN it σ G _ _ (fun items stab G1 hq J H1 g1 a1 ii => ?_) hq⟩
  obtain ⟨Pv, p0, pst, step, fin⟩ := hq
  refine ⟨fun i m τ H' => m + i = items.length ∧ Grow X.K H1 H' ∧ ∃ σ G, RepSt X.K H' σ τ ∧ Abs X.K H' G ∧ Pv i σ G, ⟨items.length, rfl, .refl, σ, G1, hs.mono g1, a1, p0⟩, ?_⟩
  rintro i m τ2 H2 ⟨hm, g2, σ2, G2, hs2, a2, p2⟩
  have st := pst i σ2 G2 p2 (by omega)
  by_cases hi : i < items.length
  ·refine .inr ⟨ii.go i H2 G2 g2 a2 st hi, fun τ' H' => ∃ m', m' < m ∧ (m' + (i + 1) = items.length ∧ Grow X.K H1 H' ∧ ∃ σ G, RepSt X.K H' σ τ' ∧ Abs X.K H' G ∧ Pv (i + 1) σ G), fun τ' H' z => z, fun x H' yl => ?_⟩
   obtain ⟨w, ew, g3, rp, a3⟩ := ii.yld i H2 G2 x H' g2 a2 st hi yl
   refine ⟨w, σ2, G2, rp, hs2.mono g3, a3, monoG tg w σ2 G2 _ _ (fun σ4 G4 hq τ4 H4 g4 hs4 a4 => ?_) (step i w σ2 G2 ew p2)⟩
   refine ⟨σ4, G4, _, hs4, a4, ⟨?_, ?_, ?_, ?_⟩, hq⟩
   ·exact fun σ5 G5 τ5 H5 g5 hs5 a5 z => ⟨m - 1, by omega, by omega, g2.trans (g3.trans (g4.trans g5)), σ5, G5, hs5, a5, z⟩
   ·exact fun σ5 G5 τ5 H5 g5 hs5 a5 z => f.nx σ5 G5 τ5 H5 (g1.trans (g2.trans (g3.trans (g4.trans g5)))) hs5 a5 z
   ·exact fun σ5 G5 τ5 H5 g5 hs5 a5 z => ⟨m - 1, by omega, by omega, g2.trans (g3.trans (g4.trans g5)), σ5, G5, hs5, a5, z⟩
   ·exact fun w5 G5 v5 H5 g5 r5 a5 z => f.rt w5 G5 v5 H5 (g1.trans (g2.trans (g3.trans (g4.trans g5)))) r5 a5 z
  ·have ei : i = items.length := by omega
   subst ei
   exact .inl ⟨ii.stop _ H2 G2 g2 a2 st (Nat.le_refl _), f.nx σ2 G2 τ2 H2 (g1.trans g2) hs2 a2 (fin σ2 G2 p2)⟩
theorem sndSs (s : ISs) : OkSs Γ p s :=
 ISs.rec (motive_1 := OkS Γ p) (motive_2 := OkSs Γ p) (t_asg g) (t_asgT g) (t_asgI g) (t_asgA g) (t_ex g) (t_ret g) (t_simple g).1 (t_simple g).2.1 (t_simple g).2.2.1 (t_simple g).2.2.2.1
  (fun c a b ha hb => t_ite g c a b ha hb) (fun c b hb => t_whl g c b hb) (fun tg it b hb => t_for g tg it b hb) (t_simple g).2.2.2.2
  (fun M X x L h => by
   cases inv_nil h
   exact pss_nil.imp fun D τ H hq => by obtain ⟨σ, G, D3, hs, ab, f, hq⟩ := hq; exact f.nx σ G τ H .refl hs ab hq)
  (fun s ss hs1 hs2 M X x L h => by
   obtain ⟨y, ys, rfl, hh⟩ := inv_cons h
   ·have h := hh
    refine (pss_cons (hs1 M X y L h.1) (hs2 M X ys L h.2)).imp fun D τ H hq => ?_
    obtain ⟨σ, G, D3, hs, ab, f, hq⟩ := hq
    refine ⟨σ, G, { D3 with nx := semSs Γ XN ss D3 }, hs, ab, ⟨?_, f.bk, f.ct, f.rt⟩, hq⟩
    exact fun σ2 G2 τ2 H2 g2 hs2 a2 z => ⟨σ2, G2, D3, hs2, a2, f.grow g2, z⟩) s
end
end L3
set_option Elab.async false
set_option linter.all false
set_option maxRecDepth 100000
set_option maxHeartbeats 8000000
namespace PySem
open Sem (wp)
section
variable {prog : Program} {w : World} {A : Around} {E : Value → Shared → Prop} {s : Shared}
noncomputable def itc (b : Bool) : String := if b then "tuple_iterator" else "list_iterator"
noncomputable def SIt (b : Bool) (h : Heap) (i l : Addr) (k : Nat) : Prop := ∃ o, h.get? i = some o ∧ o.cls = .type (itc b) ∧ o.data = .fields #[.ref l, .int k 0]
noncomputable def SSq (b : Bool) (h : Heap) (l : Addr) (its : Array Value) : Prop := match b with
 | true => h.IsTuple l its
 | false => h.IsList l its
noncomputable abbrev IsZ (h : Heap) (z TI TO : Addr) (f0 f1 : Value) : Prop :=
 h.get? z = some { cls := .type "zip", dict := none, data := .fields #[f0, f1, .bool false, .ref TI, .ref TO], slots := #[] }
end
noncomputable abbrev zpH1 (a : Bool) (h : Heap) (l1 : Addr) : Heap := h.push { cls := .type (itc a), data := .fields #[.ref l1, .int 0 0] }
noncomputable abbrev zpH2 (a b : Bool) (h : Heap) (l1 l2 : Addr) : Heap := (zpH1 a h l1).push { cls := .type (itc b), data := .fields #[.ref l2, .int 0 0] }
noncomputable abbrev zpH3 (a b : Bool) (h : Heap) (l1 l2 : Addr) : Heap := (zpH2 a b h l1 l2).push { cls := .type "tuple", data := .seq #[.ref h.objs.size, .ref (zpH1 a h l1).objs.size] }
noncomputable abbrev zpH4 (a b : Bool) (h : Heap) (l1 l2 : Addr) : Heap := (zpH3 a b h l1 l2).push { cls := .type "tuple", data := .seq #[.none, .none] }
noncomputable abbrev zpH5 (a b : Bool) (h : Heap) (l1 l2 : Addr) : Heap := (zpH4 a b h l1 l2).push { cls := .type "zip", data := .fields #[.none, .bool false, .bool false, .ref (zpH2 a b h l1 l2).objs.size, .ref (zpH3 a b h l1 l2).objs.size] }
section
variable {prog : Program} {w : World} {A : Around} {E : Value → Shared → Prop} {s : Shared}
end
end PySem
set_option Elab.async false
set_option linter.all false
set_option maxRecDepth 100000
set_option maxHeartbeats 8000000
namespace PySem
open Sem (wp)
section
variable {prog : Program} {w : World} {A : Around} {E : Value → Shared → Prop} {s : Shared}
end
end PySem
set_option Elab.async false
set_option linter.all false
set_option maxRecDepth 100000
set_option maxHeartbeats 8000000
namespace L2
open PySem PySem.Spec PyProof.Rows
structure TurnL (P : Program) (w : World) (K : PySem.W.Frag) (T : String) (J : It) (fp : List Addr) (it : Addr) (tn : Nat → Heap → Prop) : Prop where
 mem : it ∈ fp
 ty : ∀ i h, tn i h → ∃ o, h.get? it = some o ∧ o.cls = .type T
 obj : ∀ i h, tn i h → ∀ b ∈ fp, ∃ o, h.get? b = some o ∧ ∀ v, o.data ≠ .cell v
 keep : ∀ i h h', tn i h → (∀ b ∈ fp, ∀ o, h.get? b = some o → h'.get? b = some o) → tn i h'
 item : ∀ (X : Cx), X.prog = P → X.w = w → X.K = K → X.calm = true → ∀ (i : Nat) (pins : List (Addr × Obj)) (s : Shared) (σ : St) (H : Hp) (E : Value → Shared → Prop), Inv X pins σ H s → (∀ b ∈ fp, FpOk X pins H b) → tn i s.heap → J.go i H →
  wpAny (model P w) X.A (pyNext (.ref it)) (fun r s2 => ∃ u x H', r = some u ∧ Inv X pins σ H' s2 ∧ RelV x u ∧ J.yld i H x H' ∧ tn (i + 1) s2.heap ∧ ∀ b ∈ fp, H' b = none) E s
 done : ∀ (X : Cx), X.prog = P → X.w = w → X.K = K → X.calm = true → ∀ (i : Nat) (pins : List (Addr × Obj)) (s : Shared) (σ : St) (H : Hp) (E : Value → Shared → Prop), Inv X pins σ H s → (∀ b ∈ fp, FpOk X pins H b) → tn i s.heap → J.stop i H →
  wpAny (model P w) X.A (pyNext (.ref it)) (fun r s1 => r = none ∧ Inv X pins σ H s1) E s
 self : ∀ (A : Around) (i : Nat) (s : Shared) (Q : Value → Shared → Prop) (E : Value → Shared → Prop), tn i s.heap → Q (.ref it) s → wpAny (model P w) A (pyIter (.ref it)) Q E s
 hint : ∀ (A : Around) (i : Nat) (s : Shared) (Q : Bool → Shared → Prop) (E : Value → Shared → Prop), tn i s.heap → (∀ b, Q b s) → wpAny (model P w) A (Builtin.List.listLengthHint (.ref it)) Q E s
noncomputable abbrev Cx.atA (X : Cx) (A : Around) : Cx := { X with A := A }
theorem Cx.Ok.atA {X : Cx} (ok : X.Ok) {A : Around} (hf : A.frames = X.A.frames) (hh : A.handled = X.A.handled) : (X.atA A).Ok :=
 ⟨ok.mod, ok.kind, ok.glob, ok.blt, ok.above, ok.inj, ok.has, ok.cab, fun z => hh.trans (ok.hd z), hf.trans ok.frames, ok.stk, ok.exf, ok.bs, ok.bsz, ok.noex, ok.exfs, ok.funs, ok.frf⟩
section
variable {X : Cx} {pins : List (Addr × Obj)} {σ : St} {H : Hp} {s : Shared}
theorem Inv.atA (I : Inv X pins σ H s) {A : Around} (hf : A.frames = X.A.frames) (hh : A.handled = X.A.handled) : Inv (X.atA A) pins σ H s :=
 ⟨I.ok.atA hf hh, I.os, I.bare, I.base, I.loc, I.cell, I.free, I.freeC, I.pin, I.hok, I.len⟩
theorem Inv.unA {A : Around} (hf : A.frames = X.A.frames) (hh : A.handled = X.A.handled) (I : Inv (X.atA A) pins σ H s) : Inv X pins σ H s :=
 ⟨Cx.Ok.atA (X := X.atA A) (A := X.A) I.ok hf.symm hh.symm, I.os, I.bare, I.base, I.loc, I.cell, I.free, I.freeC, I.pin, I.hok, I.len⟩
theorem ext_loop {P : Program} {w : World} {A : Around} {R : Result → Shared → Prop} (S I : Addr) (res : Value) (Jn : Nat → Shared → Prop)
  (step : ∀ k s, Jn k s → wpAny (model P w) A.in1 (pyNext (.ref I)) (fun r s' => match r with
   | none => R (.ok (.ret res)) s'
   | some v => ∃ its c, s'.heap.get? S = some (lobj its c) ∧ its.length < sizeLine ∧ ∀ h', Heap.SameBut S s'.heap h' → h'.get? S = some (lobj (its ++ [v]) (c + 1)) → ∃ k', k' < k ∧ Jn k' { s' with heap := h' }) (fun e s' => R (.error e) s') s) :
  ∀ k s, Jn k s → codeAny (model P w) A (.builtin "list.extend.loop" ⟨[.ref S, .ref I, res], []⟩) R s := by
 intro k
 induction k using Nat.strongRecOn with
 | _ k ih =>
  intro s j
  refine codeAny_builtin F.entry_extend_loop ?_
  rw [Around.under_plainId F.plain_extend_loop _]
  show wpAny _ A.in1 (pyNext (.ref I) >>= _) _ _ s
  refine wpAny_bind (thn (step k s j) fun r s' q => ?_)
  cases r with
  | none => exact wpAny_pure q
  | some v =>
   obtain ⟨its, c, hS, hl, q⟩ := q
   show wpAny _ A.in1 (updateSeq S (·.push v) >>= _) _ _ _
   refine wpAny_bind ?_
   obtain ⟨k', hk, j'⟩ := q _ (Heap.SameBut.update ..) (by exact (Heap.get?_update_self (Obj.mapSeq (·.push v)) hS rfl).trans (by simp [Obj.mapSeq, lobj]))
   exact wpAny_updateSeq hS rfl (wpAny_pure ⟨plainId_quiet F.plain_extend_loop _, ih k' hk _ j'⟩) (by show its.toArray.size ≤ sizeLine; rw [List.size_toArray]; omega) (by show (its.toArray.push v).size ≤ sizeLine + 1; rw [Array.size_push, List.size_toArray]; omega)
theorem Inv.adopt {a : Addr} {o : HO} (I : Inv X pins σ H s) (off : Off X pins a) (hn : H a = none) (new : ObjOk X.prog X.w (upd H a o) s.heap a o) : Inv X pins σ (upd H a o) s := by
 have b := I.base
 have nb : ∀ b' ob, X.s₀.heap.get? b' = some ob → b' ≠ a := fun b' ob e => Nat.ne_of_lt (Nat.lt_of_lt_of_le (Heap.lt_size e) off.ge)
 refine ⟨I.ok, I.os, I.bare, ⟨b.keep, b.slot, fun c ob e n hx => ?_, b.there, fun c xs e => ?_, fun c ob u e => ?_, fun c ps e => ?_⟩, I.loc, I.cell, ?_, fun x c e => ?_, fun p hp => ?_, I.hok.adopt (fun c u v _ q => q) hn new, I.len⟩
 ·rw [upd_ne (nb c ob e)]; exact b.free c ob e n hx
 ·rw [upd_ne (ne_of_none (b.tups c xs e) hn)]; exact b.tups c xs e
 ·rw [upd_ne (ne_of_none (b.frzs c ob u e) hn)]; exact b.frzs c ob u e
 ·obtain ⟨mo, e'⟩ := b.tbls c ps e
  exact ⟨mo, by rw [upd_ne (ne_of_none e' hn)]; exact e'⟩
 ·rw [upd_ne off.ne.symm]; exact I.free
 ·rw [upd_ne (off.cl x c e)]; exact I.freeC x c e
 ·obtain ⟨q1, q2, q3⟩ := I.pin p hp
  exact ⟨q1, by rw [upd_ne (off.pn p hp)]; exact q2, q3⟩
theorem list_turn (hc : X.calm = true) {T : String} {J : It} {fp : List Addr} {it : Addr} {tn : Nat → Heap → Prop} {Q : VK} (hTl : (Value.type T == Value.type "list") = false) (hTt : (Value.type T == Value.type "tuple") = false)
  (I : Inv X pins σ H s) (Tn : TurnL X.prog X.w X.K T J fp it tn) (t0 : tn 0 s.heap) (hf : ∀ b ∈ fp, FpOk X pins H b) (n : Nat) (hn : n ≤ sizeLine) (W : Nat → List V → Hp → Prop) (w0 : W 0 [] H)
  (wgo : ∀ i acc H, i < n → W i acc H → J.go i H ∧ ∀ x H', J.yld i H x H' → W (i + 1) (acc ++ [x]) H') (wst : ∀ acc H, W n acc H → J.stop n H ∧ ∀ p, H p = none → Q (.ref p) (upd H p (.lst acc))) :
  wpAny (model X.prog X.w) X.A (call (.type "list") [.ref it]) (EP X pins σ Q) X.xe s := by
 have hfp : ∀ b ∈ fp, b < s.heap.objs.size := fun b hb => by
  obtain ⟨o, e, _⟩ := Tn.obj _ _ t0 b hb
  exact Heap.lt_size e
 have hSf : ∀ b ∈ fp, b ≠ s.heap.objs.size := fun b hb => Nat.ne_of_lt (hfp b hb)
 have hSI : s.heap.objs.size ≠ it := (hSf it Tn.mem).symm
 have off : Off X pins s.heap.objs.size := I.off (Nat.le_refl _)
 have nfs : s.heap.objs.size ∉ X.fs := I.nofs (Nat.le_refl _)
 have fr0 : ∀ b ∈ fp, H b = none := fun b hb => (hf b hb).1
 have HS0 : H s.heap.objs.size = none := I.hok.fresh (Nat.le_refl _)
 have fpok : ∀ {H' : Hp} {ob : Obj}, (∀ b ∈ fp, H' b = none) → ∀ b ∈ fp, FpOk X ((s.heap.objs.size, ob) :: pins) H' b := fun {H' ob} hn b hb => by
  obtain ⟨q1, q2, q3, q4, q5, q6⟩ := hf b hb
  refine ⟨hn b hb, q2, q3, q4, q5, fun p hp => ?_⟩
  rcases List.mem_append.mp hp with hp | hp
  ·exact q6 p (List.mem_append_left _ hp)
  ·rcases List.mem_cons.mp hp with rfl | hp
   ·exact (hSf b hb).symm
   ·exact q6 p (List.mem_append_right _ hp)
 have pinS : ∀ {H' : Hp} {s' : Shared} {its : List Value} {c : Nat}, Inv X pins σ H' s' → H' s.heap.objs.size = none → s'.heap.get? s.heap.objs.size = some (lobj its c) → Inv X ((s.heap.objs.size, lobj its c) :: pins) σ H' s' := fun {H' s' its c} I' hn e =>
  I'.pins_of fun p hp => by
   rcases List.mem_cons.mp hp with rfl | hp
   ·exact ⟨e, hn, off.ne, nfs, fun v z => nomatch z⟩
   ·exact I'.pin p (List.mem_append_right _ hp)
 have unpin : ∀ {H' : Hp} {s' : Shared} {ob : Obj}, Inv X ((s.heap.objs.size, ob) :: pins) σ H' s' → Inv X pins σ H' s' := fun {H' s' ob} I' => I'.pins_of fun p hp => I'.pin p (List.mem_append_right _ (List.mem_cons_of_mem _ hp))
 refine callType_codes (Q₁ := fun obj s₁ => obj = .ref s.heap.objs.size ∧ s₁ = { s with heap := s.heap.push { cls := .type "list", data := .seq #[] } }) F.called_list (F.typeCall_list_1 _) F.entry_list_init
  (code_list_new _ ⟨rfl, rfl⟩) fun obj s₁ h₁ => ?_
 obtain ⟨rfl, rfl⟩ := h₁
 have hS : (s.heap.push { cls := .type "list", data := .seq #[] }).get? s.heap.objs.size = some { cls := .type "list", data := .seq #[] } := Heap.get?_push_size _ rfl
 refine ⟨⟨_, hS, rfl⟩, F.args_list_init_2 _ _, ?_⟩
 have loop : ∀ (h' : Heap) (c : Nat), h'.get? s.heap.objs.size = some (lobj [] c) → (∀ b o, s.heap.get? b = some o → h'.get? b = some o) →
   codeAny (model X.prog X.w) X.A.in1 (.builtin "list.extend.loop" ⟨[.ref s.heap.objs.size, .ref it, .none], []⟩) (wants (fun r s₂ => r = .none ∧ EP X pins σ Q (.ref s.heap.objs.size) s₂) X.xe) { s with heap := h' } := by
  intro h' c e0 k0
  refine ext_loop s.heap.objs.size it .none (fun k s' => ∃ i acc H' its c, k + i = n ∧ Inv X pins σ H' s' ∧ tn i s'.heap ∧ (∀ b ∈ fp, H' b = none) ∧ H' s.heap.objs.size = none ∧ s'.heap.get? s.heap.objs.size = some (lobj its c) ∧ Vals acc its ∧ acc.length ≤ i ∧ W i acc H') ?_ n _
   ⟨0, [], H, [], c, by omega, I.kept (t' := s.toks) k0, Tn.keep _ _ _ t0 fun b _ o e => k0 b o e, fr0, HS0, e0, .nil, Nat.le_refl _, w0⟩
  rintro k s' ⟨i, acc, H', its, c', hk, I', st, fr, hS', oS, v, la, wi⟩
  have Ip := (pinS I' hS' oS).atA (A := X.A.in1.in1) rfl rfl
  by_cases hi : i < n
  ·obtain ⟨go, yl⟩ := wgo i acc H' hi wi
   refine thn (Tn.item (X.atA X.A.in1.in1) rfl rfl rfl hc i _ s' σ H' _ Ip (fpok fr) st go) fun r s2 ⟨u, x, H2, hr, I2, r2, y2, st2, fr2⟩ => ?_
   subst hr
   have I2' := Inv.unA (X := X) (A := X.A.in1.in1) rfl rfl I2
   have p2 := I2'.pin (s.heap.objs.size, lobj its c') (List.mem_append_right _ (List.mem_cons_self ..))
   refine ⟨its, c', p2.1, by rw [← v.length]; omega, fun h'' sb e'' => ⟨k - 1, by omega, i + 1, acc ++ [x], H2, its ++ [u], c' + 1, by omega, off.turned (unpin I2') p2.2.1 sb, Tn.keep _ _ _ st2 fun b hb o e => sb.extBut b o (hSf b hb) e, fr2, p2.2.1, e'', v.append (.cons r2 .nil), by rw [List.length_append]; show acc.length + 1 ≤ i + 1; omega, yl x H2 y2⟩⟩
  ·have hin : i = n := by omega
   subst hin
   obtain ⟨stp, fin⟩ := wst acc H' wi
   refine thn (Tn.done (X.atA X.A.in1.in1) rfl rfl rfl hc i _ s' σ H' _ Ip (fpok fr) st stp) fun r s2 ⟨hr, I2⟩ => ?_
   subst hr
   have I2' := Inv.unA (X := X) (A := X.A.in1.in1) rfl rfl I2
   have p2 := I2'.pin (s.heap.objs.size, lobj its c') (List.mem_append_right _ (List.mem_cons_self ..))
   exact ⟨rfl, .ref s.heap.objs.size, upd H' s.heap.objs.size (.lst acc), (unpin I2').adopt off hS' ⟨by omega, its, c', v, p2.1⟩, rfl, fin _ hS'⟩
 show wpAny _ X.A.in1.in1 (do let old ← Builtin.List.listItems (.ref s.heap.objs.size); Builtin.List.listUpdate (.ref s.heap.objs.size) (fun _ => #[]); letGo old.toList.reverse; Builtin.List.listExtendWith (.ref s.heap.objs.size) (.ref it) .none) _ _ _
 refine wpAny_bind ?_
 unfold Builtin.List.listItems
 refine wpAny_bind (wpAny_seqItems hS rfl (wpAny_pure ?_))
 show wpAny _ X.A.in1.in1 (updateSeq s.heap.objs.size (fun _ => #[]) >>= fun _ => letGo (#[] : Array Value).toList.reverse >>= fun _ => Builtin.List.listExtendWith (.ref s.heap.objs.size) (.ref it) .none) _ _ _
 refine wpAny_bind (wpAny_updateSeq hS rfl ?_)
 have hS₂ := Heap.get?_update_self (Obj.mapSeq (fun _ => (#[] : Array Value))) hS rfl
 generalize hh2 : (s.heap.push { cls := .type "list", data := .seq #[] }).update s.heap.objs.size (Obj.mapSeq (fun _ => (#[] : Array Value))) = h2 at *
 have k2 : ∀ b o, s.heap.get? b = some o → h2.get? b = some o := fun b o e => by
  rw [← hh2, Heap.get?_update_other _ _ (Nat.ne_of_gt (Heap.lt_size e))]
  exact Heap.get?_push_of_some _ e
 have tn2 : tn 0 h2 := Tn.keep _ _ _ t0 fun b _ o e => k2 b o e
 refine wpAny_bind (wpAny_letGo ?_)
 unfold Builtin.List.listExtendWith
 obtain ⟨oI, eI, cI⟩ := Tn.ty _ _ tn2
 refine wpAny_bind (wpAny_typeOf (s := { s with heap := h2 }) ⟨oI, eI, cI⟩ ?_)
 have h1 : Builtin.List.listSameRef (.ref s.heap.objs.size) (.ref it) = false := by simp [Builtin.List.listSameRef, hSI]
 rw [if_neg (by rw [h1, hTl, hTt]; decide)]
 refine wpAny_bind (Tn.self _ 0 { s with heap := h2 } _ _ tn2 ?_)
 refine wpAny_bind (wpAny_holding (Tn.hint _ 0 { s with heap := h2 } _ _ tn2 fun room => ?_))
 dsimp only
 split
 ·refine wpAny_bind (wpAny_rule ?_)
  refine wpAny_bind ?_
  show wpAny _ X.A.in1.in1 (updateSeq s.heap.objs.size (·.push .none) >>= fun _ => updateSeq s.heap.objs.size (·.pop)) _ _ _
  refine wpAny_bind (wpAny_updateSeq hS₂ rfl ?_)
  have hS₃ := Heap.get?_update_self (Obj.mapSeq (·.push Value.none)) hS₂ rfl
  refine wpAny_updateSeq (hz := by seq_fits) hS₃ rfl ?_
  have hS₄ := Heap.get?_update_self (Obj.mapSeq (·.pop)) hS₃ rfl
  refine wpAny_pure ⟨plainId_quiet F.plain_extend_loop _, loop _ _ hS₄ fun b o e => ?_⟩
  rw [Heap.get?_update_other _ _ (Nat.ne_of_gt (Heap.lt_size e)), Heap.get?_update_other _ _ (Nat.ne_of_gt (Heap.lt_size e))]
  exact k2 b o e
 ·exact wpAny_pure ⟨plainId_quiet F.plain_extend_loop _, loop _ _ hS₂ k2⟩
end
end L2
set_option Elab.async false
set_option linter.all false
set_option maxRecDepth 100000
set_option maxHeartbeats 8000000
namespace L2
open PySem PySem.Spec PyProof.Rows
noncomputable def SqB (b : Bool) (K : PySem.W.Frag) (H : Hp) (a : Addr) (xs : List V) : Prop := match b with
 | true => SqT K H a xs
 | false => SqL K H a xs
theorem Inv.sqB {X : Cx} {pins : List (Addr × Obj)} {σ : St} {H : Hp} {s : Shared} {b : Bool} {a : Addr} {xs : List V} (I : Inv X pins σ H s) (h : SqB b X.K H a xs) : ∃ its : List Value, Vals xs its ∧ SSq b s.heap a its.toArray ∧ xs.length ≤ sizeLine := by
 cases b
 ·obtain ⟨its, r, p, hz⟩ := I.list h
  exact ⟨its, r, p.isList, hz⟩
 ·obtain ⟨its, r, p, hz⟩ := I.tuple h
  exact ⟨its, r, p, hz⟩
noncomputable def Itz (a b : Bool) (K : PySem.W.Frag) (l1 l2 : Addr) : It where
 go := fun i H => ∃ xs ys x y, SqB a K H l1 xs ∧ SqB b K H l2 ys ∧ xs[i]? = some x ∧ ys[i]? = some y
 yld := fun i H v H' => ∃ p x y, v = .ref p ∧ H p = none ∧ H' = upd H p (.tup [x, y]) ∧ (∀ xs, SqB a K H l1 xs → xs[i]? = some x) ∧ ∀ ys, SqB b K H l2 ys → ys[i]? = some y
 stop := fun i H => ∃ xs ys, SqB a K H l1 xs ∧ SqB b K H l2 ys ∧ (xs[i]? = none ∨ ys[i]? = none)
noncomputable def ZpSt (a b : Bool) (z TI TO i1 i2 l1 l2 : Addr) (i : Nat) (h : Heap) : Prop :=
 ∃ f0 f1, IsZ h z TI TO f0 f1 ∧ (f0 = .none ∨ ∃ T : Addr, f0 = rawInt T) ∧ (f1 = .bool false ∨ f1 = .bool true) ∧ IsPair h TI (.ref i1) (.ref i2) ∧ (∃ u v, IsPair h TO u v) ∧ SIt a h i1 l1 i ∧ SIt b h i2 l2 i
section
variable {a b : Bool} {z TI TO i1 i2 l1 l2 : Addr}
variable {X : Cx} {pins : List (Addr × Obj)} {σ : St} {H : Hp} {s : Shared}
end
end L2
set_option Elab.async false
set_option linter.all false
set_option maxRecDepth 100000
set_option maxHeartbeats 8000000
namespace L3
open PySem PySem.Spec PyProof.Rows L2
structure Pr where
 prog : Program
 w : World
 K : Frg
 mg : Str → Option Value
 base : Heap
noncomputable abbrev Pr.at (q : Pr) (A : Around) : Par := ⟨q.prog, q.w, q.K, q.mg, q.base, A⟩
noncomputable def lowSp (K : Frg) (sp : Sp3) : Sp := fun vs H Q E => ∃ ws G, Reps K H ws vs ∧ Abs K H G ∧ sp ws G (lowQ K H Q) XN
noncomputable def start3 (N : List Str) (ws : List W) : St3 := ws.map some ++ List.replicate (N.length - ws.length) none
theorem start_rep {K : Frg} {H : Hp} {N : List Str} {ws : List W} {vs : List V} (r : Reps K H ws vs) : RepSt K H (start3 N ws) (L2.start N vs) := by
 have hl := r.length
 refine ⟨by simp [start3, L2.start, hl], fun i w e => ?_⟩
 unfold start3 at e
 unfold L2.start
 by_cases hi : i < ws.length
 ·rw [List.getElem?_append_left (by simpa using hi), List.getElem?_map] at e
  cases q : ws[i]? with
  | none => rw [q] at e; cases e
  | some w' =>
   rw [q] at e
   obtain rfl : w' = w := Option.some.inj (Option.some.inj e)
   obtain ⟨v, ev, rp⟩ := r.get q
   refine ⟨v, ?_, rp⟩
   rw [List.getElem?_append_left (by simp; omega), List.getElem?_map, ev]
   rfl
 ·rw [List.getElem?_append_right (by simp; omega), List.getElem?_replicate] at e
  split at e <;> cases e
structure MOk (Γ : Ctx3) (M : MC) (sc : Scope) : Prop where
 sc : M.sc = sc
 own : M.own = true
 fns : Γ.fn.map (·.nm) = M.fns
 gls : Γ.gl.map (·.1) = M.gls
 mts : Γ.mt.map (·.nm) = M.mts
 its : Γ.it.map (·.nm) = M.its
 sxs : Γ.sx.map (·.m) = M.sxm
 ixs : Γ.ix.map (·.m) = M.ixm
noncomputable def FnE (p : Par) (f : Fn3) : Prop := ∀ X, Fits p X → Gl X f.nm → ∀ (args : List Expr) (t : A3) (q pos : Pos), MonoA t → args.all noStar = true → PA X args (lowA X.K t) → (args = [] → ∀ σ G Q, t σ G Q → Q [] G) → (f.nm == ("__debug__" : Str)) = false → f.nm ≠ "__name__" →
  PE X (.Call (.Name f.nm q) args [] pos) (lowE X.K fun σ G Q => t σ G fun ws G1 => f.sp ws G1 Q XN)
theorem plain_star {e : Expr} {es : List Expr} {env : Env} {pos : Pos} (h : (e :: es).all noStar = true) : starEach (e :: es) env = (false, eval e env) :: starEach es env ∧ (backTo pos (starEach es env)).any (·.1) = false := by
 rw [List.all_cons, Bool.and_eq_true] at h
 refine ⟨starEach_no h.1, ?_⟩
 have h2 := h.2
 clear h
 induction es with
 | nil => rfl
 | cons a r ih =>
  rw [List.all_cons, Bool.and_eq_true] at h2
  rw [starEach_no h2.1]
  show (false || (backTo pos (starEach r env)).any (·.1)) = false
  rw [ih h2.2]; rfl
theorem Fits.eq {p : Par} {X : Cx} (f : Fits p X) : p = ⟨X.prog, X.w, X.K, X.mg, X.base, X.A⟩ := by
 obtain ⟨e1, e2, e3, e4, e5, e6, _, _⟩ := f
 rw [e1, e2, e3, e4, e5, e6]
theorem pa_sp {X : Cx} {args : List Expr} {t : A3} {sp : Sp3} {dws : List W} {dvs : List V} (m : MonoA t) (hd : ∀ H, Reps X.K H dws dvs) (mono : ∀ ws G (Q Q' : Q3), (∀ w G', Q w G' → Q' w G') → sp ws G Q XN → sp ws G Q' XN) {τ : L2.St} {H : Hp} {Q : VK} {E : XK}
  (h : lowE X.K (fun σ G Q => t σ G fun ws G1 => sp (ws ++ dws) G1 Q XN) τ H Q) : tCall (lowSp X.K sp) dvs E (lowA X.K t) τ H Q := by
 obtain ⟨σ, G, hs, ab, h⟩ := h
 refine bindA m hs ab h fun ws G1 vs H1 g1 hs1 rs a1 h => ?_
 exact ⟨ws ++ dws, G1, rs.append (hd H1), a1, mono _ _ _ _ (fun w G' z v' H' g' => z v' H' (g1.trans g')) h⟩
theorem fn_def {q : Pr} {k : Nat} {nm : Str} {f : Addr} {fd : FuncData} {ps : List Str} {ds : List Value} {dvs : List V} {dws : List W} {sp : Sp3} (FO : FnOk q.prog q.w q.K q.mg q.base CX0 k f fd ps (lowSp q.K sp)) (hm : q.mg nm = some (.ref f)) (hk : PySem.W.keepIn q.K (.ref f) = true)
  (hb : Binds q.K fd ps ds) (hd : ∀ H, Reps q.K H dws dvs) (hv : Vals dvs ds) (mono : ∀ ws G (Q Q' : Q3), (∀ w G', Q w G' → Q' w G') → sp ws G Q XN → sp ws G Q' XN) {A : Around} (hr : Room k A) : FnE (q.at A) ⟨nm, fun ws G Q _ => sp (ws ++ dws) G Q XN⟩ := by
 intro X fits gl args t qp pos mt hn pa hnil hdb hnm
 have e := fits.eq
 injection e with e1 e2 e3 e4 e5 e6
 subst e6
 rw [e1, e2, e3, e4, e5] at FO
 rw [e4] at hm
 rw [e3] at hk hb hd
 cases args with
 | nil =>
  refine (pe_call0 (p := qp) (pos := pos) FO hr gl hm hk hb hv pass0 hdb).imp fun τ H Q h => ?_
  obtain ⟨σ, G, hs, ab, h⟩ := h
  have h := hnil rfl _ _ _ h
  exact ⟨dws, G, hd H, ab, h⟩
 | cons a r =>
  obtain ⟨s1, s2⟩ := plain_star (env := X.env) (pos := pos) hn
  exact (pe_call (p := qp) (pos := pos) FO hr gl hm hk hb hv pass0 pa hdb s1 s2).imp fun τ H Q h => pa_sp (args := a :: r) mt hd mono h
end L3
set_option Elab.async false
set_option linter.all false
set_option maxRecDepth 100000
set_option maxHeartbeats 8000000
namespace L3
open PySem PySem.Spec PyProof.Rows L2 PySem.SeqAt
noncomputable def mkSp (C : Addr) (sp : Sp3) (dws : List W) : Sp3 := fun ws G Q _ => ∀ p, G p = none → sp (.ref p :: (ws ++ dws)) (put G p (.ins C [])) (fun v G2 => v = .non ∧ Q (.ref p) G2) XN
noncomputable abbrev RS := List W → Hw → Q3 → Prop
noncomputable def RMono (sp : RS) : Prop := ∀ ws G (Q Q' : Q3), (∀ w G', Q w G' → Q' w G') → sp ws G Q → sp ws G Q'
noncomputable def lowR (K : Frg) (sp : RS) : List V → Hp → VK → Prop := fun vs H Q => ∃ ws G, Reps K H ws vs ∧ Abs K H G ∧ sp ws G (lowQ K H Q)
theorem lowR_of {X : Cx} {t : A3} {sp : RS} (mt : MonoA t) (mono : RMono sp) {τ : L2.St} {H : Hp} {Q : VK} (h : lowE X.K (fun σ G Q => t σ G fun ws G1 => sp ws G1 Q) τ H Q) : tCB (lowR X.K sp) (lowA X.K t) τ H Q := by
 obtain ⟨σ, G, hs, ab, h⟩ := h
 exact bindA mt hs ab h fun ws G1 vs H1 g1 hs1 rs a1 h => ⟨ws, G1, rs, a1, mono _ _ _ _ (fun w G' z v' H' g' => z v' H' (g1.trans g')) h⟩
theorem fn_blt {q : Pr} {A : Around} {nm : Str} {id : String} {sp : RS} (hm : q.mg nm = none) (hv : bootBuiltins nm = some (.builtin id)) (hc : ∀ X, Fits (q.at A) X → CallR X (.builtin id) (lowR X.K sp)) (mono : RMono sp) (h0 : ∀ G Q, ¬ sp [] G Q) : FnE (q.at A) ⟨nm, fun ws G Q _ => sp ws G Q⟩ := by
 intro X fits gl args t qp pos mt hn pa hnil hdb hnm
 have hm' : X.mg nm = none := by rw [fits.mg]; exact hm
 cases args with
 | nil => exact fun pins s σ H Q I h => absurd (hnil rfl _ _ _ h.choose_spec.choose_spec.2.2) (h0 _ _)
 | cons a r =>
  obtain ⟨s1, s2⟩ := plain_star (env := X.env) (pos := pos) hn
  exact (pe_callB (p := qp) (pos := pos) (hc X fits) gl hm' hv pa hnm hdb s1 s2).imp fun τ H Q h => lowR_of mt mono h
theorem fn_ty {q : Pr} {A : Around} {nm : Str} {T : String} {sp : RS} (hm : q.mg nm = none) (hv : bootBuiltins nm = some (.type T)) (hc : ∀ X, Fits (q.at A) X → CallR X (.type T) (lowR X.K sp)) (mono : RMono sp) (h0 : ∀ G Q, ¬ sp [] G Q) : FnE (q.at A) ⟨nm, fun ws G Q _ => sp ws G Q⟩ := by
 intro X fits gl args t qp pos mt hn pa hnil hdb hnm
 have hm' : X.mg nm = none := by rw [fits.mg]; exact hm
 cases args with
 | nil => exact fun pins s σ H Q I h => absurd (hnil rfl _ _ _ h.choose_spec.choose_spec.2.2) (h0 _ _)
 | cons a r =>
  obtain ⟨s1, s2⟩ := plain_star (env := X.env) (pos := pos) hn
  exact (pe_callTy (p := qp) (pos := pos) (hc X fits) gl hm' hv pa hnm hdb s1 s2).imp fun τ H Q h => lowR_of mt mono h
noncomputable abbrev MS := W → List W → Hw → Q3 → Prop
noncomputable def MtE (p : Par) (m : Mt3) : Prop := ∀ X, Fits p X → ∀ (o : Expr) (args : List Expr) (to : E3) (t : A3) (apos cpos : Pos), MonoE to → MonoA t → attOk o = true → (apos.endLine == cpos.line) = true → args.length < 25 → args.all noStar = true →
  PE X o (lowE X.K to) → PA X args (lowA X.K t) → (args = [] → ∀ σ G Q, t σ G Q → Q [] G) → PE X (.Call (.Attribute o m.nm apos) args [] cpos) (lowE X.K fun σ G Q => to σ G fun x G1 => tyW G1 x m.T ∧ t σ G1 fun ws G2 => m.sp x ws G2 Q)
noncomputable def lowM (K : Frg) (sp : MS) : V → List V → Hp → VK → Prop := fun x vs H Q => ∃ w ws G, Rep K H w x ∧ Reps K H ws vs ∧ Abs K H G ∧ sp w ws G (lowQ K H Q)
theorem few_star {args : List Expr} {env : Env} {pos : Pos} (h : args.all noStar = true) : (backTo pos (starEach args env)).all (fun x => !x.1) = true := by
 induction args with
 | nil => rfl
 | cons a r ih =>
  rw [List.all_cons, Bool.and_eq_true] at h
  rw [starEach_no h.1]
  show (true && (backTo pos (starEach r env)).all (fun x => !x.1)) = true
  rw [ih h.2]; rfl
theorem mt_blt {p : Par} {nm : Str} {T id : String} {sp : MS} (pa : PlainAttrs T) (slot : Slot T nm id) (hty : typeOf (.builtin id) = pure (.type "method_descriptor")) (hm : ∀ X, Fits p X → MtR X id (lowM X.K sp))
  (mono : ∀ x ws G (Q Q' : Q3), (∀ w G', Q w G' → Q' w G') → sp x ws G Q → sp x ws G Q') : MtE p ⟨nm, T, sp⟩ := by
 intro X fits o args to t apos cpos mo mt ho hline hlen hn po pa' hnil
 cases args with
 | nil =>
  refine (pe_bm0 pa slot hty (hm X fits) po (attBase_ok ho) hline).imp fun τ H Q h => ?_
  obtain ⟨σ, G, hs, ab, h⟩ := h
  refine bindE mo hs ab h fun w G1 v H1 g1 hs1 rw1 a1 h => ⟨ty_low rw1 a1 h.1, w, [], G1, rw1, rfl, a1, mono _ _ _ _ _ (fun w' G' z v' H' g' => z v' H' (g1.trans g')) (hnil rfl _ _ _ h.2)⟩
 | cons a r =>
  obtain ⟨s1, s2⟩ := plain_star (env := X.env) (pos := cpos) hn
  refine (pe_bm pa slot hty (hm X fits) po pa' (attBase_ok ho) ?_ hline s1 s2).imp fun τ H Q h => ?_
  ·rw [few_star hn]
   have : (a :: r).length + ([] : List Keyword).length + (if ([] : List Keyword).isEmpty then 0 else 1) < 30 := by
    show (a :: r).length + 0 + 0 < 30
    omega
   rw [decide_eq_true this]
   rfl
  ·obtain ⟨σ, G, hs, ab, h⟩ := h
   refine bindE mo hs ab h fun w G1 v H1 g1 hs1 rw1 a1 h => ⟨ty_low rw1 a1 h.1, ?_⟩
   exact bindA mt hs1 a1 h.2 fun ws G2 vs H2 g2 hs2 rs a2 h => ⟨w, ws, G2, rw1.mono g2, rs, a2, mono _ _ _ _ _ (fun w' G' z v' H' g' => z v' H' (g1.trans (g2.trans g'))) h⟩
end L3
set_option Elab.async false
set_option linter.all false
set_option maxRecDepth 100000
set_option maxHeartbeats 8000000
namespace L3
open PySem PySem.Spec PyProof.Rows L2 PySem.SeqAt
noncomputable def maxS : RS := fun ws G Q => match ws with
 | [.int i, .int j] => Q (.int (if j > i then j else i)) G
 | _ => False
theorem maxS_mono : RMono maxS := by
 intro ws G Q Q' k h
 unfold maxS at h ⊢
 split at h
 ·exact k _ _ h
 ·exact h.elim
theorem reps2 {K : Frg} {H : Hp} {a b : W} {vs : List V} (r : Reps K H [a, b] vs) : ∃ x y, vs = [x, y] ∧ Rep K H a x ∧ Rep K H b y := by
 obtain ⟨x, t, rfl, rx, y, t', rfl, ry, rt⟩ := r
 cases (show t' = [] from rt)
 exact ⟨x, y, rfl, rx, ry⟩
theorem reps1 {K : Frg} {H : Hp} {a : W} {vs : List V} (r : Reps K H [a] vs) : ∃ x, vs = [x] ∧ Rep K H a x := by
 obtain ⟨x, t, rfl, rx, rt⟩ := r
 cases (show t = [] from rt)
 exact ⟨x, rfl, rx⟩
theorem max_ok {X : Cx} (hc : X.calm = true) : CallR X (.builtin "max") (lowR X.K maxS) := by
 intro pins s σ H xs us Q I r h
 obtain ⟨ws, G, rs, ab, h⟩ := h
 unfold maxS at h
 split at h
 ·rename_i i j
  obtain ⟨x, y, rfl, rx, ry⟩ := reps2 rs
  cases (show x = .int i from rx)
  cases (show y = .int j from ry)
  exact call_max2 hc pins s σ H _ us Q I r ⟨i, j, rfl, h _ H .refl rfl ab⟩
 ·exact h.elim
noncomputable def lenW (G : Hw) : W → Option Nat
 | .str x => if x.length ≤ sizeLine then some x.length else none
 | .tup ws => some ws.length
 | .ref p => match G p with
  | some (.lst ws) => some ws.length
  | some (.fix ws) => some ws.length
  | some (.dic kvs) => some kvs.length
  | _ => none
 | _ => none
noncomputable def lenS : RS := fun ws G Q => match ws with
 | [x] => (match lenW G x with | some n => Q (.int n) G | none => False)
 | _ => False
theorem lenS_mono : RMono lenS := by
 intro ws G Q Q' k h
 unfold lenS at h ⊢
 split at h
 ·split at h
  ·exact k _ _ h
  ·exact h.elim
 ·exact h.elim
theorem lenD_ok {X : Cx} : CallR X (.builtin "len") (fun xs H Q => ∃ a kvs, xs = [V.ref a] ∧ H a = some (.dK kvs) ∧ Q (.int kvs.length) H) := by
 intro pins s σ H xs us Q I r h
 obtain ⟨a, kvs, rfl, ha, q⟩ := h
 obtain ⟨u, rfl, ru⟩ := vals1 r
 cases ru
 exact d_len I (.inl ha) fun t s' I' => ⟨.int kvs.length, H, I', ⟨t, rfl⟩, q⟩
theorem len_ok {X : Cx} : CallR X (.builtin "len") (lowR X.K lenS) := by
 intro pins s σ H xs us Q I r h
 obtain ⟨ws, G, rs, ab, h⟩ := h
 unfold lenS at h
 split at h
 ·rename_i w
  obtain ⟨v, rfl, rv⟩ := reps1 rs
  split at h
  ·rename_i n hn
   have q : Q (.int n) H := h (.int n) H .refl rfl ab
   cases w with
   | str x =>
    cases (show v = .str x from rv)
    simp only [lenW] at hn
    split at hn
    ·rename_i hl
     cases hn
     exact call_len_str pins s σ H _ us Q I r ⟨x, rfl, hl, q⟩
    ·cases hn
   | tup ws' =>
    obtain ⟨a, vs, rfl, sq, rr⟩ := rv
    simp only [lenW] at hn
    cases hn
    exact call_len_seq pins s σ H _ us Q I r ⟨a, vs, rfl, .inr sq, by rw [rr.length]; exact q⟩
   | ref p =>
    cases (show v = .ref p from rv)
    simp only [lenW] at hn
    split at hn
    ·rename_i ws' e
     cases hn
     obtain ⟨vs, sq, rr⟩ := ab.seq (show lstOf G p = some ws' by unfold lstOf; rw [e])
     exact call_len_seq pins s σ H _ us Q I r ⟨p, vs, rfl, .inl sq, by rw [rr.length]; exact q⟩
    ·rename_i ws' e
     cases hn
     obtain ⟨vs, sq, rr⟩ := ab.seq (show lstOf G p = some ws' by unfold lstOf; rw [e])
     exact call_len_seq pins s σ H _ us Q I r ⟨p, vs, rfl, .inl sq, by rw [rr.length]; exact q⟩
    ·rename_i kvs e
     cases hn
     obtain ⟨l, e', rl⟩ := ab.dic e
     exact lenD_ok pins s σ H _ us Q I r ⟨p, l, rfl, e', by rw [rl.length]; exact q⟩
    ·cases hn
   | _ => simp [lenW] at hn
  ·exact h.elim
 ·exact h.elim
noncomputable def seqOf (G : Hw) : W → Option (List W)
 | .tup ws => some ws
 | .ref p => lstOf G p
 | _ => none
noncomputable def lstS : RS := fun ws G Q => match ws with
 | [x] => (match seqOf G x with | some xs => ∀ p, G p = none → Q (.ref p) (put G p (.lst xs)) | none => False)
 | _ => False
theorem lstS_mono : RMono lstS := by
 intro ws G Q Q' k h
 unfold lstS at h ⊢
 split at h
 ·split at h
  ·exact fun p hp => k _ _ (h p hp)
  ·exact h.elim
 ·exact h.elim
theorem seq_rep {K : Frg} {H : Hp} {G : Hw} {w : W} {v : V} {xs : List W} (ab : Abs K H G) (r : Rep K H w v) (e : seqOf G w = some xs) : ∃ a vs b, v = .ref a ∧ SqB b K H a vs ∧ Reps K H xs vs := by
 cases w with
 | tup ws =>
  obtain ⟨a, vs, rfl, sq, rr⟩ := r
  cases e
  exact ⟨a, vs, true, rfl, sq, rr⟩
 | ref p =>
  cases (show v = .ref p from r)
  obtain ⟨vs, sq, rr⟩ := ab.seq e
  exact ⟨p, vs, false, rfl, sq, rr⟩
 | _ => cases e
theorem lst_ok {X : Cx} : CallR X (.type "list") (lowR X.K lstS) := by
 intro pins s σ H xs us Q I r h
 obtain ⟨ws, G, rs, ab, h⟩ := h
 unfold lstS at h
 split at h
 ·rename_i w
  obtain ⟨v, rfl, rv⟩ := reps1 rs
  split at h
  ·rename_i ys hy
   obtain ⟨a, vs, b, rfl, sq, rr⟩ := seq_rep ab rv hy
   refine call_list_of pins s σ H _ us Q I r ⟨a, vs, rfl, ?_, new_lst ab rr h⟩
   cases b
   ·exact .inl sq
   ·exact .inr sq
  ·exact h.elim
 ·exact h.elim
noncomputable def allS (f : List Bool → Bool) : RS := fun ws G Q => match ws with
 | [.ref p] => ∃ bs : List Bool, lstOf G p = some (bs.map .bl) ∧ Q (.bl (f bs)) G
 | _ => False
noncomputable def tyO (G : Hw) : W → Option String
 | .non => some "NoneType"
 | .bl _ => some "bool"
 | .int _ => some "int"
 | .str _ => some "str"
 | .tup _ => some "tuple"
 | .ref p => match G p with
  | some (.lst _) => some "list"
  | some (.fix _) => some "list"
  | some (.dic _) => some "dict"
  | _ => none
 | _ => none
noncomputable def isiS (K : Frg) : RS := fun ws G Q => match ws with
 | [x, .ty T] => ∃ T' b, tyO G x = some T' ∧ PySem.W.kitOne K (.type T') (.type T) = some b ∧ Q (.bl b) G
 | _ => False
theorem isiS_mono (K : Frg) : RMono (isiS K) := by
 intro ws G Q Q' k h
 unfold isiS at h ⊢
 split at h
 ·obtain ⟨T', b, e, e', h⟩ := h
  exact ⟨T', b, e, e', k _ _ h⟩
 ·exact h.elim
theorem isi_ok {X : Cx} : CallR X (.builtin "isinstance") (lowR X.K (isiS X.K)) := by
 intro pins s σ H xs us Q I r h
 obtain ⟨ws, G, rs, ab, h⟩ := h
 unfold isiS at h
 split at h
 ·rename_i w T
  obtain ⟨v, y, rfl, rv, ry⟩ := reps2 rs
  cases (show y = .ty T from ry)
  obtain ⟨u, c, rfl, ru, rc⟩ := vals2 r
  cases (show c = Value.type T from rc)
  obtain ⟨T', b, ty, e, h⟩ := h
  have q : ∀ tk, EP X pins σ Q (.bool b) { s with toks := tk } := fun tk => ⟨.bl b, H, I.tok _, rfl, h _ H .refl rfl ab⟩
  cases w with
  | non => cases ty; cases (show v = .non from rv); exact isinst_ok I ru .non e q
  | bl x => cases ty; cases (show v = .bl x from rv); exact isinst_ok I ru (.bl x) e q
  | int x => cases ty; cases (show v = .int x from rv); exact isinst_ok I ru (.int x) e q
  | str x => cases ty; cases (show v = .str x from rv); exact isinst_ok I ru (.str x) e q
  | tup ws' =>
   cases ty
   obtain ⟨a, vs, rfl, sq, rr⟩ := rv
   cases (show u = Value.ref a from ru)
   obtain ⟨its, _, p, _⟩ := I.tuple sq
   obtain ⟨o, h1, h2, _⟩ := p
   exact PySem.W.kia_one PySem.W.kitx_tuple I.kIn ⟨o, h1, h2⟩ e (fun z => nomatch z) q
  | ref p =>
   cases (show v = .ref p from rv)
   cases (show u = Value.ref p from ru)
   simp only [tyO] at ty
   split at ty
   ·rename_i ws' eg
    cases ty
    obtain ⟨vs, sq, rr⟩ := ab.seq (show lstOf G p = some ws' by unfold lstOf; rw [eg])
    obtain ⟨its, _, pl, _⟩ := I.list sq
    obtain ⟨o, ho, hc, _⟩ := pl.isList
    exact PySem.W.kia_one PySem.W.kitx_list I.kIn ⟨o, ho, hc⟩ e (fun z => nomatch z) q
   ·rename_i ws' eg
    cases ty
    obtain ⟨vs, sq, rr⟩ := ab.seq (show lstOf G p = some ws' by unfold lstOf; rw [eg])
    obtain ⟨its, _, pl, _⟩ := I.list sq
    obtain ⟨o, ho, hc, _⟩ := pl.isList
    exact PySem.W.kia_one PySem.W.kitx_list I.kIn ⟨o, ho, hc⟩ e (fun z => nomatch z) q
   ·rename_i kvs eg
    cases ty
    obtain ⟨l, e', rl⟩ := ab.dic eg
    exact isinst_ok (x := .ref p) (u := Value.ref p) I rfl (.dK e') e q
   ·cases ty
  | _ => cases ty
 ·exact h.elim
end L3
set_option Elab.async false
set_option linter.all false
set_option maxRecDepth 100000
set_option maxHeartbeats 8000000
namespace L3
open PySem PySem.Spec PyProof.Rows L2 PySem.SeqAt
noncomputable def popS : MS := fun x ws G Q => match x, ws with
 | .ref p, [] => (match G p with
  | some (.lst xs) => (match xs[xs.length - 1]? with | some y => Q y (put G p (.lst xs.dropLast)) | none => False)
  | _ => False)
 | _, _ => False
theorem popS_mono : ∀ x ws G (Q Q' : Q3), (∀ w G', Q w G' → Q' w G') → popS x ws G Q → popS x ws G Q' := by
 intro x ws G Q Q' k h
 unfold popS at h ⊢
 split at h
 ·split at h
  ·split at h
   ·exact k _ _ h
   ·exact h.elim
  ·exact h.elim
 ·exact h.elim
theorem pop_ok {X : Cx} : MtR X "list.pop" (lowM X.K popS) := by
 intro pins s σ H x xs v us Q I rx rxs h
 obtain ⟨w, ws, G, rw1, rs, ab, h⟩ := h
 unfold popS at h
 split at h
 ·rename_i p
  cases (show x = .ref p from rw1)
  cases (show xs = [] from rs)
  split at h
  ·rename_i ys e
   split at h
   ·rename_i y ey
    obtain ⟨vs, ev, rr⟩ := ab.lst e
    obtain ⟨vy, evy, ry⟩ := rr.get ey
    have gr : Grow X.K H (upd H p (.lst vs.dropLast)) := ab.grow e
    exact mt_pop pins s σ H _ _ v us Q I rx rxs ⟨p, vs, vy, rfl, rfl, ev, by rw [rr.length]; exact evy, h vy _ gr (ry.mono gr) (ab.chg e ⟨_, rfl, rr.dropLast.mono gr⟩)⟩
   ·exact h.elim
  ·exact h.elim
 ·exact h.elim
noncomputable def appS : MS := fun x ws G Q => match x, ws with
 | .ref p, [y] => (match G p with
  | some (.lst xs) => xs.length < sizeLine ∧ Q .non (put G p (.lst (xs ++ [y])))
  | _ => False)
 | _, _ => False
theorem appS_mono : ∀ x ws G (Q Q' : Q3), (∀ w G', Q w G' → Q' w G') → appS x ws G Q → appS x ws G Q' := by
 intro x ws G Q Q' k h
 unfold appS at h ⊢
 split at h
 ·split at h
  ·exact ⟨h.1, k _ _ h.2⟩
  ·exact h.elim
 ·exact h.elim
theorem app_ok {X : Cx} : MtR X "list.append" (lowM X.K appS) := by
 intro pins s σ H x xs v us Q I rx rxs h
 obtain ⟨w, ws, G, rw1, rs, ab, h⟩ := h
 unfold appS at h
 split at h
 ·rename_i p y
  cases (show x = .ref p from rw1)
  obtain ⟨vy, rfl, ry⟩ := reps1 rs
  split at h
  ·rename_i ys e
   obtain ⟨vs, ev, rr⟩ := ab.lst e
   have gr : Grow X.K H (upd H p (.lst (vs ++ [vy]))) := ab.grow e
   exact mt_append pins s σ H _ _ v us Q I rx rxs ⟨p, vs, vy, rfl, rfl, ev, by rw [rr.length]; exact h.1, h.2 .non _ gr (show Rep X.K _ .non .non from rfl) (ab.chg e ⟨_, rfl, (rr.append (show Reps X.K H [y] [vy] from ⟨vy, [], rfl, ry, rfl⟩)).mono gr⟩)⟩
  ·exact h.elim
 ·exact h.elim
noncomputable def idxS : MS := fun x ws G Q => match x, ws with
 | .ref p, [y] => ∃ xs, lstOf G p = some xs ∧ (pur y = true ∧ purs xs = true ∧ min (deps xs) (dep y) ≤ 150) ∧ (xs.any fun w => eqW w y) = true ∧ Q (.int ((xs.findIdx fun w => eqW w y : Nat) : Int)) G
 | _, _ => False
noncomputable def rngI (ws : List W) (G : Hw) (R : List W → (Hw → Prop) → Hw → Prop) : Prop := match ws with
 | [.int j] => (-(2 ^ 62) ≤ j ∧ j < 2 ^ 62) ∧ R ((List.range j.toNat).map fun i => .int (i : Nat)) (fun _ => True) G
 | _ => False
theorem itr_is {K : Frg} {H1 : Hp} {n : Nat} : ItIs K (Itr 0 n) H1 ((List.range n).map fun i => W.int (i : Nat)) (fun _ => True) where
 go := fun i H G _ ab st hi => by show i < n; simpa using hi
 yld := fun i H G x H' _ ab st hi y => by
  obtain ⟨rfl, rfl⟩ := y
  have hi' : i < n := by simpa using hi
  refine ⟨.int (i : Nat), by simp [hi'], .refl, ?_, ab⟩
  show V.int (0 + (i : Int)) = V.int (i : Int)
  rw [Int.zero_add]
 stop := fun i H G _ ab st hi => by show n ≤ i; simpa using hi
noncomputable def ItE (p : Par) (i : It3) : Prop := ∀ X, Fits p X → Gl X i.nm → ∀ (tg : Expr) (args : List Expr) (t : A3) (q pos : Pos), MonoA t → args.all noStar = true → PA X args (lowA X.K t) → (args = [] → ∀ σ G Q, t σ G Q → Q [] G) → (i.nm == ("__debug__" : Str)) = false → i.nm ≠ "__name__" →
  PI X tg (.Call (.Name i.nm q) args [] pos) (lowI X.K fun σ G R => t σ G fun ws G1 => i.sp ws G1 R)
theorem it_rng {q : Pr} {A : Around} (hm : q.mg "range" = none) : ItE (q.at A) ⟨"range", rngI⟩ := by
 intro X fits gl tg args t qp pos mt hn pa hnil hdb hnm
 have hm' : X.mg "range" = none := by rw [fits.mg]; exact hm
 intro pins s σ H R I h
 cases args with
 | nil =>
  obtain ⟨σ3, G, hs, ab, h⟩ := h
  exact (hnil rfl _ _ _ h).elim
 | cons a r =>
  obtain ⟨s1, s2⟩ := plain_star (env := X.env) (pos := pos) hn
  obtain ⟨σ3, G, hs, ab, h⟩ := h
  have h' := bindA (S := fun vs H1 => ∃ j : Int, vs = [.int j] ∧ -(2 ^ 62) ≤ j ∧ j < 2 ^ 62 ∧ R (Itr 0 j.toNat) H1) mt hs ab h fun ws G1 vs H1 g1 hs1 rs a1 h => by
   dsimp only at h
   unfold rngI at h
   split at h
   ·rename_i j
    obtain ⟨v, rfl, rv⟩ := reps1 rs
    cases (show v = .int j from rv)
    exact ⟨j, rfl, h.1.1, h.1.2, h.2 _ H1 g1 a1 itr_is⟩
   ·exact h.elim
  refine Call_ (ld_blt I gl hm' boot_range (PyProof.Rows.callWith_type1 (thn (pa pos pins s σ H _ I h') fun us s1 ⟨vs, H1, I1, r1, q1⟩ => ?_) s1 s2))
  obtain ⟨j, e, q1, q2, q⟩ := q1
  subst e
  obtain ⟨u, rfl, t, rfl⟩ := vals1 r1
  exact call_range_1 (range_it I1 (by omega) (by omega) q1 q2 (by simpa using q))
noncomputable def lofM (nm : Str) : Scope → Expr → Option (List Expr) := fun sc e => match e with
 | .Call (.Name o _) [.Call (.Name x _) xs [] _] [] _ => if o == ("list" : Str) && x == nm && glbB sc o && glbB sc x && !xs.isEmpty then some xs else none
 | _ => none
theorem lofM_inv {nm : Str} {sc : Scope} {e : Expr} {xs : List Expr} (h : lofM nm sc e = some xs) : ∃ qo q pos pos' a r, xs = a :: r ∧ e = .Call (.Name "list" qo) [.Call (.Name nm q) (a :: r) [] pos] [] pos' ∧ glbB sc "list" = true ∧ glbB sc nm = true := by
 have no : ¬ ((none : Option (List Expr)) = some xs) := fun e => nomatch e
 cases e with
 | Call f args kws pos' =>
  cases f with
  | Name o qo =>
   cases args with
   | nil => exact absurd h no
   | cons c rest =>
    cases c with
    | Call g ys kw2 pos =>
     cases g with
     | Name x q =>
      cases kw2 with
      | nil =>
       cases rest with
       | nil =>
        cases kws with
        | nil =>
         replace h : (if (o == ("list" : Str) && x == nm && glbB sc o && glbB sc x && !ys.isEmpty) = true then some ys else none) = some xs := h
         by_cases hb : (o == ("list" : Str) && x == nm && glbB sc o && glbB sc x && !ys.isEmpty) = true
         ·rw [if_pos hb] at h
          cases h
          simp only [Bool.and_eq_true, beq_iff_eq, Bool.not_eq_true', List.isEmpty_eq_false_iff] at hb
          obtain ⟨⟨⟨⟨rfl, rfl⟩, h1⟩, h2⟩, h3⟩ := hb
          cases xs with
          | nil => exact absurd rfl h3
          | cons a r => exact ⟨qo, q, pos, pos', a, r, rfl, rfl, h1, h2⟩
         ·rw [if_neg hb] at h
          exact absurd h no
        | cons _ _ => exact absurd h no
       | cons _ _ => exact absurd h no
      | cons _ _ => exact absurd h no
     | _ => exact absurd h no
    | _ => exact absurd h no
  | _ => exact absurd h no
 | _ => exact absurd h no
noncomputable def SxE (p : Par) (k : Sx3) : Prop := ∀ X, Fits p X → ∀ (e : Expr) (xs : List Expr) (es : List E3), k.m X.env.scope e = some xs → EachE X xs es → xs.all noStar = true → PA X xs (lowA X.K (seqA es)) →
  PE X e (lowE X.K fun σ G Q => seqA es σ G fun ws G1 => k.sp ws G1 Q) ∧ (∀ whole, isTrue e X.env whole = (do let v ← whole; standAt e.pos; holding [v] (truthy v))) ∧ ∀ op vs pos, e ≠ .BoolOp op vs pos
theorem each_mono {X : Cx} : ∀ {xs : List Expr} {es : List E3}, EachE X xs es → MonoA (seqA es)
 | [], [], _ => fun σ G Q Q' k h => k _ _ h
 | _ :: _, _ :: _, ⟨m, _, r⟩ => fun σ G Q Q' k h => m σ G _ _ (fun x G1 h => each_mono r σ G1 _ _ (fun xs G2 h => k _ _ h) h) h
theorem sx_lof {q : Pr} {A : Around} {nm : Str} {T : String} {sp : RS} (hl : q.mg "list" = none) (hm : q.mg nm = none) (hv : bootBuiltins nm = some (.type T)) (mono : RMono sp)
  (hc : ∀ X, Fits (q.at A) X → ∀ (pins : List (Addr × Obj)) (s : Shared) (σ : L2.St) (H : Hp) (vs : List V) (us : List Value) (Q : VK), Inv X pins σ H s → Vals vs us → lowR X.K sp vs H Q →
   wpAny (model X.prog X.w) X.A (call (.type T) us) (fun v s1 => wpAny (model X.prog X.w) X.A (call (.type "list") [v]) (EP X pins σ Q) X.xe s1) X.xe s) : SxE (q.at A) ⟨lofM nm, sp⟩ := by
 intro X fits e xs es he each hn pa
 obtain ⟨qo, qq, pos, pos', a, r, rfl, rfl, g1, g2⟩ := lofM_inv he
 obtain ⟨gl1, d1, n1⟩ := gl_of rfl g1
 obtain ⟨gl2, d2, n2⟩ := gl_of rfl g2
 have hl' : X.mg "list" = none := by rw [fits.mg]; exact hl
 have hm' : X.mg nm = none := by rw [fits.mg]; exact hm
 refine ⟨fun pins s σ H Q I h => ?_, fun _ => rfl, fun _ _ _ z => nomatch z⟩
 obtain ⟨s1, s2⟩ := plain_star (env := X.env) (pos := pos) hn
 have h' := lowR_of (each_mono each) mono h
 refine wpAny_Call_Name_kw (ld_blt I gl1 hl' boot_list ?_ n1 d1)
 refine PyProof.Rows.callWith_type1 (e := .Call (.Name nm qq) (a :: r) [] pos) (rest := []) ?_ rfl rfl
 show wpAny _ _ (spliced ((false, eval (.Call (.Name nm qq) (a :: r) [] pos) X.env) :: backTo pos' (starEach [] X.env))) _ _ s
 refine Calls.spliced_cons (wpAny_Call_Name_kw (ld_blt I gl2 hm' hv (PyProof.Rows.callWith_type1 (thn (pa pos pins s σ H _ I h') fun us s1 ⟨vs, H1, I1, r1, q1⟩ => ?_) s1 s2) n2 d2))
 exact thn (hc X fits pins s1 σ H1 vs us Q I1 r1 q1) fun v s2 z => Calls.spliced_nil z
noncomputable def zipS : RS := fun ws G Q => match ws with
 | [x, y] => ∃ xs ys, seqOf G x = some xs ∧ seqOf G y = some ys ∧ ∀ p, G p = none → Q (.ref p) (put G p (.lst (List.zipWith (fun a b => W.tup [a, b]) xs ys)))
 | _ => False
noncomputable def Itv (K : Frg) (a : Addr) (n : Nat) : It where
 go := fun i H => ∃ xs, SqL K H a xs ∧ xs.length = n ∧ i < n
 yld := fun i H v H' => H' = H ∧ ∀ xs, SqL K H a xs → xs.length = n → xs[n - 1 - i]? = some v
 stop := fun i H => i = n
theorem lri_no_len : typeLookup (.type "list_reverseiterator") "__len__" = pure none := by rw [typeLookup_type, builtinLookup_eq_fast]; kernel_rfl
theorem lri_hint : typeLookup (.type "list_reverseiterator") "__length_hint__" = pure (some (.builtin "list_reverseiterator.__length_hint__")) := by rw [typeLookup_type, builtinLookup_eq_fast]; kernel_rfl
theorem rv_hint {P : Program} {w : World} {A : Around} {it a : Addr} {i : Int} {s : Shared} {Q : Bool → Shared → Prop} {E : Value → Shared → Prop} (st : s.heap.IsRevIter it a i) (h : ∀ b, Q b s) : wpAny (model P w) A (Builtin.List.listLengthHint (.ref it)) Q E s := by
 have hT := st.typeIs
 unfold Builtin.List.listLengthHint
 refine wpAny_bind (wpAny_specialOf hT lri_no_len ?_)
 show wpAny _ _ (specialOf (Value.ref it) (Str.ofString "__length_hint__") >>= _) _ _ _
 refine wpAny_bind (wpAny_specialOf hT lri_hint ?_)
 (generalize hid : ("list_reverseiterator.__length_hint__" : String) = id0; (fail_if_success (clear hid id0)); wp_delta; rw [show splitId id0 = some ("list_reverseiterator", "__length_hint__") from by subst hid; decide +kernel]; subst hid)
 refine wpAny_bind (wpAny_isInstance (b := true) hT (by rw [isSubtype_type]; kernel_rfl) ?_)
 exact wpAny_pure (h _)
theorem rv_turnL (P : Program) (w : World) (K : Frg) {it a : Addr} {n : Nat} (hne : a ≠ it) : TurnL P w K "list_reverseiterator" (Itv K a n) [it] it (fun i h => i ≤ n ∧ h.IsRevIter it a ((n : Int) - 1 - i)) where
 mem := by simp
 ty := fun i h ⟨_, o, ho, hc, _⟩ => ⟨o, ho, hc⟩
 obj := fun i h ⟨_, o, ho, hc, hd⟩ b hb => by
  rw [List.mem_singleton] at hb
  subst hb
  exact ⟨o, ho, fun v z => by rw [hd] at z; cases z⟩
 keep := fun i h h' ⟨hi, x⟩ k => ⟨hi, x.at fun o e => k it (by simp) o e⟩
 item := by
  intro X e1 e2 e3 hc i pins s σ H E I hf st go
  subst e1; subst e2; subst e3
  obtain ⟨hi, st⟩ := st
  obtain ⟨xs, sq, ln, hlt⟩ := go
  obtain ⟨its, rv, pl, hz⟩ := I.list sq
  have hlx : n - 1 - i < xs.length := by omega
  obtain ⟨u, eu, ru⟩ := rv.get (List.getElem?_eq_getElem hlx)
  have e : (n : Int) - 1 - (i : Int) = ((n - 1 - i : Nat) : Int) := by omega
  rw [e] at st
  refine wpAny_pyNext_rev_item st pl.isList (x := u) (by simpa using eu) fun h' st' sb => ?_
  have e' : ((n - 1 - i : Nat) : Int) - 1 = (n : Int) - 1 - ((i + 1 : Nat) : Int) := by omega
  rw [e'] at st'
  obtain ⟨f1, f2, f3, f4, f5, f6⟩ := hf it (by simp)
  refine ⟨u, xs[n - 1 - i], H, rfl, I.turned (t' := s.toks) (fun b o hb e => sb.extBut b o hb e) f1 f2 f4 f5 f6, ru, ⟨rfl, fun ys sq' _ => by rw [I.list_inj sq' sq]; exact List.getElem?_eq_getElem hlx⟩, ⟨hlt, st'⟩, fun b hb => (hf b hb).1⟩
 done := by
  intro X e1 e2 e3 hc i pins s σ H E I hf st stop
  subst e1; subst e2; subst e3
  obtain ⟨hi, st⟩ := st
  have hin : i = n := stop
  subst hin
  have e : (i : Int) - 1 - (i : Int) = -1 := by omega
  rw [e] at st
  obtain ⟨f1, f2, f3, f4, f5, f6⟩ := hf it (by simp)
  exact wpAny_pyNext_rev_end (I.ok.hd hc) st fun h' k => ⟨rfl, I.turned (t' := s.toks) (fun b o hb e => k b o hb e) f1 f2 f4 f5 f6⟩
 self := fun A i s Q E st h => wpAny_pyIter_revIter st.2 h
 hint := fun A i s Q E st h => rv_hint st.2 h
noncomputable def revS : RS := fun ws G Q => match ws with
 | [.ref p] => ∃ xs, lstOf G p = some xs ∧ ∀ r, G r = none → Q (.ref r) (put G r (.lst xs.reverse))
 | _ => False
theorem revS_mono : RMono revS := by
 intro ws G Q Q' k h
 unfold revS at h ⊢
 split at h
 ·obtain ⟨xs, e1, h⟩ := h
  exact ⟨xs, e1, fun p hp => k _ _ (h p hp)⟩
 ·exact h.elim
theorem rev_ok {X : Cx} (hc : X.calm = true) (pins : List (Addr × Obj)) (s : Shared) (σ : L2.St) (H : Hp) (vs : List V) (us : List Value) (Q : VK) (I : Inv X pins σ H s) (r : Vals vs us) (h : lowR X.K revS vs H Q) :
  wpAny (model X.prog X.w) X.A (call (.type "reversed") us) (fun v s1 => wpAny (model X.prog X.w) X.A (call (.type "list") [v]) (EP X pins σ Q) X.xe s1) X.xe s := by
 obtain ⟨ws, G, rs, ab, h⟩ := h
 unfold revS at h
 split at h
 ·rename_i p
  obtain ⟨v, rfl, rv⟩ := reps1 rs
  cases (show v = .ref p from rv)
  obtain ⟨u, rfl, ru⟩ := vals1 r
  cases (show u = Value.ref p from ru)
  obtain ⟨xs, e, h⟩ := h
  obtain ⟨vs, sq, rr⟩ := ab.seq e
  obtain ⟨its, vv, pl, hz⟩ := I.list sq
  have hl := pl.isList
  have hlt : p < s.heap.objs.size := by
   obtain ⟨o, ho, _⟩ := hl
   exact Heap.lt_size ho
  refine call_reversed_list hl ?_
  have I1 : Inv X pins σ H { s with heap := s.heap.push (revObj p ((its.toArray.size : Int) - 1)), toks := s.toks } := I.kept fun b u e => Heap.get?_push_of_some _ e
  have en : its.toArray.size = vs.length := by rw [List.size_toArray, ← vv.length]
  refine list_turn hc (by decide) (by decide) I1 (rv_turnL X.prog X.w X.K (n := vs.length) (Nat.ne_of_lt hlt)) ⟨Nat.zero_le _, ?_⟩ (fun b hb => ?_) vs.length hz
   (fun i acc H' => H' = H ∧ acc = vs.reverse.take i) ⟨rfl, by simp⟩ ?_ ?_
  ·refine ⟨_, Heap.get?_push_size _ rfl, rfl, ?_⟩
   show Data.fields #[.ref p, rawInt ((its.toArray.size : Int) - 1)] = _
   rw [en]
   simp
  ·rw [List.mem_singleton] at hb
   subst hb
   exact I.fpOk (Nat.le_refl _) (I.hok.fresh (Nat.le_refl _))
  ·rintro i acc H' hi ⟨rfl, rfl⟩
   refine ⟨⟨vs, sq, rfl, hi⟩, ?_⟩
   rintro v H2 ⟨rfl, e2⟩
   refine ⟨rfl, ?_⟩
   have e2 := e2 vs sq rfl
   have hl' : i < vs.reverse.length := by simpa using hi
   rw [List.take_succ_eq_append_getElem hl']
   congr 2
   have : vs.reverse[i]? = some v := by rw [List.getElem?_reverse hi]; exact e2
   exact (Option.some.inj ((List.getElem?_eq_getElem hl').symm.trans this)).symm
  ·rintro acc H' ⟨rfl, rfl⟩
   refine ⟨rfl, ?_⟩
   rw [List.take_of_length_le (by simp)]
   exact new_lst ab rr.reverse h
 ·exact h.elim
end L3
set_option Elab.async false
set_option linter.all false
set_option maxRecDepth 100000
set_option maxHeartbeats 8000000
namespace L3
open PySem PySem.Spec PyProof.Rows L2
noncomputable def Keep (S : List Addr) (G G' : Hw) : Prop := ∀ a o, a ∉ S → G a = some o → G' a = some o
theorem Keep.refl {S : List Addr} {G : Hw} : Keep S G G := fun _ _ _ h => h
theorem Keep.trans {S : List Addr} {G G1 G2 : Hw} (a : Keep S G G1) (b : Keep S G1 G2) : Keep S G G2 := fun x o hx h => b x o hx (a x o hx h)
theorem Keep.put {S : List Addr} {G : Hw} {p : Addr} {o : O} (h : p ∈ S) : Keep S G (put G p o) := fun x u hx hu => by
 rw [put_ne (fun e : x = p => hx (e ▸ h))]; exact hu
theorem Keep.new {S : List Addr} {G : Hw} {p : Addr} {o : O} (h : G p = none) : Keep S G (L3.put G p o) := fun x u hx hu => by
 rw [put_ne (gnone hu h)]; exact hu
theorem Keep.none {S : List Addr} {G G' : Hw} {p : Addr} (k : Keep S G G') (hp : p ∉ S) (h : G' p = Option.none) : G p = Option.none := by
 cases e : G p with
 | none => rfl
 | some o => rw [k p o hp e] at h; cases h
noncomputable abbrev kS : Key := .inr "seed"
noncomputable abbrev kN : Key := .inr "number"
noncomputable abbrev kL : Key := .inr "left"
noncomputable def dealO (seed num : Int) (l : Addr) : O := .dic [(kS, .int seed), (kN, .int num), (kL, .ref l)]
structure DealS (G : Hw) (d l : Addr) (seed num : Int) (left : List Int) : Prop where
 dic : G d = some (dealO seed num l)
 lst : G l = some (.lst (left.map .int))
 s0 : 0 ≤ seed
 s1 : seed < 2147483647
 n0 : 0 ≤ num
 lf : ∀ x ∈ left, (0 : Int) ≤ x
 len : left.length ≤ 63
 ne : d ≠ l
noncomputable def Deal (G : Hw) (d l : Addr) : Prop := ∃ seed num left, DealS G d l seed num left
theorem dgS {a b c : W} : dget [(kS, a), (kN, b), (kL, c)] kS = some a := by rfl
theorem dgN {a b c : W} : dget [(kS, a), (kN, b), (kL, c)] kN = some b := by
 have e1 : ¬ (kS = kN) := by decide +kernel
 unfold dget
 rw [List.find?_cons_of_neg (by simp [e1]), List.find?_cons_of_pos (by simp)]
 rfl
theorem dgL {a b c : W} : dget [(kS, a), (kN, b), (kL, c)] kL = some c := by
 have e1 : ¬ (kS = kL) := by decide +kernel
 have e2 : ¬ (kN = kL) := by decide +kernel
 unfold dget
 rw [List.find?_cons_of_neg (by simp [e1]), List.find?_cons_of_neg (by simp [e2]), List.find?_cons_of_pos (by simp)]
 rfl
theorem dpN {a b c x : W} : dput [(kS, a), (kN, b), (kL, c)] kN x = [(kS, a), (kN, x), (kL, c)] := by
 unfold dput
 have e1 : ¬ (kS = kN) := by decide +kernel
 have e2 : ¬ (kL = kN) := by decide +kernel
 simp [e1, e2]
theorem dpS {a b c x : W} : dput [(kS, a), (kN, b), (kL, c)] kS x = [(kS, x), (kN, b), (kL, c)] := by
 unfold dput
 have e1 : ¬ (kN = kS) := by decide +kernel
 have e2 : ¬ (kL = kS) := by decide +kernel
 simp [e1, e2]
noncomputable def bDraw : ISs := (.cons (.whl (.and (.cmp .Eq (.ix (.var 0) (.con (.str "number"))) (.con (.int 0))) (.cmp .Gt (.call 1 (.cons (.ix (.var 0) (.con (.str "left"))) .nil)) (.con (.int 0)))) (.cons (.asgI (.var 0) (.con (.str "number")) (.mth 0 (.ix (.var 0) (.con (.str "left"))) .nil))
 .nil))
 (.cons (.asg 2 (.ix (.var 0) (.con (.str "number"))))
 (.cons (.ite (.cmp .Gt (.var 2) (.con (.int 0))) (.cons (.asgI (.var 0) (.con (.str "number")) (.bin .FloorDiv (.var 2) (.var 1)))
 (.cons (.ret (.bin .Mod (.var 2) (.var 1)))
 .nil)) .nil)
 (.cons (.asg 3 (.bin .Mod (.bin .Add (.bin .Mult (.ix (.var 0) (.con (.str "seed"))) (.con (.int 48271))) (.con (.int 7919))) (.con (.int 2147483647))))
 (.cons (.asgI (.var 0) (.con (.str "seed")) (.bin .Mod (.bin .Add (.bin .Mult (.var 3) (.con (.int 40692))) (.con (.int 104729))) (.con (.int 2147483399))))
 (.cons (.asg 4 (.bin .Mod (.bin .Mult (.ix (.var 0) (.con (.str "seed"))) (.ix (.var 0) (.con (.str "seed")))) (.con (.int 2147483563))))
 (.cons (.ret (.bin .Mod (.bin .Add (.bin .Mult (.bin .Mod (.bin .Mult (.var 3) (.var 3)) (.con (.int 2147483629))) (.con (.int 2147483563))) (.var 4)) (.var 1)))
 .nil)))))))
noncomputable abbrev eLen : Fn3 := ⟨"len", fun ws G Q _ => lenS ws G Q⟩
noncomputable abbrev ePop : Mt3 := ⟨"pop", "list", popS⟩
theorem DealS.put {G : Hw} {d l : Addr} {seed num : Int} {left : List Int} (D : DealS G d l seed num left) {seed' num' : Int} (h1 : 0 ≤ seed') (h2 : seed' < 2147483647) (h3 : 0 ≤ num') : DealS (put G d (dealO seed' num' l)) d l seed' num' left :=
 ⟨put_same, by rw [put_ne D.ne.symm]; exact D.lst, h1, h2, h3, D.lf, D.len, D.ne⟩
theorem eq_int_dec {i j : Int} : eqW (.int i) (.int j) = decide (i = j) := by
 simp [eqW, Bool.beq_eq_decide_eq]
theorem eqG_int {G : Hw} {i j : Int} : eqG G (.int i) (.int j) = some (decide (i = j)) := by
 simp [eqG, pur, dep, eq_int_dec]
theorem map_last {left : List Int} : (left.map W.int)[left.length - 1]? = (left[left.length - 1]?).map W.int := by simp
theorem modb {a m : Int} (h : 0 < m) : 0 ≤ a % m ∧ a % m < m := ⟨Int.emod_nonneg _ (by omega), Int.emod_lt_of_pos _ h⟩
theorem draw_exit {d l : Addr} {m : Int} {G G1 : Hw} {Q : Q3} {seed num : Int} {left : List Int} (D : DealS G1 d l seed num left) (kp : Keep [d, l] G G1) (hm : 0 < m ∧ m < 1073741824) (few : ∀ {a b c : W}, [(kS, a), (kN, b), (kL, c)].length < sizeLine)
  (hq : ∀ r G', 0 ≤ r → r < m → Keep [d, l] G G' → Deal G' d l → Q (.int r) G') : if decide (0 < num) = true then
   CDiv num m ∧ [(kS, W.int seed), (kN, W.int num), (kL, W.ref l)].length < sizeLine ∧ 0 < m ∧ Q (W.int (num % m)) (put G1 d (O.dic [(kS, W.int seed), (kN, W.int (num / m)), (kL, W.ref l)]))
  else
   CMul seed 48271 ∧ (0 : Int) < 2147483647 ∧ CMul ((seed * 48271 + 7919) % 2147483647) 40692 ∧ (0 : Int) < 2147483399 ∧ [(kS, W.int seed), (kN, W.int num), (kL, W.ref l)].length < sizeLine ∧
   CMul (((seed * 48271 + 7919) % 2147483647 * 40692 + 104729) % 2147483399) (((seed * 48271 + 7919) % 2147483647 * 40692 + 104729) % 2147483399) ∧ (0 : Int) < 2147483563 ∧
   CMul ((seed * 48271 + 7919) % 2147483647) ((seed * 48271 + 7919) % 2147483647) ∧ (0 : Int) < 2147483629 ∧
   CMul ((seed * 48271 + 7919) % 2147483647 * ((seed * 48271 + 7919) % 2147483647) % 2147483629) 2147483563 ∧ 0 < m ∧
   Q (W.int (((seed * 48271 + 7919) % 2147483647 * ((seed * 48271 + 7919) % 2147483647) % 2147483629 * 2147483563 + ((seed * 48271 + 7919) % 2147483647 * 40692 + 104729) % 2147483399 * (((seed * 48271 + 7919) % 2147483647 * 40692 + 104729) % 2147483399) % 2147483563) % m))
    (put G1 d (O.dic [(kS, W.int (((seed * 48271 + 7919) % 2147483647 * 40692 + 104729) % 2147483399)), (kN, W.int num), (kL, W.ref l)])) := by
 split
 ·exact ⟨hm, few, hm.1, hq _ _ (modb hm.1).1 (modb hm.1).2 (kp.trans (Keep.put (by simp))) ⟨seed, num / m, left, D.put D.s0 D.s1 (Int.ediv_nonneg D.n0 (by omega))⟩⟩
 ·have b1 := modb (a := seed * 48271 + 7919) (m := 2147483647) (by decide)
  generalize (seed * 48271 + 7919) % 2147483647 = x at b1 ⊢
  have b2 := modb (a := x * 40692 + 104729) (m := 2147483399) (by decide)
  generalize (x * 40692 + 104729) % 2147483399 = y at b2 ⊢
  refine ⟨.inr ⟨by decide, by decide⟩, by decide, .inr ⟨by decide, by decide⟩, by decide, few, .inl ⟨by omega, by omega⟩, by decide, .inl ⟨by omega, by omega⟩, by decide, .inr ⟨by decide, by decide⟩, hm.1, ?_⟩
  exact hq _ _ (modb hm.1).1 (modb hm.1).2 (kp.trans (Keep.put (by simp))) ⟨y, num, left, D.put b2.1 (by omega) D.n0⟩
theorem draw_sem {Γ : Ctx3} (h1 : Γ.fn[1]? = some eLen) (h2 : Γ.mt[0]? = some ePop) {d l : Addr} {m : Int} {G : Hw} {Q : Q3} {nx : St3 → Hw → Prop} (D : Deal G d l) (hm : 0 < m ∧ m < 1073741824)
  (hq : ∀ r G', 0 ≤ r → r < m → Keep [d, l] G G' → Deal G' d l → Q (.int r) G') : semSs Γ XN bDraw { nx := nx, rt := Q } [some (.ref d), some (.int m), none, none, none] G := by
 obtain ⟨seed, num, left, D⟩ := D
 dsimp only [bDraw, semSs, semS, semE, semT, sem, mkE, mkB, blE, truE, semA, conW, List.getElem?_cons_zero, List.getElem?_cons_succ, List.set_cons_zero, List.set_cons_succ]
 simp only [h1, h2]
 refine ⟨fun k σ G' => σ = [some (.ref d), some (.int m), none, none, none] ∧ Keep [d, l] G G' ∧ ∃ num left, k = left.length ∧ DealS G' d l seed num left, ⟨_, rfl, .refl, num, left, rfl, D⟩, ?_⟩
 rintro k σ G1 ⟨rfl, kp, num, left, rfl, D⟩
 have hd : G1 d = some (.dic [(kS, .int seed), (kN, .int num), (kL, .ref l)]) := D.dic
 have hl : G1 l = some (.lst (left.map .int)) := D.lst
 have hds : ∀ o, (put G1 d o) d = some o := fun o => put_same
 have hdl : ∀ o, (put G1 l o) d = some (.dic [(kS, .int seed), (kN, .int num), (kL, .ref l)]) := fun o => by rw [put_ne D.ne]; exact hd
 have few : ∀ {a b c : W}, [(kS, a), (kN, b), (kL, c)].length < sizeLine := by intros; show 3 < sizeLine; rw [sizeLine_eq]; decide
 simp only [List.getElem?_cons_zero, List.getElem?_cons_succ, List.set_cons_zero, List.set_cons_succ, ixR, hd, keyOf, dgN, dgL, dgS, cmpR, eqG_int, blR, lenS, lenW, hl, List.length_map, tyW, popS, ordR, map_last, setR, hdl, hds, dpN, dpS, binR]
 by_cases hn : num = 0
 ·simp only [decide_eq_true hn, if_true]
  by_cases hlen : (0 : Int) < (left.length : Int)
  ·simp only [decide_eq_true hlen, if_true]
   have hlast : left.length - 1 < left.length := by omega
   rw [List.getElem?_eq_getElem hlast]
   simp only [Option.map_some]
   refine ⟨trivial, few, left.dropLast.length, by rw [List.length_dropLast]; omega, trivial, ?_, left[left.length - 1], left.dropLast, rfl, ?_⟩
   ·exact (kp.trans (Keep.put (by simp))).trans (Keep.put (by simp))
   ·refine ⟨put_same, ?_, D.s0, D.s1, D.lf _ (List.getElem_mem hlast), fun x hx => D.lf x (List.dropLast_subset _ hx), by have := D.len; rw [List.length_dropLast]; omega, D.ne⟩
    rw [put_ne D.ne.symm, put_same, List.map_dropLast]
  ·simp only [decide_eq_false hlen, Bool.false_eq_true, if_false]
   exact draw_exit D kp hm few hq
 ·simp only [decide_eq_false hn, Bool.false_eq_true, if_false]
  exact draw_exit D kp hm few hq
theorem lc_pure {items : List W} {stab : Hw → Prop} {G1 : Hw} {turn : W → Hw → (Option W → Hw → Prop) → Prop} {Q : Q3} (f : W → Option W) (hs : stab G1) (hl : items.length ≤ sizeLine) (ht : ∀ w ∈ items, ∀ K : Option W → Hw → Prop, K (f w) G1 → turn w G1 K)
  (hq : ∀ p, G1 p = none → Q (.ref p) (put G1 p (.lst (items.filterMap f)))) : lcR items stab G1 turn Q := by
 refine ⟨fun i acc G => G = G1 ∧ acc = (items.take i).filterMap f, ⟨rfl, by simp⟩, ?_, hl, ?_, ?_⟩
 ·rintro i acc G ⟨rfl, rfl⟩ hi
  refine ⟨hs, Nat.le_trans (List.length_filterMap_le _ _) ?_⟩
  rw [List.length_take]; omega
 ·rintro i w acc G hi ⟨rfl, rfl⟩
  have hlt : i < items.length := (List.getElem?_eq_some_iff.mp hi).1
  have hw : items[i] = w := (List.getElem?_eq_some_iff.mp hi).2
  refine ht w (List.mem_of_getElem? hi) _ ?_
  have et : items.take (i + 1) = items.take i ++ [w] := by rw [List.take_succ_eq_append_getElem hlt, hw]
  cases e : f w with
  | some x => exact ⟨rfl, by rw [et, List.filterMap_append]; simp [e]⟩
  | none => exact ⟨rfl, by rw [et, List.filterMap_append]; simp [e]⟩
 ·rintro acc G ⟨rfl, rfl⟩ p hp
  rw [List.take_length]
  exact hq p hp
theorem cut_map {α β : Type} (f : α → β) (xs : List α) (lo hi : Option Int) : cut (xs.map f) lo hi = (cut xs lo hi).map f := by
 unfold cut
 rw [List.length_map, List.map_take, List.map_drop]
theorem cut_len {α : Type} (xs : List α) (lo hi : Option Int) : (cut xs lo hi).length ≤ xs.length := by
 unfold cut
 rw [List.length_take, List.length_drop]
 omega
noncomputable def bDeal : ISs := (.cons (.asg 2 (.lc (.nm 0) ["_law_cell"] [] (.val (.sl (.var 0) (.yes (.var 1)) (.yes (.con (.int 63))))) .no (.call 0 (.cons (.var 0) (.cons (.bin .Sub (.con (.int 0)) (.var 0)) .nil)))))
 (.cons (.asg 3 (.bin .Add (.con (.int 7919)) (.var 1)))
 (.cons (.for (.nm 4) (.val (.var 2)) (.cons (.asg 3 (.bin .Mod (.bin .Add (.bin .Mult (.var 3) (.con (.int 69621))) (.bin .Mod (.var 4) (.con (.int 2147483629)))) (.con (.int 2147483647))))
 .nil))
 (.cons (.ret (.dct ["seed", "number", "left"] (.cons (.var 3) (.cons (.con (.int 0)) (.cons (.spc 0 (.cons (.lc (.nm 0) ["_law_cell"] [] (.val (.var 2)) (.yes (.cmp .GtE (.var 0) (.bin .Pow (.con (.int 10)) (.con (.int 18))))) (.var 0)) .nil)) .nil)))))
 .nil))))
noncomputable abbrev eMax : Fn3 := ⟨"max", fun ws G Q _ => maxS ws G Q⟩
noncomputable abbrev eRev : Sx3 := ⟨lofM "reversed", revS⟩
noncomputable def absI (x : Int) : Int := if 0 - x > x then 0 - x else x
theorem absI_nn (x : Int) : 0 ≤ absI x := by unfold absI; split <;> omega
theorem lstOf_lst {G : Hw} {p : Addr} {ws : List W} (h : G p = some (.lst ws)) : lstOf G p = some ws := by unfold lstOf; rw [h]
theorem dct3 {a b c : W} : dctOf ["seed", "number", "left"] [a, b, c] = [(kS, a), (kN, b), (kL, c)] := by
 have e1 : ¬ (kS = kN) := by decide +kernel
 have e2 : ¬ (kS = kL) := by decide +kernel
 have e3 : ¬ (kN = kL) := by decide +kernel
 simp [dctOf, dput, e1, e2, e3]
noncomputable def IsScr (G : Hw) (w : W) (ns : List Int) : Prop := (∃ a, w = .ref a ∧ lstOf G a = some (ns.map .int)) ∨ w = .lsf (ns.map .int)
theorem IsScr.sl {G : Hw} {w : W} {ns : List Int} (h : IsScr G w ns) {lo hi : Option Int} {Q : Q3} (hq : ∀ r, G r = none → Q (.ref r) (put G r (.lst (cut (ns.map W.int) lo hi)))) : slR w lo hi G Q := by
 rcases h with ⟨a, rfl, e⟩ | rfl
 ·simp only [slR, e]; exact hq
 ·exact hq
theorem deal_sem {Γ : Ctx3} (h0 : Γ.fn[0]? = some eMax) (h2 : Γ.sx[0]? = some eRev) {a : W} {base : Int} {ns : List Int} {G : Hw} {Q : Q3} {nx : St3 → Hw → Prop} (hs : IsScr G a ns) (hl : ns.length ≤ 63) (hb : 0 ≤ base ∧ base ≤ 1000)
  (hq : ∀ d l G', G d = none → G l = none → Keep [] G G' → Deal G' d l → Q (.ref d) G') : semSs Γ XN bDeal { nx := nx, rt := Q } [some a, some (.int base), none, none, none] G := by
 dsimp only [bDeal, semSs, semS, semE, semT, sem, mkE, mkB, blE, truE, semA, semI, semO, semC, semG, conW, List.getElem?_cons_zero, List.getElem?_cons_succ, intR]
 simp only [h0, h2, iterW]
 refine hs.sl fun p1 hp1 => ?_
 dsimp only
 have hp1' : lstOf (put G p1 (.lst (cut (ns.map W.int) (some base) (some 63)))) p1 = some (cut (ns.map W.int) (some base) (some 63)) := lstOf_lst put_same
 rw [hp1']
 rw [cut_map]
 generalize ecs : cut ns (some base) (some 63) = cs
 have hcl : cs.length ≤ 63 := by rw [← ecs]; exact Nat.le_trans (cut_len _ _ _) hl
 rw [cut_map, ecs] at hp1'
 refine lc_pure (fun w => match w with | .int x => some (.int (absI x)) | _ => none) hp1' (by rw [List.length_map, sizeLine_eq]; omega) ?_ ?_
 ·intro w hw K hK
  obtain ⟨x, hx, rfl⟩ := List.mem_map.mp hw
  simp only [capS, List.length_cons, List.length_nil, List.replicate, List.map_nil, List.append_nil, List.set_cons_zero, List.getElem?_cons_zero, binR, maxS, if_true]
  exact hK
 ·intro p2 hp2
  have ef : (cs.map W.int).filterMap (fun w => match w with | .int x => some (.int (absI x)) | _ => none) = (cs.map absI).map W.int := by
   rw [List.filterMap_map, List.map_map, ← List.filterMap_eq_map]
   rfl
  rw [ef]
  generalize eG : put (put G p1 (.lst (cs.map W.int))) p2 (.lst ((cs.map absI).map W.int)) = G2
  have kp2 : Keep [] G G2 := by rw [← eG]; exact (Keep.new hp1).trans (Keep.new hp2)
  have g2 : G2 p2 = some (.lst ((cs.map absI).map W.int)) := by rw [← eG]; exact put_same
  simp only [List.getElem?_cons_zero, List.getElem?_cons_succ, List.set_cons_zero, List.set_cons_succ, binR, lstOf_lst g2]
  refine ⟨fun i σ G' => G' = G2 ∧ ∃ (n : Int) (c : Option W), σ = [some a, some (.int base), some (.ref p2), some (.int n), c] ∧ 0 ≤ n ∧ n < 2147483647, ⟨rfl, 7919 + base, none, rfl, by omega, by omega⟩, ?_, ?_, ?_⟩
  ·rintro i σ G' ⟨rfl, _⟩ _
   exact lstOf_lst g2
  ·rintro i w σ G' hi ⟨rfl, n, c, rfl, n0, n1⟩
   have hw := List.mem_of_getElem? hi
   obtain ⟨x, hx, rfl⟩ := List.mem_map.mp hw
   simp only [List.getElem?_cons_zero, List.getElem?_cons_succ, List.set_cons_zero, List.set_cons_succ, binR]
   exact ⟨.inr ⟨by decide, by decide⟩, by decide, by decide, trivial, _, _, rfl, (modb (by decide)).1, (modb (by decide)).2⟩
  ·rintro σ G' ⟨rfl, n, c, rfl, n0, n1⟩
   intro d hd
   simp only [List.getElem?_cons_zero, List.getElem?_cons_succ]
   have g3 : (put G' d (.dic [])) p2 = some (.lst ((cs.map absI).map W.int)) := by rw [put_ne (gnone g2 hd)]; exact g2
   simp only [lstOf_lst g3]
   refine lc_pure (fun w => match w with | .int x => if (10 : Int) ^ 18 ≤ x then some (.int x) else none | _ => none) (lstOf_lst g3) (by rw [List.length_map, List.length_map, sizeLine_eq]; omega) ?_ ?_
   ·intro w hw K hK
    obtain ⟨x, hx, rfl⟩ := List.mem_map.mp hw
    simp only [capS, List.length_cons, List.length_nil, List.replicate, List.map_nil, List.append_nil, List.set_cons_zero, List.getElem?_cons_zero, binR, cmpR, ordR, blR]
    refine ⟨⟨by decide, by decide, by decide⟩, ?_⟩
    have e18 : (10 : Int) ^ (18 : Int).toNat = 10 ^ 18 := rfl
    rw [e18]
    by_cases hx : (10 : Int) ^ 18 ≤ x
    ·rw [decide_eq_true hx, if_pos rfl]
     simp only [if_pos hx] at hK
     exact hK
    ·rw [decide_eq_false hx, if_neg Bool.false_ne_true]
     simp only [if_neg hx] at hK
     exact hK
   ·intro p3 hp3
    have ef : ((cs.map absI).map W.int).filterMap (fun w => match w with | .int x => if (10 : Int) ^ 18 ≤ x then some (.int x) else none | _ => none) = ((cs.map absI).filter fun x => decide ((10 : Int) ^ 18 ≤ x)).map W.int := by
     generalize cs.map absI = ys
     induction ys with
     | nil => rfl
     | cons y ys ih =>
      rw [List.map_cons, List.filterMap_cons, List.filter_cons]
      by_cases hy : (10 : Int) ^ 18 ≤ y
      ·simp only [if_pos hy, decide_eq_true hy, if_true, List.map_cons, ih]
      ·simp only [if_neg hy, decide_eq_false hy, Bool.false_eq_true, if_false, ih]
    rw [ef]
    generalize efl : (cs.map absI).filter (fun x => decide ((10 : Int) ^ 18 ≤ x)) = fl
    have flen : fl.length ≤ 63 := by rw [← efl]; refine Nat.le_trans (List.length_filter_le _ _) ?_; rw [List.length_map]; exact hcl
    have fnn : ∀ x ∈ fl, (0 : Int) ≤ x := fun x hx => by
     rw [← efl] at hx
     obtain ⟨y, hy, rfl⟩ := List.mem_map.mp (List.mem_filter.mp hx).1
     exact absI_nn y
    refine ⟨fl.map W.int, lstOf_lst put_same, fun l hl' => ?_⟩
    have ned : d ≠ l := fun e => by
     subst e
     rw [put_ne (gnone put_same hp3), put_same] at hl'
     cases hl'
    have np3 : d ≠ p3 := gnone put_same hp3
    refine ⟨by rw [put_ne ned, put_ne np3, put_same], rfl, ?_⟩
    rw [dct3]
    refine hq d l _ (kp2.none (by simp) hd) ?_ ?_ ⟨n, 0, fl.reverse, put_same, ?_, n0, n1, by omega, fun x hx => fnn x (List.mem_reverse.mp hx), by rw [List.length_reverse]; exact flen, ned⟩
    ·have k3 : Keep [] G (put (put G' d (.dic [])) p3 (.lst (fl.map W.int))) := (kp2.trans (Keep.new hd)).trans (Keep.new hp3)
     exact k3.none (by simp) hl'
    ·intro x u hx hu
     rw [put_ne (gnone hu (kp2.none (by simp) hd))]
     exact ((((kp2.trans (Keep.new hd)).trans (Keep.new hp3)).trans (Keep.new hl')) x u hx hu)
    ·rw [put_ne ned.symm, put_same, ← List.map_reverse]
end L3
set_option Elab.async false
set_option linter.all false
set_option maxRecDepth 100000
set_option maxHeartbeats 8000000
namespace L3
open PySem PySem.Spec PyProof.Rows L2
structure FunD (K : Frg) (x qual : Str) (st : Stmt) (dV : Value) (f : Addr) (fd : FuncData) : Prop where
 ex : ∃ (oc : Value) (od : Option Addr) (kV doc pm : Value) (an : Option Addr) (cdv ct : Value) (osl : Array (Option Value)),
  fd = PySem.W.fnOf x qual (defArgs st) (defBody st) (defScope st) dV kV doc pm an cdv ct ∧ K.lookup f = some ⟨oc, od, .func fd, osl⟩ ∧ PySem.W.codeIn K cdv qual = true
 kp : PySem.W.keepIn K (.ref f) = true
theorem def_okD {Γ : Ctx3} {q : Pr} {k : Nat} {M : MC} {x qual : Str} {st : Stmt} {dV : Value} {f : Addr} {fd : FuncData} {ps : List Str} {sp : Sp3} {body : ISs} (F : FunD q.K x qual st dV f fd) (S : FnScope M.N ps (defScope st)) (g : ∀ A, Room k A → Good Γ (q.at A))
  (eM : MOk Γ M (defScope st)) (hm : mSs body M (defBody st) = true) (len : ∀ ws G Q, sp ws G Q XN → ws.length = ps.length)
  (hb : ∀ ws G Q, sp ws G Q XN → semSs Γ XN body { nx := fun _ G' => Q .non G', rt := Q } (start3 M.N ws) G) : FnOk q.prog q.w q.K q.mg q.base CX0 (k + 1) f fd ps (lowSp q.K sp) := by
 obtain ⟨oc, od, kV, doc, pm, an, cdv, ct, osl, rfl, lk, hcd⟩ := F.ex
 refine fn_of lk hcd S (fun vs H Q E h => ?_) fun A outer s H vs Q E hr h => ?_
 ·obtain ⟨ws, G, rs, ab, h⟩ := h
  rw [rs.length]; exact len ws G _ h
 ·obtain ⟨ws, G, rs, ab, h⟩ := h
  have gg := g _ hr
  refine ⟨lowS q.K (semSs Γ XN body), PSs.nox (sndSs gg body M _ (defBody st) ?_ hm), ?_⟩
  ·exact ⟨⟨rfl, rfl, rfl, rfl, rfl, rfl, rfl, rfl⟩, rfl, eM.sc.symm, S.nd, fun _ _ => rfl, by rw [eM.sc]; exact S.kind, eM.fns, eM.gls, eM.mts, eM.its, eM.sxs, eM.ixs⟩
  ·refine ⟨start3 M.N ws, G, _, start_rep rs, ab, ⟨?_, ?_, ?_, ?_⟩, hb ws G _ h⟩
   ·exact fun σ G' τ H' g' _ a' z => z .non H' g' (show Rep q.K H' .non .non from rfl) a'
   ·exact fun σ G' τ H' g' _ a' z => z.elim
   ·exact fun σ G' τ H' g' _ a' z => z.elim
   ·exact fun w G' v H' g' r' a' z => z v H' g' r' a'
structure HD (K : Frg) (x qual : Str) (st : Stmt) (dV : Value) (f : Addr) : Prop where
 ex : ∃ (oc : Value) (od an : Option Addr) (osl : Array (Option Value)) (kV doc pm cdv ct : Value), K.lookup f = some ⟨oc, od, .func (PySem.W.fnOf x qual (defArgs st) (defBody st) (defScope st) dV kV doc pm an cdv ct), osl⟩ ∧ PySem.W.codeIn K cdv qual = true
 kp : PySem.W.keepIn K (.ref f) = true
theorem HD.mk' {K : Frg} {x qual : Str} {st : Stmt} {dV : Value} {f : Addr} {oc : Value} {od an : Option Addr} {osl : Array (Option Value)} {kV doc pm cdv ct : Value}
  (l : K.lookup f = some ⟨oc, od, .func (PySem.W.fnOf x qual (defArgs st) (defBody st) (defScope st) dV kV doc pm an cdv ct), osl⟩) (c : PySem.W.codeIn K cdv qual = true) (k : PySem.W.keepIn K (.ref f) = true) : HD K x qual st dV f := ⟨⟨oc, od, an, osl, kV, doc, pm, cdv, ct, l, c⟩, k⟩
theorem HD.fd {K : Frg} {x qual : Str} {st : Stmt} {dV : Value} {f : Addr} (h : HD K x qual st dV f) : ∃ fd, FunD K x qual st dV f fd ∧ ∃ kV doc pm an cdv ct, fd = PySem.W.fnOf x qual (defArgs st) (defBody st) (defScope st) dV kV doc pm an cdv ct := by
 obtain ⟨oc, od, an, osl, kV, doc, pm, cdv, ct, l, c⟩ := h.ex
 exact ⟨_, ⟨⟨oc, od, kV, doc, pm, an, cdv, ct, osl, rfl, l, c⟩, h.kp⟩, kV, doc, pm, an, cdv, ct, rfl⟩
noncomputable def FMono (f : Fn3) : Prop := ∀ ws G (Q Q' : Q3) E, (∀ w G', Q w G' → Q' w G') → f.sp ws G Q E → f.sp ws G Q' E
noncomputable def EntOk (p : Par) (f : Fn3) : Prop := FnE p f ∧ FMono f
noncomputable def MtMono (m : Mt3) : Prop := ∀ x ws G (Q Q' : Q3), (∀ w G', Q w G' → Q' w G') → m.sp x ws G Q → m.sp x ws G Q'
noncomputable def ItMono (m : It3) : Prop := ∀ ws G (R R' : List W → (Hw → Prop) → Hw → Prop), (∀ a b c, R a b c → R' a b c) → m.sp ws G R → m.sp ws G R'
noncomputable def GlE (p : Par) (g : Str × W) : Prop := ∀ X, Fits p X → Gl X g.1 → ∀ q : Pos, (g.1 == ("__debug__" : Str)) = false → g.1 ≠ "__name__" → PE X (.Name g.1 q) (lowE X.K fun _ G Q => Q g.2 G)
theorem good_mk {Γ : Ctx3} {p : Par} (un : p.A.units + 200 < cLine) (fn : ∀ f ∈ Γ.fn, EntOk p f) (gl : ∀ g ∈ Γ.gl, GlE p g) (mt : ∀ m ∈ Γ.mt, MtE p m ∧ MtMono m) (it : ∀ i ∈ Γ.it, ItE p i ∧ ItMono i)
  (cl : ∀ c ∈ Γ.cl, Cls p.K c.1 ∧ ∀ f ∈ c.2, NoAttr p.K c.1 f) (sx : ∀ k ∈ Γ.sx, SxE p k ∧ RMono k.sp) (ix : Γ.ix = []) : Good Γ p where
 mono := ⟨fun f hf => (fn f hf).2, fun m hm => (mt m hm).2, fun i hi => (it i hi).2, fun k hk => (sx k hk).2, fun k hk => by rw [ix] at hk; cases hk⟩
 un := un
 fn := fun f hf => (fn f hf).1
 gl := gl
 mt := fun m hm => (mt m hm).1
 it := fun i hi => (it i hi).1
 cl := cl
 sx := fun k hk => (sx k hk).1
 ix := fun k hk => by rw [ix] at hk; cases hk
theorem forall_nil {α : Type} {P : α → Prop} : ∀ x ∈ ([] : List α), P x := fun _ h => nomatch h
theorem forall_cons {α : Type} {P : α → Prop} {a : α} {l : List α} (h : P a) (t : ∀ x ∈ l, P x) : ∀ x ∈ a :: l, P x := fun x hx => by
 rcases List.mem_cons.mp hx with rfl | hx
 ·exact h
 ·exact t x hx
theorem forall_snoc {α : Type} {P : α → Prop} {a : α} {l : List α} (t : ∀ x ∈ l, P x) (h : P a) : ∀ x ∈ l ++ [a], P x := fun x hx => by
 rcases List.mem_append.mp hx with hx | hx
 ·exact t x hx
 ·rw [List.mem_singleton.mp hx]; exact h
theorem gl_data {q : Pr} {A : Around} {x : Str} {w : W} {u : Value} {v : V} (hm : q.mg x = some u) (r : RelV v u) (rp : ∀ H, Rep q.K H w v) : GlE (q.at A) (x, w) := by
 intro X fits gl qp hd hn
 have hm' : X.mg x = some u := by rw [fits.mg]; exact hm
 refine (pe_glob gl hm' r hd).imp fun τ H Q h => ?_
 obtain ⟨σ, G, hs, ab, h⟩ := h
 exact h v H .refl (by have := rp H; rw [fits.K]; exact this) ab
theorem gl_type {q : Pr} {A : Around} {x : Str} {T : String} (hm : q.mg x = none) (hv : bootBuiltins x = some (.type T)) : GlE (q.at A) (x, .ty T) := by
 intro X fits gl qp hd hn
 have hm' : X.mg x = none := by rw [fits.mg]; exact hm
 refine (pe_bltn (v := .ty T) gl hm' hv rfl hn hd).imp fun τ H Q h => ?_
 obtain ⟨σ, G, hs, ab, h⟩ := h
 exact h (.ty T) H .refl rfl ab
theorem rngI_mono : ItMono ⟨"range", rngI⟩ := by
 intro ws G R R' k h
 replace h : rngI ws G R := h
 show rngI ws G R'
 unfold rngI at h ⊢
 split at h
 ·exact ⟨h.1, k _ _ _ h.2⟩
 ·exact h.elim
noncomputable def spDeal : Sp3 := fun ws G Q _ => ∃ a base ns, ws = [a, .int base] ∧ IsScr G a ns ∧ ns.length ≤ 63 ∧ (0 ≤ base ∧ base ≤ 1000) ∧ ∀ d l G', G d = none → G l = none → Keep [] G G' → Deal G' d l → Q (.ref d) G'
noncomputable def spDraw : Sp3 := fun ws G Q _ => ∃ d l m, ws = [.ref d, .int m] ∧ Deal G d l ∧ (0 < m ∧ m < 1073741824) ∧ ∀ r G', 0 ≤ r → r < m → Keep [d, l] G G' → Deal G' d l → Q (.int r) G'
theorem spDeal_mono : FMono ⟨"_law_deal", spDeal⟩ := fun ws G Q Q' E k hh => by
 obtain ⟨a, b, ns, h1, h2, h3, h4, h⟩ := hh
 exact ⟨a, b, ns, h1, h2, h3, h4, fun d l G' a b c e => k _ _ (h d l G' a b c e)⟩
theorem spDraw_mono : FMono ⟨"_law_draw", spDraw⟩ := fun ws G Q Q' E k hh => by
 obtain ⟨a, b, m, h1, h2, h3, h⟩ := hh
 exact ⟨a, b, m, h1, h2, h3, fun d l a b c e => k _ _ (h d l a b c e)⟩
noncomputable abbrev eDeal : Fn3 := ⟨"_law_deal", spDeal⟩
noncomputable abbrev eDraw : Fn3 := ⟨"_law_draw", spDraw⟩
noncomputable abbrev eAll : Fn3 := ⟨"all", fun ws G Q _ => allS (·.all id) ws G Q⟩
noncomputable abbrev eLst : Fn3 := ⟨"list", fun ws G Q _ => lstS ws G Q⟩
noncomputable abbrev eIsi (K : Frg) : Fn3 := ⟨"isinstance", fun ws G Q _ => isiS K ws G Q⟩
noncomputable abbrev eIdx : Mt3 := ⟨"index", "list", idxS⟩
noncomputable abbrev eZip : Sx3 := ⟨lofM "zip", zipS⟩
noncomputable abbrev eRng : It3 := ⟨"range", rngI⟩
section
variable {q : Pr} {A : Around} {k : Nat}
theorem ent_max (hm : q.mg "max" = none) : EntOk (q.at A) eMax := ⟨fn_blt hm (by decide +kernel) (fun X f => max_ok f.calm) maxS_mono (fun _ _ h => h), fun ws G Q Q' _ k h => maxS_mono ws G Q Q' k h⟩
theorem ent_len (hm : q.mg "len" = none) : EntOk (q.at A) eLen := ⟨fn_blt hm (by decide +kernel) (fun X f => len_ok) lenS_mono (fun _ _ h => h), fun ws G Q Q' _ k h => lenS_mono ws G Q Q' k h⟩
theorem ent_lst (hm : q.mg "list" = none) : EntOk (q.at A) eLst := ⟨fn_ty hm (by decide +kernel) (fun X f => lst_ok) lstS_mono (fun _ _ h => h), fun ws G Q Q' _ k h => lstS_mono ws G Q Q' k h⟩
theorem ent_isi (hm : q.mg "isinstance" = none) : EntOk (q.at A) (eIsi q.K) := ⟨fn_blt (id := "isinstance") hm (by decide +kernel) (fun X f => by rw [← show X.K = q.K from f.K]; exact isi_ok) (isiS_mono _) (fun _ _ h => h), fun ws G Q Q' _ k h => isiS_mono _ ws G Q Q' k h⟩
theorem ent_pop : MtE (q.at A) ePop ∧ MtMono ePop := ⟨mt_blt PySem.F.plainAttrs_list PySem.F.slot_list_pop PySem.F.type_list_pop (fun X f => pop_ok) popS_mono, popS_mono⟩
theorem ent_rng (hm : q.mg "range" = none) : ItE (q.at A) eRng ∧ ItMono eRng := ⟨it_rng hm, rngI_mono⟩
theorem ent_rev (hl : q.mg "list" = none) (hm : q.mg "reversed" = none) : SxE (q.at A) eRev ∧ RMono eRev.sp := ⟨sx_lof hl hm (by decide +kernel) revS_mono (fun X f => rev_ok f.calm), revS_mono⟩
end
end L3
set_option Elab.async false
set_option linter.all false
set_option maxRecDepth 100000
set_option maxHeartbeats 8000000
namespace L3
open PySem PySem.Spec PyProof.Rows L2
theorem FnE.imp {p : Par} {nm : Str} {sp sp' : Sp3} (h : FnE p ⟨nm, sp'⟩) (k : ∀ ws G Q, sp ws G Q XN → sp' ws G Q XN) : FnE p ⟨nm, sp⟩ := by
 intro X fits gl args t qp pos mt hn pa hnil hdb hnm
 refine (h X fits gl args t qp pos mt hn pa hnil hdb hnm).imp fun τ H Q z => ?_
 obtain ⟨σ, G, hs, ab, z⟩ := z
 exact ⟨σ, G, hs, ab, mt σ G _ _ (fun ws G1 z => k _ _ _ z) z⟩
theorem binds_of {K : Frg} {x qual : Str} {st : Stmt} {f : Addr} {fd : FuncData} {ps : List Str} (F : FunD K x qual st .none f fd)
  (h : ∀ (kV doc pm : Value) (an : Option Addr) (cdv ct : Value) (us : List Value), us.length = ps.length → bindArgs (PySem.W.fnOf x qual (defArgs st) (defBody st) (defScope st) .none kV doc pm an cdv ct) ⟨us, []⟩ = pure (ps.zip us)) : Binds K fd ps [] := by
 obtain ⟨oc, od, kV, doc, pm, an, cdv, ct, osl, rfl, lk, hcd⟩ := F.ex
 exact .all (h kV doc pm an cdv ct)
theorem ent_def {q : Pr} {j k : Nat} {nm : Str} {f : Addr} {fd : FuncData} {ps : List Str} {sp : Sp3} (FO : FnOk q.prog q.w q.K q.mg q.base CX0 j f fd ps (lowSp q.K sp)) (hm : q.mg nm = some (.ref f)) (hk : PySem.W.keepIn q.K (.ref f) = true) (hb : Binds q.K fd ps [])
  (mono : FMono ⟨nm, sp⟩) {A : Around} (hr : Room k A) (hjk : j ≤ k) : EntOk (q.at A) ⟨nm, sp⟩ :=
 ⟨(fn_def (dws := []) (dvs := []) (FO.mono hjk) hm hk hb (fun _ => rfl) .nil (fun ws G Q Q' z h => mono ws G Q Q' XN z h) hr).imp fun ws G Q h => by rw [List.append_nil]; exact h, mono⟩
noncomputable def spLaw : Sp3 := fun ws G Q _ => ∃ a ns, ws = [a] ∧ IsScr G a ns ∧ ns.length ≤ 63 ∧ ∀ G', Q (.bl true) G'
theorem reps_ints {K : Frg} {H : Hp} : ∀ ns : List Int, Reps K H (ns.map W.int) (ns.map V.int)
 | [] => rfl
 | n :: ns => ⟨.int n, _, rfl, rfl, reps_ints ns⟩
theorem law_start {K : Frg} {H : Hp} {a : Addr} {ns : List Int} (hl : ns.length ≤ 63) (hS : SqL K H a (ns.map V.int)) : lowSp K spLaw [.ref a] H (fun v _ => v = .bl true) fun _ _ _ => False := by
 rcases hS with hS | hS
 ·refine ⟨[.ref a], fun b => if b = a then some (.fix (ns.map W.int)) else none, ⟨_, [], rfl, rfl, rfl⟩, ?_, .ref a, ns, rfl, .inl ⟨a, rfl, by simp [lstOf]⟩, hl, fun G' v H' _ r _ => r⟩
  intro b o e
  dsimp only at e
  by_cases hb : b = a
  ·subst hb
   rw [if_pos rfl] at e
   cases e
   rcases hS with hS | ⟨ob, hS⟩
   ·exact ⟨_, hS, _, default, .inl rfl, reps_ints ns⟩
   ·exact ⟨_, hS, _, ob, .inr rfl, reps_ints ns⟩
  ·rw [if_neg hb] at e; cases e
 ·exact ⟨[.lsf (ns.map W.int)], fun _ => none, ⟨_, [], rfl, ⟨a, _, rfl, hS, reps_ints ns⟩, rfl⟩, (fun b o e => nomatch e), .lsf (ns.map W.int), ns, rfl, .inr rfl, hl, fun G' v H' _ r _ => r⟩
theorem walk3 {l : PySem.W.OpenLaw} {k : Nat} {q : Program} {loose : List Str} {XP : (Str → Option Value) → Heap → Prop} {YP : World → Heap → Prop} {d : DefRec} {K : Params → PySem.W.Frag} (hn : l.most = some 63) (hdf : d.params.defaults = []) (hr : Room k callerA)
  (hY : ∀ (w : World) (h : Heap), YP w h → (K w.params).In h)
  (F : ∀ (w : World) (mg : Str → Option Value) (fa : Addr) (h : Heap), (K w.params).In h → h.Ns mainGlobals mg → mg d.name = some (.ref fa) →
   ∃ fd : FuncData, (∀ (s : Shared) (u : Value), BindsTo s fd ⟨[u], []⟩ [("_law_script", u)]) ∧ ∀ base : Heap, (K w.params).In base → base.Ns mainGlobals mg → FnOk l.prog w (K w.params) mg base CX0 k fa fd ["_law_script"] (lowSp (K w.params) spLaw)) :
  PySem.W.WalkO q loose XP YP l.row.toRowW d [] (fun f vs => PySem.call f vs) :=
 L2.walk_of (n := 63) (k := k) (x := "_law_script") (CX := fun _ => CX0) (sp := fun w => lowSp (K w.params) spLaw) hn (by decide) hdf hr hY F (fun _ _ a ns hl _ hS => law_start hl hS) fun _ _ _ _ _ z => z
end L3
set_option Elab.async false
set_option linter.all false
set_option maxRecDepth 100000
set_option maxHeartbeats 8000000
namespace L3
open PySem PySem.Spec PyProof.Rows L2 PySem.SeqAt
noncomputable def joinS : MS := fun x ws G Q => match x, ws with
 | .str sep, [.ref p] => ∃ ts : List Str, lstOf G p = some (ts.map .str) ∧ JoinOk sep ts = true ∧ Q (.str (Txt.join sep ts)) G
 | _, _ => False
theorem joinS_mono : ∀ x ws G (Q Q' : Q3), (∀ w G', Q w G' → Q' w G') → joinS x ws G Q → joinS x ws G Q' := by
 intro x ws G Q Q' k h
 unfold joinS at h ⊢
 split at h
 ·obtain ⟨ts, e, o, h⟩ := h
  exact ⟨ts, e, o, k _ _ h⟩
 ·exact h.elim
theorem strs_vals {K : Frg} {H : Hp} : ∀ {ts : List Str} {vs : List V} {us : List Value}, Reps K H (ts.map .str) vs → Vals vs us → ∃ l : List (Str × Tok), l.map (·.1) = ts ∧ us = strValues l
 | [], vs, us, r, v => by cases (show vs = [] from r); cases v; exact ⟨[], rfl, rfl⟩
 | t :: ts, vs, us, r, v => by
  obtain ⟨x, tl, rfl, rx, rt⟩ := r
  cases (show x = .str t from rx)
  cases v with
  | cons a c =>
   obtain ⟨tk, rfl⟩ := a
   obtain ⟨l, e1, e2⟩ := strs_vals rt c
   exact ⟨(t, tk) :: l, by rw [List.map_cons, e1], by rw [e2]; rfl⟩
theorem join_ok {X : Cx} : MtR X "str.join" (lowM X.K joinS) := by
 intro pins s σ H x xs v us Q I rx rxs h
 obtain ⟨w, ws, G, rw1, rs, ab, h⟩ := h
 unfold joinS at h
 split at h
 ·rename_i sep p
  cases (show x = .str sep from rw1)
  obtain ⟨y, rfl, ry⟩ := reps1 rs
  cases (show y = .ref p from ry)
  obtain ⟨u, rfl, ru⟩ := vals1 rxs
  cases (show u = Value.ref p from ru)
  obtain ⟨t, rfl⟩ := rx
  obtain ⟨ts, e, ok, h⟩ := h
  obtain ⟨vs, sq, rr⟩ := ab.seq e
  obtain ⟨its, vv, pl, hz⟩ := I.list sq
  obtain ⟨l, e1, e2⟩ := strs_vals rr vv
  subst e2
  exact SC.join pl.isList e1 ok fun t' k => ⟨.str (Txt.join sep ts), H, I.tok _, ⟨t', rfl⟩, h _ H .refl rfl ab⟩
 ·exact h.elim
noncomputable abbrev eJoin : Mt3 := ⟨"join", "str", joinS⟩
theorem ent_join {q : Pr} {A : Around} : MtE (q.at A) eJoin ∧ MtMono eJoin := ⟨mt_blt PySem.F.plainAttrs_str PySem.F.slot_str_join PySem.F.type_str_join (fun X f => join_ok) joinS_mono, joinS_mono⟩
noncomputable def intS : RS := fun ws G Q => match ws with
 | [.int i] => Q (.int i) G
 | [.bl b] => Q (.int (if b then 1 else 0)) G
 | _ => False
noncomputable abbrev eInt : Fn3 := ⟨"int", fun ws G Q _ => intS ws G Q⟩
noncomputable def tysOf : List W → Option (List String)
 | [] => some []
 | .ty T :: r => (tysOf r).map (T :: ·)
 | _ => none
noncomputable def isjS (K : Frg) : RS := fun ws G Q => match ws with
 | [x, .ty T] => ∃ T' b, tyO G x = some T' ∧ PySem.W.kitOne K (.type T') (.type T) = some b ∧ Q (.bl b) G
 | [x, .tup ts] => ∃ T' b Ts, tyO G x = some T' ∧ tysOf ts = some Ts ∧ PySem.W.kitAny K (.type T') (Ts.map .type) = some b ∧ Q (.bl b) G
 | _ => False
noncomputable abbrev eIsj (K : Frg) : Fn3 := ⟨"isinstance", fun ws G Q _ => isjS K ws G Q⟩
theorem rec_ok {q : Pr} {k : Nat} {M : MC} {nm qual : Str} {st : Stmt} {f : Addr} {fd : FuncData} {ps : List Str} {sp : Nat → Sp3} {body : ISs} {Γ : Fn3 → Ctx3} (F : FunD q.K nm qual st .none f fd) (S : FnScope M.N ps (defScope st))
  (hm : q.mg nm = some (.ref f)) (hb : Binds q.K fd ps []) (h0 : ∀ ws G Q, ¬ sp 0 ws G Q XN) (len : ∀ n ws G Q, sp n ws G Q XN → ws.length = ps.length) (mono : ∀ n, FMono ⟨nm, sp n⟩)
  (g : ∀ n A, Room k A → EntOk (q.at A) ⟨nm, sp n⟩ → Good (Γ ⟨nm, sp n⟩) (q.at A)) (eM : ∀ n, MOk (Γ ⟨nm, sp n⟩) M (defScope st)) (look : mSs body M (defBody st) = true)
  (hbd : ∀ n ws G Q, sp (n + 1) ws G Q XN → semSs (Γ ⟨nm, sp n⟩) XN body { nx := fun _ G' => Q .non G', rt := Q } (start3 M.N ws) G) : ∀ n, FnOk q.prog q.w q.K q.mg q.base CX0 (k + n) f fd ps (lowSp q.K (sp n))
 | 0 => ⟨fun vs H Q E ⟨ws, G, _, _, h⟩ => absurd h (h0 _ _ _), fun A outer s H args us vs Q E _ _ _ _ ⟨ws, G, _, _, h⟩ => absurd h (h0 _ _ _)⟩
 | n + 1 => def_okD (k := k + n) F S (fun A hr => g n A (hr.mono (Nat.le_add_right _ _)) (ent_def (rec_ok F S hm hb h0 len mono g eM look hbd n) hm F.kp hb (mono n) hr (Nat.le_refl _))) (eM n) look (len (n + 1)) (hbd n)
end L3
set_option Elab.async false
set_option linter.all false
set_option maxRecDepth 100000
set_option maxHeartbeats 8000000
namespace L2
open PySem PySem.Spec PyProof.Rows
section
variable {a b : Bool} {z TI TO i1 i2 l1 l2 : Addr}
end
end L2
namespace L3
open PySem PySem.Spec PyProof.Rows L2 PySem.SeqAt
noncomputable def zipI (ws : List W) (G : Hw) (R : List W → (Hw → Prop) → Hw → Prop) : Prop := match ws with
 | [x, y] => ∃ xs ys, seqOf G x = some xs ∧ seqOf G y = some ys ∧ R (List.zipWith (fun a b => W.tup [a, b]) xs ys) (fun G' => seqOf G' x = some xs ∧ seqOf G' y = some ys) G
 | _ => False
noncomputable def bOf (w : W) : Bool := match w with | .tup _ => true | _ => false
theorem seq_rep2 {K : Frg} {H : Hp} {G : Hw} {w : W} {v : V} {xs : List W} (ab : Abs K H G) (r : Rep K H w v) (e : seqOf G w = some xs) : ∃ a vs, v = .ref a ∧ SqB (bOf w) K H a vs ∧ Reps K H xs vs := by
 cases w with
 | tup ws =>
  obtain ⟨a, vs, rfl, sq, rr⟩ := r
  cases e
  exact ⟨a, vs, rfl, sq, rr⟩
 | ref p =>
  cases (show v = .ref p from r)
  obtain ⟨vs, sq, rr⟩ := ab.seq e
  exact ⟨p, vs, rfl, sq, rr⟩
 | _ => cases e
noncomputable abbrev eZpi : It3 := ⟨"zip", zipI⟩
end L3
set_option Elab.async false
set_option linter.all false
set_option maxRecDepth 100000
set_option maxHeartbeats 8000000
namespace L3
open PySem PySem.Spec PyProof.Rows L2 PySem.SeqAt
noncomputable def KOk {α : Type} (n : Nat) (R : α → Prop) : PySem.W.KasT α → Prop
 | .ret a => R a
 | .ask i j k => i < n ∧ j < n ∧ ∀ b, KOk n R (k b)
theorem KOk.bnd {α β : Type} {n : Nat} {R : α → Prop} {R' : β → Prop} {f : α → PySem.W.KasT β} (hf : ∀ a, R a → KOk n R' (f a)) : ∀ {t : PySem.W.KasT α}, KOk n R t → KOk n R' (t.bind f)
 | .ret a, h => hf a h
 | .ask i j k, h => ⟨h.1, h.2.1, fun b => KOk.bnd hf (h.2.2 b)⟩
noncomputable def krun {α : Type} (lt : Nat → Nat → Bool) : PySem.W.KasT α → α
 | .ret a => a
 | .ask i j k => krun lt (k (lt i j))
theorem krun_ok {α : Type} {n : Nat} {R : α → Prop} (lt : Nat → Nat → Bool) : ∀ {t : PySem.W.KasT α}, KOk n R t → R (krun lt t)
 | .ret a, h => h
 | .ask i j k, h => by
  show R (krun lt (k (lt i j)))
  exact krun_ok lt (h.2.2 (lt i j))
theorem kwp_of {α : Type} {n : Nat} {R : α → Prop} {lt : Nat → Nat → Bool} {cmp : Nat → Nat → (Bool → Shared → Prop) → Shared → Prop} {Q : α → Shared → Prop} {s : Shared} (hc : ∀ i j C, i < n → j < n → C (lt i j) s → cmp i j C s) :
  ∀ {t : PySem.W.KasT α}, KOk n R t → Q (krun lt t) s → t.kasWp cmp Q s
 | .ret a, _, h => h
 | .ask i j k, o, h => hc i j _ o.1 o.2.1 (kwp_of hc (o.2.2 _) h)
noncomputable def Pm (n : Nat) (p : Array Nat) : Prop := p.Perm (List.toArray (List.range n))
theorem Pm.lt {n : Nat} {p : Array Nat} (h : Pm n p) (hn : 0 < n) (i : Nat) : p.getD i 0 < n := by
 by_cases hi : i < p.size
 ·have e : p.getD i 0 = p[i] := by simp [Array.getD, hi]
  rw [e]
  have hm : p[i] ∈ p.toList := by simp
  have := (Array.perm_iff_toList_perm.mp h).mem_iff.mp hm
  simpa using this
 ·have e : p.getD i 0 = 0 := by simp [Array.getD, hi]
  rw [e]; exact hn
theorem Pm.rev {n : Nat} {p : Array Nat} (h : Pm n p) (i j : Nat) : Pm n (PySem.W.kas_rev p i j) := (mirror_perm p i j _).trans h
section
variable {n : Nat} {p : Array Nat}
theorem asc_ok (hn : 0 < n) (h : Pm n p) : ∀ f m, KOk n (fun _ => True) (PySem.W.kas_asc p f m)
 | 0, m => True.intro
 | f + 1, m => ⟨h.lt hn _, h.lt hn _, fun b => by
  cases b
  ·exact asc_ok hn h f (m + 1)
  ·exact True.intro⟩
theorem desc_ok (hn : 0 < n) : ∀ f (p : Array Nat) m q, Pm n p → KOk n (fun r => Pm n r.1) (PySem.W.kas_desc f p m q)
 | 0, p, m, q, h => h
 | f + 1, p, m, q, h => ⟨h.lt hn _, h.lt hn _, fun b => by
  cases b
  ·refine ⟨h.lt hn _, h.lt hn _, fun d => ?_⟩
   cases d
   ·exact desc_ok hn f p _ _ h
   ·exact h
  ·simp only [if_true]
   split
   ·exact desc_ok hn f _ _ _ (h.rev _ _)
   ·exact desc_ok hn f p _ _ h⟩
theorem tail3_ok (hn : 0 < n) (h : Pm n p) (m r : Nat) : KOk n (fun x => Pm n x.2) (PySem.W.kas_tail3 m r p) := by
 refine KOk.bnd (fun a _ => ?_) (asc_ok hn (h.rev _ _) _ _)
 exact h.rev _ _
theorem descPart_ok (hn : 0 < n) (h : Pm n p) (m r : Nat) : KOk n (fun x => Pm n x.2) (PySem.W.kas_descPart m r p) := by
 refine KOk.bnd (fun a ha => ?_) (desc_ok hn _ _ _ _ h)
 split
 ·exact tail3_ok hn (ha.rev _ _) _ _
 ·exact tail3_ok hn ha _ _
theorem count_ok (hn : 0 < n) (h : Pm n p) (r : Nat) : KOk n (fun x => Pm n x.2) (PySem.W.kas_count r p) := by
 refine KOk.bnd (fun a _ => ?_) (asc_ok hn h _ _)
 split
 ·exact h
 ·split
  ·refine ⟨h.lt hn _, h.lt hn _, fun b => ?_⟩
   cases b
   ·exact descPart_ok hn (h.rev _ _) _ _
   ·exact h
  ·exact descPart_ok hn h _ _
theorem place_ok (hn : 0 < n) (h : Pm n p) (k : Nat) : ∀ f l r, KOk n (fun _ => True) (PySem.W.kas_place p k f l r)
 | 0, l, r => True.intro
 | f + 1, l, r => by
  show KOk n _ (if l ≥ r then _ else _)
  split
  ·exact True.intro
  ·refine ⟨h.lt hn _, h.lt hn _, fun b => ?_⟩
   cases b
   ·exact place_ok hn h k f _ _
   ·exact place_ok hn h k f _ _
theorem bins_ok (hn : 0 < n) : ∀ f (p : Array Nat) k, Pm n p → KOk n (Pm n) (PySem.W.kas_bin f p k)
 | 0, p, k, h => h
 | f + 1, p, k, h => KOk.bnd (fun l _ => bins_ok hn f _ _ ((bubble_perm p k _).trans h)) (place_ok hn h k k 0 k)
theorem sort_ok (hn : 0 < n) : KOk n (Pm n) (PySem.W.kas_sort n) := by
 refine KOk.bnd (fun r hr => ?_) (count_ok hn (Array.Perm.refl _) n)
 split
 ·exact bins_ok hn _ _ _ hr
 ·exact hr
end
noncomputable def srtP (n : Nat) (lt : Nat → Nat → Bool) : List Nat := if n < 2 then List.range n else (krun lt (PySem.W.kas_sort n)).toList
theorem srtP_perm (n : Nat) (lt : Nat → Nat → Bool) : (srtP n lt).Perm (List.range n) := by
 unfold srtP
 split
 ·exact List.Perm.refl _
 ·exact Array.perm_iff_toList_perm.mp (krun_ok lt (sort_ok (by omega)))
theorem map_getD_range {α : Type} (d : α) (l : List α) : (List.range l.length).map (fun i => l.getD i d) = l := by
 apply List.ext_getElem
 ·simp
 ·intro i h1 h2
  simp [h2]
end L3
set_option Elab.async false
set_option linter.all false
set_option maxRecDepth 100000
set_option maxHeartbeats 8000000
namespace L3
open PySem PySem.Spec PyProof.Rows L2 PySem.SeqAt
noncomputable def LtAt (A : Around) (s : Shared) (y x : Value) (b : Bool) : Prop :=
 ∀ (prog : Program) (w : World) (E : Value → Shared → Prop) (Q : Value → Shared → Prop), Q (.bool b) s → wpAny (model prog w) A (richCompare .Lt y x) Q E s
noncomputable def Lx (A : Around) (s : Shared) (fin : Bool) : List (Value × Value) → Bool → Prop
 | [], v => v = fin
 | (p, q) :: r, v => ∃ e : Bool, EqAt A s p q e ∧ if e = true then Lx A s fin r v else LtAt A s p q v
theorem tuple_ltAt (l b : Addr) (xs ys : Array Value) (n m : Nat) (d1 d2 : Option Addr) (s1 s2 : Array (Option Value)) (v : Bool) :
  Meets (Builtin.«tuple.__lt__» ⟨[.ref l, .ref b], []⟩) (fun A R s => s.heap.get? l = some { cls := .type "tuple", dict := d1, data := .seq xs n, slots := s1 } ∧ s.heap.get? b = some { cls := .type "tuple", dict := d2, data := .seq ys m, slots := s2 } ∧
    Lx A.in1 s (decide (xs.size < ys.size)) (xs.toList.zip ys.toList) v ∧ R (.ok (.ret (.bool v))) s) :=
 .of_wp fun prog w A R s h => by
  obtain ⟨hp, g, d, tk, os⟩ := s; obtain ⟨hl, hb, he, h⟩ := h
  have f2 := AutoSeq1.sub_tuple_tuple
  wp_walk using wpAny_loadPart' hl, wpAny_loadPart' hb, wpAny_forIn_list _ (fun rest b s' => b.1 = none ∧ s' = ⟨hp, g, d, tk, os⟩ ∧ Lx A.in1 ⟨hp, g, d, tk, os⟩ (decide (xs.size < ys.size)) rest v) _
  case turn =>
   rintro ⟨y, x⟩ rest b s' ⟨hb', rfl, e, he, hr⟩
   refine wpAny_bind (he prog w _ _ ?_)
   cases e with
   | true =>
    wp_walk
    exact ⟨rfl, rfl, by simpa using hr⟩
   | false =>
    have hr : LtAt A.in1 ⟨hp, g, d, tk, os⟩ y x v := by simpa using hr
    have hr' : ∀ (E : Value → Shared → Prop) (Q : Value → Shared → Prop), Q (.bool v) ⟨hp, g, d, tk, os⟩ → wpAny (model prog w) A.in1 (richCompare .Lt y x) Q E ⟨hp, g, d, tk, os⟩ := hr prog w
    repeat (first | with_reducible refine hr' _ _ ?_ | wp_step)
    exact ⟨_, rfl, h⟩
  case fin =>
   rintro ⟨b1, b2⟩ s' ⟨hb', rfl, hz⟩
   simp only at hb'
   subst hb'
   have hz : v = decide (xs.size < ys.size) := hz
   subst hz
   wp_walk
   exact ⟨_, rfl, by simpa [Builtin.Tuple.tupleCompareSizes] using h⟩
  case h => exact ⟨rfl, rfl, he⟩
mutual
noncomputable def ltW : W → W → Option Bool
 | .str x, .str y => some (decide (x.cps.toList < y.cps.toList))
 | .tup xs, .tup ys => ltWs xs ys
 | _, _ => none
noncomputable def ltWs : List W → List W → Option Bool
 | [], [] => some false
 | [], _ :: _ => some true
 | _ :: _, [] => some false
 | x :: xs, y :: ys => if eqW x y = true then ltWs xs ys else ltW x y
end
section
variable {X : Cx} {pins : List (Addr × Obj)} {σ : L2.St} {H : Hp} {s : Shared}
noncomputable def LtOk (X : Cx) (H : Hp) (s : Shared) (x : W) : Prop := ∀ (y : W) (v v' : V) (u u' : Value) (A : Around) (b : Bool), Rep X.K H x v → RelV v u → Rep X.K H y v' → RelV v' u' → pur x = true → pur y = true → A.units + min (dep x) (dep y) < cLine → ltW x y = some b → LtAt A s u u' b
theorem lx_Ws (I : Inv X pins σ H s) : ∀ (xs ys : List W) (vs vs' : List V) (us us' : List Value) (A : Around) (b : Bool), (∀ x ∈ xs, LtOk X H s x) → Reps X.K H xs vs → Vals vs us → Reps X.K H ys vs' → Vals vs' us' → purs xs = true → purs ys = true →
  A.units + min (deps xs) (deps ys) < cLine → ltWs xs ys = some b → Lx A s (decide (us.length < us'.length)) (us.zip us') b
 | [], [], vs, vs', us, us', A, b, _, h, r, h', r', _, _, _, e => by
  rw [show _ = [] from h] at r; cases r
  rw [show _ = [] from h'] at r'; cases r'
  cases e; rfl
 | [], y :: ys, vs, vs', us, us', A, b, _, h, r, h', r', _, _, _, e => by
  rw [show _ = [] from h] at r; cases r
  have l1 := h'.length
  have l2 := r'.length
  cases e
  show true = decide (0 < us'.length)
  rw [← l2, l1]; rfl
 | x :: xs, [], vs, vs', us, us', A, b, _, h, r, h', r', _, _, _, e => by
  rw [show _ = [] from h'] at r'; cases r'
  cases e
  rw [List.zip_nil_right]
  show false = decide (us.length < 0)
  rfl
 | x :: xs, y :: ys, vs, vs', us, us', A, b, ok, h, r, h', r', px, py, hu, e => by
  obtain ⟨v, t, e1, h, hs⟩ := h
  obtain ⟨v', t', e2, h', hs'⟩ := h'
  subst e1; subst e2
  cases r with
  | cons r rs =>
   cases r' with
   | cons r' rs' =>
    have px := purs_cons.mp px
    have py := purs_cons.mp py
    simp only [deps] at hu
    rw [List.zip_cons_cons]
    refine ⟨eqW x y, eqAt_W I x y _ _ _ _ A h r h' r' px.1 py.1 (by omega), ?_⟩
    simp only [ltWs] at e
    cases q : eqW x y with
    | true =>
     rw [q, if_pos rfl] at e
     rw [if_pos rfl]
     have := lx_Ws I xs ys _ _ _ _ A b (fun z hz => ok z (List.mem_cons_of_mem _ hz)) hs rs hs' rs' px.2 py.2 (by omega) e
     simpa using this
    | false =>
     rw [q, if_neg Bool.false_ne_true] at e
     rw [if_neg Bool.false_ne_true]
     exact ok x List.mem_cons_self y _ _ _ _ A b h r h' r' px.1 py.1 (by omega) e
theorem ltAt_W (I : Inv X pins σ H s) : ∀ x : W, LtOk X H s x := by
 intro x
 induction x using W.ind with
 | tup xs ih =>
  intro y v v' u u' A b h r h' r' hx hy hu e
  obtain ⟨a, vs, its, rfl, rfl, q, rs, vr, it, _⟩ := tup_at I h r
  cases y with
  | tup ys =>
   obtain ⟨c, us, its', rfl, rfl, q', rs', vr', it', _⟩ := tup_at I h' r'
   obtain ⟨⟨cls, dd, data, sl⟩, ho, hc, n, hd⟩ := it
   obtain ⟨⟨cls2, dd2, data2, sl2⟩, ho2, hc2, n2, hd2⟩ := it'
   simp only at hc hd hc2 hd2
   subst hc hd hc2 hd2
   simp only [dep] at hu
   intro prog w E Q hq
   refine richCompare_meets_room (op := .Lt) ⟨_, ho, rfl⟩ ⟨_, ho2, rfl⟩ F.slot_tuple_lt F.entry_tuple_lt (F.args_tuple_lt_2 _ _) (tuple_ltAt a c its.toArray its'.toArray n n2 dd dd2 sl sl2 b) ⟨ho, ho2, ?_, show Value.bool b ≠ Value.notImplemented ∧ Q (.bool b) s from ⟨(fun x => nomatch x), hq⟩⟩ (by omega)
   have := lx_Ws I xs ys _ _ _ _ A.in1 b ih rs vr rs' vr' hx hy (by show A.units + 1 + _ < _; omega) e
   simpa using this
  | _ => cases e
 | str x =>
  intro y v v' u u' A b h r h' r' hx hy hu e
  cases (show v = .str x from h)
  obtain ⟨t, rfl⟩ := r
  cases y with
  | str z =>
   cases (show v' = .str z from h')
   obtain ⟨t', rfl⟩ := r'
   cases e
   exact fun prog w E Q hq => PyProof.Rows.lt_str hq
  | _ => cases e
 | _ => intro y v v' u u' A b _ _ _ _ _ _ _ e; cases e
end
end L3
set_option Elab.async false
set_option linter.all false
set_option maxRecDepth 100000
set_option maxHeartbeats 8000000
namespace L3
open PySem PySem.Spec PyProof.Rows L2 PySem.SeqAt
section
variable {prog : Program} {w : World} {A : Around} {E : Value → Shared → Prop} {s : Shared} {D : Addr} {vs : List Value} {κ : SortKind} {lt : Nat → Nat → Bool}
noncomputable def But (D : Addr) (h h' : Heap) : Prop := ∀ b o, b ≠ D → h.get? b = some o → h'.get? b = some o
noncomputable def outOf (vs : List Value) (lt : Nat → Nat → Bool) : List Value := (srtP vs.length lt).map fun i => vs.getD i Value.none
theorem outOf_len (vs : List Value) (lt : Nat → Nat → Bool) : (outOf vs lt).length = vs.length := by
 unfold outOf
 rw [List.length_map, (srtP_perm _ _).length_eq, List.length_range]
structure Asks (prog : Program) (w : World) (A : Around) (s : Shared) (D : Addr) (vs : List Value) (κ : SortKind) (lt : Nat → Nat → Bool) : Prop where
 kind : ∀ (h' : Heap) (C : SortKind → Shared → Prop), 2 ≤ vs.length → But D s.heap h' → C κ { s with heap := h' } → wpAny (model prog w) A (keyKind' vs.toArray) C (fun _ _ => False) { s with heap := h' }
 ask : ∀ (h' : Heap) (i j : Nat) (C : Bool → Shared → Prop), But D s.heap h' → i < vs.length → j < vs.length → C (lt i j) { s with heap := h' } → PySem.W.kas_ask prog w A κ vs i j C { s with heap := h' }
theorem lsort_at {n : Nat} {P : PySem.Fin → Shared → Prop} (ho : s.heap.get? D = some (seqObj "list" vs.toArray n)) (h64 : vs.length < 64) (q : Asks prog w A s D vs κ lt)
  (h : ∀ h' m, But D s.heap h' → h'.get? D = some (seqObj "list" (outOf vs lt).toArray m) → P (.done (.ret .none)) { s with heap := h' }) : wpAny (model prog w) A (Builtin.«list.sort» ⟨[.ref D], []⟩) P E s := by
 have hD : D < s.heap.objs.size := Heap.lt_size ho
 have big : (64 : Nat) ≤ sizeLine := by rw [sizeLine_eq]; decide
 have sz : vs.toArray.size = vs.length := List.size_toArray
 obtain ⟨e1, ho1⟩ : ∃ e1, (s.heap.update D (Obj.mapSeq fun _ => (#[] : Array Value))).get? D = some (seqObj "list" #[] e1) := ⟨_, get?_update_seq ho fun _ => #[]⟩
 rw [list_sort_plain]
 refine wpAny_bind (listItems_at ho rfl (wpAny_bind (listUpdate_at ho rfl (wpAny_bind (seqEpoch_at ho1 rfl ?_)) (by rw [sz]; omega) (Nat.zero_le _))))
 refine wpAny_bind (wpAny_newTuple (wpAny_bind (wpAny_newList (wpAny_holding ?_) (Nat.zero_le _))) (by show vs.length ≤ _; omega))
 generalize hh : ((s.heap.update D (Obj.mapSeq fun _ => (#[] : Array Value))).push { cls := .type "tuple", data := .seq vs.toArray.toList.toArray }).push { cls := .type "list", data := .seq ([] : List Value).toArray } = h6
 have k6 : But D s.heap h6 := fun b o hb e => by
  rw [← hh]
  exact Heap.get?_push_of_some _ (Heap.get?_push_of_some _ ((Heap.get?_update_other _ _ (Ne.symm hb)).trans e))
 have hD6 : h6.get? D = some (seqObj "list" #[] e1) := by rw [← hh]; exact Heap.get?_push_of_some _ (Heap.get?_push_of_some _ ho1)
 have fin : ∀ (st : SortSt), failedOf st = none → (arrOf st).map (·.2) = (outOf vs lt).toArray → wpAny (model prog w) A (do
   let touched := (← seqEpoch D) != e1
   Builtin.List.listUpdate (.ref D) fun _ => (arrOf st).map (·.2)
   if let some e := failedOf st then rule "list.sort.comparison-raised"; throw e
   if touched then rule "list.sort.modified"; raiseError "ValueError" "list modified during sort"
   ret .none) P E { s with heap := h6 } := fun st hf hout => by
  refine wpAny_bind (seqEpoch_at hD6 rfl (wpAny_bind (listUpdate_at hD6 rfl ?_ (Nat.zero_le _) (by rw [hout, List.size_toArray, outOf_len]; omega))))
  rw [hf, hout]
  simp only [bne_self_eq_false, Bool.false_eq_true, if_false]
  refine wpAny_pure (h _ _ (fun b o hb e => (Heap.get?_update_other _ _ (Ne.symm hb)).trans (k6 b o hb e)) (get?_update_seq hD6 _))
 dsimp only
 by_cases h2 : vs.toArray.size < 2
 ·rw [if_pos h2, if_pos h2]
  refine wpAny_bind (wpAny_pure ?_)
  rw [StateT.run_pure]
  refine wpAny_bind (wpAny_pure (fin _ rfl ?_))
  have hlt : vs.length < 2 := by omega
  unfold outOf srtP
  rw [if_pos hlt, map_getD_range]
  show ((vs.toArray.zip vs.toArray).map (·.2)) = vs.toArray
  apply Array.toList_inj.mp
  simp only [Array.toList_map, Array.toList_zip]
  exact List.map_snd_zip (Nat.le_refl _)
 ·rw [if_neg h2, if_neg h2]
  have h2' : 2 ≤ vs.length := by omega
  refine wpAny_bind (wpAny_mono (q.kind h6 _ h2' k6 ?_) (fun _ _ z => z) fun _ _ z => z.elim)
  refine wpAny_bind (wpAny_mono (PySem.W.kat_run (Q := fun st' s' => s' = { s with heap := h6 } ∧ failedOf st' = none ∧ (arrOf st').map (·.2) = (outOf vs lt).toArray)
   (G := fun p s' => s' = { s with heap := h6 } ∧ p = krun lt (PySem.W.kas_sort vs.length)) rfl h2' h64 (fun p st' s' _ har hf hg => ⟨hg.1, hf, ?_⟩) ?_) (fun r s' z => ?_) fun _ _ z => z)
  ·rw [PySem.W.kat_snds rfl har, hg.2]
   unfold outOf srtP
   rw [if_neg (by omega)]
  ·exact kwp_of (lt := lt) (fun i j C hi hj hc => q.ask h6 i j C k6 hi hj hc) (sort_ok (by omega)) ⟨rfl, rfl⟩
  ·obtain ⟨⟨⟩, st'⟩ := r
   obtain ⟨rfl, hf, hout⟩ := z
   exact fin st' hf hout
noncomputable def Keeps (h h' : Heap) : Prop := ∀ b o, h.get? b = some o → h'.get? b = some o
theorem sorted_at {l : Addr} {o : Obj} {T : String} {n : Nat} {Q : Value → Shared → Prop} (hT : T = "list" ∨ T = "tuple") (ho : s.heap.get? l = some o) (hc : o.cls = .type T) (hd : o.data = .seq vs.toArray n) (h64 : vs.length < 64)
  (kind : ∀ (h' : Heap) (C : SortKind → Shared → Prop), 2 ≤ vs.length → Keeps s.heap h' → C κ { s with heap := h' } → wpAny (model prog w) A.in1.in1 (keyKind' vs.toArray) C (fun _ _ => False) { s with heap := h' })
  (ask : ∀ (h' : Heap) (i j : Nat) (C : Bool → Shared → Prop), Keeps s.heap h' → i < vs.length → j < vs.length → C (lt i j) { s with heap := h' } → PySem.W.kas_ask prog w A.in1.in1 κ vs i j C { s with heap := h' })
  (h : ∀ (h1 h' : Heap) (m : Nat), Keeps s.heap h1 → Keeps h1 h' → h'.get? h1.objs.size = some (seqObj "list" (outOf vs lt).toArray m) → Q (.ref h1.objs.size) { s with heap := h' }) :
  wpAny (model prog w) A (call (.builtin "sorted") [.ref l]) Q E s := by
 have big : (64 : Nat) ≤ sizeLine := by rw [sizeLine_eq]; decide
 refine Calls.call_function_entry kind_sorted plain_sorted entry_sorted (args_sorted1 _) ?_
 unfold Builtin.«sorted»
 refine wpAny_bind (m := checkCount "sorted" 1 1 _) (wpAny_pure (wpAny_bind (wpAny_collect_seq l hT ho hc hd (fun h1 k1 => ?_) (by rw [List.size_toArray]; omega))))
 refine wpAny_bind (wpAny_newList ?_ (by show vs.length ≤ _; omega))
 have hL : (h1.push (seqObj "list" vs.toArray 0)).get? h1.objs.size = some (seqObj "list" vs.toArray 0) := Heap.get?_push_size _ rfl
 have up : ∀ h', But h1.objs.size (h1.push (seqObj "list" vs.toArray 0)) h' → Keeps h1 h' := fun h' k b o e => k b o (Nat.ne_of_lt (Heap.lt_size e)) (Heap.get?_push_of_some _ e)
 show wpAny _ _ _ _ _ { s with heap := h1.push (seqObj "list" vs.toArray 0) }
 refine wpAny_bind (wpAny_holding (wpAny_call_entry slot_list_sort ⟨_, hL, rfl⟩ entry_list_sort (lsort_at (κ := κ) (lt := lt) hL h64 ⟨fun h' C h2 k c => ?_, fun h' i j C k hi hj c => ?_⟩ fun h' m k hm => ⟨_, rfl, ?_⟩) (args_list_sort _)))
 ·exact kind h' C h2 (fun b o e => up h' k b o (k1 b o e)) c
 ·exact ask h' i j C (fun b o e => up h' k b o (k1 b o e)) hi hj c
 ·exact wpAny_pure ⟨_, rfl, h h1 h' m k1 (up h' k) hm⟩
end
noncomputable def ltB (x y : W) : Bool := (ltW x y).getD false
noncomputable def srt (ws : List W) : List W := (srtP ws.length fun i j => ltB (ws.getD i .non) (ws.getD j .non)).map fun i => ws.getD i .non
theorem srt_perm (ws : List W) : (srt ws).Perm ws := by
 have := (srtP_perm ws.length fun i j => ltB (ws.getD i .non) (ws.getD j .non)).map fun i => ws.getD i .non
 rwa [map_getD_range] at this
noncomputable def hdT : W → Option String
 | .tup (.str _ :: _) => some "str"
 | .tup (.tup _ :: _) => some "tuple"
 | _ => none
structure Srtb (ws : List W) : Prop where
 pure : purs ws = true
 lt : ∀ x ∈ ws, ∀ y ∈ ws, (ltW x y).isSome = true
 few : ws.length < 64
 deep : deps ws < 60
 hd : ∃ T, ∀ x ∈ ws, hdT x = some T
noncomputable def sortS : RS := fun ws G Q => match ws with
 | [x] => ∃ xs, seqOf G x = some xs ∧ Srtb xs ∧ ∀ r, G r = none → Q (.ref r) (put G r (.lst (srt xs)))
 | _ => False
theorem sortS_mono : RMono sortS := by
 intro ws G Q Q' k h
 unfold sortS at h ⊢
 split at h
 ·obtain ⟨xs, e1, e2, h⟩ := h
  exact ⟨xs, e1, e2, fun p hp => k _ _ (h p hp)⟩
 ·exact h.elim
end L3
set_option Elab.async false
set_option linter.all false
set_option maxRecDepth 100000
set_option maxHeartbeats 8000000
namespace L3
open PySem PySem.Spec PyProof.Rows L2 PySem.SeqAt
section
variable {prog : Program} {w : World} {A : Around} {s : Shared} {b fin v : Bool} {C : Bool → Shared → Prop}
theorem kl_any : ∀ (l : List (Value × Value)) (i : Nat), (b && i == 0) = false → Lx A s fin l v → C v s → PySem.W.KatLex prog w A b fin C l i s
 | [], i, _, h, c => by cases (show v = fin from h); exact c
 | (p, q) :: r, i, hb, ⟨e, he, hr⟩, c => by
  refine PySem.W.kat_cons (he prog w _ _ ?_)
  cases e with
  | true =>
   rw [if_pos rfl] at hr
   refine PySem.W.kat_yes (kl_any r (i + 1) ?_ hr c)
   cases b <;> simp
  | false =>
   rw [if_neg Bool.false_ne_true] at hr
   refine PySem.W.kat_no ?_
   rw [hb]
   exact PySem.W.kat_one p q (hr prog w _ _ c)
end
section
variable {X : Cx} {pins : List (Addr × Obj)} {σ : L2.St} {H : Hp} {s : Shared}
theorem key_lt {prog : Program} {w : World} (I : Inv X pins σ H s) {T : String} {x y : W} {vx vy : V} {ux uy : Value} {A : Around} {v : Bool} {C : Bool → Shared → Prop} (hx : hdT x = some T) (hy : hdT y = some T) (rx : Rep X.K H x vx) (ru : RelV vx ux) (ry : Rep X.K H y vy) (ru' : RelV vy uy)
  (px : pur x = true) (py : pur y = true) (hu : A.units + min (dep x) (dep y) < cLine) (e : ltW x y = some v) (c : C v s) : wpAny (model prog w) A (keyLt' (tuples' (Value.type T != Value.type "tuple")) ux uy) C (fun _ _ => False) s := by
 have tu : ∀ z, hdT z = some T → ∃ zs, z = .tup zs := fun z hz => by
  unfold hdT at hz
  split at hz
  ·exact ⟨_, rfl⟩
  ·exact ⟨_, rfl⟩
  ·cases hz
 obtain ⟨xs, rfl⟩ := tu x hx
 obtain ⟨ys, rfl⟩ := tu y hy
 obtain ⟨a, vs, its, rfl, rfl, q, rs, vr, it, _⟩ := tup_at I rx ru
 obtain ⟨c', vs', its', rfl, rfl, q', rs', vr', it', _⟩ := tup_at I ry ru'
 obtain ⟨o, ho, hc, n, hd⟩ := it
 obtain ⟨o2, ho2, hc2, n2, hd2⟩ := it'
 simp only [dep] at hu
 refine PySem.W.kat_lt ho hd ho2 hd2 ?_
 simp only [List.size_toArray]
 have main := lx_Ws I xs ys _ _ _ _ A v (fun z _ => ltAt_W I z) rs vr rs' vr' px py (by omega) e
 cases hb : (Value.type T != Value.type "tuple") with
 | false => exact kl_any _ 0 rfl main c
 | true =>
  have hT : T = "str" := by
   unfold hdT at hx
   split at hx
   ·cases hx; rfl
   ·cases hx; cases hb
   ·cases hx
  subst hT
  cases xs with
  | nil => cases hx
  | cons x0 xs =>
   cases ys with
   | nil => cases hy
   | cons y0 ys =>
    cases x0 with
    | str t =>
     cases y0 with
     | str z =>
      obtain ⟨v1, r1, rfl, h1, rs⟩ := rs
      obtain ⟨v2, r2, rfl, h2, rs'⟩ := rs'
      cases (show v1 = .str t from h1)
      cases (show v2 = .str z from h2)
      cases vr with
      | cons k1 vr =>
       cases vr' with
       | cons k2 vr' =>
        obtain ⟨t1, rfl⟩ := k1
        obtain ⟨t2, rfl⟩ := k2
        replace e : (if (t == z) = true then ltWs xs ys else some (decide (t.cps.toList < z.cps.toList))) = some v := e
        simp only [pur, purs, Bool.true_and] at px py
        simp only [deps, dep, Nat.zero_max] at hu
        rw [List.zip_cons_cons]
        refine PySem.W.kat_cons (EqAt.str_str t t1 z t2 prog w _ _ ?_)
        cases q : (t == z) with
        | true =>
         rw [q, if_pos rfl] at e
         refine PySem.W.kat_yes (kl_any _ 1 rfl ?_ c)
         have := lx_Ws I xs ys _ _ _ _ A v (fun z _ => ltAt_W I z) rs vr rs' vr' px py (by omega) e
         simpa using this
        | false =>
         rw [q, if_neg Bool.false_ne_true] at e
         cases e
         refine PySem.W.kat_no ?_
         exact oneLt_str c
     | _ => exact absurd hy (by simp [hdT])
    | _ => exact absurd hx (by simp [hdT])
theorem heads_of (I : Inv X pins σ H s) {M : Model} {T : String} : ∀ {ws : List W} {vs : List V} {us : List Value}, (∀ x ∈ ws, hdT x = some T) → Reps X.K H ws vs → Vals vs us → ∃ fs, PySem.W.KatTups s.heap us fs ∧ (∀ v ∈ fs, PySem.W.Looks M s.heap (typeOf v) (.type T)) ∧ fs.length = us.length
 | [], vs, us, _, r, k => by
  cases (show vs = [] from r); cases k
  exact ⟨[], True.intro, (fun _ h => nomatch h), rfl⟩
 | x :: ws, vs, us, hT, r, k => by
  obtain ⟨v, t, rfl, rx, rt⟩ := r
  cases k with
  | cons k ks =>
   obtain ⟨fs, h1, h2, h3⟩ := heads_of I (fun y hy => hT y (List.mem_cons_of_mem _ hy)) rt ks
   have hx := hT x List.mem_cons_self
   unfold hdT at hx
   split at hx
   ·rename_i z zs
    cases hx
    obtain ⟨a, vs', its, rfl, rfl, q, rs, vr, it, _⟩ := tup_at I rx k
    obtain ⟨v1, r1, rfl, g1, _⟩ := rs
    cases (show v1 = .str z from g1)
    cases vr with
    | cons k1 vr =>
     obtain ⟨t1, rfl⟩ := k1
     obtain ⟨o, ho, hc, n, hd⟩ := it
     refine ⟨.str z t1 :: fs, .cons ho hc hd rfl h1, fun v hv => ?_, by rw [List.length_cons, List.length_cons, h3]⟩
     rcases List.mem_cons.mp hv with rfl | hv
     ·exact PySem.W.Looks.of_pure rfl
     ·exact h2 v hv
   ·rename_i z zs
    cases hx
    obtain ⟨a, vs', its, rfl, rfl, q, rs, vr, it, _⟩ := tup_at I rx k
    obtain ⟨v1, r1, rfl, g1, _⟩ := rs
    cases vr with
    | cons k1 vr =>
     obtain ⟨a2, vs2, its2, rfl, rfl, q2, rs2, vr2, it2, _⟩ := tup_at I g1 k1
     obtain ⟨o, ho, hc, n, hd⟩ := it
     obtain ⟨o2, ho2, hc2, _⟩ := it2
     refine ⟨.ref a2 :: fs, .cons ho hc hd rfl h1, fun v hv => ?_, by rw [List.length_cons, List.length_cons, h3]⟩
     rcases List.mem_cons.mp hv with rfl | hv
     ·exact PySem.W.kitAt_ty M _ ⟨o2, ho2, hc2⟩
     ·exact h2 v hv
   ·cases hx
theorem sorted_ok (hu : X.A.units + 200 < cLine) : CallR X (.builtin "sorted") (lowR X.K sortS) := by
 intro pins s σ H xs us Q I r h
 obtain ⟨ws, G, rs, ab, h⟩ := h
 unfold sortS at h
 split at h
 ·rename_i x
  obtain ⟨v, rfl, rv⟩ := reps1 rs
  obtain ⟨xs, ex, sb, h⟩ := h
  obtain ⟨a, vs, rfl, sq, rr⟩ := seq_rep2 ab rv ex
  obtain ⟨u, rfl, ru⟩ := vals1 r
  cases (show u = Value.ref a from ru)
  obtain ⟨its, vv, ss, hz⟩ := I.sqB sq
  obtain ⟨T', o, n, hT, ho, hc, hd⟩ : ∃ (T' : String) (o : Obj) (n : Nat), (T' = "list" ∨ T' = "tuple") ∧ s.heap.get? a = some o ∧ o.cls = .type T' ∧ o.data = .seq its.toArray n := by
   cases hb : bOf x <;> rw [hb] at ss
   ·obtain ⟨o, ho, hc, n, hd⟩ := ss; exact ⟨"list", o, n, .inl rfl, ho, hc, hd⟩
   ·obtain ⟨o, ho, hc, n, hd⟩ := ss; exact ⟨"tuple", o, n, .inr rfl, ho, hc, hd⟩
  have l1 : its.length = xs.length := by rw [← vv.length, rr.length]
  have l2 : vs.length = xs.length := rr.length
  obtain ⟨T, hT'⟩ := sb.hd
  have I' : ∀ h', Keeps s.heap h' → Inv X pins σ H { s with heap := h', toks := s.toks } := fun h' k => I.kept k
  refine sorted_at (κ := tuples' (Value.type T != Value.type "tuple")) (lt := fun i j => ltB (xs.getD i .non) (xs.getD j .non)) hT ho hc hd (by rw [l1]; exact sb.few) (fun h' C h2 k c => ?_) (fun h' i j C k hi hj c => ?_) fun h1 h' m k1 k' hm => ?_
  ·obtain ⟨fs, g1, g2, g3⟩ := heads_of (M := model X.prog X.w) (I' h' k) hT' rr vv
   exact PySem.W.kat_kind g1 (by omega) g2 (by simp) c
  ·have hi' : i < xs.length := by omega
   have hj' : j < xs.length := by omega
   obtain ⟨vi, evi, ri⟩ := rr.get (List.getElem?_eq_getElem hi')
   obtain ⟨vj, evj, rj⟩ := rr.get (List.getElem?_eq_getElem hj')
   obtain ⟨ui, eui, si⟩ := vv.get evi
   obtain ⟨uj, euj, sj⟩ := vv.get evj
   have mi := List.getElem_mem hi'
   have mj := List.getElem_mem hj'
   obtain ⟨b, eb⟩ := Option.isSome_iff_exists.mp (sb.lt _ mi _ mj)
   have e1 : its.getD i Value.none = ui := by simp [List.getD, eui]
   have e2 : its.getD j Value.none = uj := by simp [List.getD, euj]
   have e3 : ltB (xs.getD i .non) (xs.getD j .non) = b := by simp [List.getD, List.getElem?_eq_getElem hi', List.getElem?_eq_getElem hj', ltB, eb]
   unfold PySem.W.kas_ask
   rw [e1, e2]
   rw [e3] at c
   have d1 := deps_mem mi
   have := sb.deep
   refine key_lt (I' h' k) (hT' _ mi) (hT' _ mj) ri si rj sj (purs_mem sb.pure _ mi) (purs_mem sb.pure _ mj) ?_ eb c
   show X.A.units + 1 + 1 + _ < _
   omega
  ·have I1 : Inv X pins σ H { s with heap := h1, toks := s.toks } := I' h1 k1
   have I2 : Inv X pins σ H { s with heap := h', toks := s.toks } := I' h' fun b o e => k' b o (k1 b o e)
   have hn : H h1.objs.size = none := I1.hok.fresh (Nat.le_refl _)
   have pm := srtP_perm xs.length fun i j => ltB (xs.getD i .non) (xs.getD j .non)
   have lt : ∀ i ∈ srtP xs.length (fun i j => ltB (xs.getD i .non) (xs.getD j .non)), i < xs.length := fun i hi => List.mem_range.mp (pm.mem_iff.mp hi)
   have eo : outOf its (fun i j => ltB (xs.getD i .non) (xs.getD j .non)) = (srtP xs.length fun i j => ltB (xs.getD i .non) (xs.getD j .non)).map fun i => its.getD i Value.none := by unfold outOf; rw [l1]
   rw [eo] at hm
   have both : ∀ l : List Nat, (∀ i ∈ l, i < xs.length) → Reps X.K H (l.map fun i => xs.getD i .non) (l.map fun i => vs.getD i .non) ∧ Vals (l.map fun i => vs.getD i .non) (l.map fun i => its.getD i Value.none) := by
    intro l
    induction l with
    | nil => exact fun _ => ⟨rfl, .nil⟩
    | cons i l ih =>
     intro hl
     obtain ⟨g1, g2⟩ := ih fun j hj => hl j (List.mem_cons_of_mem _ hj)
     have hi := hl i List.mem_cons_self
     obtain ⟨vi, evi, ri⟩ := rr.get (List.getElem?_eq_getElem hi)
     obtain ⟨ui, eui, si⟩ := vv.get evi
     have e0 : xs.getD i .non = xs[i] := by simp [List.getD, List.getElem?_eq_getElem hi]
     have e1 : vs.getD i .non = vi := by simp [List.getD, evi]
     have e2 : its.getD i Value.none = ui := by simp [List.getD, eui]
     rw [List.map_cons, List.map_cons, List.map_cons, e0, e1, e2]
     exact ⟨⟨vi, _, rfl, ri, g1⟩, .cons si g2⟩
   obtain ⟨g1, g2⟩ := both _ lt
   refine ⟨.ref h1.objs.size, _, I2.adopt (o := .lst _) (I1.off (Nat.le_refl _)) hn ⟨?_, _, m, g2, hm⟩, rfl, new_lst ab g1 h _ hn⟩
   rw [List.length_map, pm.length_eq, List.length_range, ← l2]
   exact hz
 ·exact h.elim
end
noncomputable abbrev eSrt : Fn3 := ⟨"sorted", fun ws G Q _ => sortS ws G Q⟩
end L3
set_option Elab.async false
set_option linter.all false
set_option maxRecDepth 100000
set_option maxHeartbeats 8000000
namespace L3
open PySem PySem.Spec PyProof.Rows L2 PySem.SeqAt AutoSeq1
theorem ext_meets (l b : Addr) (xs ys : Array Value) (n n2 : Nat) (od : Option Addr) (os : Array (Option Value)) (h0 : ¬(!xs.isEmpty && Builtin.List.listTooLong (xs.size + ys.size)) = true) (h1 : xs.size ≤ sizeLine) (h2 : xs.size + ys.size ≤ sizeLine + 1) :
  Meets (Builtin.«list.extend» ⟨[.ref l, .ref b], []⟩) (fun _ R s => s.heap.get? l = some { cls := .type "list", dict := none, data := .seq xs n, slots := #[] } ∧ s.heap.get? b = some { cls := .type "tuple", dict := od, data := .seq ys n2, slots := os } ∧
   R (.ok (.ret .none)) { s with heap := s.heap.update l (Obj.mapSeq fun x => x ++ ys) }) :=
 .of_wp fun pr wo ar R st h => by
  obtain ⟨hp, g, d, tk, os'⟩ := st
  obtain ⟨hl, hb, h⟩ := h
  have f1 := idx_int
  have ft := AutoSeq1.sub_tuple_tuple; have fl := AutoSeq1.sub_list_list
  have fu := AutoSeq1.sub_tuple_list; have fv := AutoSeq1.sub_list_tuple
  have hz : (xs ++ ys).size ≤ sizeLine + 1 := by rw [Array.size_append]; exact h2
  wp_walk using (wpAny_updateSeq hl rfl (hz := h1) (_hz' := hz)), wpAny_loadPart' hl, wpAny_loadPart' hb
  exact ⟨_, rfl, h⟩
noncomputable def extS : MS := fun x ws G Q => match x, ws with
 | .ref p, [.tup ys] => (match G p with
  | some (.lst xs) => xs.length + ys.length ≤ sizeLine ∧ Q .non (put G p (.lst (xs ++ ys)))
  | _ => False)
 | _, _ => False
theorem extS_mono : ∀ x ws G (Q Q' : Q3), (∀ w G', Q w G' → Q' w G') → extS x ws G Q → extS x ws G Q' := by
 intro x ws G Q Q' k h
 unfold extS at h ⊢
 split at h
 ·split at h
  ·exact ⟨h.1, k _ _ h.2⟩
  ·exact h.elim
 ·exact h.elim
theorem ext_ok {X : Cx} : MtR X "list.extend" (lowM X.K extS) := by
 intro pins s σ H x xs v us Q I rx rxs h
 obtain ⟨w, ws, G, rw1, rs, ab, h⟩ := h
 unfold extS at h
 split at h
 ·rename_i p ys
  cases (show x = .ref p from rw1)
  cases (show v = Value.ref p from rx)
  obtain ⟨vy, rfl, ry⟩ := reps1 rs
  obtain ⟨b, vs2, rfl, sq, rr2⟩ := ry
  obtain ⟨u, rfl, ru⟩ := vals1 rxs
  cases (show u = Value.ref b from ru)
  split at h
  ·rename_i zs e
   obtain ⟨vs, ev, rr⟩ := ab.lst e
   have gr : Grow X.K H (upd H p (.lst (vs ++ vs2))) := ab.grow e
   obtain ⟨z, its, n, r, hl, e1⟩ := I.lstM ev
   obtain ⟨its2, r2, pt, hz2⟩ := I.tuple sq
   obtain ⟨⟨oc, od, oda, os⟩, ho, hc, n2, hd⟩ := (show s.heap.IsTuple b its2.toArray from pt)
   simp only at hc hd
   subst hc hd
   have l1 := rr.length
   have l2 := rr2.length
   have l3 := r2.length
   have hb := h.1
   have hsz : its.toArray.size + its2.toArray.size ≤ sizeLine := by rw [List.size_toArray, List.size_toArray]; omega
   have hlong : ¬ (!its.toArray.isEmpty && Builtin.List.listTooLong (its.toArray.size + its2.toArray.size)) = true := by
    rw [notLongL hsz, Bool.and_false]
    exact Bool.false_ne_true
   refine call_meets F.slot_list_extend ⟨_, e1, rfl⟩ F.entry_list_extend (F.args_list_extend_2 _ _) (ext_meets p b its.toArray its2.toArray n n2 od os hlong (by rw [List.size_toArray]; omega) (by omega)) ⟨e1, ho, ?_⟩
   refine ⟨.non, _, I.lset (its' := its ++ its2) ev e1 (by simp) (r.append r2) ?_, rfl, h.2 .non _ gr (show Rep X.K _ .non .non from rfl) (ab.chg e ⟨_, rfl, (rr.append rr2).mono gr⟩)⟩
   rw [List.length_append]
   omega
  ·exact h.elim
 ·exact h.elim
noncomputable abbrev eExt : Mt3 := ⟨"extend", "list", extS⟩
theorem ent_ext {q : Pr} {A : Around} : MtE (q.at A) eExt ∧ MtMono eExt := ⟨mt_blt PySem.F.plainAttrs_list PySem.F.slot_list_extend PySem.F.type_list_extend (fun X f => ext_ok) extS_mono, extS_mono⟩
noncomputable def uppS : MS := fun x ws G Q => match x, ws with
 | .str x, [] => Builtin.Str.tooLong (Txt.upper x).length = false ∧ Q (.str (Txt.upper x)) G
 | _, _ => False
noncomputable abbrev eUpp : Mt3 := ⟨"upper", "str", uppS⟩
noncomputable def getM (d : Str) : Scope → Expr → Option (List Expr) := fun sc e => match e with
 | .Call (.Attribute (.Name x _) y apos) [a] [] cpos => if (x == d && glbB sc x && y == ("get" : Str) && (apos.endLine == cpos.line)) = true then some [a] else none
 | _ => none
noncomputable def getS (ks : List Str) (vs : List W) : RS := fun ws G Q => match ws with
 | [.str k] => Q (((ks.zip vs).lookup k).getD .non) G
 | _ => False
end L3
set_option Elab.async false
set_option linter.all false
set_option maxRecDepth 100000
set_option maxHeartbeats 8000000
namespace L3
open PySem PySem.Spec PyProof.Rows L2 PySem.SeqAt
noncomputable def tx (e : Int × Value) : Str := strOf e.2
structure SetO (prog : Program) (w : World) (o : Obj) (led : Bool) (es : Array (Int × Value)) (ep : Nat) (t : SetTable) : Prop where
 obj : o = { cls := .type "set", dict := none, data := .set es ep t, slots := #[] }
 el : ElemsOf (PySem.strKind prog w) es.toList
 fit : t.fits es.size = true
 led : t.led = led
 pl : es.size ≠ 0 → t.plain = false
 nd : (es.toList.map tx).Nodup
noncomputable def SetT (prog : Program) (w : World) (h : Heap) (S : Addr) (led : Bool) (xs : List Str) : Prop :=
 ∃ o es ep t, h.get? S = some o ∧ SetO prog w o led es ep t ∧ es.size ≤ xs.length ∧ ∀ x, x ∈ es.toList.map tx ↔ x ∈ xs
theorem or_led (t : SetTable) (n : Nat) : (t.orStandIn n).led = t.led := by
 unfold SetTable.orStandIn
 split <;> rfl
theorem lay_led (t : SetTable) (es : Array (Int × Value)) (h : Int) (x : Value) : (layNew t es h x).2.1.led = t.led := by
 unfold layNew
 split
 ·dsimp only
  rw [or_led]; rfl
 ·rfl
theorem relay_led (t : SetTable) (es : Array (Int × Value)) (n : Nat) : (relayAll t es n).2.1.led = t.led ∧ (t.plain = false → (relayAll t es n).2.1.plain = false) := by
 unfold relayAll
 split
 ·rename_i t' order e
  have e : t'.led = t.led ∧ t'.plain = t.plain := by
   unfold SetTable.relaid SetTable.laid at e
   revert e
   cases SetTable.layClean (SetTable.sizeAbove n - 1) (es.map (·.1)) with
   | none => intro e; cases e
   | some ow =>
    intro e
    rw [← (Prod.mk.inj (Option.some.inj e)).1]
    exact ⟨rfl, rfl⟩
  dsimp only
  split
  ·exact ⟨e.1, fun h => e.2.trans h⟩
  ·exact ⟨rfl, fun _ => rfl⟩
 ·exact ⟨rfl, fun _ => rfl⟩
section
variable {prog : Program} {w : World} {A : Around} {E : Value → Shared → Prop} {s : Shared} {S : Addr} {led : Bool}
theorem is_tx {x : Str} {v : Value} (h : (PySem.strKind prog w).is x v = true) : strOf v = x := by
 obtain ⟨t, rfl⟩ := Value.isStrOf_shape h
 rfl
theorem el_tx {es : List (Int × Value)} (h : ElemsOf (PySem.strKind prog w) es) {e : Int × Value} (he : e ∈ es) : (PySem.strKind prog w).is (tx e) e.2 = true := by
 obtain ⟨⟨k, hk, _⟩, _⟩ := h e he
 unfold tx
 rw [is_tx hk]; exact hk
theorem setT_add {xs : List Str} {x : Str} {tk : Tok} {Q : Bool → Shared → Prop} (h : SetT prog w s.heap S led xs) (hb : xs.length + 1 < scanBound)
  (q : ∀ h' b, Heap.SameBut S s.heap h' → SetT prog w h' S led (xs ++ [x]) → Q b { s with heap := h', toks := s.toks + 1 }) : wpAny (model prog w) A (setAdd S (.str x tk)) Q E s := by
 obtain ⟨o, es, ep, t, ho, so, hl, hm⟩ := h
 have hd : o.data = .set es ep t := by rw [so.obj]
 have hkey : (PySem.strKind prog w).is x (.str x tk) = true := strKind_is prog w x tk
 have hsc : (Value.str x tk).scannable = true := rfl
 have hsz : es.size + 1 < scanBound := by omega
 unfold setAdd
 refine wpAny_holding (wpAny_bind ((PySem.strKind prog w).pyHash hkey ?_))
 unfold setAddHashed setAddHashedIn
 refine wpAny_holding (wpAny_bind (wpAny_setState_of (s := { s with toks := s.toks + 1 }) ho hd so.fit ?_))
 dsimp only
 rw [byScan_of hsc (by omega) so.el]
 simp only [↓reduceIte]
 unfold setAddByScan
 refine wpAny_bind (wpAny_bind (wpAny_rule (wpAny_bind (wpAny_setScan_of (s := { s with toks := s.toks + 1 }) hkey ho hd so.fit so.el ?_))))
 cases hr : List.findIdx? (fun e => (PySem.strKind prog w).is x e.2) es.toList with
 | some j =>
  dsimp only
  obtain ⟨hj, hpj, _⟩ := List.findIdx?_eq_some_iff_getElem.mp hr
  have hx : x ∈ xs := (hm x).mp (List.mem_map.mpr ⟨_, List.getElem_mem hj, is_tx hpj⟩)
  refine wpAny_pure (wpAny_pure (q s.heap false (Heap.SameBut.refl S s.heap) ⟨o, es, ep, t, ho, so, by rw [List.length_append]; omega, fun y => ?_⟩))
  rw [hm y, List.mem_append, List.mem_singleton]
  exact ⟨.inl, fun z => z.elim id fun e => by rw [e]; exact hx⟩
 | none =>
  dsimp only
  have hx : x ∉ es.toList.map tx := fun hx => by
   obtain ⟨e, he, hxe⟩ := List.mem_map.mp hx
   have := List.findIdx?_eq_none_iff.mp hr e he
   rw [← hxe, el_tx so.el he] at this
   cases this
  have gave : ∀ (b : Bool) {s₁ : Shared} {Q' : Unit → Shared → Prop}, Q' () s₁ → wpAny (model prog w) A (match b with | true => rule "set.scan.the-table-gave-way" | false => pure ()) Q' E s₁ := fun b s₁ Q' hq => by
   cases b
   ·exact wpAny_pure hq
   ·exact wpAny_rule hq
  have hperm := layNew_perm t es ((PySem.strKind prog w).hash x) (.str x tk)
  have hfits := layNew_fits t es ((PySem.strKind prog w).hash x) (.str x tk)
  have hled := lay_led t es ((PySem.strKind prog w).hash x) (.str x tk)
  generalize layNew t es ((PySem.strKind prog w).hash x) (.str x tk) = L at hperm hfits hled ⊢
  obtain ⟨es1, t1, wasD, gv⟩ := L
  dsimp only at hperm hfits hled ⊢
  rw [Array.toList_push] at hperm
  have hel1 : ElemsOf (PySem.strKind prog w) es1.toList := (so.el.push hkey hsc).perm hperm
  have sz1 : es1.size = es.size + 1 := by rw [← Array.length_toList, hperm.length_eq, List.length_append, Array.length_toList]; rfl
  have hp1 : (es1.toList.map tx).Perm (es.toList.map tx ++ [x]) := by have := hperm.map tx; rwa [List.map_append] at this
  have nd1 : (es1.toList.map tx).Nodup := hp1.nodup_iff.mpr (List.nodup_append.mpr ⟨so.nd, by simp, fun a ha b hb e => by rw [List.mem_singleton.mp hb] at e; exact hx (e ▸ ha)⟩)
  have mem1 : ∀ y, y ∈ es1.toList.map tx ↔ y ∈ xs ++ [x] := fun y => by
   rw [hp1.mem_iff, List.mem_append, List.mem_append, hm y]
  have end' : ∀ (es2 : Array (Int × Value)) (t2 : SetTable) (ep2 : Nat) (h' : Heap), es2.toList.Perm es1.toList → t2.fits es2.size = true → t2.led = led → t2.plain = false → Heap.SameBut S s.heap h' → h'.get? S = some { cls := .type "set", dict := none, data := .set es2 ep2 t2, slots := #[] } → Q true { s with heap := h', toks := s.toks + 1 } := by
   intro es2 t2 ep2 h' hp2 hf2 hl2 hpl2 hsb hg
   have hpm := hp2.map tx
   have sz2 : es2.size = es1.size := by rw [← Array.length_toList, hp2.length_eq, Array.length_toList]
   refine q h' true hsb ⟨_, es2, ep2, t2, hg, ⟨rfl, hel1.perm hp2, hf2, hl2, fun _ => hpl2, hpm.nodup_iff.mpr nd1⟩, ?_, fun y => by rw [hpm.mem_iff, mem1 y]⟩
   rw [List.length_append, sz2, sz1]
   show es.size + 1 ≤ xs.length + 1
   omega
  have ob : ∀ (es' : Array (Int × Value)) (t' : SetTable) (e : Nat) (es0 : Array (Int × Value)) (t0 : SetTable), Obj.putSet es' t' { cls := .type "set", dict := none, data := .set es0 e t0, slots := #[] } = { cls := .type "set", dict := none, data := .set es' (e + 1) t', slots := #[] } := fun _ _ _ _ _ => rfl
  have tail : ∀ t2 : SetTable, t2.fits es1.size = true → t2.led = led → t2.plain = false → wpAny (model prog w) A (do
    storeSet S es1 t2
    if (!wasD && t2.tooFull) = true then do
      (match (relayAll t2 es1 (SetTable.grown es1.size)).2.2 with | true => rule "set.scan.the-table-gave-way" | false => pure ())
      storeSet S (relayAll t2 es1 (SetTable.grown es1.size)).1 (relayAll t2 es1 (SetTable.grown es1.size)).2.1
      pure (some true)
     else pure (some true)) (fun r s' => wpAny (model prog w) A (match r with | some added => pure added | none => setAddHashedIn S (.str x tk) ((PySem.strKind prog w).hash x) 99999) Q E s') E { s with toks := s.toks + 1 } := by
   intro t2 hf2 hl2 hp2
   refine wpAny_bind (wpAny_storeSet_of (s := { s with toks := s.toks + 1 }) ho hd ?_ (fits_of_scanBound (by omega)))
   have g1 : (s.heap.update S (Obj.putSet es1 t2)).get? S = some { cls := .type "set", dict := none, data := .set es1 (ep + 1) t2, slots := #[] } := by
    have := Heap.get?_update_self (Obj.putSet es1 t2) ho (by rw [so.obj]; rfl)
    rw [so.obj, ob] at this
    exact this
   have sb1 := Heap.SameBut.update s.heap S (Obj.putSet es1 t2)
   split
   ·have hp := relayAll_perm t2 es1 (SetTable.grown es1.size)
    have hfr := relayAll_fits t2 es1 (SetTable.grown es1.size)
    have hlr := relay_led t2 es1 (SetTable.grown es1.size)
    generalize relayAll t2 es1 (SetTable.grown es1.size) = Rl at hp hfr hlr ⊢
    obtain ⟨es2, t3, gv2⟩ := Rl
    dsimp only at hp hfr hlr ⊢
    have sz2 : es2.size = es1.size := by rw [← Array.length_toList, hp.length_eq, Array.length_toList]
    refine wpAny_bind (gave gv2 ?_)
    refine wpAny_bind (wpAny_storeSet_of (s := { s with heap := s.heap.update S (Obj.putSet es1 t2), toks := s.toks + 1 }) g1 rfl ?_ (fits_of_scanBound (by omega)))
    refine wpAny_pure (wpAny_pure (end' es2 t3 (ep + 2) _ hp hfr (hlr.1.trans hl2) (hlr.2 hp2) (sb1.trans (Heap.SameBut.update _ S _)) ?_))
    have := Heap.get?_update_self (Obj.putSet es2 t3) g1 rfl
    rw [ob] at this
    exact this
   ·exact wpAny_pure (wpAny_pure (end' es1 t2 (ep + 1) _ (.refl _) hf2 hl2 hp2 sb1 g1))
  refine wpAny_bind (gave gv ?_)
  split
  ·refine wpAny_bind ?_
   rw [hashByValue_scannable 8 hsc]
   refine wpAny_pure ?_
   exact tail { t1 with plain := false } (SetTable.fits_plain_off hfits) (hled.trans so.led) rfl
  ·rename_i hpl
   refine wpAny_bind (wpAny_pure ?_)
   exact tail t1 hfits (hled.trans so.led) (by simpa using hpl)
end
end L3
set_option Elab.async false
set_option linter.all false
set_option maxRecDepth 100000
set_option maxHeartbeats 8000000
namespace L3
open PySem PySem.Spec PyProof.Rows L2 PySem.SeqAt
section
variable {prog : Program} {w : World} {A : Around} {R : Result → Shared → Prop} {I : Addr} {fp wr : List Addr} {G : Array GenState → Array GenState → Prop} {n : Nat} {P : Nat → Value → Prop} {St : Nat → Shared → Prop} {S : Addr} {led : Bool}
theorem SetT.other {h h' : Heap} {xs : List Str} (t : SetT prog w h S led xs) (k : ∀ o, h.get? S = some o → h'.get? S = some o) : SetT prog w h' S led xs := by
 obtain ⟨o, es, ep, tb, ho, r⟩ := t
 exact ⟨o, es, ep, tb, k o ho, r⟩
theorem upd_loop (W : WalksS prog w A.in1 I fp wr G n P St) (hSf : S ∉ fp) (val : Nat → Str) (hv : ∀ i v, P i v → ∃ t, v = .str (val i) t) (hb : n + 1 < scanBound) :
  ∀ (k i : Nat) (s : Shared), i + k = n → St i s → SetT prog w s.heap S led ((List.range i).map val) →
   (∀ s', Moved (S :: wr) G s s' → SetT prog w s'.heap S led ((List.range n).map val) → R (.ok (.ret .none)) s') →
   codeAny (model prog w) A (.builtin "set.update.loop" ⟨[.ref S, .ref I], []⟩) R s := by
 have nw : S ∉ wr := fun h => hSf (W.sub _ h)
 have up : ∀ b ∈ wr, b ∈ S :: wr := fun b hb => List.mem_cons_of_mem _ hb
 intro k
 induction k with
 | zero =>
  intro i s e st hS hR
  obtain rfl : i = n := by omega
  refine codeAny_builtin PyProof.Rows.F.entry_set_update_loop ?_
  rw [Around.under_plainId PyProof.Rows.F.plain_set_update_loop _]
  refine wpAny_bind (m := pyNext (.ref I)) (W.done s _ _ st fun s' hm => ?_)
  exact wpAny_pure (hR s' (hm.mono up) (hS.other fun o ho => hm.heap S o nw ho))
 | succ k ih =>
  intro i s e st hS hR
  have hi : i < n := by omega
  refine codeAny_builtin PyProof.Rows.F.entry_set_update_loop ?_
  rw [Around.under_plainId PyProof.Rows.F.plain_set_update_loop _]
  refine wpAny_bind (m := pyNext (.ref I)) (W.item i s _ _ hi st fun v s' hP st' hm => ?_)
  obtain ⟨tk, rfl⟩ := hv i v hP
  have hS' := hS.other fun o ho => hm.heap S o nw ho
  refine wpAny_bind (m := holding _ _) (wpAny_holding (setT_add (x := val i) (tk := tk) hS' (by rw [List.length_map, List.length_range]; omega) fun h' b sb h2 => ?_))
  have h3 : SetT prog w h' S led ((List.range (i + 1)).map val) := by rw [List.range_succ, List.map_append]; exact h2
  refine wpAny_pure ⟨plainId_quiet PyProof.Rows.F.plain_set_update_loop _, ih (i + 1) _ (by omega) (W.frame _ s' _ _ st' (Nat.le_succ _) fun b hb o e => ?_) h3 fun s'' hm' hS'' => ?_⟩
  ·rw [sb.2 b fun z => hSf (z ▸ hb)]; exact e
  ·refine hR s'' (Moved.trans W.gtrans ((hm.mono up).then_heap (Nat.le_succ _) fun b o hb e => ?_) hm') hS''
   rw [sb.2 b fun z => hb (z ▸ List.mem_cons_self)]; exact e
end
section
variable {prog : Program} {w : World} {A : Around} {E : Value → Shared → Prop} {s : Shared}
noncomputable def ledOf (w : World) : Bool := !w.params.followText "set-order"
noncomputable abbrev newS (led : Bool) : Obj := { cls := .type "set", dict := none, data := .set #[] 0 (.fresh 0 0 led) }
theorem set_new (a : Value) {Q : Value → Shared → Prop} (h : Q (.ref s.heap.objs.size) { s with heap := s.heap.push (newS (ledOf w)) }) :
  codeAny (model prog w) A (.call (.builtin "set.__new__") ⟨[.type "set", a], []⟩) (wants Q E) s := by
 apply codeAny_of_tree
 apply wpAny_bind (m:=checkBuiltinCall "set.__new__" _)
 apply wpAny_of_eq (PySem.F.newCall_set_1 a)
 refine wpAny_pure ⟨plainId_quiet PySem.F.plain_set_new _,codeAny_builtin PySem.F.entry_set_new ?_⟩
 rw [Around.under_plainId PySem.F.plain_set_new _]
 have u:=PySem.sub_set_self
 cases s
 wp_walk using wpAny_askSetting
 exact h
theorem strs_at : ∀ {vs : List Value} {ss : List Str}, StrsAre vs ss → ∀ (i : Nat) (v : Value), vs[i]? = some v → ∃ t, v = .str (ss.getD i "") t
 | _, _, .nil, i, v, h => by simp at h
 | _, _, .cons x t hr, 0, v, h => by simp at h; exact ⟨t, h.symm⟩
 | _, _, .cons x t hr, i + 1, v, h => by
  simp only [List.getElem?_cons_succ] at h
  obtain ⟨t', e⟩ := strs_at hr i v h
  exact ⟨t', by rw [e]; rfl⟩
theorem range_getD (ss : List Str) : ((List.range ss.length).map fun i => ss.getD i "") = ss := map_getD_range (α := Str) "" ss
theorem strs_len : ∀ {vs : List Value} {ss : List Str}, StrsAre vs ss → vs.length = ss.length
 | _, _, .nil => rfl
 | _, _, .cons x t h => by rw [List.length_cons, List.length_cons, strs_len h]
theorem wm0 {P Q:Value->Shared->Prop} {c:Code} (h:codeAny (model prog w) A c (wants P E) s) (f:∀ v s',P v s'->Q v s'):codeAny (model prog w) A c (wants Q E) s:=by
 refine codeAny_mono h fun r s' hr=>?_
 rcases r with e|(_|_|_|v) <;> first|exact hr|exact f _ _ hr
theorem tc0 {T nw ini:String} {as:List Value} {N Q:Value->Shared->Prop} (ft:TypeCalled T nw ini) (ck:checkTypeCall T ⟨as,[]⟩=pure ())
  (hn:codeAny (model prog w) A.in1 (.call (.builtin nw) ⟨.type T::as,[]⟩) (wants N E) s)
  (hi:∀ o t,N o t->t.TypeIs o T/\codeAny (model prog w) A.in1 (.call (.builtin ini) ⟨o::as,[]⟩) (wants (fun r t'=>r=.none/\Q o t') E) t) :
  wpAny (model prog w) A (call (.type T) as) Q E s:=by
 obtain ⟨c,tl,t5⟩:=ft.mro
 have t1:=ft.notType
 have t2:=ft.canCreate
 have t3:=ft.made
 have t4:=ft.sub
 apply wpAny_call
 apply codeAny_of_tree
 apply wpAny_pure
 refine ⟨Code.quiet_builtin _ (by decide +kernel),codeAny_builtin PySem.F.entry_type_call ?_⟩
 rw [Around.under_plain (weight_type_call_type T as []) rfl]
 wp_walk
 refine wm0 hn fun o t ho=>?_
 obtain ⟨t6,t7⟩:=hi o t ho
 have t8:=ft.init.lookup
 have t9:=ft.init.bind o
 wp_walk
 refine wm0 t7 fun r t' hr=>?_
 obtain ⟨rfl,q⟩:=hr
 wp_walk
 exact q
theorem set_call {l : Addr} {items : Array Value} {ss : List Str} {Q : Value → Shared → Prop} (hh : A.handled = none) (hl : s.heap.IsList l items) (hi : StrsAre items.toList ss) (hb : items.size + 1 < scanBound)
  (h : ∀ (h' : Heap) (tk : Nat), SetT prog w h' s.heap.objs.size (ledOf w) ss → (∀ b o, b < s.heap.objs.size → s.heap.get? b = some o → h'.get? b = some o) → Q (.ref s.heap.objs.size) { s with heap := h', toks := tk }) :
  wpAny (model prog w) A (call (.type "set") [.ref l]) Q E s := by
 refine tc0 (N:=fun o t=>o=.ref s.heap.objs.size/\t={ s with heap:=s.heap.push (newS (ledOf w)) }) PySem.F.called_set (PySem.F.typeCall_set_1 _) (set_new _ ⟨rfl,rfl⟩) ?_
 rintro _ _ ⟨rfl,rfl⟩
 have hS:(s.heap.push (newS (ledOf w))).get? s.heap.objs.size=some (newS (ledOf w)):=Heap.get?_push_size _ rfl
 have ty:Shared.TypeIs { s with heap:=s.heap.push (newS (ledOf w)) } (.ref s.heap.objs.size) "set" := ⟨_,hS,rfl⟩
 refine ⟨ty,codeAny_call_builtin PySem.F.called_set.init.plain PySem.F.entry_set_init (check_set_init_1 ty ?_)⟩
 have sq:(s.heap.push (newS (ledOf w))).IsList l items:=hl.push _
 obtain ⟨⟨oc,od,oda,osl⟩,g,e,sp⟩:=sq
 cases e
 have lt:l<s.heap.objs.size:=by
  obtain ⟨o',g',_⟩:=hl
  exact Heap.lt_size g'
 have u1:=PySem.F.sub_list_set
 have u2:=PySem.F.sub_list_frozenset
 have u3:(Value.type "list"==Value.type "dict")=false:=by decide
 have sq:(s.heap.push (newS (ledOf w))).IsList l items:=hl.push _
 wp_walk using wpAny_pyIter_list sq
 have nl:l≠(s.heap.push (newS (ledOf w))).objs.size:=by rw [Heap.size_push];exact Nat.ne_of_lt (Nat.lt_succ_of_lt lt)
 have nf:s.heap.objs.size∉[(s.heap.push (newS (ledOf w))).objs.size,l]:=by
  intro m
  rw [Heap.size_push,List.mem_cons,List.mem_singleton] at m
  exact m.elim (Nat.ne_of_lt (Nat.lt_succ_self _)) (Nat.ne_of_gt lt)
 refine upd_loop (led:=ledOf w) (Walks.list (by simp [hh]) _ l nl items).toS nf (fun i => ss.getD i "") (fun i v hv => strs_at hi i v (by rw [Array.getElem?_toList]; exact hv)) hb items.size 0 _ (Nat.zero_add _) ⟨⟨_,Heap.get?_push_size _ rfl,rfl,rfl⟩,sq.push _⟩ (⟨_, #[], 0, _, Heap.get?_push_of_some _ hS, ⟨rfl, fun e he => by simp at he, by rfl, rfl, fun z => absurd rfl z, by simp⟩, Nat.zero_le _, fun x => by simp⟩) ?_
 intro t mv hT
 have e:t={ s with heap:=t.heap,toks:=t.toks }:=by
  have e1:=mv.gens
  have e2:=mv.drawn
  have e3:=mv.os
  cases t
  simp only at e1 e2 e3
  rw [e1,e2,e3]
 have ln:=strs_len hi
 rw [Array.length_toList] at ln
 rw [ln,range_getD] at hT
 wp_walk
 refine ⟨rfl,e▸h t.heap t.toks hT fun c o hc g=>mv.heap c o (fun m=>?_) (Heap.get?_push_of_some _ (Heap.get?_push_of_some _ g))⟩
 rw [Heap.size_push,List.mem_cons,List.mem_singleton] at m
 exact m.elim (Nat.ne_of_lt hc) (Nat.ne_of_lt (Nat.lt_succ_of_lt hc))
end
end L3
set_option Elab.async false
set_option linter.all false
set_option maxRecDepth 100000
set_option maxHeartbeats 8000000
namespace L3
open PySem PySem.Spec PyProof.Rows L2 PySem.SeqAt
namespace SI
theorem slot_next : Slot "set_iterator" "__next__" "set_iterator.__next__" :=
 .of (owner := "set_iterator") (n := "__next__") (by rw [typeLookup_type, builtinLookup_eq_fast]; kernel_rfl) (by decide +kernel) (by decide +kernel) (by decide +kernel) (by first | exact .inl (by decide +kernel) | exact .inr (by decide +kernel)) (by rw [isSubtype_type]; kernel_rfl)
theorem slot_iter : Slot "set_iterator" "__iter__" "set_iterator.__iter__" :=
 .of (owner := "set_iterator") (n := "__iter__") (by rw [typeLookup_type, builtinLookup_eq_fast]; kernel_rfl) (by decide +kernel) (by decide +kernel) (by decide +kernel) (by first | exact .inl (by decide +kernel) | exact .inr (by decide +kernel)) (by rw [isSubtype_type]; kernel_rfl)
theorem entry_next : entryFor table "set_iterator.__next__" = some Builtin.«set_iterator.__next__» := entryFor_of_tree (by kernel_rfl)
theorem entry_iter : entryFor table "set_iterator.__iter__" = some Builtin.«dict_keyiterator.__iter__» :=
 entryFor_alias (id' := "dict_keyiterator.__iter__") (by kernel_rfl) rfl (by decide +kernel) (by kernel_rfl)
theorem entry_siter : entryFor table "set.__iter__" = some Builtin.«frozenset.__iter__» :=
 entryFor_alias (id' := "frozenset.__iter__") (by kernel_rfl) rfl (by decide +kernel) (by kernel_rfl)
theorem args_next (a : Value) : argsOk "set_iterator.__next__" ⟨[a], []⟩ := by unfold argsOk; kernel_rfl
theorem args_iter (a : Value) : argsOk "set_iterator.__iter__" ⟨[a], []⟩ := by unfold argsOk; kernel_rfl
end SI
noncomputable abbrev itO (first : Value) (i : Nat) (S : Addr) (n ep : Nat) : Obj := { cls := .type "set_iterator", data := .fields #[first, .int i 0, .ref S, .int n 0, .int ep 0] }
section
variable {prog : Program} {w : World} {A : Around} {E : Value → Shared → Prop} {s : Shared} {I S : Addr} {first : Value} {i n ep : Nat} {led : Bool} {o : Obj} {es : Array (Int × Value)} {t : SetTable}
theorem next_self {Q : Value → Shared → Prop} (hI : s.heap.get? I = some (itO first i S n ep)) (h : Q (.ref I) s) : wpAny (model prog w) A (pyIter (.ref I)) Q E s := by
 have hT : s.TypeIs (.ref I) "set_iterator" := ⟨_, hI, rfl⟩
 refine wpAny_pyIter_slot hT SI.slot_iter (wpAny_call_entry SI.slot_iter hT SI.entry_iter ?_ (SI.args_iter _))
 show wpAny (model prog w) _ (ret (.ref I)) _ _ s
 exact wpAny_pure ⟨_, rfl, "set_iterator", _, hT, SI.slot_next.lookup, h⟩
theorem stop_at {B : Around} {Q : Fin → Shared → Prop} {Er : Value → Shared → Prop} (hh : B.handled = none) (h : ∀ (h' : Heap) (e : Addr), (∀ b o, s.heap.get? b = some o → h'.get? b = some o) → Shared.TypeIs { s with heap := h' } (.ref e) "StopIteration" → Er (.ref e) { s with heap := h' }) :
  wpAny (model prog w) B (do raiseNew (← newExc (.type "StopIteration") [])) Q Er s := by
 refine wpAny_bind ?_
 simp only [newExc, newTuple]
 refine wpAny_bind (wpAny_newObj_type ?_ (by size_fits))
 refine wpAny_bind (m := firstArgMember _ _) (wpAny_of_eq (a := Value.none) (by first | rfl | (simp only [firstArgMember]; rfl)) ?_)
 refine wpAny_newObj_type ?_ (by size_fits)
 simp only [raiseNew]
 refine wpAny_bind (wpAny_handled ?_)
 rw [hh]
 refine wpAny_bind (wpAny_pure (wpAny_throw ?_))
 exact h _ _ (fun b o e => Heap.get?_push_of_some _ (Heap.get?_push_of_some _ e)) ⟨_, Heap.get?_push_size _ rfl, rfl⟩
theorem next_of {Q : Option Value → Shared → Prop} (hI : s.heap.get? I = some (itO first i S es.size ep)) (ho : s.heap.get? S = some o) (so : SetO prog w o led es ep t)
  (h : wpAny (model prog w) A.in1 (if let .int slot _ := first then do
    match ← setNext S slot.toNat i ep with
    | some (x, next) =>
     setField (.ref I) 0 (rawInt next)
     setField (.ref I) 1 (rawInt ((i : Int) + 1))
     ret x
    | none => do setField (.ref I) 2 .none; raiseNew (← newExc (.type "StopIteration") [])
   else do
    let some places ← seqItems? first | unsupported "internal:set_iterator"
    match places[i]? with
    | some (.int place _) =>
     let x ← setNextDrawn S place.toNat ep
     setField (.ref I) 1 (rawInt ((i : Int) + 1))
     ret x
    | some _ => unsupported "internal:set_iterator"
    | none => do setField (.ref I) 0 (rawInt 0); setField (.ref I) 2 .none; raiseNew (← newExc (.type "StopIteration") []))
   (fun fin s' => ∃ r, fin = .done (.ret r) ∧ Q (some r) s') (fun e s' => s'.TypeIs e "StopIteration" ∧ Q none s') s) : wpAny (model prog w) A (pyNext (.ref I)) Q E s := by
 have hT : s.TypeIs (.ref I) "set_iterator" := ⟨_, hI, rfl⟩
 have hd : o.data = .set es ep t := by rw [so.obj]
 unfold pyNext
 refine wpAny_bind (wpAny_attempt (wpAny_callSpecial?_slot (name := Str.ofString "__next__") hT SI.slot_next (wpAny_call_entry SI.slot_next hT SI.entry_next ?_ (SI.args_next _))))
 unfold Builtin.«set_iterator.__next__»
 refine wpAny_bind (m := slotArgs "__next__" 0 _) (wpAny_pure ?_)
 refine wpAny_bind (wpAny_fieldsOf hI rfl ?_)
 dsimp only
 refine wpAny_bind (wpAny_setEntries_of ho hd so.fit ?_)
 rw [if_neg (by simp)]
 simp only [Int.toNat_natCast]
 refine wpAny_mono h (fun fin s' z => ?_) fun e s' z => ?_
 ·obtain ⟨r, e, q⟩ := z
  exact ⟨r, e, wpAny_pure q⟩
 ·exact wpAny_bind (wpAny_isInstance (T := "StopIteration") (b := true) z.1 isSubtype_stop (wpAny_pure z.2))
end
end L3
set_option Elab.async false
set_option linter.all false
set_option maxRecDepth 100000
set_option maxHeartbeats 8000000
namespace L3
open PySem PySem.Spec PyProof.Rows L2 PySem.SeqAt
section
variable {prog : Program} {w : World} {A : Around} {I S T : Addr} {ep : Nat} {led : Bool} {o : Obj} {es : Array (Int × Value)} {t : SetTable}
noncomputable abbrev Gs : Array GenState → Array GenState → Prop := fun a b => b = a
theorem moved_upd {s : Shared} {f : Obj → Obj} : Moved [I] Gs s { s with heap := s.heap.update I f } :=
 ⟨fun b o hb e => (Heap.get?_update_other _ _ fun z : I = b => hb (by simp [z])).trans e, rfl, rfl, rfl, Nat.le_refl _⟩
theorem Moved.more {s s' : Shared} {h' : Heap} (m : Moved [I] Gs s s') (k : ∀ b o, s'.heap.get? b = some o → h'.get? b = some o) : Moved [I] Gs s { s' with heap := h' } := m.then_heap (Nat.le_refl _) fun b o _ e => k b o e
theorem by_text {s : Shared} {E : Value → Shared → Prop} {Q : Bool → Shared → Prop} (h : Q (w.params.followText "set-order") s) : wpAny (model prog w) A setsByText Q E s := by
 unfold setsByText
 exact wpAny_bind (wpAny_askSetting (wpAny_pure h))
noncomputable def tupO (ord : List Nat) : Obj := { cls := .type "tuple", data := .seq (ord.map fun i => rawInt (i : Nat)).toArray }
noncomputable def valAt (es : Array (Int × Value)) (j : Nat) : Value := (es[j]?.map (·.2)).getD .none
theorem fld_get {h : Heap} {first x : Value} {i n k : Nat} (hI : h.get? I = some (itO first i S n ep)) : (h.update I (Obj.mapFields (·.setIfInBounds k x))).get? I = some { cls := .type "set_iterator", data := .fields (#[first, .int i 0, .ref S, .int n 0, .int ep 0].setIfInBounds k x) } := by
 have := Heap.get?_update_self (Obj.mapFields (·.setIfInBounds k x)) hI rfl
 exact this
theorem walk_drawn {ord : List Nat} (hh : A.handled = none) (hIS : I ≠ S) (hIT : I ≠ T) (so : SetO prog w o led es ep t) (hord : ∀ j ∈ ord, j < es.size) (hn : ord.length = es.size) :
  WalksS prog w A I [I, T, S] [I] Gs es.size (fun i v => ∃ j, ord[i]? = some j ∧ v = valAt es j) (fun i s => s.heap.get? I = some (itO (.ref T) i S es.size ep) ∧ s.heap.get? T = some (tupO ord) ∧ s.heap.get? S = some o) where
 sub := fun b hb => by simp only [List.mem_singleton] at hb; simp [hb]
 grefl := fun _ => rfl
 gtrans := fun _ _ _ h1 h2 => h2.trans h1
 frame := fun i s h' tk st _ k => ⟨k I (by simp) _ st.1, k T (by simp) _ st.2.1, k S (by simp) _ st.2.2⟩
 item := fun i s Q E hi st q => by
  obtain ⟨h1, h2, h3⟩ := st
  have hd : o.data = .set es ep t := by rw [so.obj]
  refine next_of h1 h3 so ?_
  dsimp only
  refine wpAny_bind (wpAny_seqItems h2 rfl ?_)
  have hi' : i < ord.length := by omega
  have e : ((ord.map fun i => rawInt (i : Nat)).toArray)[i]? = some (rawInt (ord[i] : Nat)) := by
   rw [List.getElem?_toArray, List.getElem?_map, List.getElem?_eq_getElem hi']; rfl
  dsimp only
  rw [e]
  have hj := hord _ (List.getElem_mem hi')
  show wpAny _ _ (setNextDrawn S ((ord[i] : Nat) : Int).toNat ep >>= _) _ _ s
  unfold setNextDrawn
  refine wpAny_bind (wpAny_bind (wpAny_setState_of h3 hd so.fit ?_))
  dsimp only
  rw [if_neg (by simp), Int.toNat_natCast, Array.getElem?_eq_getElem hj]
  refine wpAny_pure (wpAny_bind (wpAny_setField h1 rfl (by simp) (wpAny_pure ⟨_, rfl, q _ _ ⟨_, List.getElem?_eq_getElem hi', ?_⟩ ⟨?_, ?_, ?_⟩ moved_upd⟩)))
  ·unfold valAt; rw [Array.getElem?_eq_getElem hj]; rfl
  ·rw [fld_get h1]; rfl
  ·exact (Heap.get?_update_other _ _ hIT).trans h2
  ·exact (Heap.get?_update_other _ _ hIS).trans h3
 done := fun s Q E st q => by
  obtain ⟨h1, h2, h3⟩ := st
  refine next_of h1 h3 so ?_
  dsimp only
  refine wpAny_bind (wpAny_seqItems h2 rfl ?_)
  have e : ((ord.map fun i => rawInt (i : Nat)).toArray)[es.size]? = none := by
   rw [List.getElem?_toArray, List.getElem?_eq_none_iff, List.length_map]; omega
  dsimp only
  rw [e]
  refine wpAny_bind (wpAny_setField h1 rfl (by simp) ?_)
  refine wpAny_bind (wpAny_setField (fld_get h1) rfl (by simp) ?_)
  refine stop_at (show A.in1.handled = none from hh) fun h' e k hT => ⟨hT, q _ ?_⟩
  exact Moved.more (Moved.trans (fun _ _ _ h1 h2 => h2.trans h1) moved_upd moved_upd) k
 self := fun i s Q E st q => next_self st.1 q
theorem walk_text {ord : List (Int × Value)} (hh : A.handled = none) (hIS : I ≠ S) (so : SetO prog w o led es ep t) (hb : w.params.followText "set-order" = true) (ho : (pickOrder (w.params.setOrder S ep) es).toList = ord) (hn : ord.length = es.size) :
  WalksS prog w A I [I, S] [I] Gs es.size (fun i v => ∃ e, ord[i]? = some e ∧ v = e.2) (fun i s => s.heap.get? I = some (itO (.int 0 0) i S es.size ep) ∧ s.heap.get? S = some o) where
 sub := fun b hb => by simp only [List.mem_singleton] at hb; simp [hb]
 grefl := fun _ => rfl
 gtrans := fun _ _ _ h1 h2 => h2.trans h1
 frame := fun i s h' tk st _ k => ⟨k I (by simp) _ st.1, k S (by simp) _ st.2⟩
 item := fun i s Q E hi st q => by
  obtain ⟨h1, h3⟩ := st
  have hd : o.data = .set es ep t := by rw [so.obj]
  refine next_of h1 h3 so ?_
  dsimp only
  have hi' : i < ord.length := by omega
  unfold setNext setWalk
  refine wpAny_bind (wpAny_bind (wpAny_setState_of h3 hd so.fit (wpAny_bind (by_text ?_))))
  rw [hb]
  dsimp only
  rw [if_pos rfl, if_neg (by simp)]
  refine wpAny_bind (wpAny_bind (wpAny_setState_of h3 hd so.fit (wpAny_bind (by_text ?_))))
  rw [hb]
  dsimp only
  rw [if_pos rfl]
  refine wpAny_bind (wpAny_askSetting (wpAny_pure (wpAny_pure ?_)))
  have e : (pickOrder ((model prog w).w.params.setOrder S ep) es)[i]? = some ord[i] := by
   rw [← Array.getElem?_toList]
   show (pickOrder (w.params.setOrder S ep) es).toList[i]? = _
   rw [ho]; exact List.getElem?_eq_getElem hi'
  rw [e]
  refine wpAny_bind (wpAny_setField h1 rfl (by simp) ?_)
  refine wpAny_bind (wpAny_setField (fld_get h1) rfl (by simp) (wpAny_pure ⟨_, rfl, q _ _ ⟨_, List.getElem?_eq_getElem hi', rfl⟩ ⟨?_, ?_⟩ (Moved.trans (fun _ _ _ h1 h2 => h2.trans h1) moved_upd moved_upd)⟩))
  ·have := Heap.get?_update_self (Obj.mapFields (·.setIfInBounds 1 (rawInt ((i : Int) + 1)))) (fld_get (k := 0) (x := rawInt ((0 : Int).toNat : Nat)) h1) rfl
   exact this
  ·exact (Heap.get?_update_other _ _ hIS).trans ((Heap.get?_update_other _ _ hIS).trans h3)
 done := fun s Q E st q => by
  obtain ⟨h1, h3⟩ := st
  have hd : o.data = .set es ep t := by rw [so.obj]
  refine next_of h1 h3 so ?_
  dsimp only
  unfold setNext setWalk
  refine wpAny_bind (wpAny_bind (wpAny_setState_of h3 hd so.fit (wpAny_bind (by_text ?_))))
  rw [hb]
  dsimp only
  rw [if_pos rfl, if_neg (by simp)]
  refine wpAny_bind (wpAny_bind (wpAny_setState_of h3 hd so.fit (wpAny_bind (by_text ?_))))
  rw [hb]
  dsimp only
  rw [if_pos rfl]
  refine wpAny_bind (wpAny_askSetting (wpAny_pure (wpAny_pure ?_)))
  have e : (pickOrder ((model prog w).w.params.setOrder S ep) es)[es.size]? = none := by
   rw [← Array.getElem?_toList]
   show (pickOrder (w.params.setOrder S ep) es).toList[es.size]? = _
   rw [ho, List.getElem?_eq_none_iff]; omega
  rw [e]
  refine wpAny_bind (wpAny_setField h1 rfl (by simp) ?_)
  refine stop_at (show A.in1.handled = none from hh) fun h' e k hT => ⟨hT, q _ ?_⟩
  exact Moved.more moved_upd k
 self := fun i s Q E st q => next_self st.1 q
noncomputable def slotC (t : SetTable) (i : Nat) : Nat := if i = 0 then 0 else t.place.getD 0 0 + 1
theorem below_one {p : Array Nat} {j : Nat} (h : p.size = 1) : SetTable.below p j = if p.getD 0 j < j then 1 else 0 := by
 unfold SetTable.below
 rw [h]
 simp only [SetTable.below.go, Nat.lt_irrefl, if_false]
 rfl
theorem walk_one (hh : A.handled = none) (hIS : I ≠ S) (so : SetO prog w o led es ep t) (hb : w.params.followText "set-order" = false) (hl : led = true) (h1 : es.size ≤ 1) :
  WalksS prog w A I [I, S] [I] Gs es.size (fun i v => v = valAt es i) (fun i s => s.heap.get? I = some (itO (.int (slotC t i : Nat) 0) i S es.size ep) ∧ s.heap.get? S = some o) where
 sub := fun b hb => by simp only [List.mem_singleton] at hb; simp [hb]
 grefl := fun _ => rfl
 gtrans := fun _ _ _ h1 h2 => h2.trans h1
 frame := fun i s h' tk st _ k => ⟨k I (by simp) _ st.1, k S (by simp) _ st.2⟩
 item := fun i s Q E hi st q => by
  obtain ⟨g1, g3⟩ := st
  have hd : o.data = .set es ep t := by rw [so.obj]
  obtain rfl : i = 0 := by omega
  have hs1 : es.size = 1 := by omega
  have hp1 : t.place.size = 1 := by
   have := so.fit
   simp only [SetTable.fits, Bool.and_eq_true, beq_iff_eq] at this
   omega
  refine next_of g1 g3 so ?_
  dsimp only
  unfold setNext
  refine wpAny_bind (wpAny_bind (wpAny_setState_of g3 hd so.fit (wpAny_bind (by_text ?_))))
  rw [hb]
  dsimp only
  rw [if_neg Bool.false_ne_true]
  split
  ·rename_i hdr
   have hdr : (!t.plain && decide (es.size > 1)) = true := hdr
   rw [hs1] at hdr
   simp at hdr
  refine wpAny_bind ?_
  show wpAny (model prog w) _ (if (!t.led && !es.isEmpty) = true then _ else pure ()) _ _ _
  rw [so.led, hl, if_neg (by simp)]
  refine wpAny_pure (wpAny_pure ?_)
  have e0 : SetTable.below t.place ((slotC t 0 : Nat) : Int).toNat = 0 := by
   rw [Int.toNat_natCast, below_one hp1]
   simp [slotC]
  rw [e0]
  have e1 : es[0]? = some es[0] := by simp [hs1]
  have e2 : t.place[0]? = some t.place[0] := by simp [hp1]
  rw [e1, e2]
  refine wpAny_bind (wpAny_setField g1 rfl (by simp) ?_)
  refine wpAny_bind (wpAny_setField (fld_get g1) rfl (by simp) (wpAny_pure ⟨_, rfl, q _ _ ?_ ⟨?_, ?_⟩ (Moved.trans (fun _ _ _ h1 h2 => h2.trans h1) moved_upd moved_upd)⟩))
  ·unfold valAt; rw [e1]; rfl
  ·have := Heap.get?_update_self (Obj.mapFields (·.setIfInBounds 1 (rawInt (((0 : Nat) : Int) + 1)))) (fld_get (k := 0) (x := rawInt ((t.place[0] + 1 : Nat) : Int)) g1) rfl
   have e : slotC t (0 + 1) = t.place[0] + 1 := by simp [slotC, hp1]
   rw [e]
   exact this
  ·exact (Heap.get?_update_other _ _ hIS).trans ((Heap.get?_update_other _ _ hIS).trans g3)
 done := fun s Q E st q => by
  obtain ⟨g1, g3⟩ := st
  have hd : o.data = .set es ep t := by rw [so.obj]
  have hps : t.place.size = es.size := by
   have := so.fit
   simp only [SetTable.fits, Bool.and_eq_true, beq_iff_eq] at this
   exact this.1
  refine next_of g1 g3 so ?_
  dsimp only
  unfold setNext
  refine wpAny_bind (wpAny_bind (wpAny_setState_of g3 hd so.fit (wpAny_bind (by_text ?_))))
  rw [hb]
  dsimp only
  rw [if_neg Bool.false_ne_true]
  split
  ·rename_i hdr
   have hdr : (!t.plain && decide (es.size > 1)) = true := hdr
   simp at hdr
   omega
  refine wpAny_bind ?_
  show wpAny (model prog w) _ (if (!t.led && !es.isEmpty) = true then _ else pure ()) _ _ _
  rw [so.led, hl, if_neg (by simp)]
  refine wpAny_pure (wpAny_pure ?_)
  have e0 : es[SetTable.below t.place ((slotC t es.size : Nat) : Int).toNat]? = none := by
   rw [Int.toNat_natCast]
   have hc : es.size = 0 ∨ es.size = 1 := by omega
   rcases hc with hc | hc
   ·simp [hc]
   ·rw [below_one (by rw [hps, hc]), hc]
    have : t.place.getD 0 (slotC t 1) < slotC t 1 := by
     simp [slotC, hps, hc]
    rw [if_pos this]
    simp [hc]
  rw [e0]
  refine wpAny_bind (wpAny_setField g1 rfl (by simp) ?_)
  refine stop_at (show A.in1.handled = none from hh) fun h' e k hT => ⟨hT, q _ ?_⟩
  exact Moved.more moved_upd k
 self := fun i s Q E st q => next_self st.1 q
end
end L3
set_option Elab.async false
set_option linter.all false
set_option maxRecDepth 100000
set_option maxHeartbeats 8000000
namespace L3
open PySem PySem.Spec PyProof.Rows L2 PySem.SeqAt
section
variable {prog : Program} {w : World} {A : Around} {E : Value → Shared → Prop} {s : Shared} {S : Addr} {ep : Nat} {o : Obj} {es : Array (Int × Value)} {t : SetTable}
theorem choose_at {src : Source} {n : Nat} {Q : Nat → Shared → Prop} (hn : n ≠ 0) (h : ∀ i d, i < n → Q i { s with drawn := d }) : wpAny (model prog w) A (choose src n) Q E s := fun Γ p hΓ => by
 unfold choose
 rw [Sem.wp_choose]
 exact ⟨hn, h _ _ (Nat.mod_lt _ (Nat.pos_of_ne_zero hn))⟩
theorem erase_perm {α : Type} : ∀ {l : List α} {i : Nat} (h : i < l.length), (l[i] :: l.eraseIdx i).Perm l
 | x :: l, 0, _ => .refl _
 | x :: l, i + 1, h => by
  have h' : i < l.length := by simpa using h
  show (l[i] :: x :: l.eraseIdx i).Perm (x :: l)
  exact (List.Perm.swap _ _ _).trans ((erase_perm h').cons x)
theorem draw_order {α : Type} : ∀ (n : Nat) (xs : List α) (s : Shared) {Q : List α → Shared → Prop}, n = xs.length → (∀ ys d, ys.Perm xs → Q ys { s with drawn := d }) → wpAny (model prog w) A (drawOrder n xs) Q E s
 | 0, [], s, Q, _, h => wpAny_pure (h [] s.drawn (.refl _))
 | n + 1, x :: xs, s, Q, e, h => by
  show wpAny _ _ (choose .order (x :: xs).length >>= _) _ _ _
  refine wpAny_bind (choose_at (by simp) fun i d hi => ?_)
  rw [List.getElem?_eq_getElem hi]
  refine wpAny_bind (draw_order n _ _ (by rw [List.length_eraseIdx_of_lt hi]; simp at e ⊢; omega) fun ys d' hp => ?_)
  refine wpAny_pure (h _ d' ((hp.cons _).trans ?_))
  exact erase_perm hi
theorem WalksS.imp {I : Addr} {fp wr : List Addr} {G : Array GenState → Array GenState → Prop} {n : Nat} {P P' : Nat → Value → Prop} {St : Nat → Shared → Prop} (W : WalksS prog w A I fp wr G n P St) (k : ∀ i v, i < n → P i v → P' i v) : WalksS prog w A I fp wr G n P' St where
 sub := W.sub
 grefl := W.grefl
 gtrans := W.gtrans
 frame := W.frame
 item := fun i s Q E hi st q => W.item i s Q E hi st fun v s' hP => q v s' (k i v hi hP)
 done := W.done
 self := W.self
theorem pick_perm {α : Type} (f : Nat → Nat) (xs : Array α) : (pickOrder f xs).toList.Perm xs.toList := by
 unfold pickOrder
 have key : ∀ (n k : Nat) (l : List α) (out : Array α), n = l.length → (pickOrder.go f n k l out).toList.Perm (out.toList ++ l) := by
  intro n
  induction n with
  | zero =>
   intro k l out e
   cases l with
   | nil => simp [pickOrder.go]
   | cons _ _ => cases e
  | succ n ih =>
   intro k l out e
   have hl : f k % l.length < l.length := Nat.mod_lt _ (by omega)
   unfold pickOrder.go
   rw [List.getElem?_eq_getElem hl]
   refine (ih (k + 1) _ _ (by rw [List.length_eraseIdx_of_lt hl]; omega)).trans ?_
   rw [Array.toList_push, List.append_assoc]
   exact List.Perm.append_left _ (erase_perm hl)
 simpa using key xs.size 0 xs.toList #[] (by simp)
structure WalkOf (prog : Program) (w : World) (s s' : Shared) (S I : Addr) (n : Nat) (ys : List Str) (fp : List Addr) (St : Nat → Shared → Prop) : Prop where
 wk : ∀ A, A.handled = none → WalksS prog w A I fp [I] Gs n (fun i v => ∃ tk, v = .str (ys.getD i "") tk) St
 st : St 0 s'
 kp : ∀ b o, s.heap.get? b = some o → s'.heap.get? b = some o
 old : ∀ b ∈ fp, b = S ∨ s.heap.objs.size ≤ b
 new : s.heap.objs.size ≤ I
 rest : s'.gens = s.gens ∧ s'.os = s.os ∧ s'.toks = s.toks
theorem val_tx (so : SetO prog w o (ledOf w) es ep t) {j : Nat} (hj : j < es.size) : ∃ tk, valAt es j = .str ((es.toList.map tx).getD j "") tk := by
 have hm : es[j] ∈ es.toList := by simp
 have hk := el_tx so.el hm
 obtain ⟨tk, e⟩ := Value.isStrOf_shape hk
 refine ⟨tk, ?_⟩
 unfold valAt
 rw [Array.getElem?_eq_getElem hj]
 have e2 : (es.toList.map tx).getD j "" = tx es[j] := by
  rw [List.getD_eq_getElem?_getD, List.getElem?_map, Array.getElem?_toList, Array.getElem?_eq_getElem hj]; rfl
 rw [e2]
 exact e
theorem iter_set {Q : Value → Shared → Prop} (ho : s.heap.get? S = some o) (so : SetO prog w o (ledOf w) es ep t) (hsz : es.size ≤ 1000)
  (h : ∀ I s' ys fp St, ys.Perm (es.toList.map tx) → WalkOf prog w s s' S I es.size ys fp St → Q (.ref I) s') : wpAny (model prog w) A (pyIter (.ref S)) Q E s := by
 have hd : o.data = .set es ep t := by rw [so.obj]
 have hT : s.TypeIs (.ref S) "set" := ⟨o, ho, by rw [so.obj]⟩
 have hlt : S < s.heap.objs.size := Heap.lt_size ho
 refine wpAny_pyIter_slot hT PySem.F.slot_set_iter (wpAny_call_entry PySem.F.slot_set_iter hT SI.entry_siter ?_ (PySem.F.args_set_iter_1 _))
 unfold Builtin.«frozenset.__iter__»
 refine wpAny_bind (m := Builtin.Frozenset.slot0 "__iter__" _) (wpAny_pure ?_)
 unfold Builtin.Frozenset.sizeOf
 refine wpAny_bind (wpAny_bind (wpAny_setEntries_of ho hd so.fit (wpAny_pure ?_)))
 unfold setDrawn
 refine wpAny_bind (wpAny_bind (wpAny_setState_of ho hd so.fit (wpAny_bind (by_text (wpAny_pure ?_)))))
 cases hb : w.params.followText "set-order" with
 | true =>
  dsimp only
  rw [if_neg (by simp)]
  refine wpAny_bind (wpAny_pure ?_)
  refine wpAny_bind (wpAny_setEpoch_of ho hd so.fit (wpAny_bind (wpAny_newObj_type (wpAny_pure ⟨_, rfl, "set_iterator", _, ⟨_, Heap.get?_push_size _ rfl, rfl⟩, SI.slot_next.lookup, ?_⟩))))
  have hp := pick_perm (w.params.setOrder S ep) es
  have hpl : ((pickOrder (w.params.setOrder S ep) es).toList.map tx).Perm (es.toList.map tx) := hp.map tx
  refine h _ _ ((pickOrder (w.params.setOrder S ep) es).toList.map tx) [s.heap.objs.size, S] _ hpl ⟨fun B hB => WalksS.imp (walk_text hB (Nat.ne_of_gt hlt) so hb rfl (by rw [hp.length_eq, Array.length_toList])) fun i v hi z => ?_, ⟨Heap.get?_push_size _ rfl, Heap.get?_push_of_some _ ho⟩, fun b o e => Heap.get?_push_of_some _ e, fun b hb => ?_, Nat.le_refl _, rfl, rfl, rfl⟩
  ·obtain ⟨e, he, rfl⟩ := z
   have hm : e ∈ es.toList := hp.mem_iff.mp (List.mem_of_getElem? he)
   obtain ⟨tk, ev⟩ := Value.isStrOf_shape (el_tx so.el hm)
   refine ⟨tk, ?_⟩
   rw [List.getD_eq_getElem?_getD, List.getElem?_map, he]
   exact ev
  ·simp only [List.mem_cons, List.not_mem_nil, or_false] at hb
   rcases hb with rfl | rfl
   ·exact .inr (Nat.le_refl _)
   ·exact .inl rfl
 | false =>
  have hled : ledOf w = true := by unfold ledOf; rw [hb]; rfl
  dsimp only
  by_cases h1 : es.size ≤ 1
  ·rw [if_neg (by
    intro z
    have z : (!false && (!t.plain && decide (es.size > 1))) = true := z
    simp at z
    omega)]
   refine wpAny_bind (wpAny_pure ?_)
   refine wpAny_bind (wpAny_setEpoch_of ho hd so.fit (wpAny_bind (wpAny_newObj_type (wpAny_pure ⟨_, rfl, "set_iterator", _, ⟨_, Heap.get?_push_size _ rfl, rfl⟩, SI.slot_next.lookup, ?_⟩))))
   refine h _ _ (es.toList.map tx) [s.heap.objs.size, S] _ (.refl _) ⟨fun B hB => WalksS.imp (walk_one hB (Nat.ne_of_gt hlt) so hb hled h1) fun i v hi z => ?_, ⟨Heap.get?_push_size _ rfl, Heap.get?_push_of_some _ ho⟩, fun b o e => Heap.get?_push_of_some _ e, fun b hb => ?_, Nat.le_refl _, rfl, rfl, rfl⟩
   ·rw [z]; exact val_tx so hi
   ·simp only [List.mem_cons, List.not_mem_nil, or_false] at hb
    rcases hb with rfl | rfl
    ·exact .inr (Nat.le_refl _)
    ·exact .inl rfl
  ·rw [if_pos (by
    show (!false && (!t.plain && decide (es.size > 1))) = true
    rw [so.pl (by omega)]
    simp
    omega)]
   refine wpAny_bind (draw_order es.size (List.range es.size) s List.length_range.symm fun ord d hp => ?_)
   refine wpAny_bind (wpAny_newTuple ?_ (by rw [List.length_map, hp.length_eq, List.length_range]; rw [sizeLine_eq]; omega))
   refine wpAny_bind (wpAny_setEpoch_of (Heap.get?_push_of_some _ ho) hd so.fit (wpAny_bind (wpAny_newObj_type (wpAny_pure ⟨_, rfl, "set_iterator", _, ⟨_, Heap.get?_push_size _ rfl, rfl⟩, SI.slot_next.lookup, ?_⟩))))
   have hlen : ord.length = es.size := by rw [hp.length_eq, List.length_range]
   have hlt2 : s.heap.objs.size < (s.heap.push (tupO ord)).objs.size := by rw [Heap.size_push]; exact Nat.lt_succ_self _
   have hpm : (ord.map fun j => (es.toList.map tx).getD j "").Perm (es.toList.map tx) := by
    have := hp.map fun j => (es.toList.map tx).getD j ""
    have e : es.size = (es.toList.map tx).length := by simp
    rw [e, map_getD_range (α := Str) "" (es.toList.map tx)] at this
    exact this
   refine h _ _ (ord.map fun j => (es.toList.map tx).getD j "") [(s.heap.push (tupO ord)).objs.size, s.heap.objs.size, S] _ hpm ⟨fun B hB => WalksS.imp (walk_drawn (T := s.heap.objs.size) hB (Nat.ne_of_gt (Nat.lt_trans hlt hlt2)) (Nat.ne_of_gt hlt2) so (fun j hj => List.mem_range.mp (hp.mem_iff.mp hj)) hlen) fun i v hi z => ?_, ⟨Heap.get?_push_size _ rfl, Heap.get?_push_of_some _ (Heap.get?_push_size _ rfl), Heap.get?_push_of_some _ (Heap.get?_push_of_some _ ho)⟩, fun b o e => Heap.get?_push_of_some _ (Heap.get?_push_of_some _ e), fun b hb => ?_, Nat.le_of_lt hlt2, rfl, rfl, rfl⟩
   ·obtain ⟨j, hj, rfl⟩ := z
    obtain ⟨tk, e⟩ := val_tx so (j := j) (List.mem_range.mp (hp.mem_iff.mp (List.mem_of_getElem? hj)))
    have e3 : (ord.map fun j => (es.toList.map tx).getD j "").getD i "" = (es.toList.map tx).getD j "" := by
     rw [List.getD_eq_getElem?_getD (l := ord.map _), List.getElem?_map, hj]; rfl
    exact ⟨tk, by rw [e3]; exact e⟩
   ·simp only [List.mem_cons, List.not_mem_nil, or_false] at hb
    rcases hb with rfl | rfl | rfl
    ·exact .inr (Nat.le_of_lt hlt2)
    ·exact .inr (Nat.le_refl _)
    ·exact .inl rfl
end
end L3
set_option Elab.async false
set_option linter.all false
set_option maxRecDepth 100000
set_option maxHeartbeats 8000000
namespace L3
open PySem PySem.Spec PyProof.Rows L2 PySem.SeqAt
section
variable {prog : Program} {w : World} {A : Around} {E : Value → Shared → Prop} {s : Shared} {S : Addr} {ep : Nat} {o : Obj} {es : Array (Int × Value)} {t : SetTable}
theorem strs_of : ∀ {vs : List Value} {ys : List Str}, vs.length = ys.length → (∀ j v, vs[j]? = some v → ∃ tk, v = Value.str (ys.getD j "") tk) → StrsAre vs ys
 | [], [], _, _ => .nil
 | v :: vs, y :: ys, e, h => by
  obtain ⟨tk, ev⟩ := h 0 v rfl
  have ev : v = Value.str y tk := ev
  rw [ev]
  exact .cons y tk (strs_of (by simpa using e) fun j u hu => h (j + 1) u (by simpa using hu))
structure Went (s s' : Shared) : Prop where
 kp : ∀ b o, s.heap.get? b = some o → s'.heap.get? b = some o
 gens : s'.gens = s.gens
 os : s'.os = s.os
theorem ite_c {α : Type} {M : Model} {B : Around} {c : Bool} {x y : Sem α} {Q : α → Shared → Prop} (hc : c = true) (h : wpAny M B x Q E s) : wpAny M B (if c = true then x else y) Q E s := by rw [if_pos hc]; exact h
theorem hint_set {B : Around} {Q : Bool → Shared → Prop} (hT : s.TypeIs (.ref S) "set") (h : Q false s) : wpAny (model prog w) B (Builtin.List.listLengthHint (.ref S)) Q E s := by
 unfold Builtin.List.listLengthHint
 refine wpAny_bind (wpAny_specialOf hT PySem.F.slot_set_len.lookup ?_)
 dsimp only
 rw [show splitId "set.__len__" = some ("set", "__len__") by decide +kernel]
 dsimp only
 refine wpAny_bind (wpAny_isInstance (T := "set") (b := true) hT PySem.sub_set_self ?_)
 rw [if_neg (by simp)]
 refine ite_c (by decide +kernel) ?_
 exact wpAny_bind (wpAny_typeOf hT (wpAny_pure h))
theorem collect_set {Q : List Value → Shared → Prop} (hh : A.handled = none) (ho : s.heap.get? S = some o) (so : SetO prog w o (ledOf w) es ep t) (hsz : es.size ≤ 1000)
  (h : ∀ s' vs ys, StrsAre vs ys → ys.Perm (es.toList.map tx) → Went s s' → Q vs s') : wpAny (model prog w) A (collect (.ref S)) Q E s := by
 have hT : s.TypeIs (.ref S) "set" := ⟨o, ho, by rw [so.obj]⟩
 have hlt : S < s.heap.objs.size := Heap.lt_size ho
 unfold collect
 refine wpAny_bind (wpAny_runValue (codeAny_builtin PySem.F.entry_proto_collect ?_))
 rw [Around.under_plainId PySem.F.plain_proto_collect _]
 refine wpAny_bind (m := newList []) (wpAny_newObj_type ?_)
 refine wpAny_pure ⟨plainId_quiet PySem.F.plain_list_iadd _, codeAny_builtin PySem.F.entry_list_iadd ?_⟩
 rw [Around.under_plainId PySem.F.plain_list_iadd _]
 show wpAny (model prog w) A.in1 (Builtin.List.listExtendWith (.ref s.heap.objs.size) (.ref S) (.ref s.heap.objs.size)) _ _ { s with heap := s.heap.push { cls := .type "list", data := .seq ([] : List Value).toArray } }
 have hD : (s.heap.push { cls := .type "list", data := .seq ([] : List Value).toArray }).get? s.heap.objs.size = some { cls := .type "list", data := .seq ([] : List Value).toArray } := Heap.get?_push_size _ rfl
 have ho1 : (s.heap.push { cls := .type "list", data := .seq ([] : List Value).toArray }).get? S = some o := Heap.get?_push_of_some _ ho
 have k0 : ∀ b u, s.heap.get? b = some u → (s.heap.push { cls := .type "list", data := .seq ([] : List Value).toArray }).get? b = some u := fun b u e => Heap.get?_push_of_some _ e
 have sz1 : (s.heap.push { cls := .type "list", data := .seq ([] : List Value).toArray }).objs.size = s.heap.objs.size + 1 := Heap.size_push ..
 generalize s.heap.push { cls := .type "list", data := .seq ([] : List Value).toArray } = h1 at hD ho1 k0 sz1 ⊢
 have hT1 : Shared.TypeIs { s with heap := h1 } (.ref S) "set" := ⟨o, ho1, by rw [so.obj]⟩
 unfold Builtin.List.listExtendWith
 refine wpAny_bind (wpAny_typeOf hT1 ?_)
 have ne : (Builtin.List.listSameRef (.ref s.heap.objs.size) (.ref S) || Value.type "set" == Value.type "list" || Value.type "set" == Value.type "tuple") = false := by
  have : Builtin.List.listSameRef (.ref s.heap.objs.size) (.ref S) = false := by simp [Builtin.List.listSameRef]; exact Nat.ne_of_gt hlt
  rw [this]; decide
 rw [ne, if_neg Bool.false_ne_true]
 refine wpAny_bind (iter_set ho1 so hsz fun I s2 ys fp St hp W => ?_)
 have ho2 := W.kp _ _ ho1
 have hD2 := W.kp _ _ hD
 refine wpAny_bind (wpAny_holding (hint_set ⟨o, ho2, by rw [so.obj]⟩ ?_))
 split
 ·refine wpAny_bind (wpAny_rule ?_)
  refine wpAny_bind (m := Builtin.List.listTouch (.ref s.heap.objs.size)) ?_
  show wpAny (model prog w) A.in1 (updateSeq s.heap.objs.size (·.push .none) >>= fun _ => updateSeq s.heap.objs.size (·.pop)) _ _ _
  refine wpAny_bind (wpAny_updateSeq hD2 rfl ?_)
  have hD3 := Heap.get?_update_self (Obj.mapSeq (·.push Value.none)) hD2 rfl
  refine wpAny_updateSeq hD3 rfl ?_
  have hD4 := Heap.get?_update_self (Obj.mapSeq (·.pop)) hD3 rfl
  have nofp : s.heap.objs.size ∉ fp := fun z => by
   rcases W.old _ z with e | e
   ·exact absurd e (Nat.ne_of_gt hlt)
   ·rw [sz1] at e; exact absurd e (Nat.not_succ_le_self _)
  have oth : ∀ b u, b ≠ s.heap.objs.size → s2.heap.get? b = some u → ((s2.heap.update s.heap.objs.size (Obj.mapSeq (·.push Value.none))).update s.heap.objs.size (Obj.mapSeq (·.pop))).get? b = some u :=
   fun b u hb e => (Heap.get?_update_other _ _ (Ne.symm hb)).trans ((Heap.get?_update_other _ _ (Ne.symm hb)).trans e)
  have Wk := W.wk A.in1 hh
  refine wpAny_pure ⟨plainId_quiet PySem.F.plain_extend_loop _, codeAny_extend_loopS Wk (by rw [sizeLine_eq]; omega) s.heap.objs.size nofp _ es.size 0 _ _ _ rfl (Nat.zero_le _) (Wk.frame 0 s2 _ s2.toks W.st (Nat.le_refl _) fun b hb u e => oth b u (fun z => nofp (z ▸ hb)) e) hD4 (ItemsOf.nil _) fun s' acc c hm hS' hacc => ?_⟩
  show wpAny (model prog w) A (load s.heap.objs.size >>= _) _ _ s'
  refine wpAny_bind (wpAny_load hS' (wpAny_pure ?_))
  refine h s' acc.toList ys (strs_of ?_ fun j v hj => hacc.2 j v (by rw [← Array.getElem?_toList]; exact hj)) hp ⟨fun b u e => ?_, hm.gens.trans W.rest.1, hm.os.trans W.rest.2.1⟩
  ·rw [Array.length_toList, hacc.1, hp.length_eq, List.length_map, Array.length_toList]
  ·have hb : b < s.heap.objs.size := Heap.lt_size e
   refine hm.heap b u ?_ (oth b u (Nat.ne_of_lt hb) (W.kp _ _ (k0 b u e)))
   simp only [List.mem_cons, List.not_mem_nil, or_false, not_or]
   refine ⟨Nat.ne_of_lt hb, Nat.ne_of_lt (Nat.lt_of_lt_of_le hb (Nat.le_trans (Nat.le_succ _) (Nat.le_trans (Nat.le_of_eq sz1.symm) W.new)))⟩
 ·rename_i hn
  exact (hn (by decide +kernel)).elim
end
end L3
set_option Elab.async false
set_option linter.all false
set_option maxRecDepth 100000
set_option maxHeartbeats 8000000
namespace L3
open PySem PySem.Spec PyProof.Rows L2 PySem.SeqAt
section
variable {prog : Program} {w : World} {A : Around} {E : Value → Shared → Prop} {s : Shared}
theorem Went.trans {s1 s2 : Shared} (a : Went s s1) (b : Went s1 s2) : Went s s2 := ⟨fun x o e => b.kp x o (a.kp x o e), b.gens.trans a.gens, b.os.trans a.os⟩
theorem sort_strs {D : Addr} {vs : List Value} {ss : List Str} {n : Nat} {P : PySem.Fin → Shared → Prop} (ho : s.heap.get? D = some (seqObj "list" vs.toArray n)) (hS : StrsAre vs ss) (h64 : vs.length < 64)
  (h : ∀ h' vs' ss' m, But D s.heap h' → h'.get? D = some (seqObj "list" vs'.toArray m) → StrsAre vs' ss' → ss'.Perm ss → sortedS ss' = true → P (.done (.ret .none)) { s with heap := h' }) : wpAny (model prog w) A (Builtin.«list.sort» ⟨[.ref D], []⟩) P E s := by
 refine list_sort_treeK strKind_oneLt ho hS.keysOf (fun v₁ v₂ rest e => keyKind_strs (by rw [← e]; exact hS)) h64 fun st' hp hs => ?_
 obtain ⟨ss', h1, h2, h3⟩ := sorted_out_str hS hp hs
 obtain ⟨m, hm⟩ := sortedHeap_at (out := (arrOf st').map (·.2)) ho
 exact h _ _ ss' m (fun b o hb e => (sortedHeap_old hb (Heap.lt_size e)).trans e) hm h1 h2 h3
theorem sorted_col {v : Value} {ss : List Str} {Q : Value → Shared → Prop} (h64 : ss.length < 64)
  (hc : ∀ (Q' : List Value → Shared → Prop) (E' : Value → Shared → Prop), (∀ s' vs ys, StrsAre vs ys → ys.Perm ss → Went s s' → Q' vs s') → wpAny (model prog w) A.in1 (collect v) Q' E' s)
  (h : ∀ s1 s' vs' ss' m, Went s s1 → Went s1 s' → s'.heap.get? s1.heap.objs.size = some (seqObj "list" vs'.toArray m) → StrsAre vs' ss' → ss'.Perm ss → sortedS ss' = true → Q (.ref s1.heap.objs.size) s') : wpAny (model prog w) A (call (.builtin "sorted") [v]) Q E s := by
 refine Calls.call_function_entry kind_sorted plain_sorted entry_sorted (args_sorted1 _) ?_
 unfold Builtin.«sorted»
 refine wpAny_bind (m := checkCount "sorted" 1 1 _) (wpAny_pure (wpAny_bind (hc _ _ fun s1 vs ys hv hp wt => ?_)))
 have hl : vs.length < 64 := by rw [strs_len hv, hp.length_eq]; exact h64
 refine wpAny_bind (wpAny_newList ?_ (by rw [sizeLine_eq]; omega))
 have hL : (s1.heap.push (seqObj "list" vs.toArray 0)).get? s1.heap.objs.size = some (seqObj "list" vs.toArray 0) := Heap.get?_push_size _ rfl
 show wpAny (model prog w) _ _ _ _ { s1 with heap := s1.heap.push (seqObj "list" vs.toArray 0) }
 refine wpAny_bind (wpAny_holding (wpAny_call_entry slot_list_sort ⟨_, hL, rfl⟩ entry_list_sort (sort_strs hL hv hl fun h' vs' ss' m kb hm hv' hp' hs' => ⟨_, rfl, ?_⟩) (args_list_sort _)))
 refine wpAny_pure ⟨_, rfl, h s1 { s1 with heap := h' } vs' ss' m wt ⟨fun b o e => kb b o (Nat.ne_of_lt (Heap.lt_size e)) (Heap.get?_push_of_some _ e), rfl, rfl⟩ hm hv' (hp'.trans hp) hs'⟩
end
section
variable {X : Cx}
theorem Went.inv {pins : List (Addr × Obj)} {σ : L2.St} {H : Hp} {s s' : Shared} (I : Inv X pins σ H s) (wt : Went s s') : Inv X pins σ H s' := by
 have J := I.call (g' := s.gens) (d' := s'.drawn) (t' := s'.toks) (ch := []) (Un.kept wt.kp) (I.hok.kept wt.kp) I.bare fun _ z => nomatch z
 obtain ⟨h', g', d', t', o'⟩ := s'
 obtain rfl : g' = s.gens := wt.gens
 obtain rfl : o' = s.os := wt.os
 exact J
theorem strs_reps {K : Frg} {H : Hp} : ∀ (ss : List Str), Reps K H (ss.map .str) (ss.map .str)
 | [] => rfl
 | x :: ss => ⟨.str x, _, rfl, rfl, strs_reps ss⟩
theorem strs_vals2 : ∀ {vs : List Value} {ss : List Str}, StrsAre vs ss → Vals (ss.map V.str) vs
 | _, _, .nil => .nil
 | _, _, .cons x t h => .cons ⟨t, rfl⟩ (strs_vals2 h)
theorem vals_strs {K : Frg} {H : Hp} : ∀ {ss : List Str} {vs : List V} {us : List Value}, Reps K H (ss.map .str) vs → Vals vs us → StrsAre us ss
 | [], vs, us, r, v => by cases (show vs = [] from r); cases v; exact .nil
 | x :: ss, vs, us, r, v => by
  obtain ⟨y, tl, rfl, ry, rt⟩ := r
  cases (show y = .str x from ry)
  cases v with
  | cons a c =>
   obtain ⟨tk, rfl⟩ := a
   exact .cons x tk (vals_strs rt c)
theorem new_strs {pins : List (Addr × Obj)} {σ : L2.St} {H : Hp} {s s1 s' : Shared} {G : Hw} {vs : List Value} {ss : List Str} {m : Nat} {Q : VK} (I : Inv X pins σ H s) (ab : Abs X.K H G) (w1 : Went s s1) (w2 : Went s1 s') (hg : s'.heap.get? s1.heap.objs.size = some (seqObj "list" vs.toArray m)) (hv : StrsAre vs ss) (hl : ss.length < 64)
  (h : ∀ r, G r = none → lowQ X.K H Q (.ref r) (put G r (.lst (ss.map .str)))) : EP X pins σ Q (.ref s1.heap.objs.size) s' := by
 have I1 := w1.inv I
 have I2 := (w1.trans w2).inv I
 have hn : H s1.heap.objs.size = none := I1.hok.fresh (Nat.le_refl _)
 refine ⟨.ref s1.heap.objs.size, _, I2.adopt (o := .lst (ss.map .str)) (I1.off (Nat.le_refl _)) hn ⟨?_, vs, m, strs_vals2 hv, hg⟩, rfl, new_lst ab (strs_reps ss) h _ hn⟩
 rw [List.length_map, sizeLine_eq]; omega
noncomputable def sortT : RS := fun ws G Q => match ws with
 | [x] => ∃ ts : List Str, seqOf G x = some (ts.map .str) ∧ ts.length < 64 ∧ ∀ ts' : List Str, ts'.Perm ts → sortedS ts' = true → ∀ r, G r = none → Q (.ref r) (put G r (.lst (ts'.map .str)))
 | _ => False
theorem sortT_mono : RMono sortT := by
 intro ws G Q Q' k h
 unfold sortT at h ⊢
 split at h
 ·obtain ⟨ts, e, l, h⟩ := h
  exact ⟨ts, e, l, fun ts' a b r hr => k _ _ (h ts' a b r hr)⟩
 ·exact h.elim
theorem sortT_ok : CallR X (.builtin "sorted") (lowR X.K sortT) := by
 intro pins s σ H xs us Q I r h
 obtain ⟨ws, G, rs, ab, h⟩ := h
 unfold sortT at h
 split at h
 ·rename_i x
  obtain ⟨v, rfl, rv⟩ := reps1 rs
  obtain ⟨ts, ex, hl, h⟩ := h
  obtain ⟨a, vs, rfl, sq, rr⟩ := seq_rep2 ab rv ex
  obtain ⟨u, rfl, ru⟩ := vals1 r
  cases (show u = Value.ref a from ru)
  obtain ⟨its, vv, ss, hz⟩ := I.sqB sq
  obtain ⟨T', o, n, hT, ho, hc, hd⟩ : ∃ (T' : String) (o : Obj) (n : Nat), (T' = "list" ∨ T' = "tuple") ∧ s.heap.get? a = some o ∧ o.cls = .type T' ∧ o.data = .seq its.toArray n := by
   cases hb : bOf x <;> rw [hb] at ss
   ·obtain ⟨o, ho, hc, n, hd⟩ := ss; exact ⟨"list", o, n, .inl rfl, ho, hc, hd⟩
   ·obtain ⟨o, ho, hc, n, hd⟩ := ss; exact ⟨"tuple", o, n, .inr rfl, ho, hc, hd⟩
  have hS := vals_strs rr vv
  have hl2 : its.length = ts.length := strs_len hS
  refine sorted_col hl (fun Q' E' q => wpAny_collect_seq a hT ho hc hd (fun h' k => q { s with heap := h' } its ts hS (.refl _) ⟨k, rfl, rfl⟩) (by rw [List.size_toArray, sizeLine_eq]; omega)) fun s1 s' vs' ss' m w1 w2 hg hv hp hs => ?_
  exact new_strs I ab w1 w2 hg hv (by rw [hp.length_eq]; exact hl) (h ss' hp hs)
 ·exact h.elim
noncomputable def sort2 : RS := fun ws G Q => sortS ws G Q ∨ sortT ws G Q
theorem sort2_mono : RMono sort2 := fun ws G Q Q' k h => h.imp (sortS_mono ws G Q Q' k) (sortT_mono ws G Q Q' k)
theorem sort2_ok (hu : X.A.units + 200 < cLine) : CallR X (.builtin "sorted") (lowR X.K sort2) := by
 intro pins s σ H xs us Q I r h
 obtain ⟨ws, G, rs, ab, h⟩ := h
 rcases h with h | h
 ·exact sorted_ok hu pins s σ H xs us Q I r ⟨ws, G, rs, ab, h⟩
 ·exact sortT_ok pins s σ H xs us Q I r ⟨ws, G, rs, ab, h⟩
noncomputable abbrev eSrt2 : Fn3 := ⟨"sorted", fun ws G Q _ => sort2 ws G Q⟩
theorem ent_srt2 {q : Pr} {A : Around} (hu : A.units + 200 < cLine) (hm : q.mg "sorted" = none) : EntOk (q.at A) eSrt2 := ⟨fn_blt (id := "sorted") hm (by decide +kernel) (fun X f => sort2_ok (by rw [f.A]; exact hu)) sort2_mono (fun _ _ h => h.elim id id), fun ws G Q Q' _ k h => sort2_mono ws G Q Q' k h⟩
noncomputable def ssM : Scope → Expr → Option (List Expr) := fun sc e => match e with
 | .Call (.Name o _) [.Call (.Name x _) [a] [] _] [] _ => if (o == ("sorted" : Str) && x == ("set" : Str) && glbB sc o && glbB sc x) = true then some [a] else none
 | _ => none
noncomputable def ssS : RS := fun ws G Q => match ws with
 | [.ref p] => ∃ ts : List Str, lstOf G p = some (ts.map .str) ∧ ts.length < 64 ∧ ∀ ts' : List Str, ts'.Nodup → (∀ x, x ∈ ts' ↔ x ∈ ts) → sortedS ts' = true → ∀ r, G r = none → Q (.ref r) (put G r (.lst (ts'.map .str)))
 | _ => False
theorem ssS_mono : RMono ssS := by
 intro ws G Q Q' k h
 unfold ssS at h ⊢
 split at h
 ·obtain ⟨ts, e, l, h⟩ := h
  exact ⟨ts, e, l, fun ts' a b c r hr => k _ _ (h ts' a b c r hr)⟩
 ·exact h.elim
theorem ssM_inv {sc : Scope} {e : Expr} {xs : List Expr} (h : ssM sc e = some xs) : ∃ qo q pos pos' a, xs = [a] ∧ e = .Call (.Name "sorted" qo) [.Call (.Name "set" q) [a] [] pos] [] pos' ∧ glbB sc "sorted" = true ∧ glbB sc "set" = true := by
 unfold ssM at h
 split at h
 ·rename_i o qo x q a pos pos'
  split at h
  ·rename_i hb
   obtain ⟨⟨⟨h1, h2⟩, h3⟩, h4⟩ := bd4 hb
   cases eq_of_beq h1
   cases eq_of_beq h2
   cases h
   exact ⟨qo, q, pos, pos', a, rfl, rfl, h3, h4⟩
  ·cases h
 ·cases h
theorem ss_ok {pins : List (Addr × Obj)} {σ : L2.St} {H : Hp} {s : Shared} {vs : List V} {us : List Value} {Q : VK} (hh : X.A.handled = none) (I : Inv X pins σ H s) (r : Vals vs us) (h : lowR X.K ssS vs H Q) :
  wpAny (model X.prog X.w) X.A (call (.type "set") us) (fun v s1 => wpAny (model X.prog X.w) X.A (call (.builtin "sorted") [v]) (EP X pins σ Q) X.xe s1) X.xe s := by
 obtain ⟨ws, G, rs, ab, h⟩ := h
 unfold ssS at h
 split at h
 ·rename_i p
  obtain ⟨v, rfl, rv⟩ := reps1 rs
  cases (show v = .ref p from rv)
  obtain ⟨u, rfl, ru⟩ := vals1 r
  cases (show u = Value.ref p from ru)
  obtain ⟨ts, e, hl, h⟩ := h
  obtain ⟨vs2, sq, rr⟩ := ab.seq e
  obtain ⟨its, vv, pl, hz⟩ := I.list sq
  have hS := vals_strs rr vv
  have hl2 : its.length = ts.length := strs_len hS
  refine set_call (items := its.toArray) (ss := ts) hh pl.isList (by simpa using hS) (by show its.toArray.size + 1 < 4096; rw [List.size_toArray]; omega) fun h1 tk hT hk => ?_
  obtain ⟨o, es, ep, t, ho, so, hsz, hm⟩ := hT
  have w1 : Went s { s with heap := h1, toks := tk } := ⟨fun b o e => hk b o (Heap.lt_size e) e, rfl, rfl⟩
  have hes : (es.toList.map tx).length < 64 := by rw [List.length_map, Array.length_toList]; omega
  refine sorted_col (ss := es.toList.map tx) hes (fun Q' E' q => collect_set (show X.A.in1.handled = none from hh) ho so (by omega) fun s' vs ys a b c => q s' vs ys a b c) fun s1 s' vs' ss' m g1 g2 hg hv hp hs => ?_
  exact new_strs I ab (w1.trans g1) g2 hg hv (by rw [hp.length_eq]; exact hes) (h ss' (hp.nodup_iff.mpr so.nd) (fun x => (hp.mem_iff).trans (hm x)) hs)
 ·exact h.elim
theorem sx_ss {q : Pr} {A : Around} (h1 : q.mg "sorted" = none) (h2 : q.mg "set" = none) : SxE (q.at A) ⟨ssM, ssS⟩ := by
 intro X fits e xs es he each hn pa
 obtain ⟨qo, qq, pos, pos', a, rfl, rfl, g1, g2⟩ := ssM_inv he
 obtain ⟨gl1, d1, n1⟩ := gl_of (X := X) rfl g1
 obtain ⟨gl2, d2, n2⟩ := gl_of (X := X) rfl g2
 have m1 : X.mg "sorted" = none := by rw [fits.mg]; exact h1
 have m2 : X.mg "set" = none := by rw [fits.mg]; exact h2
 refine ⟨fun pins s σ H Q I h => ?_, fun _ => rfl, fun _ _ _ z => nomatch z⟩
 obtain ⟨s1, s2⟩ := plain_star (env := X.env) (pos := pos) hn
 have h' := lowR_of (each_mono each) ssS_mono h
 refine wpAny_Call_Name_kw (ld_blt (u := .builtin "sorted") I gl1 m1 (by decide +kernel) ?_ n1 d1)
 refine PyProof.Rows.callWith_builtin1 (e := .Call (.Name "set" qq) [a] [] pos) (rest := []) ?_ rfl rfl
 show wpAny _ _ (spliced ((false, eval (.Call (.Name "set" qq) [a] [] pos) X.env) :: backTo pos' (starEach [] X.env))) _ _ s
 refine Calls.spliced_cons (wpAny_Call_Name_kw (ld_blt (u := .type "set") I gl2 m2 (by decide +kernel) (PyProof.Rows.callWith_type1 (thn (pa pos pins s σ H _ I h') fun us s1 ⟨vs, H1, I1, r1, q1⟩ => ?_) s1 s2) n2 d2))
 exact thn (ss_ok (I1.ok.hd fits.calm) I1 r1 q1) fun v s2 z => Calls.spliced_nil z
end
end L3
set_option Elab.async false
set_option linter.all false
set_option maxRecDepth 100000
set_option maxHeartbeats 8000000
namespace L3
open PySem PySem.Spec PyProof.Rows L2 HT
section
variable {prog : Program} {w : World} {A : Around} {E : Value → Shared → Prop} {s : Shared}
theorem fm_map {f : Nat → Option Value} {g : Nat → Value} : ∀ {l : List Nat}, (∀ m ∈ l, f m = some (g m)) → l.filterMap f = l.map g
 | [], _ => rfl
 | a :: l, h => by
  rw [List.filterMap_cons_some (h a List.mem_cons_self), List.map_cons, fm_map fun m hm => h m (List.mem_cons_of_mem _ hm)]
theorem rev_pick (xs : Array Value) : ((List.range xs.size).filterMap fun (m : Nat) => xs[(((xs.size : Int) - 1) + (m : Int) * (-1)).toNat]?).toArray = xs.toList.reverse.toArray := by
 congr 1
 rw [fm_map (g := fun m => xs.toList.reverse.getD m Value.none)]
 ·have := map_getD_range Value.none xs.toList.reverse
  rw [List.length_reverse, Array.length_toList] at this
  exact this
 ·intro m hm
  have hm : m < xs.size := List.mem_range.mp hm
  have e1 : (((xs.size : Int) - 1) + (m : Int) * (-1)).toNat = xs.size - 1 - m := by omega
  have h2 : xs.size - 1 - m < xs.size := by omega
  rw [e1, Array.getElem?_eq_getElem h2, List.getD_eq_getElem?_getD, List.getElem?_reverse (by simpa using hm)]
  simp [h2]
theorem slice_rev {sl : Addr} {n : Nat} {t : Tok} {Q : Int × Int × Nat → Shared → Prop} (hs : s.heap.IsSliceOf sl .none .none (.int (-1) t)) (h : Q ((n : Int) - 1, -1, n) s) : wpAny (model prog w) A (Builtin.Slice.sliceApplied (.ref sl) (pure (n : Int))) Q E s := by
 obtain ⟨os, hos, hcs, hds⟩ := id hs
 unfold Builtin.Slice.sliceApplied Builtin.Slice.sliceFields
 refine wpAny_bind (wpAny_bind (wpAny_field hos hds (x := .none) rfl (wpAny_bind (wpAny_field hos hds (x := .none) rfl (wpAny_bind (wpAny_field hos hds (x := .int (-1) t) rfl (wpAny_pure ?_)))))))
 refine wpAny_bind (slicePart_int ?_)
 show wpAny (model prog w) _ (if ((-1 : Int) == 0) = true then _ else _) _ _ s
 rw [if_neg (by decide)]
 refine wpAny_bind (slicePart_none (wpAny_bind (slicePart_none (wpAny_bind (wpAny_pure ?_)))))
 have e : Builtin.Slice.slicePlaces ((n : Int) - 1) (-1) (-1) = n := by
  unfold Builtin.Slice.slicePlaces
  rw [if_neg (by decide), show (-(-1) : Int) = 1 from rfl, Int.ediv_one]
  split <;> omega
 show wpAny (model prog w) _ (pure ((n : Int) - 1, (-1 : Int), Builtin.Slice.slicePlaces ((n : Int) - 1) (-1) (-1))) _ _ s
 rw [e]
 exact wpAny_pure h
theorem get_rev {t sl : Addr} {items : Array Value} {tk : Tok} {Q : Value → Shared → Prop} (ht : IsTup s.heap t items) (hs : s.heap.IsSliceOf sl .none .none (.int (-1) tk)) (hsz : items.size ≤ sizeLine)
  (h : Q (.ref s.heap.objs.size) { s with heap := s.heap.push { cls := .type "tuple", data := .seq items.toList.reverse.toArray } }) : wpAny (model prog w) A (getItem (.ref t) (.ref sl)) Q E s := by
 obtain ⟨os, hos, hcs, hds⟩ := id hs
 have hTs : s.TypeIs (.ref sl) "slice" := ⟨os, hos, hcs⟩
 have hok : sizeOk (.seq items.toList.reverse.toArray) := by
  show items.toList.reverse.toArray.size ≤ sizeLine
  rw [List.size_toArray, List.length_reverse, Array.length_toList]; exact hsz
 unfold getItem
 try with_reducible refine wpAny_holding ?_
 first | refine wpAny_bind (wpAny_pure ?_) | skip
 refine wpAny_bind (wpAny_sequenceKey ht.typeIs (by decide) ?_)
 refine wpAny_bind (wpAny_callSpecial?_slot (name := Str.ofString "__getitem__") ht.typeIs PyProof.Rows.slot_tuple_getitem (wpAny_call_entry PyProof.Rows.slot_tuple_getitem ht.typeIs entry_tuple_getitem ?_ (args_tuple_getitem _ _)))
 refine wpAny_bind (m := Builtin.Tuple.tupleItemsOf (.ref t)) (tupleItemsOf_ ht ?_)
 refine wpAny_bind (wpAny_typeOf hTs ?_)
 rw [if_pos (by decide)]
 refine wpAny_bind (slice_rev hs ?_)
 dsimp only
 rw [if_neg (by simp), rev_pick]
 first
  | exact wpAny_bind (m := Builtin.Tuple.tupleExact _) (wpAny_newObj_type (wpAny_pure ⟨_, rfl, wpAny_pure h⟩) hok)
  | exact wpAny_bind (wpAny_bind (m := Builtin.Tuple.tupleExact _) (wpAny_newObj_type (wpAny_pure ⟨_, rfl, wpAny_pure h⟩) hok))
end
noncomputable def rvM : Scope → Expr → Option (List Expr) := fun _ e => match e with
 | .Subscript l (.Slice none none (some (.UnaryOp .USub (.Constant (.int i) _ _) _)) _) _ => if i = 1 then some [l] else none
 | _ => none
noncomputable def rvS : RS := fun ws G Q => match ws with
 | [.tup xs] => Q (.tup xs.reverse) G
 | _ => False
theorem rvS_mono : RMono rvS := by
 intro ws G Q Q' k h
 unfold rvS at h ⊢
 split at h
 ·exact k _ _ h
 ·exact h.elim
theorem rvM_inv {sc : Scope} {e : Expr} {xs : List Expr} (h : rvM sc e = some xs) : ∃ l a p1 p3 p2 pos, e = .Subscript l (.Slice none none (some (.UnaryOp .USub (.Constant (.int 1) a p1) p3)) p2) pos ∧ xs = [l] := by
 unfold rvM at h
 split at h
 ·rename_i l i a p1 p3 p2 pos
  split at h
  ·rename_i hb
   subst hb
   cases h
   exact ⟨l, a, p1, p3, p2, pos, rfl, rfl⟩
  ·cases h
 ·cases h
theorem Vals.reverse {vs : List V} {us : List Value} (h : Vals vs us) : Vals vs.reverse us.reverse := by
 induction h with
 | nil => exact .nil
 | cons a _ ih => rw [List.reverse_cons, List.reverse_cons]; exact ih.append (.cons a .nil)
theorem sx_rv {q : Pr} {A : Around} : SxE (q.at A) ⟨rvM, rvS⟩ := by
 intro X fits e xs es he each hn pa
 obtain ⟨l, k, p1, p3, p2, pos, rfl, rfl⟩ := rvM_inv (sc := X.env.scope) he
 match es, each with
 | [t], each =>
  refine ⟨fun pins s σ H Q I h => ?_, fun _ => rfl, fun _ _ _ z => nomatch z⟩
  obtain ⟨σ3, G, hs, ab, h⟩ := h
  refine Subscript_ (thn (each.2.1 pins s σ H (fun v H1 => ∃ ys vs a G1, v = .ref a ∧ SqT X.K H1 a vs ∧ Reps X.K H1 ys vs ∧ Abs X.K H1 G1 ∧ Grow X.K H H1 ∧ lowQ X.K H Q (.tup ys.reverse) G1) I ⟨σ3, G, hs, ab, each.1 σ3 G _ _ (fun w G1 h => ?_) h⟩) fun v s1 ⟨x, H1, I1, r1, q1⟩ => ?_)
  ·intro v H1 g1 rv a1
   have h : rvS [w] G1 (lowQ X.K H Q) := h
   unfold rvS at h
   split at h
   ·rename_i ys ew
    cases ew
    obtain ⟨a, vs, rfl, sq, rr⟩ := rv
    exact ⟨ys, vs, a, G1, rfl, sq, rr, a1, g1, h⟩
   ·exact h.elim
  ·obtain ⟨ys, vs, a, G1, rfl, sq, rr, a1, g1, q⟩ := q1
   cases (show v = Value.ref a from r1)
   refine wpAny_Slice ?_
   rw [evalPart_none]
   refine wpAny_pure (wpAny_pure ?_)
   rw [evalPart_some]
   refine thn (pe_un (pos := p3) un_neg (pe_int (i := 1) (j := k) (pos := p1)) pins s1 σ H1 (fun v H2 => v = .int (-1) ∧ H2 = H1) I1 ⟨1, rfl, rfl, rfl⟩) fun u s2 ⟨y, H2, I2, r2, e1, e2⟩ => ?_
   subst e1 e2
   obtain ⟨tk, rfl⟩ := r2
   have I3 : Inv X pins σ H2 { s2 with heap := s2.heap.push { cls := .type "slice", data := .fields #[.none, .none, .int (-1) tk] } } := I2.kept (t' := s2.toks) fun b ob q => Heap.get?_push_of_some _ q
   obtain ⟨its, vv, ht, hz⟩ := I3.tuple sq
   have hlen : its.toArray.size = vs.length := by rw [List.size_toArray]; exact vv.length.symm
   show wpAny (model X.prog X.w) X.A (subscriptTail l (.Slice none none (some (.UnaryOp .USub (.Constant (.int 1) k p1) p3)) p2) (.ref a) (.ref s2.heap.objs.size)) (EP X pins σ Q) X.xe { s2 with heap := s2.heap.push { cls := .type "slice", data := .fields #[.none, .none, .int (-1) tk] } }
   refine tail_any (ops := [.ref a, .ref s2.heap.objs.size]) ht.typeIs PyProof.Rows.slot_tuple_getitem.lookup (get_rev ht (Heap.IsSliceOf.new ..) (by rw [hlen]; exact hz) ?_) (by with_unfolding_all rfl)
   have hn : H2 (s2.heap.push { cls := .type "slice", data := .fields #[.none, .none, .int (-1) tk] }).objs.size = none := I3.hok.fresh (Nat.le_refl _)
   refine ⟨.ref _, _, I3.laid (t' := s2.toks) (o := .tup vs.reverse) (fun b ob q => Heap.get?_push_of_some _ q) (Nat.le_refl _) ⟨by rw [List.length_reverse]; exact hz, its.reverse, vv.reverse, ?_⟩, rfl, ?_⟩
   ·have := IsTup.new { s2 with heap := s2.heap.push { cls := .type "slice", data := .fields #[.none, .none, .int (-1) tk] } }.heap its.reverse.toArray
    simpa using this
   ·have g2 : Grow X.K H2 (upd H2 (s2.heap.push { cls := .type "slice", data := .fields #[.none, .none, .int (-1) tk] }).objs.size (.tup vs.reverse)) := grow_new hn
    exact q _ _ (g1.trans g2) ⟨_, _, rfl, SqT.of upd_same, rr.reverse.mono g2⟩ (a1.tup hn)
noncomputable def clrS : MS := fun x ws G Q => match x, ws with
 | .ref p, [] => (match G p with
  | some (.lst _) => Q .non (put G p (.lst []))
  | _ => False)
 | _, _ => False
theorem clrS_mono : ∀ x ws G (Q Q' : Q3), (∀ w G', Q w G' → Q' w G') → clrS x ws G Q → clrS x ws G Q' := by
 intro x ws G Q Q' k h
 unfold clrS at h ⊢
 split at h
 ·split at h
  ·exact k _ _ h
  ·exact h.elim
 ·exact h.elim
theorem clr_ok {X : Cx} : MtR X "list.clear" (lowM X.K clrS) := by
 intro pins s σ H x xs v us Q I rx rxs h
 obtain ⟨w, ws, G, rw1, rs, ab, h⟩ := h
 unfold clrS at h
 split at h
 ·rename_i p
  cases (show x = .ref p from rw1)
  cases (show v = Value.ref p from rx)
  cases (show xs = [] from rs)
  cases rxs
  split at h
  ·rename_i ys e
   obtain ⟨vs, ev, rr⟩ := ab.lst e
   obtain ⟨z, its, n, r, hl, e1⟩ := I.lstM ev
   have gr : Grow X.K H (upd H p (.lst [])) := ab.grow e
   refine call_meets PySem.F.slot_list_clear ⟨_, e1, rfl⟩ PySem.F.entry_list_clear (PySem.F.args_list_clear_1 _) (AutoSeq1.list_clear_list_0 p its.toArray n (by rw [List.size_toArray]; omega)) ⟨e1, ?_⟩
   exact ⟨.non, _, I.lset (its' := []) ev e1 rfl .nil (Nat.zero_le _), rfl, h .non _ gr rfl (ab.chg e ⟨_, rfl, rfl⟩)⟩
  ·exact h.elim
 ·exact h.elim
noncomputable abbrev eClr : Mt3 := ⟨"clear", "list", clrS⟩
theorem ent_clr {q : Pr} {A : Around} : MtE (q.at A) eClr ∧ MtMono eClr := ⟨mt_blt PySem.F.plainAttrs_list PySem.F.slot_list_clear PySem.F.type_list_clear (fun X f => clr_ok) clrS_mono, clrS_mono⟩
noncomputable def hcM (y : Str) : Scope → Expr → Option (List Expr) := fun _ e => match e with
 | .Call (.Name x q) [a] [] _ => if (x == y) = true then some [.Name x q, a] else none
 | _ => none
noncomputable def hcS (f : Addr) (sp : Sp3) : RS := fun ws G Q => match ws with
 | [.ref p, w] => p = f ∧ sp [w] G Q XN
 | _ => False
theorem hcS_mono {f : Addr} {sp : Sp3} (mono : ∀ ws G (Q Q' : Q3), (∀ w G', Q w G' → Q' w G') → sp ws G Q XN → sp ws G Q' XN) : RMono (hcS f sp) := by
 intro ws G Q Q' k h
 unfold hcS at h ⊢
 split at h
 ·exact ⟨h.1, mono _ _ _ _ k h.2⟩
 ·exact h.elim
theorem hcM_inv {y : Str} {sc : Scope} {e : Expr} {xs : List Expr} (h : hcM y sc e = some xs) : ∃ x q a pos, e = .Call (.Name x q) [a] [] pos ∧ xs = [.Name x q, a] := by
 unfold hcM at h
 split at h
 ·rename_i x q a pos
  split at h
  ·cases h; exact ⟨x, q, a, pos, rfl, rfl⟩
  ·cases h
 ·cases h
theorem sx_hc {q : Pr} {k : Nat} {y : Str} {f : Addr} {fd : FuncData} {ps : List Str} {sp : Sp3} (FO : FnOk q.prog q.w q.K q.mg q.base CX0 k f fd ps (lowSp q.K sp)) (hk : PySem.W.keepIn q.K (.ref f) = true) (hb : Binds q.K fd ps [])
  (mono : ∀ ws G (Q Q' : Q3), (∀ w G', Q w G' → Q' w G') → sp ws G Q XN → sp ws G Q' XN) {A : Around} (hr : Room k A) : SxE (q.at A) ⟨hcM y, hcS f sp⟩ := by
 intro X fits e xs es he each hn pa
 obtain ⟨x, qp, a, pos, rfl, rfl⟩ := hcM_inv (sc := X.env.scope) he
 have e := fits.eq
 injection e with e1 e2 e3 e4 e5 e6
 subst e6
 rw [e1, e2, e3, e4, e5] at FO
 rw [e3] at hk hb
 match es, each with
 | [t1, t2], each =>
  refine ⟨fun pins s σ H Q I h => ?_, fun _ => rfl, fun _ _ _ z => nomatch z⟩
  obtain ⟨σ3, G, hs, ab, h⟩ := h
  have hn2 : ([a] : List Expr).all noStar = true := by simpa [noStar] using hn
  obtain ⟨s1, s2⟩ := plain_star (env := X.env) (pos := pos) hn2
  have p2 : PA X [a] (lowA X.K (seqA [t2])) := (pa_cons each.2.2.2.1 pa_nil s1).imp fun τ H Q h => by
   obtain ⟨σ, G, hs, ab, h⟩ := h
   refine ⟨σ, G, hs, ab, each.2.2.1 σ G _ _ (fun w G1 h => ?_) h⟩
   intro v H1 g1 rv a1
   exact h [v] H1 g1 ⟨v, [], rfl, rv, rfl⟩ a1
  refine wpAny_Call_Name_kw (thn (each.2.1 pins s σ H (fun v H1 => ∃ w G1, Rep X.K H1 w v ∧ Abs X.K H1 G1 ∧ Grow X.K H H1 ∧ t2 σ3 G1 fun u G2 => hcS f sp [w, u] G2 (lowQ X.K H Q)) I ⟨σ3, G, hs, ab, each.1 σ3 G _ _ (fun w G1 h v H1 g1 rv a1 => ⟨w, G1, rv, a1, g1, h⟩) h⟩) fun v s3 ⟨x1, H1, I1, r1, w, G1, rw1, a1, g1, q1⟩ => ?_)
  have hA := p2 pos pins s3 σ H1 (fun ys H2 => (∃ z, ys = [z] ∧ v = Value.ref f ∧ lowSp X.K sp [z] H2 Q (fun _ _ _ => False))) I1 ⟨σ3, G1, hs.mono g1, a1, each.2.2.1 σ3 G1 _ _ (fun u G2 hq => ?_) q1⟩
  ·rw [s1] at hA ⊢
   refine PySem.W.callWith_of (P := fun h => X.K.In h ∧ v = Value.ref f) (by show ((false || (backTo pos (starEach [] X.env)).any (·.1)) || false) = false; rfl) (fun h z => by rw [z.2]; exact PySem.W.keeps_K hk h z.1) (Calls.evalArgs_plain (thn hA fun us s4 ⟨ys, H2, I2, r2, z, ez, ev, q2⟩ => ⟨⟨I2.kIn, ev⟩, ?_⟩))
   subst ez
   subst ev
   exact run_fn (ds := []) (dvs := []) FO hr hb .nil pass0 I2 r2 q2
  ·intro ys H2 g2 rs a2
   obtain ⟨z, rfl, rz⟩ := reps1 rs
   unfold hcS at hq
   split at hq
   ·rename_i p u' ew
    cases ew
    obtain ⟨rfl, hq⟩ := hq
    cases (show x1 = .ref p from rw1)
    cases (show v = Value.ref p from r1)
    exact ⟨z, rfl, rfl, [u], G2, rs, a2, mono _ _ _ _ (fun w' G' h v' H' g' => h v' H' (g1.trans (g2.trans g'))) hq⟩
   ·exact hq.elim
end L3
set_option Elab.async false
set_option linter.all false
set_option maxRecDepth 100000
set_option maxHeartbeats 8000000
namespace K11
open PySem PySem.Spec L2 L3
noncomputable def top (i : Nat) : Stmt := PySem.Challenge.pw_talkcourt_k11_parts.main.body.getD i (.Pass ⟨0, 0, 0, 0⟩)
noncomputable def gls : List Str := ["bool", "int", "list", "sides_of"]
noncomputable def mts : List Str := ["pop", "join", "append", "extend", "clear"]
noncomputable def its : List Str := ["range"]
noncomputable def sxm : List (Scope → Expr → Option (List Expr)) := [lofM "reversed", rvM, ssM, hcM "sides_of"]
noncomputable def fns : List Str := (["max", "len", "list", "isinstance", "sorted", "_law_deal", "_law_draw", "_law_names", "_law_large", "_law_all", "sides_of", "all_within", "all_parts", "size", "sorted_once", "parts_of", "names_in", "_law_once", "law"] : List Str)
/- fn: 0 max, 1 len, 2 list, 3 isinstance, 4 sorted, 5 _law_deal, 6 _law_draw, 7 _law_names, 8 _law_large, 9 _law_all, 10 sides_of, 11 all_within, 12 all_parts, 13 size, 14 sorted_once, 15 parts_of, 16 names_in, 17 _law_once, 18 law -/
noncomputable abbrev s_law_deal : Stmt := top 10
noncomputable def n_law_deal : List Str := ["_law_script", "_law_base", "_law_cells", "_law_number", "_law_cell"]
noncomputable def b_law_deal : ISs := (.cons (.asg 2 (.lc (.nm 0) ["_law_cell"] [] (.val (.sl (.var 0) (.yes (.var 1)) (.yes (.con (.int 63))))) .no (.call 0 (.cons (.var 0) (.cons (.bin .Sub (.con (.int 0)) (.var 0)) .nil)))))
 (.cons (.asg 3 (.bin .Add (.con (.int 7919)) (.var 1)))
 (.cons (.for (.nm 4) (.val (.var 2)) (.cons (.asg 3 (.bin .Mod (.bin .Add (.bin .Mult (.var 3) (.con (.int 69621))) (.bin .Mod (.var 4) (.con (.int 2147483629)))) (.con (.int 2147483647))))
 .nil))
 (.cons (.ret (.dct ["seed", "number", "left"] (.cons (.var 3) (.cons (.con (.int 0)) (.cons (.spc 0 (.cons (.lc (.nm 0) ["_law_cell"] [] (.val (.var 2)) (.yes (.cmp .GtE (.var 0) (.bin .Pow (.con (.int 10)) (.con (.int 18))))) (.var 0)) .nil)) .nil)))))
 .nil))))
noncomputable def m_law_deal : MC := ⟨defScope s_law_deal, n_law_deal, true, fns.take 5, gls, mts, its, sxm, []⟩
theorem sc_law_deal : FnScope n_law_deal ["_law_script", "_law_base"] (defScope s_law_deal) := ⟨rfl, rfl, rfl, by decide +kernel, rfl, by decide +kernel, by decide +kernel⟩
theorem look_law_deal : mSs b_law_deal m_law_deal (defBody s_law_deal) = true := by decide +kernel
noncomputable abbrev s_law_draw : Stmt := top 11
noncomputable def n_law_draw : List Str := ["_law_deal_here", "_law_many", "_law_number", "_law_one", "_law_other"]
noncomputable def b_law_draw : ISs := (.cons (.whl (.and (.cmp .Eq (.ix (.var 0) (.con (.str "number"))) (.con (.int 0))) (.cmp .Gt (.call 1 (.cons (.ix (.var 0) (.con (.str "left"))) .nil)) (.con (.int 0)))) (.cons (.asgI (.var 0) (.con (.str "number")) (.mth 0 (.ix (.var 0) (.con (.str "left"))) .nil))
 .nil))
 (.cons (.asg 2 (.ix (.var 0) (.con (.str "number"))))
 (.cons (.ite (.cmp .Gt (.var 2) (.con (.int 0))) (.cons (.asgI (.var 0) (.con (.str "number")) (.bin .FloorDiv (.var 2) (.var 1)))
 (.cons (.ret (.bin .Mod (.var 2) (.var 1)))
 .nil)) .nil)
 (.cons (.asg 3 (.bin .Mod (.bin .Add (.bin .Mult (.ix (.var 0) (.con (.str "seed"))) (.con (.int 48271))) (.con (.int 7919))) (.con (.int 2147483647))))
 (.cons (.asgI (.var 0) (.con (.str "seed")) (.bin .Mod (.bin .Add (.bin .Mult (.var 3) (.con (.int 40692))) (.con (.int 104729))) (.con (.int 2147483399))))
 (.cons (.asg 4 (.bin .Mod (.bin .Mult (.ix (.var 0) (.con (.str "seed"))) (.ix (.var 0) (.con (.str "seed")))) (.con (.int 2147483563))))
 (.cons (.ret (.bin .Mod (.bin .Add (.bin .Mult (.bin .Mod (.bin .Mult (.var 3) (.var 3)) (.con (.int 2147483629))) (.con (.int 2147483563))) (.var 4)) (.var 1)))
 .nil)))))))
noncomputable def m_law_draw : MC := ⟨defScope s_law_draw, n_law_draw, true, fns.take 6, gls, mts, its, sxm, []⟩
theorem sc_law_draw : FnScope n_law_draw ["_law_deal_here", "_law_many"] (defScope s_law_draw) := ⟨rfl, rfl, rfl, by decide +kernel, rfl, by decide +kernel, by decide +kernel⟩
theorem look_law_draw : mSs b_law_draw m_law_draw (defBody s_law_draw) = true := by decide +kernel
noncomputable abbrev s_law_names : Stmt := top 12
noncomputable def n_law_names : List Str := ["_law_deal_here", "_law_many", "_law_letters", "_law_names_here", "_law_core", "_law_at", "_law_turn", "_law_k", "_law_name"]
noncomputable def b_law_names : ISs := (.cons (.asg 2 (.con (.str "abcdefghijklmnopqrstuvwxyz")))
 (.cons (.asg 3 (.lst .nil))
 (.cons (.asg 4 (.mth 1 (.con (.str "")) (.cons (.lc (.nm 0) ["_law_k"] [2, 0] (.blt 0 (.cons (.call 6 (.cons (.var 0) (.cons (.con (.int 5)) .nil))) .nil)) .no (.ix (.var 1) (.call 6 (.cons (.var 2) (.cons (.con (.int 26)) .nil))))) .nil)))
 (.cons (.asg 5 (.call 6 (.cons (.var 0) (.cons (.bin .Add (.call 1 (.cons (.var 4) .nil)) (.con (.int 1))) .nil))))
 (.cons (.asg 6 (.call 6 (.cons (.var 0) (.cons (.con (.int 26)) .nil))))
 (.cons (.for (.nm 7) (.blt 0 (.cons (.var 1) .nil)) (.cons (.asg 8 (.bin .Add (.bin .Add (.sl (.var 4) .no (.yes (.var 5))) (.ix (.var 2) (.bin .Mod (.bin .Add (.var 6) (.bin .Mult (.con (.int 7)) (.var 7))) (.con (.int 26))))) (.sl (.var 4) (.yes (.var 5)) .no)))
 (.cons (.ite (.cmp .In (.var 8) (.tup (.cons (.con (.str "and")) (.cons (.con (.str "or")) (.cons (.con (.str "not")) (.cons (.con (.str "then")) .nil)))))) (.cons (.asg 8 (.bin .Add (.var 8) (.con (.str "q"))))
 .nil) .nil)
 (.cons (.ex (.mth 2 (.var 3) (.cons (.var 8) .nil)))
 .nil))))
 (.cons (.ite (.and (.cmp .Gt (.var 1) (.con (.int 1))) (.cmp .Eq (.call 6 (.cons (.var 0) (.cons (.con (.int 2)) .nil))) (.con (.int 1)))) (.cons (.asgI (.var 3) (.con (.int 0)) (.bin .Add (.ix (.var 3) (.con (.int 0))) (.con (.str "z"))))
 .nil) .nil)
 (.cons (.ret (.var 3))
 .nil))))))))
noncomputable def m_law_names : MC := ⟨defScope s_law_names, n_law_names, true, fns.take 7, gls, mts, its, sxm, []⟩
theorem sc_law_names : FnScope n_law_names ["_law_deal_here", "_law_many"] (defScope s_law_names) := ⟨rfl, rfl, rfl, by decide +kernel, rfl, by decide +kernel, by decide +kernel⟩
theorem look_law_names : mSs b_law_names m_law_names (defBody s_law_names) = true := by decide +kernel
noncomputable abbrev s_law_large : Stmt := top 13
noncomputable def n_law_large : List Str := ["_law_deal_here", "_law_names_here", "_law_many", "_law_deep", "_law_way", "_law_left", "_law_one", "_law_sort"]
noncomputable def b_law_large : ISs := (.cons (.ite (.or (.cmp .Eq (.var 2) (.con (.int 1))) (.cmp .Eq (.var 3) (.con (.int 0)))) (.cons (.ret (.tup (.cons (.con (.str "say")) (.cons (.ix (.var 1) (.call 6 (.cons (.var 0) (.cons (.call 1 (.cons (.var 1) .nil)) .nil)))) .nil))))
 .nil) .nil)
 (.cons (.asg 4 (.call 6 (.cons (.var 0) (.cons (.con (.int 5)) .nil))))
 (.cons (.ite (.or (.cmp .Eq (.var 2) (.con (.int 2))) (.cmp .Eq (.var 4) (.con (.int 3)))) (.cons (.ret (.tup (.cons (.con (.str "not")) (.cons (.call 8 (.cons (.var 0) (.cons (.var 1) (.cons (.bin .Sub (.var 2) (.con (.int 1))) (.cons (.bin .Sub (.var 3) (.con (.int 1))) .nil))))) .nil))))
 .nil) .nil)
 (.cons (.asg 5 (.bin .Add (.con (.int 1)) (.call 6 (.cons (.var 0) (.cons (.bin .Sub (.var 2) (.con (.int 2))) .nil)))))
 (.cons (.ite (.cmp .Eq (.var 4) (.con (.int 4))) (.cons (.asg 5 (.bin .FloorDiv (.bin .Sub (.var 2) (.con (.int 1))) (.con (.int 2))))
 .nil) .nil)
 (.cons (.asg 6 (.call 8 (.cons (.var 0) (.cons (.var 1) (.cons (.var 5) (.cons (.bin .Sub (.var 3) (.con (.int 1))) .nil))))))
 (.cons (.asg 7 (.ix (.lst (.cons (.con (.str "and")) (.cons (.con (.str "or")) (.cons (.con (.str "if")) .nil)))) (.call 6 (.cons (.var 0) (.cons (.con (.int 3)) .nil)))))
 (.cons (.ret (.tup (.cons (.var 7) (.cons (.var 6) (.cons (.call 8 (.cons (.var 0) (.cons (.var 1) (.cons (.bin .Sub (.bin .Sub (.var 2) (.con (.int 1))) (.var 5)) (.cons (.bin .Sub (.var 3) (.con (.int 1))) .nil))))) .nil)))))
 .nil))))))))
noncomputable def m_law_large : MC := ⟨defScope s_law_large, n_law_large, true, fns.take 9, gls, mts, its, sxm, []⟩
theorem sc_law_large : FnScope n_law_large ["_law_deal_here", "_law_names_here", "_law_many", "_law_deep"] (defScope s_law_large) := ⟨rfl, rfl, rfl, by decide +kernel, rfl, by decide +kernel, by decide +kernel⟩
theorem look_law_large : mSs b_law_large m_law_large (defBody s_law_large) = true := by decide +kernel
noncomputable abbrev s_law_all : Stmt := top 14
noncomputable def n_law_all : List Str := ["_law_saying", "_law_found", "_law_part"]
noncomputable def b_law_all : ISs := (.cons (.asg 1 (.lst (.cons (.var 0) .nil)))
 (.cons (.ite (.cmp .NotEq (.ix (.var 0) (.con (.int 0))) (.con (.str "say"))) (.cons (.for (.nm 2) (.val (.sl (.var 0) (.yes (.con (.int 1))) .no)) (.cons (.asg 1 (.bin .Add (.var 1) (.call 9 (.cons (.var 2) .nil))))
 .nil))
 .nil) .nil)
 (.cons (.ret (.var 1))
 .nil)))
noncomputable def m_law_all : MC := ⟨defScope s_law_all, n_law_all, true, fns.take 10, gls, mts, its, sxm, []⟩
theorem sc_law_all : FnScope n_law_all ["_law_saying"] (defScope s_law_all) := ⟨rfl, rfl, rfl, by decide +kernel, rfl, by decide +kernel, by decide +kernel⟩
theorem look_law_all : mSs b_law_all m_law_all (defBody s_law_all) = true := by decide +kernel
noncomputable abbrev ssides_of : Stmt := top 4
noncomputable def nsides_of : List Str := ["saying"]
noncomputable def bsides_of : ISs := (.cons (.ret (.ite (.cmp .Eq (.ix (.var 0) (.con (.int 0))) (.con (.str "say"))) (.tup .nil) (.sl (.var 0) (.yes (.con (.int 1))) .no)))
 .nil)
noncomputable def msides_of : MC := ⟨defScope ssides_of, nsides_of, true, fns.take 10, gls, mts, its, sxm, []⟩
theorem scsides_of : FnScope nsides_of ["saying"] (defScope ssides_of) := ⟨rfl, rfl, rfl, by decide +kernel, rfl, by decide +kernel, by decide +kernel⟩
theorem looksides_of : mSs bsides_of msides_of (defBody ssides_of) = true := by decide +kernel
noncomputable abbrev sall_within : Stmt := top 2
noncomputable def nall_within : List Str := ["whole", "sides_of", "found", "waiting", "thing"]
noncomputable def ball_within : ISs := (.cons (.asg 2 (.lst .nil))
 (.cons (.asg 3 (.lst (.cons (.var 0) .nil)))
 (.cons (.whl (.var 3) (.cons (.asg 4 (.mth 0 (.var 3) .nil))
 (.cons (.ex (.mth 2 (.var 2) (.cons (.var 4) .nil)))
 (.cons (.ex (.mth 3 (.var 3) (.cons (.spc 1 (.cons (.spc 3 (.cons (.var 1) (.cons (.var 4) .nil))) .nil)) .nil)))
 .nil))))
 (.cons (.ret (.var 2))
 .nil))))
noncomputable def mall_within : MC := ⟨defScope sall_within, nall_within, true, fns.take 11, gls, mts, its, sxm, []⟩
theorem scall_within : FnScope nall_within ["whole", "sides_of"] (defScope sall_within) := ⟨rfl, rfl, rfl, by decide +kernel, rfl, by decide +kernel, by decide +kernel⟩
theorem lookall_within : mSs ball_within mall_within (defBody sall_within) = true := by decide +kernel
noncomputable abbrev sall_parts : Stmt := top 5
noncomputable def nall_parts : List Str := ["saying"]
noncomputable def ball_parts : ISs := (.cons (.ret (.call 11 (.cons (.var 0) (.cons (.glb 3) .nil))))
 .nil)
noncomputable def mall_parts : MC := ⟨defScope sall_parts, nall_parts, true, fns.take 12, gls, mts, its, sxm, []⟩
theorem scall_parts : FnScope nall_parts ["saying"] (defScope sall_parts) := ⟨rfl, rfl, rfl, by decide +kernel, rfl, by decide +kernel, by decide +kernel⟩
theorem lookall_parts : mSs ball_parts mall_parts (defBody sall_parts) = true := by decide +kernel
noncomputable abbrev ssize : Stmt := top 6
noncomputable def nsize : List Str := ["saying"]
noncomputable def bsize : ISs := (.cons (.ret (.call 1 (.cons (.call 12 (.cons (.var 0) .nil)) .nil)))
 .nil)
noncomputable def msize : MC := ⟨defScope ssize, nsize, true, fns.take 13, gls, mts, its, sxm, []⟩
theorem scsize : FnScope nsize ["saying"] (defScope ssize) := ⟨rfl, rfl, rfl, by decide +kernel, rfl, by decide +kernel, by decide +kernel⟩
theorem looksize : mSs bsize msize (defBody ssize) = true := by decide +kernel
noncomputable abbrev ssorted_once : Stmt := top 1
noncomputable def nsorted_once : List Str := ["things", "once", "thing"]
noncomputable def bsorted_once : ISs := (.cons (.asg 1 (.lst .nil))
 (.cons (.for (.nm 2) (.val (.call 4 (.cons (.var 0) .nil))) (.cons (.ite (.or (.not (.var 1)) (.cmp .NotEq (.ix (.var 1) (.neg (.con (.int 1)))) (.var 2))) (.cons (.ex (.mth 2 (.var 1) (.cons (.var 2) .nil)))
 .nil) .nil)
 .nil))
 (.cons (.ret (.var 1))
 .nil)))
noncomputable def msorted_once : MC := ⟨defScope ssorted_once, nsorted_once, true, fns.take 14, gls, mts, its, sxm, []⟩
theorem scsorted_once : FnScope nsorted_once ["things"] (defScope ssorted_once) := ⟨rfl, rfl, rfl, by decide +kernel, rfl, by decide +kernel, by decide +kernel⟩
theorem looksorted_once : mSs bsorted_once msorted_once (defBody ssorted_once) = true := by decide +kernel
noncomputable abbrev sparts_of : Stmt := top 8
noncomputable def nparts_of : List Str := ["saying"]
noncomputable def bparts_of : ISs := (.cons (.ret (.call 14 (.cons (.call 12 (.cons (.var 0) .nil)) .nil)))
 .nil)
noncomputable def mparts_of : MC := ⟨defScope sparts_of, nparts_of, true, fns.take 15, gls, mts, its, sxm, []⟩
theorem scparts_of : FnScope nparts_of ["saying"] (defScope sparts_of) := ⟨rfl, rfl, rfl, by decide +kernel, rfl, by decide +kernel, by decide +kernel⟩
theorem lookparts_of : mSs bparts_of mparts_of (defBody sparts_of) = true := by decide +kernel
noncomputable abbrev snames_in : Stmt := top 7
noncomputable def nnames_in : List Str := ["saying"]
noncomputable def bnames_in : ISs := (.cons (.ret (.call 14 (.cons (.lc (.nm 0) ["part"] [] (.val (.call 12 (.cons (.var 0) .nil))) (.yes (.cmp .Eq (.ix (.var 0) (.con (.int 0))) (.con (.str "say")))) (.ix (.var 0) (.con (.int 1)))) .nil)))
 .nil)
noncomputable def mnames_in : MC := ⟨defScope snames_in, nnames_in, true, fns.take 16, gls, mts, its, sxm, []⟩
theorem scnames_in : FnScope nnames_in ["saying"] (defScope snames_in) := ⟨rfl, rfl, rfl, by decide +kernel, rfl, by decide +kernel, by decide +kernel⟩
theorem looknames_in : mSs bnames_in mnames_in (defBody snames_in) = true := by decide +kernel
noncomputable abbrev s_law_once : Stmt := top 15
noncomputable def n_law_once : List Str := ["_law_things", "_law_found", "_law_thing"]
noncomputable def b_law_once : ISs := (.cons (.asg 1 (.lst .nil))
 (.cons (.for (.nm 2) (.val (.call 4 (.cons (.var 0) .nil))) (.cons (.ite (.or (.cmp .Eq (.var 1) (.lst .nil)) (.cmp .NotEq (.ix (.var 1) (.neg (.con (.int 1)))) (.var 2))) (.cons (.ex (.mth 2 (.var 1) (.cons (.var 2) .nil)))
 .nil) .nil)
 .nil))
 (.cons (.ret (.var 1))
 .nil)))
noncomputable def m_law_once : MC := ⟨defScope s_law_once, n_law_once, true, fns.take 17, gls, mts, its, sxm, []⟩
theorem sc_law_once : FnScope n_law_once ["_law_things"] (defScope s_law_once) := ⟨rfl, rfl, rfl, by decide +kernel, rfl, by decide +kernel, by decide +kernel⟩
theorem look_law_once : mSs b_law_once m_law_once (defBody s_law_once) = true := by decide +kernel
noncomputable abbrev slaw : Stmt := top 16
noncomputable def nlaw : List Str := ["_law_script", "_law_deal_here", "_law_names_here", "_law_saying", "_law_parts", "_law_told", "_law_part", "_law_found", "_law_called", "_law_some"]
noncomputable def blaw : ISs := (.cons (.asg 1 (.call 5 (.cons (.var 0) (.cons (.con (.int 0)) .nil))))
 (.cons (.asg 2 (.call 7 (.cons (.var 1) (.cons (.bin .Add (.con (.int 1)) (.call 6 (.cons (.var 1) (.cons (.con (.int 4)) .nil)))) .nil))))
 (.cons (.asg 3 (.call 8 (.cons (.var 1) (.cons (.var 2) (.cons (.bin .Add (.con (.int 1)) (.call 6 (.cons (.var 1) (.cons (.con (.int 40)) .nil)))) (.cons (.con (.int 20)) .nil))))))
 (.cons (.asg 4 (.call 9 (.cons (.var 3) .nil)))
 (.cons (.asg 5 (.call 13 (.cons (.var 3) .nil)))
 (.cons (.ite (.or (.not (.call 3 (.cons (.var 5) (.cons (.glb 1) .nil)))) (.or (.call 3 (.cons (.var 5) (.cons (.glb 0) .nil))) (.cmp .NotEq (.var 5) (.call 1 (.cons (.var 4) .nil))))) (.cons (.ret (.con (.bool false)))
 .nil) .nil)
 (.cons (.asg 6 (.ix (.var 4) (.call 6 (.cons (.var 1) (.cons (.call 1 (.cons (.var 4) .nil)) .nil)))))
 (.cons (.ite (.or (.cmp .NotEq (.call 13 (.cons (.var 6) .nil)) (.call 1 (.cons (.call 9 (.cons (.var 6) .nil)) .nil))) (.cmp .NotEq (.call 13 (.cons (.var 3) .nil)) (.var 5))) (.cons (.ret (.con (.bool false)))
 .nil) .nil)
 (.cons (.asg 7 (.call 15 (.cons (.var 3) .nil)))
 (.cons (.ite (.or (.not (.call 3 (.cons (.var 7) (.cons (.glb 2) .nil)))) (.cmp .NotEq (.var 7) (.call 17 (.cons (.var 4) .nil)))) (.cons (.ret (.con (.bool false)))
 .nil) .nil)
 (.cons (.ex (.mth 4 (.var 7) .nil))
 (.cons (.asg 8 (.call 16 (.cons (.var 3) .nil)))
 (.cons (.ite (.or (.not (.call 3 (.cons (.var 8) (.cons (.glb 2) .nil)))) (.cmp .NotEq (.var 8) (.spc 2 (.cons (.lc (.nm 0) ["_law_one"] [] (.val (.var 4)) (.yes (.cmp .Eq (.ix (.var 0) (.con (.int 0))) (.con (.str "say")))) (.ix (.var 0) (.con (.int 1)))) .nil)))) (.cons (.ret (.con (.bool false)))
 .nil) .nil)
 (.cons (.ex (.mth 2 (.var 8) (.cons (.con (.str "x")) .nil)))
 (.cons (.asg 9 (.call 9 (.cons (.var 6) .nil)))
 (.cons (.ite (.or (.cmp .NotEq (.call 15 (.cons (.var 6) .nil)) (.call 17 (.cons (.var 9) .nil))) (.cmp .NotEq (.call 16 (.cons (.var 6) .nil)) (.spc 2 (.cons (.lc (.nm 0) ["_law_one"] [] (.val (.var 9)) (.yes (.cmp .Eq (.ix (.var 0) (.con (.int 0))) (.con (.str "say")))) (.ix (.var 0) (.con (.int 1)))) .nil)))) (.cons (.ret (.con (.bool false)))
 .nil) .nil)
 (.cons (.ret (.and (.cmp .Eq (.bin .Add (.call 1 (.cons (.call 16 (.cons (.var 3) .nil)) .nil)) (.con (.int 1))) (.call 1 (.cons (.var 8) .nil))) (.cmp .Eq (.call 15 (.cons (.var 3) .nil)) (.call 17 (.cons (.var 4) .nil)))))
 .nil)))))))))))))))))
noncomputable def mlaw : MC := ⟨defScope slaw, nlaw, true, fns.take 18, gls, mts, its, sxm, []⟩
theorem sclaw : FnScope nlaw ["_law_script"] (defScope slaw) := ⟨rfl, rfl, rfl, by decide +kernel, rfl, by decide +kernel, by decide +kernel⟩
theorem looklaw : mSs blaw mlaw (defBody slaw) = true := by decide +kernel
end K11
set_option Elab.async false
set_option linter.all false
set_option maxRecDepth 100000
set_option maxHeartbeats 8000000
namespace K11
open PySem PySem.Spec PyProof.Rows L2 L3
noncomputable abbrev eApp : Mt3 := ⟨"append", "list", appS⟩
theorem ent_app {q : Pr} {A : Around} : MtE (q.at A) eApp ∧ MtMono eApp := ⟨mt_blt PySem.F.plainAttrs_list PySem.F.slot_list_append PySem.F.type_list_append (fun X f => app_ok) appS_mono, appS_mono⟩
noncomputable def noN : List Str := ["and", "or", "not", "then"]
noncomputable def ltB (c : Nat) : Bool := decide (97 ≤ c) && decide (c ≤ 122)
noncomputable def allLt (x : Str) : Bool := x.cps.toList.all ltB
noncomputable def nmB (x : Str) : Bool := decide (1 ≤ x.length) && decide (x.length ≤ 6) && !noN.contains x && allLt x
noncomputable def nameW : W → Bool
 | .str x => nmB x
 | _ => false
inductive Sy where
 | say (x : Str) | neg (a : Sy) | two (k : Nat) (a b : Sy)
noncomputable def kw : Nat → Str
 | 0 => "and"
 | 1 => "or"
 | _ => "if"
noncomputable def Sy.w : Sy → W
 | .say x => .tup [.str "say", .str x]
 | .neg a => .tup [.str "not", a.w]
 | .two k a b => .tup [.str (kw k), a.w, b.w]
noncomputable def Sy.size : Sy → Nat
 | .say _ => 1
 | .neg a => a.size + 1
 | .two _ a b => a.size + b.size + 1
noncomputable def Sy.deep : Sy → Nat
 | .say _ => 0
 | .neg a => a.deep + 1
 | .two _ a b => max a.deep b.deep + 1
noncomputable def Sy.ok : Sy → Prop
 | .say x => nmB x = true
 | .neg a => a.ok
 | .two _ a b => a.ok ∧ b.ok
theorem Sy.pos : ∀ t : Sy, 1 ≤ t.size
 | .say _ => Nat.le_refl _
 | .neg _ => Nat.le_add_left _ _
 | .two _ _ _ => Nat.le_add_left _ _
theorem Sy.pur : ∀ t : Sy, L3.pur t.w = true
 | .say _ => by simp [Sy.w, L3.pur, purs]
 | .neg a => by simp [Sy.w, L3.pur, purs, Sy.pur a]
 | .two _ a b => by simp [Sy.w, L3.pur, purs, Sy.pur a, Sy.pur b]
theorem Sy.dep : ∀ t : Sy, L3.dep t.w ≤ t.size
 | .say _ => by simp [Sy.w, L3.dep, deps, Sy.size]
 | .neg a => by have := Sy.dep a; simp only [Sy.w, L3.dep, deps, Sy.size]; omega
 | .two _ a b => by have := Sy.dep a; have := Sy.dep b; simp only [Sy.w, L3.dep, deps, Sy.size]; omega
theorem ltS1 {a b : W} (h : (ltW a b).isSome = true) : (ltWs [a] [b]).isSome = true := by
 simp only [ltWs]
 split
 ·rfl
 ·exact h
theorem ltS2 {a b c d : W} (h : (ltW a b).isSome = true) (h' : (ltW c d).isSome = true) : (ltWs [a, c] [b, d]).isSome = true := by
 rw [ltWs]
 split
 ·exact ltS1 h'
 ·exact h
theorem lt_same {x : Str} {l l' : List W} (h : (ltWs l l').isSome = true) : (ltW (.tup (.str x :: l)) (.tup (.str x :: l'))).isSome = true := by
 rw [ltW, ltWs, if_pos (by simp [eqW])]
 exact h
theorem lt_diff {x y : Str} {l l' : List W} (h : (x == y) = false) : (ltW (.tup (.str x :: l)) (.tup (.str y :: l'))).isSome = true := by
 rw [ltW, ltWs, if_neg (by simp [eqW, h]), ltW]
 rfl
theorem kw_not (k : Nat) : ((kw k : Str) == "say") = false ∧ (("say" : Str) == kw k) = false ∧ ((kw k : Str) == "not") = false ∧ (("not" : Str) == kw k) = false := by
 unfold kw
 split <;> exact ⟨by decide +kernel, by decide +kernel, by decide +kernel, by decide +kernel⟩
theorem Sy.lt : ∀ a b : Sy, (ltW a.w b.w).isSome = true
 | .say x, .say y => lt_same (ltS1 (by rw [ltW]; rfl))
 | .neg a, .neg b => lt_same (ltS1 (Sy.lt a b))
 | .two k a c, .two j b d => by
  cases h : ((kw k : Str) == kw j) with
  | true =>
   simp only [Sy.w]
   rw [eq_of_beq h]
   exact lt_same (ltS2 (Sy.lt a b) (Sy.lt c d))
  | false => exact lt_diff h
 | .say _, .neg _ => lt_diff (by decide +kernel)
 | .say _, .two k _ _ => lt_diff (kw_not k).2.1
 | .neg _, .say _ => lt_diff (by decide +kernel)
 | .neg _, .two k _ _ => lt_diff (kw_not k).2.2.2
 | .two k _ _, .say _ => lt_diff (kw_not k).1
 | .two k _ _, .neg _ => lt_diff (kw_not k).2.2.1
theorem Sy.hd (t : Sy) : hdT t.w = some "str" := by cases t <;> rfl
theorem purs_map : ∀ ts : List Sy, purs (ts.map Sy.w) = true
 | [] => rfl
 | t :: ts => by simp [purs, t.pur, purs_map ts]
theorem deps_map {n : Nat} : ∀ ts : List Sy, (∀ t ∈ ts, t.size ≤ n) → deps (ts.map Sy.w) ≤ n
 | [], _ => Nat.zero_le _
 | t :: ts, h => by
  have h1 := Sy.dep t
  have h2 := h t List.mem_cons_self
  have h3 := deps_map ts fun x hx => h x (List.mem_cons_of_mem _ hx)
  simp only [List.map_cons, deps]
  omega
theorem srtb {ts : List Sy} (hn : ts.length < 64) (hs : ∀ t ∈ ts, t.size ≤ 59) : Srtb (ts.map Sy.w) where
 pure := purs_map ts
 lt := fun x hx y hy => by
  obtain ⟨a, _, rfl⟩ := List.mem_map.mp hx
  obtain ⟨b, _, rfl⟩ := List.mem_map.mp hy
  exact Sy.lt a b
 few := by simpa using hn
 deep := Nat.lt_of_le_of_lt (deps_map ts hs) (by omega)
 hd := ⟨"str", fun x hx => by obtain ⟨a, _, rfl⟩ := List.mem_map.mp hx; exact a.hd⟩
noncomputable def pre : Sy → List Sy
 | .say x => [.say x]
 | .neg a => .neg a :: pre a
 | .two k a b => .two k a b :: (pre a ++ pre b)
noncomputable def kids : Sy → List Sy
 | .say _ => []
 | .neg a => [a]
 | .two _ a b => [a, b]
noncomputable def pres (ts : List Sy) : List Sy := ts.flatMap pre
theorem pre_kids (t : Sy) : pre t = t :: pres (kids t) := by cases t <;> simp [pre, kids, pres]
theorem pre_len : ∀ t : Sy, (pre t).length = t.size
 | .say _ => rfl
 | .neg a => by simp [pre, Sy.size, pre_len a]
 | .two _ a b => by simp [pre, Sy.size, pre_len a, pre_len b]
theorem pre_in : ∀ t : Sy, ∀ p ∈ pre t, p.size ≤ t.size ∧ p.deep ≤ t.deep
 | .say x, p, h => by
  rw [List.mem_singleton.mp h]
  exact ⟨Nat.le_refl _, Nat.le_refl _⟩
 | .neg a, p, h => by
  rcases List.mem_cons.mp h with rfl | h
  ·exact ⟨Nat.le_refl _, Nat.le_refl _⟩
  ·have := pre_in a p h
   simp only [Sy.size, Sy.deep]
   omega
 | .two _ a b, p, h => by
  rcases List.mem_cons.mp h with rfl | h
  ·exact ⟨Nat.le_refl _, Nat.le_refl _⟩
  ·simp only [Sy.size, Sy.deep]
   rcases List.mem_append.mp h with h | h
   ·have := pre_in a p h; omega
   ·have := pre_in b p h; omega
noncomputable def namesOf : List Sy → List Str
 | [] => []
 | .say x :: r => x :: namesOf r
 | _ :: r => namesOf r
noncomputable def ddr (p : W) : List W → List W
 | [] => []
 | y :: r => if eqW p y = true then ddr p r else y :: ddr y r
noncomputable def dd : List W → List W
 | [] => []
 | x :: r => x :: ddr x r
noncomputable def SO (xs ys : List W) : Prop := (Srtb xs ∧ ys = srt xs) ∨ ∃ ts ts' : List Str, xs = ts.map .str ∧ ts'.Perm ts ∧ sortedS ts' = true ∧ ys = ts'.map .str
noncomputable def SOk (xs : List W) : Prop := Srtb xs ∨ ∃ ts : List Str, xs = ts.map .str ∧ ts.length < 64
noncomputable def Rs (ts ys : List Str) : Prop := ys.Pairwise (fun a b => a.cps.toList < b.cps.toList) ∧ ∀ x, x ∈ ys ↔ x ∈ ts
noncomputable def Fr (ws : List W) (G : Hw) (Q : Q3) : Prop := ∀ r G', Keep [] G G' → G r = none → G' r = some (.lst ws) → Q (.ref r) G'
theorem Fr.mono {ws : List W} {G : Hw} {Q Q' : Q3} (k : ∀ w G', Q w G' → Q' w G') (h : Fr ws G Q) : Fr ws G Q' := fun r G' a b c => k _ _ (h r G' a b c)
theorem Fr.keep {ws : List W} {G G1 : Hw} {Q : Q3} (h : Fr ws G Q) (k : Keep [] G G1) : Fr ws G1 Q := fun r G' a b c => h r G' (k.trans a) (k.none (by simp) b) c
noncomputable def spNames : Sp3 := fun ws G Q _ => ∃ (d l : Addr) (m : Int), ws = [.ref d, .int m] ∧ Deal G d l ∧ 1 ≤ m ∧ m ≤ 4 ∧ ∀ (r : Addr) (xs : List Str) G', xs ≠ [] → xs.length ≤ 4 → (∀ x ∈ xs, nmB x = true) → r ∉ [d, l] → G' r = some (.lst (xs.map .str)) → Keep [d, l] G G' → Deal G' d l → Q (.ref r) G'
noncomputable def spLarge (n : Nat) : Sp3 := fun ws G Q _ => ∃ (d l r : Addr) (m e : Int) (xs : List Str), ws = [.ref d, .ref r, .int m, .int e] ∧ Deal G d l ∧ r ∉ [d, l] ∧ G r = some (.lst (xs.map .str)) ∧ xs ≠ [] ∧ xs.length ≤ 4 ∧ (∀ x ∈ xs, nmB x = true) ∧ 1 ≤ m ∧ m ≤ 40 ∧ 0 ≤ e ∧ e < n ∧
 ∀ (t : Sy) G', t.ok → (t.size : Int) ≤ m → (t.deep : Int) ≤ e → Keep [d, l] G G' → Deal G' d l → Q t.w G'
noncomputable def spAll (n : Nat) : Sp3 := fun ws G Q _ => ∃ t : Sy, ws = [t.w] ∧ t.size ≤ 40 ∧ t.deep < n ∧ Fr ((pre t).map Sy.w) G Q
noncomputable def spSides : Sp3 := fun ws G Q _ => ∃ t : Sy, ws = [t.w] ∧ Q (.tup ((kids t).map Sy.w)) G
noncomputable def spWithin (sA : Addr) : Sp3 := fun ws G Q _ => ∃ t : Sy, ws = [t.w, .ref sA] ∧ t.size ≤ 40 ∧ Fr ((pre t).map Sy.w) G Q
noncomputable def spParts : Sp3 := fun ws G Q _ => ∃ t : Sy, ws = [t.w] ∧ t.size ≤ 40 ∧ Fr ((pre t).map Sy.w) G Q
noncomputable def spSize : Sp3 := fun ws G Q _ => ∃ t : Sy, ws = [t.w] ∧ t.size ≤ 40 ∧ ∀ G', Keep [] G G' → Q (.int t.size) G'
noncomputable def spOnce : Sp3 := fun ws G Q _ => ∃ (p : Addr) (xs : List W), ws = [.ref p] ∧ lstOf G p = some xs ∧ SOk xs ∧ ∀ ys, SO xs ys → Fr (dd ys) G Q
noncomputable def spPof : Sp3 := fun ws G Q _ => ∃ t : Sy, ws = [t.w] ∧ t.size ≤ 40 ∧ Fr (dd (srt ((pre t).map Sy.w))) G Q
noncomputable def spNin : Sp3 := fun ws G Q _ => ∃ t : Sy, ws = [t.w] ∧ t.size ≤ 40 ∧ ∀ ys, Rs (namesOf (pre t)) ys → ys.length < 64 → Fr (ys.map .str) G Q
section
variable (K : Frg) (sA : Addr)
noncomputable def fnL : List Fn3 := [eMax, eLen, eLst, eIsi K, eSrt2, eDeal, eDraw, ⟨"_law_names", spNames⟩, ⟨"_law_large", spLarge 21⟩, ⟨"_law_all", spAll 21⟩, ⟨"sides_of", spSides⟩, ⟨"all_within", spWithin sA⟩, ⟨"all_parts", spParts⟩, ⟨"size", spSize⟩, ⟨"sorted_once", spOnce⟩, ⟨"parts_of", spPof⟩, ⟨"names_in", spNin⟩, ⟨"_law_once", spOnce⟩]
noncomputable def GamL (l : List Fn3) : Ctx3 := ⟨l, [("bool", .ty "bool"), ("int", .ty "int"), ("list", .ty "list"), ("sides_of", .ref sA)], [ePop, eJoin, eApp, eExt, eClr], [eRng], [], [eRev, ⟨rvM, rvS⟩, ⟨ssM, ssS⟩, ⟨hcM "sides_of", hcS sA spSides⟩], []⟩
noncomputable def Gam (n : Nat) : Ctx3 := GamL sA ((fnL K sA).take n)
noncomputable def GamR (n : Nat) (e : Fn3) : Ctx3 := GamL sA ((fnL K sA).take n ++ [e])
end
theorem at_0 {a : W} {l : List W} : atI (a :: l) 0 = some a := by
 unfold atI
 have : ixN (a :: l).length 0 = some 0 := by simp [ixN]
 rw [this]; rfl
theorem at_1 {a b : W} {l : List W} : atI (a :: b :: l) 1 = some b := by
 unfold atI
 have : ixN (a :: b :: l).length 1 = some 1 := by simp [ixN]; omega
 rw [this]; rfl
theorem at_2 {a b c : W} {l : List W} : atI (a :: b :: c :: l) 2 = some c := by
 unfold atI
 have : ixN (a :: b :: c :: l).length 2 = some 2 := by simp [ixN]; omega
 rw [this]; rfl
theorem at_nat {l : List W} {i : Int} (h0 : 0 ≤ i) (h1 : i < l.length) : ∃ w, w ∈ l ∧ atI l i = some w := by
 have hi : i.toNat < l.length := by omega
 refine ⟨l[i.toNat], List.getElem_mem hi, ?_⟩
 unfold atI ixN
 rw [if_pos h0, if_pos h1]
 exact List.getElem?_eq_getElem hi
theorem sz (n : Nat) (h : n ≤ 3000) : n ≤ sizeLine := by rw [sizeLine_eq]; omega
theorem gZ {α : Type} {a : α} {l : List α} : (a :: l)[0]? = some a := rfl
theorem gS {α : Type} {a : α} {l : List α} {i : Nat} : (a :: l)[i + 1]? = l[i]? := rfl
theorem tZ {α : Type} {a b : α} {l : List α} : (a :: l).set 0 b = b :: l := rfl
theorem tS {α : Type} {a b : α} {l : List α} {i : Nat} : (a :: l).set (i + 1) b = a :: l.set i b := rfl
theorem stp {Γ : Ctx3} {E : XQ} {s : IS} {ss : ISs} {D : End3} {σ : St3} {G : Hw} (h : semS Γ E s { D with nx := semSs Γ E ss D } σ G) : semSs Γ E (.cons s ss) D σ G := h
theorem stn {Γ : Ctx3} {E : XQ} {D : End3} {σ : St3} {G : Hw} (h : D.nx σ G) : semSs Γ E .nil D σ G := h
theorem tyL {G : Hw} {o : Addr} {l : List W} (e : G o = some (.lst l)) : tyW G (.ref o) "list" := by simp only [tyW, e]
theorem appL {G : Hw} {o : Addr} {l : List W} {y : W} {Q : Q3} (e : G o = some (.lst l)) (hl : l.length < 1000) (h : Q .non (put G o (.lst (l ++ [y])))) : appS (.ref o) [y] G Q := by
 simp only [appS, e]
 exact ⟨by rw [sizeLine_eq]; omega, h⟩
theorem ixL {G : Hw} {t : Addr} {xs : List W} {i : Int} {Q : Q3} (e : lstOf G t = some xs) (h : match atI xs i with | some w => Q w G | none => False) : ixR (.ref t) (.int i) G Q := by
 unfold lstOf at e
 split at e
 ·rename_i q; cases e; simp only [ixR, q]; exact h
 ·rename_i q; cases e; simp only [ixR, q]; exact h
 ·cases e
theorem deal_keep {S : List Addr} {G G' : Hw} {d l : Addr} (k : Keep S G G') (hd : d ∉ S) (hl : l ∉ S) (D : Deal G d l) : Deal G' d l := by
 obtain ⟨x, y, z, D⟩ := D
 exact ⟨x, y, z, k _ _ hd D.dic, k _ _ hl D.lst, D.s0, D.s1, D.n0, D.lf, D.len, D.ne⟩
theorem deal_new {G : Hw} {d l p : Addr} {o : O} (h : G p = none) (D : Deal G d l) : Deal (put G p o) d l := deal_keep (S := []) (Keep.new h) (by simp) (by simp) D
theorem deal0 {G G' : Hw} {d l : Addr} (k : Keep [] G G') (D : Deal G d l) : Deal G' d l := deal_keep k (by simp) (by simp) D
theorem keep0 {S : List Addr} {G G' : Hw} (k : Keep [] G G') : Keep S G G' := fun a u _ e => k a u (by simp) e
theorem off_of {G : Hw} {d l p : Addr} (D : Deal G d l) (h : G p = none) : p ∉ [d, l] := by
 obtain ⟨_, _, _, D⟩ := D
 simp only [List.mem_cons, List.not_mem_nil, or_false, not_or]
 exact ⟨fun e => (by rw [e, D.dic] at h; cases h), fun e => (by rw [e, D.lst] at h; cases h)⟩
theorem keep_at {S : List Addr} {G G' : Hw} {p : Addr} {o : O} (k : Keep S G G') (h : G p = none) : Keep S G (put G' p o) := fun a u ha e => by
 rw [put_ne (gnone e h)]
 exact k a u ha e
theorem deal_at {G : Hw} {d l p : Addr} {o : O} (h : p ∉ [d, l]) (D : Deal G d l) : Deal (put G p o) d l := by
 simp only [List.mem_cons, List.not_mem_nil, or_false, not_or] at h
 exact deal_keep (S := [p]) (Keep.put (by simp)) (by simpa using Ne.symm h.1) (by simpa using Ne.symm h.2) D
theorem addS {a b : Str} {G : Hw} {Q : Q3} (h : a.length + b.length ≤ 3000) (q : Q (.str (a ++ b)) G) : binR .Add (.str a) (.str b) G Q := ⟨sz _ h, q⟩
noncomputable def tl : ISs → ISs
 | .cons _ ss => ss
 | .nil => .nil
theorem eqG_beq {G : Hw} {a b : Str} : eqG G (.str a) (.str b) = some (a == b) := by simp [eqG, pur, dep, eqW]
theorem eqG_bl {G : Hw} {a b : Bool} : eqG G (.bl a) (.bl b) = some (a == b) := by simp [eqG, pur, dep, eqW]
theorem eqG_ni {G : Hw} {i : Int} : eqG G .non (.int i) = some false := by simp [eqG, pur, dep, eqW]
section
variable {K : Frg} {sA : Addr}
theorem fnAt {n : Nat} (i : Nat) (hi : i < n) {e : Fn3} (h : (fnL K sA)[i]? = some e) : (Gam K sA n).fn[i]? = some e := by
 show ((fnL K sA).take n)[i]? = _
 rw [List.getElem?_take_of_lt hi]; exact h
theorem fnA {n m : Nat} (i : Nat) (hn : m ≤ n) {e : Fn3} (h : (fnL K sA)[i]? = some e) (hi : i < m := by decide) : (Gam K sA n).fn[i]? = some e := fnAt i (Nat.lt_of_lt_of_le hi hn) h
end
end K11
set_option Elab.async false
set_option linter.all false
set_option maxRecDepth 100000
set_option maxHeartbeats 8000000
namespace K11
open PySem PySem.Spec PyProof.Rows L2 L3
noncomputable abbrev abc : Str := "abcdefghijklmnopqrstuvwxyz"
theorem abc_len : abc.cps.toList.length = 26 := by decide +kernel
theorem abc_lt : ∀ c ∈ abc.cps.toList, ltB c = true := by decide +kernel
theorem lt_abc (c : Nat) : decide (c ∈ abc.cps.toList) = ltB c := by
 by_cases h : c < 123
 ·revert c
  decide +kernel
 ·have h1 : ltB c = false := by simp [ltB]; omega
  rw [h1, decide_eq_false_iff_not]
  intro hc
  rw [abc_lt c hc] at h1
  cases h1
theorem all_app {a b : Str} : allLt (a ++ b) = (allLt a && allLt b) := by
 unfold allLt
 rw [Str.cps_append, Array.toList_append, List.all_append]
theorem ixLet {i : Int} {G : Hw} {Q : Q3} (h0 : 0 ≤ i) (h1 : i < 26) (h : ∀ x : Str, x.length = 1 → allLt x = true → Q (.str x) G) : ixR (.str abc) (.int i) G Q := by
 have hi : i.toNat < abc.cps.toList.length := by rw [abc_len]; omega
 have e : atI abc.cps.toList i = some abc.cps.toList[i.toNat] := by
  unfold atI ixN
  rw [if_pos h0, abc_len, if_pos (show i < ((26 : Nat) : Int) from h1)]
  exact List.getElem?_eq_getElem hi
 simp only [ixR, e]
 refine ⟨?_, h _ rfl ?_⟩
 ·have : abc.length = 26 := by rw [← abc_len]; rfl
  rw [this]
  exact sz _ (by decide)
 ·show [abc.cps.toList[i.toNat]].all ltB = true
  rw [List.all_cons, abc_lt _ (List.getElem_mem hi)]
  rfl
theorem take_to {x : Str} {j : Int} (h0 : 0 ≤ j) (h1 : j ≤ x.length) : (Txt.slice x none (some j)).cps.toList = x.cps.toList.take j.toNat := by
 have e : Txt.slice x none (some j) = StrLaws.sliceText x none (some j) := rfl
 rw [e, StrLaws.sliceText_to ⟨h0, by rw [Array.length_toList]; exact h1⟩]
 simp
theorem drop_from {x : Str} {j : Int} (h0 : 0 ≤ j) (h1 : j ≤ x.length) : (Txt.slice x (some j) none).cps.toList = x.cps.toList.drop j.toNat := by
 have e : Txt.slice x (some j) none = StrLaws.sliceText x (some j) none := rfl
 rw [e, StrLaws.sliceText_from ⟨h0, by rw [Array.length_toList]; exact h1⟩]
 have h2 : j ≤ (x.cps.toList.length : Int) := by rw [Array.length_toList]; exact h1
 show (((x.cps.toList.drop j.toNat).take _).toArray).toList = _
 rw [List.toList_toArray]
 exact List.take_of_length_le (by rw [List.length_drop]; omega)
theorem len_toList (x : Str) : x.cps.toList.length = x.length := by rw [Array.length_toList]; rfl
theorem cut_two {x : Str} {j : Int} {G : Hw} {Q : Q3} (h0 : 0 ≤ j) (h1 : j ≤ x.length) (hx : x.length ≤ 1000) (a : allLt x = true) (q : ∀ y : Str, y.length ≤ j.toNat → allLt y = true → Q (.str y) G) : slR (.str x) none (some j) G Q := by
 refine ⟨sz _ (by omega), q _ ?_ ?_⟩
 ·rw [← len_toList, take_to h0 h1, List.length_take]; omega
 ·unfold allLt
  rw [take_to h0 h1, List.all_eq_true]
  exact fun c hc => List.all_eq_true.mp a c (List.mem_of_mem_take hc)
theorem cut_two' {x : Str} {j : Int} {G : Hw} {Q : Q3} (h0 : 0 ≤ j) (h1 : j ≤ x.length) (hx : x.length ≤ 1000) (a : allLt x = true) (q : ∀ y : Str, y.length ≤ x.length - j.toNat → allLt y = true → Q (.str y) G) : slR (.str x) (some j) none G Q := by
 refine ⟨sz _ (by omega), q _ ?_ ?_⟩
 ·rw [← len_toList, drop_from h0 h1, List.length_drop, len_toList]; omega
 ·unfold allLt
  rw [drop_from h0 h1, List.all_eq_true]
  exact fun c hc => List.all_eq_true.mp a c (List.mem_of_mem_drop hc)
theorem lt_emp : allLt "" = true := by decide +kernel
theorem join_lt : ∀ {ts : List Str}, (∀ x ∈ ts, allLt x = true) → allLt (Str.join "" ts) = true
 | [], _ => by decide +kernel
 | [x], h => h x List.mem_cons_self
 | x :: y :: r, h => by
  show allLt (x ++ "" ++ Str.join "" (y :: r)) = true
  rw [all_app, all_app, h x List.mem_cons_self, lt_emp, join_lt fun z hz => h z (List.mem_cons_of_mem _ hz)]
  rfl
theorem join_len {ts : List Str} (h : ∀ x ∈ ts, x.length ≤ 1) (g : ∀ x ∈ ts, allLt x = true) (hn : ts.length ≤ 4) : JoinOk "" ts = true ∧ (Txt.join "" ts).length ≤ 4 ∧ allLt (Txt.join "" ts) = true := by
 have e : ("" : Str).length = 0 := by decide +kernel
 refine ⟨?_, ?_, ?_⟩
 ·unfold JoinOk
  rw [StrLaws.joinFits h (by rw [e]; omega)]; rfl
 ·have h1 := StrLaws.join_length_le "" ts
  have h2 := StrLaws.sumLen_le ts h
  rw [e] at h1
  rw [show Txt.join "" ts = Str.join "" ts from StrLaws.glued_eq_join "" ts]
  refine Nat.le_trans h1 ?_
  omega
 ·rw [show Txt.join "" ts = Str.join "" ts from StrLaws.glued_eq_join "" ts]
  exact join_lt g
theorem nm_of {x : Str} (h1 : 1 ≤ x.length) (h6 : x.length ≤ 6) (a : allLt x = true) (n : x ∉ noN) : nmB x = true := by
 unfold nmB
 rw [decide_eq_true h1, decide_eq_true h6, a, show noN.contains x = false by simpa using n]
 rfl
theorem no_q {x : Str} (h : x ∈ noN) : x ++ "q" ∉ noN := by
 revert h
 have : ∀ y ∈ noN, y ++ "q" ∉ noN := by decide +kernel
 exact this x
theorem no_len {x : Str} (h : x ∈ noN) : x.length ≤ 4 := by
 have : ∀ y ∈ noN, y.length ≤ 4 := by decide +kernel
 exact this x h
theorem no_z {x : Str} : x ++ "z" ∉ noN := fun h => by
 have l : ∀ y ∈ noN, y.cps.toList.getLast? ≠ some 122 := by decide +kernel
 refine l _ h ?_
 rw [Str.cps_append, Array.toList_append, show ("z" : Str).cps.toList = [122] by decide +kernel]
 simp
theorem any_no {x : Str} : ((noN.map W.str).any fun w => eqW w (.str x)) = noN.contains x := by
 rw [List.any_map, List.contains_eq_any_beq]
 congr 1
 funext y
 simp only [Function.comp, eqW]
 exact Bool.beq_comm
section
variable {K : Frg} {sA : Addr}
theorem names_sem {n : Nat} (hn : 7 ≤ n) {ws : List W} {G : Hw} {Q : Q3} (h : spNames ws G Q XN) : semSs (Gam K sA n) XN b_law_names { nx := fun _ G' => Q .non G', rt := Q } (start3 n_law_names ws) G := by
 obtain ⟨d, l, m, rfl, D, m1, m4, h⟩ := h
 have e1 : (Gam K sA n).fn[1]? = some eLen := fnA 1 hn rfl
 have e6 : (Gam K sA n).fn[6]? = some eDraw := fnA 6 hn rfl
 have t1 : (Gam K sA n).mt[1]? = some eJoin := rfl
 have t2 : (Gam K sA n).mt[2]? = some eApp := rfl
 have i0 : (Gam K sA n).it[0]? = some eRng := rfl
 have z0 := sz 0 (by decide)
 have z4 := sz 4 (by decide)
 have q1 : ("q" : Str).length = 1 := by decide +kernel
 have q2 : allLt "q" = true := by decide +kernel
 have w1 : ("z" : Str).length = 1 := by decide +kernel
 have w2 : allLt "z" = true := by decide +kernel
 show semSs (Gam K sA n) XN b_law_names { nx := fun _ G' => Q .non G', rt := Q } [some (.ref d), some (.int m), none, none, none, none, none, none, none] G
 have go : ∀ (G1 : Hw) (p : Addr) (core : Str), core.length ≤ 4 → allLt core = true → G p = none → p ∉ [d, l] → Keep [d, l] G G1 → Deal G1 d l → G1 p = some (.lst []) →
   semSs (Gam K sA n) XN (tl (tl (tl b_law_names))) { nx := fun _ G' => Q .non G', rt := Q } [some (.ref d), some (.int m), some (.str abc), some (.ref p), some (.str core), none, none, none, none] G1 := by
  intro G1 p core hc hg hpn hp k1 D1 gp
  simp only [b_law_names, tl]
  refine stp ?_
  ((try dsimp only [semS, semE, semT, sem, mkE, mkB, blE, truE, semA, semO, semG, semGs, semI, semC, conW, intR, blR, negR, gZ, gS, tZ, tS]); try simp only [e1, e6, lenS, lenW, sz _ (show core.length ≤ 3000 by omega), if_true, binR])
  refine ⟨d, l, core.length + 1, rfl, D1, ⟨by omega, by omega⟩, fun at' G2 a0 a1 k2 D2 => ?_⟩
  have gp2 := k2 _ _ hp gp
  refine stp ?_
  ((try dsimp only [semS, semE, semT, sem, mkE, mkB, blE, truE, semA, semO, semG, semGs, semI, semC, conW, intR, blR, negR, gZ, gS, tZ, tS]); try simp only [e6])
  refine ⟨d, l, 26, rfl, D2, by decide, fun tn G3 tn0 tn1 k3 D3 => ?_⟩
  have gp3 := k3 _ _ hp gp2
  have kG := (k1.trans k2).trans k3
  refine stp ?_
  ((try dsimp only [semS, semE, semT, sem, mkE, mkB, blE, truE, semA, semO, semG, semGs, semI, semC, conW, intR, blR, negR, gZ, gS, tZ, tS]); try simp only [semI, i0])
  refine ⟨⟨by omega, by omega⟩, ?_⟩
  have len : ((List.range m.toNat).map fun i : Nat => W.int (i : Int)).length = m.toNat := by simp
  refine ⟨fun i σ G' => ∃ (xs : List Str) (v7 v8 : Option W), σ = [some (.ref d), some (.int m), some (.str abc), some (.ref p), some (.str core), some (.int at'), some (.int tn), v7, v8] ∧ G' p = some (.lst (xs.map .str)) ∧ xs.length = i ∧ (∀ x ∈ xs, nmB x = true ∧ x.length ≤ 5 ∧ allLt x = true) ∧ Keep [d, l] G G' ∧ Deal G' d l,
   ⟨[], none, none, rfl, gp3, rfl, by simp, kG, D3⟩, fun _ _ _ _ _ => trivial, ?_, ?_⟩
  ·rintro i w σ G' hw ⟨xs, v7, v8, rfl, gx, hl, hs, kp, D'⟩
   rw [List.getElem?_map] at hw
   obtain ⟨i', hi', rfl⟩ := Option.map_eq_some_iff.mp hw
   have him : i < m.toNat := by have := (List.getElem?_eq_some_iff.mp hi').1; simpa using this
   have hii : i' = i := by
    have := (List.getElem?_eq_some_iff.mp hi').2
    rw [List.getElem_range] at this
    exact this.symm
   subst hii
   have him : i' < 4 := by omega
   refine stp ?_
   (try dsimp only [semS, semE, semT, sem, mkE, mkB, blE, truE, semA, semO, semG, semGs, semI, semC, conW, intR, blR, negR, gZ, gS, tZ, tS])
   refine cut_two a0 (by omega) (by omega) hg fun y1 h1 s1 => ?_
   refine ⟨.inl ⟨by omega, by omega⟩, by decide, ?_⟩
   refine ixLet (Int.emod_nonneg _ (by decide)) (Int.emod_lt_of_pos _ (by decide)) fun y2 h2 s2 => ?_
   refine addS (by omega) (cut_two' a0 (by omega) (by omega) hg fun y3 h3 s3 => addS (by rw [Str.length_append]; omega) ?_)
   have hlen : ((y1 ++ y2) ++ y3).length ≤ 5 := by rw [Str.length_append, Str.length_append]; omega
   have hlen1 : 1 ≤ ((y1 ++ y2) ++ y3).length := by rw [Str.length_append, Str.length_append]; omega
   have hsg : allLt ((y1 ++ y2) ++ y3) = true := by rw [all_app, all_app, s1, s2, s3]; rfl
   generalize (y1 ++ y2) ++ y3 = nm at hlen hlen1 hsg ⊢
   refine stp ?_
   ((try dsimp only [semS, semE, semT, sem, mkE, mkB, blE, truE, semA, semO, semG, semGs, semI, semC, conW, intR, blR, negR, gZ, gS, tZ, tS]); try simp only [cmpR, memR, L3.inR, Bool.false_eq_true, if_false, List.length_cons, List.length_nil, Nat.zero_add, Nat.reduceAdd, z4, true_and])
   refine ⟨⟨by simp [pur], by simp [purs, pur], by simp [deps, dep]⟩, ?_⟩
   have app : ∀ x : Str, nmB x = true → x.length ≤ 5 → allLt x = true → tyW G' (.ref p) "list" ∧ appS (.ref p) [.str x] G' (fun _ G1 => ∃ (xs' : List Str) (v7 v8 : Option W), [some (W.ref d), some (.int m), some (.str abc), some (.ref p), some (.str core), some (.int at'), some (.int tn), some (.int i'), some (.str x)] = [some (.ref d), some (.int m), some (.str abc), some (.ref p), some (.str core), some (.int at'), some (.int tn), v7, v8] ∧ G1 p = some (.lst (xs'.map .str)) ∧ xs'.length = i' + 1 ∧ (∀ x ∈ xs', nmB x = true ∧ x.length ≤ 5 ∧ allLt x = true) ∧ Keep [d, l] G G1 ∧ Deal G1 d l) := by
    intro x hx hx5 hxs
    refine ⟨tyL gx, appL gx (by rw [List.length_map]; omega) ⟨xs ++ [x], _, _, rfl, by rw [put_same]; simp, by simp [hl], fun y hy => ?_, keep_at kp hpn, deal_at hp D'⟩⟩
    rcases List.mem_append.mp hy with hy | hy
    ·exact hs y hy
    ·rw [List.mem_singleton.mp hy]; exact ⟨hx, hx5, hxs⟩
   have en : ([W.str "and", .str "or", .str "not", .str "then"].any fun w => eqW w (.str nm)) = noN.contains nm := any_no
   rw [en]
   by_cases hno : nm ∈ noN
   ·rw [if_pos (by simpa using hno)]
    refine stp ?_
    (try dsimp only [semS, semE, semT, sem, mkE, mkB, blE, truE, semA, semO, semG, semGs, semI, semC, conW, intR, blR, negR, gZ, gS, tZ, tS])
    refine addS (by omega) ?_
    refine stn ?_
    refine stp ?_
    ((try dsimp only [semS, semE, semT, sem, mkE, mkB, blE, truE, semA, semO, semG, semGs, semI, semC, conW, intR, blR, negR, gZ, gS, tZ, tS]); try simp only [t2])
    have := no_len hno
    exact app _ (nm_of (by rw [Str.length_append]; omega) (by rw [Str.length_append]; omega) (by rw [all_app, hsg, q2]; rfl) (no_q hno)) (by rw [Str.length_append]; omega) (by rw [all_app, hsg, q2]; rfl)
   ·rw [if_neg (by simpa using hno)]
    refine stn ?_
    refine stp ?_
    ((try dsimp only [semS, semE, semT, sem, mkE, mkB, blE, truE, semA, semO, semG, semGs, semI, semC, conW, intR, blR, negR, gZ, gS, tZ, tS]); try simp only [t2])
    exact app _ (nm_of hlen1 (by omega) hsg hno) hlen hsg
  ·rintro σ G' ⟨xs, v7, v8, rfl, gx, hl, hs, kp, D'⟩
   rw [len] at hl
   obtain ⟨x, r, rfl⟩ : ∃ x r, xs = x :: r := by
    cases xs with
    | nil => simp at hl; omega
    | cons x r => exact ⟨x, r, rfl⟩
   have hlr : r.length + 1 = m.toNat := by simpa using hl
   have fin : ∀ (ys : List Str) (G2 : Hw), ys.length = m.toNat → (∀ y ∈ ys, nmB y = true) → Keep [d, l] G G2 → Deal G2 d l → G2 p = some (.lst (ys.map .str)) → ∀ v7 v8 : Option W, semSs (Gam K sA n) XN (.cons (.ret (.var 3)) .nil) { nx := fun _ G' => Q .non G', rt := Q } [some (.ref d), some (.int m), some (.str abc), some (.ref p), some (.str core), some (.int at'), some (.int tn), v7, v8] G2 := by
    intro ys G2 hy hs2 k4 D4 g4 v7 v8
    refine stp ?_
    (try dsimp only [semS, semE, semT, sem, mkE, mkB, blE, truE, semA, semO, semG, semGs, semI, semC, conW, intR, blR, negR, gZ, gS, tZ, tS])
    refine h p ys G2 ?_ (by omega) hs2 hp g4 k4 D4
    rintro rfl
    simp at hy
    omega
   refine stp ?_
   ((try dsimp only [semS, semE, semT, sem, mkE, mkB, blE, truE, semA, semO, semG, semGs, semI, semC, conW, intR, blR, negR, gZ, gS, tZ, tS]); try simp only [cmpR, ordR])
   by_cases hm : 1 < m
   ·rw [if_pos (by simpa using hm)]
    ((try dsimp only [semS, semE, semT, sem, mkE, mkB, blE, truE, semA, semO, semG, semGs, semI, semC, conW, intR, blR, negR, gZ, gS, tZ, tS]); try simp only [e6])
    refine ⟨d, l, 2, rfl, D', by decide, fun b G4 b0 b1 k4 D4 => ?_⟩
    have gx4 := k4 _ _ hp gx
    simp only [eqG_int]
    by_cases hb : b = 1
    ·rw [decide_eq_true hb, if_pos rfl]
     refine stp ?_
     (try dsimp only [semS, semE, semT, sem, mkE, mkB, blE, truE, semA, semO, semG, semGs, semI, semC, conW, intR, blR, negR, gZ, gS, tZ, tS])
     refine ixL (lstOf_lst gx4) ?_
     rw [List.map_cons, at_0]
     have hx := hs x (by simp)
     refine addS (by omega) ?_
     rw [List.map_cons] at gx4
     simp only [setR, gx4]
     have e0 : ixN (W.str x :: r.map W.str).length 0 = some 0 := by simp [ixN]
     rw [e0]
     refine stn ?_
     refine fin ((x ++ "z") :: r) _ (by simpa using hlr) (fun y hy => ?_) (keep_at (kp.trans k4) hpn) (deal_at hp D4) (by rw [put_same]; rfl) v7 v8
     rcases List.mem_cons.mp hy with rfl | hy
     ·exact nm_of (by rw [Str.length_append]; omega) (by rw [Str.length_append]; omega) (by rw [all_app, hx.2.2, w2]; rfl) no_z
     ·exact (hs y (List.mem_cons_of_mem _ hy)).1
    ·rw [decide_eq_false hb, if_neg Bool.false_ne_true]
     refine stn ?_
     exact fin (x :: r) _ hl (fun y hy => (hs y hy).1) (kp.trans k4) D4 gx4 v7 v8
   ·rw [if_neg (by simpa using hm), if_neg Bool.false_ne_true]
    refine stn ?_
    exact fin (x :: r) _ hl (fun y hy => (hs y hy).1) kp D' gx v7 v8
 simp only [b_law_names, tl] at go
 simp only [b_law_names]
 refine stp ?_
 (try dsimp only [semS, semE, semT, sem, mkE, mkB, blE, truE, semA, semO, semG, semGs, semI, semC, conW, intR, blR, negR, gZ, gS, tZ, tS])
 refine stp ?_
 ((try dsimp only [semS, semE, semT, sem, mkE, mkB, blE, truE, semA, semO, semG, semGs, semI, semC, conW, intR, blR, negR, gZ, gS, tZ, tS]); try simp only [List.length_nil, z0, true_and])
 intro p hp
 have hpd := off_of D hp
 have D1 := deal_new (o := .lst []) hp D
 have k1 : Keep [d, l] G (put G p (.lst [])) := Keep.new hp
 have gp : (put G p (.lst [])) p = some (.lst []) := put_same
 generalize put G p (.lst []) = G1 at D1 k1 gp ⊢
 refine stp ?_
 ((try dsimp only [semS, semE, semT, sem, mkE, mkB, blE, truE, semA, semO, semG, semGs, semI, semC, conW, intR, blR, negR, gZ, gS, tZ, tS]); try simp only [t1, e6, semI, semC, i0])
 refine ⟨rfl, d, l, 5, rfl, D1, by decide, fun j G2 j0 j5 k2 D2 => ?_⟩
 have gp2 := k2 _ _ hpd gp
 refine ⟨⟨by omega, by omega⟩, ?_⟩
 have len : ((List.range j.toNat).map fun i : Nat => W.int (i : Int)).length = j.toNat := by simp
 refine ⟨fun i acc G' => ∃ ts : List Str, acc = ts.map .str ∧ ts.length = i ∧ (∀ x ∈ ts, x.length ≤ 1 ∧ allLt x = true) ∧ Keep [d, l] G2 G' ∧ Deal G' d l, ⟨[], rfl, rfl, by simp, Keep.refl, D2⟩, ?_, by rw [len]; exact sz _ (by omega), ?_, ?_⟩
 ·rintro i acc G' ⟨ts, rfl, rfl, _, _, _⟩ _
  exact ⟨trivial, by simp⟩
 ·rintro i w acc G' hw ⟨ts, rfl, hl, hs, kp, D'⟩
  simp only [capS, List.length_cons, List.length_nil, List.replicate, List.map_cons, List.map_nil, List.cons_append, List.nil_append, List.append_nil]
  ((try dsimp only [semS, semE, semT, sem, mkE, mkB, blE, truE, semA, semO, semG, semGs, semI, semC, conW, intR, blR, negR, gZ, gS, tZ, tS]); try simp only [Option.join_some, if_true, e6])
  refine ⟨d, l, 26, rfl, D', by decide, fun r G'' r0 r1 kp' D'' => ixLet r0 r1 fun x hx sx => ?_⟩
  refine ⟨ts ++ [x], by simp, by simp [hl], fun y hy => ?_, kp.trans kp', D''⟩
  rcases List.mem_append.mp hy with hy | hy
  ·exact hs y hy
  ·rw [List.mem_singleton.mp hy, hx]; exact ⟨Nat.le_refl _, sx⟩
 ·rintro acc G' ⟨ts, rfl, hl, hs, kp, D'⟩ r hr
  have hl4 : ts.length ≤ 4 := by rw [hl, len]; omega
  obtain ⟨jo, jl, js⟩ := join_len (fun x hx => (hs x hx).1) (fun x hx => (hs x hx).2) hl4
  refine ⟨ts, lstOf_lst put_same, jo, ?_⟩
  have k3 : Keep [d, l] G' (put G' r (.lst (ts.map .str))) := Keep.new hr
  exact go _ p _ jl js hp hpd (((k1.trans k2).trans kp).trans k3) (deal_new hr D') (k3 _ _ hpd (kp _ _ hpd gp2))
end
end K11
set_option Elab.async false
set_option linter.all false
set_option maxRecDepth 100000
set_option maxHeartbeats 8000000
namespace K11
open PySem PySem.Spec PyProof.Rows L2 L3
theorem str_at {xs : List Str} {i : Int} (h0 : 0 ≤ i) (h1 : i < xs.length) : ∃ x ∈ xs, atI (xs.map W.str) i = some (.str x) := by
 obtain ⟨w, hw, e⟩ := at_nat (l := xs.map W.str) h0 (by rw [List.length_map]; exact h1)
 obtain ⟨x, hx, rfl⟩ := List.mem_map.mp hw
 exact ⟨x, hx, e⟩
section
variable {K : Frg} {sA : Addr}
theorem large_sem {n : Nat} {ws : List W} {G : Hw} {Q : Q3} (h : spLarge (n + 1) ws G Q XN) : semSs (GamR K sA 8 ⟨"_law_large", spLarge n⟩) XN b_law_large { nx := fun _ G' => Q .non G', rt := Q } (start3 n_law_large ws) G := by
 obtain ⟨d, l, r, m, e, xs, rfl, D, hr, gr, hx, hxl, hnm, m1, m40, e0, en, h⟩ := h
 have e1 : (GamR K sA 8 ⟨"_law_large", spLarge n⟩).fn[1]? = some eLen := rfl
 have e6 : (GamR K sA 8 ⟨"_law_large", spLarge n⟩).fn[6]? = some eDraw := rfl
 have e8 : (GamR K sA 8 ⟨"_law_large", spLarge n⟩).fn[8]? = some ⟨"_law_large", spLarge n⟩ := rfl
 have z2 := sz 2 (by decide)
 have z3 := sz 3 (by decide)
 have x0 : 0 < xs.length := List.length_pos_iff.mpr hx
 show semSs (GamR K sA 8 ⟨"_law_large", spLarge n⟩) XN b_law_large { nx := fun _ G' => Q .non G', rt := Q } [some (.ref d), some (.ref r), some (.int m), some (.int e), none, none, none, none] G
 simp only [b_law_large]
 refine stp ?_
 ((try dsimp only [semS, semE, semT, sem, mkE, mkB, blE, truE, semA, semO, semG, semGs, semI, semC, conW, intR, blR, negR, gZ, gS, tZ, tS]); try simp only [cmpR, eqG_int])
 have say : semSs (GamR K sA 8 ⟨"_law_large", spLarge n⟩) XN (.cons (.ret (.tup (.cons (.con (.str "say")) (.cons (.ix (.var 1) (.call 6 (.cons (.var 0) (.cons (.call 1 (.cons (.var 1) .nil)) .nil)))) .nil)))) .nil) { nx := fun _ G' => Q .non G', rt := Q } [some (.ref d), some (.ref r), some (.int m), some (.int e), none, none, none, none] G := by
  refine stp ?_
  ((try dsimp only [semS, semE, semT, sem, mkE, mkB, blE, truE, semA, semO, semG, semGs, semI, semC, conW, intR, blR, negR, gZ, gS, tZ, tS]); try simp only [e1, e6, lenS, lenW, gr, List.length_map])
  refine ⟨d, l, xs.length, rfl, D, ⟨by omega, by omega⟩, fun i G1 i0 i1 kp D1 => ?_⟩
  obtain ⟨x, hxm, ex⟩ := str_at i0 i1
  refine ixL (lstOf_lst (kp _ _ hr gr)) ?_
  rw [ex]
  exact ⟨z2, h (.say x) G1 (hnm x hxm) (by show ((1 : Nat) : Int) ≤ m; omega) (by show ((0 : Nat) : Int) ≤ e; omega) kp D1⟩
 by_cases hm1 : m = 1
 ·rw [decide_eq_true hm1, if_pos rfl, if_pos trivial]
  exact say
 rw [decide_eq_false hm1, if_neg Bool.false_ne_true]
 by_cases he0 : e = 0
 ·rw [decide_eq_true he0, if_pos rfl]
  exact say
 rw [decide_eq_false he0, if_neg Bool.false_ne_true]
 refine stn ?_
 refine stp ?_
 ((try dsimp only [semS, semE, semT, sem, mkE, mkB, blE, truE, semA, semO, semG, semGs, semI, semC, conW, intR, blR, negR, gZ, gS, tZ, tS]); try simp only [e6])
 refine ⟨d, l, 5, rfl, D, by decide, fun way G1 w0 w1 kp1 D1 => ?_⟩
 have gr1 := kp1 _ _ hr gr
 refine stp ?_
 ((try dsimp only [semS, semE, semT, sem, mkE, mkB, blE, truE, semA, semO, semG, semGs, semI, semC, conW, intR, blR, negR, gZ, gS, tZ, tS]); try simp only [cmpR, eqG_int])
 have hnot : semSs (GamR K sA 8 ⟨"_law_large", spLarge n⟩) XN (.cons (.ret (.tup (.cons (.con (.str "not")) (.cons (.call 8 (.cons (.var 0) (.cons (.var 1) (.cons (.bin .Sub (.var 2) (.con (.int 1))) (.cons (.bin .Sub (.var 3) (.con (.int 1))) .nil))))) .nil)))) .nil) { nx := fun _ G' => Q .non G', rt := Q } [some (.ref d), some (.ref r), some (.int m), some (.int e), some (.int way), none, none, none] G1 := by
  refine stp ?_
  ((try dsimp only [semS, semE, semT, sem, mkE, mkB, blE, truE, semA, semO, semG, semGs, semI, semC, conW, intR, blR, negR, gZ, gS, tZ, tS]); try simp only [binR, e8])
  refine ⟨d, l, r, m - 1, e - 1, xs, rfl, D1, hr, gr1, hx, hxl, hnm, by omega, by omega, by omega, by omega, fun t G2 ht hs hd kp2 D2 => ⟨z2, h (.neg t) G2 ht ?_ ?_ (kp1.trans kp2) D2⟩⟩
  ·show ((t.size + 1 : Nat) : Int) ≤ m
   omega
  ·show ((t.deep + 1 : Nat) : Int) ≤ e
   omega
 by_cases hm2 : m = 2
 ·rw [decide_eq_true hm2, if_pos rfl, if_pos trivial]
  exact hnot
 rw [decide_eq_false hm2, if_neg Bool.false_ne_true]
 by_cases hw : way = 3
 ·rw [decide_eq_true hw, if_pos rfl]
  exact hnot
 rw [decide_eq_false hw, if_neg Bool.false_ne_true]
 refine stn ?_
 refine stp ?_
 ((try dsimp only [semS, semE, semT, sem, mkE, mkB, blE, truE, semA, semO, semG, semGs, semI, semC, conW, intR, blR, negR, gZ, gS, tZ, tS]); try simp only [e6, binR])
 refine ⟨d, l, m - 2, rfl, D1, ⟨by omega, by omega⟩, fun i G2 i0 i1 kp2 D2 => ?_⟩
 have gr2 := kp2 _ _ hr gr1
 refine stp ?_
 ((try dsimp only [semS, semE, semT, sem, mkE, mkB, blE, truE, semA, semO, semG, semGs, semI, semC, conW, intR, blR, negR, gZ, gS, tZ, tS]); try simp only [cmpR, eqG_int])
 have rest : ∀ f : Int, 1 ≤ f → f ≤ m - 2 → semSs (GamR K sA 8 ⟨"_law_large", spLarge n⟩) XN (tl (tl (tl (tl (tl b_law_large))))) { nx := fun _ G' => Q .non G', rt := Q } [some (.ref d), some (.ref r), some (.int m), some (.int e), some (.int way), some (.int f), none, none] G2 := by
  intro f f1 f2
  simp only [b_law_large, tl]
  refine stp ?_
  ((try dsimp only [semS, semE, semT, sem, mkE, mkB, blE, truE, semA, semO, semG, semGs, semI, semC, conW, intR, blR, negR, gZ, gS, tZ, tS]); try simp only [binR, e8])
  refine ⟨d, l, r, f, e - 1, xs, rfl, D2, hr, gr2, hx, hxl, hnm, by omega, by omega, by omega, by omega, fun a G3 oa sa da kp3 D3 => ?_⟩
  have gr3 := kp3 _ _ hr gr2
  refine stp ?_
  ((try dsimp only [semS, semE, semT, sem, mkE, mkB, blE, truE, semA, semO, semG, semGs, semI, semC, conW, intR, blR, negR, gZ, gS, tZ, tS]); try simp only [e6, List.length_cons, List.length_nil, Nat.zero_add, Nat.reduceAdd, z3, true_and])
  intro p hp
  have D4 := deal_new (o := .lst [.str "and", .str "or", .str "if"]) hp D3
  have k4 : Keep [d, l] G3 (put G3 p (.lst [.str "and", .str "or", .str "if"])) := Keep.new hp
  have gp : (put G3 p (.lst [.str "and", .str "or", .str "if"])) p = some (.lst [.str "and", .str "or", .str "if"]) := put_same
  have gr4 := k4 _ _ hr gr3
  have hpd := off_of D3 hp
  generalize put G3 p (.lst [.str "and", .str "or", .str "if"]) = G4 at D4 k4 gp gr4 ⊢
  refine ⟨d, l, 3, rfl, D4, by decide, fun k G5 k0 k3 kp5 D5 => ?_⟩
  have gr5 := kp5 _ _ hr gr4
  have gp5 := kp5 _ _ hpd gp
  have kp' := (((kp1.trans kp2).trans kp3).trans k4).trans kp5
  refine ixL (lstOf_lst gp5) ?_
  have fin : ∀ j : Nat, semSs (GamR K sA 8 ⟨"_law_large", spLarge n⟩) XN (tl (tl (tl (tl (tl (tl (tl b_law_large))))))) { nx := fun _ G' => Q .non G', rt := Q } [some (.ref d), some (.ref r), some (.int m), some (.int e), some (.int way), some (.int f), some a.w, some (.str (kw j))] G5 := by
   intro j
   simp only [b_law_large, tl]
   refine stp ?_
   ((try dsimp only [semS, semE, semT, sem, mkE, mkB, blE, truE, semA, semO, semG, semGs, semI, semC, conW, intR, blR, negR, gZ, gS, tZ, tS]); try simp only [binR, e8])
   refine ⟨d, l, r, m - 1 - f, e - 1, xs, rfl, D5, hr, gr5, hx, hxl, hnm, by omega, by omega, by omega, by omega, fun b G6 ob sb db kp6 D6 => ⟨z3, h (.two j a b) G6 ⟨oa, ob⟩ ?_ ?_ (kp'.trans kp6) D6⟩⟩
   ·show ((a.size + b.size + 1 : Nat) : Int) ≤ m
    omega
   ·show ((max a.deep b.deep + 1 : Nat) : Int) ≤ e
    omega
  simp only [b_law_large, tl] at fin
  have hc : k = 0 ∨ k = 1 ∨ k = 2 := by omega
  rcases hc with rfl | rfl | rfl
  ·rw [at_0]; exact fin 0
  ·rw [at_1]; exact fin 1
  ·rw [at_2]; exact fin 2
 simp only [b_law_large, tl] at rest
 by_cases h4 : way = 4
 ·rw [decide_eq_true h4, if_pos rfl]
  refine stp ?_
  ((try dsimp only [semS, semE, semT, sem, mkE, mkB, blE, truE, semA, semO, semG, semGs, semI, semC, conW, intR, blR, negR, gZ, gS, tZ, tS]); try simp only [binR])
  refine ⟨⟨by decide, by decide⟩, ?_⟩
  exact rest _ (by show 1 ≤ (m - 1) / 2; omega) (by show (m - 1) / 2 ≤ m - 2; omega)
 ·rw [decide_eq_false h4, if_neg Bool.false_ne_true]
  refine stn ?_
  exact rest _ (by omega) (by omega)
end
end K11
set_option Elab.async false
set_option linter.all false
set_option maxRecDepth 100000
set_option maxHeartbeats 8000000
namespace K11
open PySem PySem.Spec PyProof.Rows L2 L3
theorem cut_1 {x : W} {r : List W} : cut (x :: r) (some 1) none = r := by
 have e1 : HT.sIx (x :: r).length 0 (some 1) = 1 := by
  simp [HT.sIx]
 have e2 : HT.sIx (x :: r).length (x :: r).length none = r.length + 1 := by
  simp [HT.sIx]
 unfold cut
 rw [e1, e2]
 simp
theorem pres_app (a b : List Sy) : pres (a ++ b) = pres a ++ pres b := by simp [pres]
theorem pres_one (a : Sy) : pres [a] = pre a := by simp [pres]
noncomputable def sums (ts : List Sy) : Nat := (pres ts).length
theorem sums_app (a b : List Sy) : sums (a ++ b) = sums a + sums b := by simp [sums, pres_app]
theorem sums_len : ∀ ts : List Sy, ts.length ≤ sums ts
 | [] => Nat.zero_le _
 | t :: ts => by
  have h1 := t.pos
  have h2 := sums_len ts
  have e : sums (t :: ts) = (pre t).length + sums ts := by simp [sums, pres]
  rw [e, pre_len, List.length_cons]; omega
theorem sums_kids (t : Sy) : sums (kids t) + 1 = t.size := by
 have := pre_len t
 rw [pre_kids] at this
 simpa [sums] using this
theorem addL {G : Hw} {p q : Addr} {xs ys : List W} {Q : Q3} (hp : G p = some (.lst xs)) (hq : G q = some (.lst ys)) (hl : xs.length + ys.length ≤ 3000) (h : ∀ r, G r = none → Q (.ref r) (put G r (.lst (xs ++ ys)))) : binR .Add (.ref p) (.ref q) G Q := by
 simp only [binR, hp, hq]
 exact ⟨sz _ hl, h⟩
section
variable {K : Frg} {sA : Addr}
theorem sides_sem {Γ : Ctx3} {ws : List W} {G : Hw} {Q : Q3} (h : spSides ws G Q XN) : semSs Γ XN bsides_of { nx := fun _ G' => Q .non G', rt := Q } (start3 nsides_of ws) G := by
 obtain ⟨t, rfl, h⟩ := h
 have z0 := sz 0 (by decide)
 show semSs Γ XN bsides_of { nx := fun _ G' => Q .non G', rt := Q } [some t.w] G
 simp only [bsides_of]
 refine stp ?_
 cases t with
 | say x =>
  ((try dsimp only [semS, semE, semT, sem, mkE, mkB, blE, truE, semA, semO, semG, semGs, semI, semC, conW, intR, blR, negR, gZ, gS, tZ, tS]); try simp only [Sy.w, ixR, at_0, cmpR, eqG_beq, List.length_nil, z0, true_and, beq_self_eq_true, if_true])
  exact h
 | neg a =>
  have e : (("not" : Str) == "say") = false := by decide +kernel
  ((try dsimp only [semS, semE, semT, sem, mkE, mkB, blE, truE, semA, semO, semG, semGs, semI, semC, conW, intR, blR, negR, gZ, gS, tZ, tS]); try simp only [Sy.w, ixR, at_0, cmpR, eqG_beq, e, Bool.false_eq_true, if_false, slR, cut_1])
  exact h
 | two k a b =>
  ((try dsimp only [semS, semE, semT, sem, mkE, mkB, blE, truE, semA, semO, semG, semGs, semI, semC, conW, intR, blR, negR, gZ, gS, tZ, tS]); try simp only [Sy.w, ixR, at_0, cmpR, eqG_beq, (kw_not k).1, Bool.false_eq_true, if_false, slR, cut_1])
  exact h
theorem all_sem {n : Nat} {ws : List W} {G : Hw} {Q : Q3} (h : spAll (n + 1) ws G Q XN) : semSs (GamR K sA 9 ⟨"_law_all", spAll n⟩) XN b_law_all { nx := fun _ G' => Q .non G', rt := Q } (start3 n_law_all ws) G := by
 obtain ⟨t, rfl, ts, td, h⟩ := h
 have e9 : (GamR K sA 9 ⟨"_law_all", spAll n⟩).fn[9]? = some ⟨"_law_all", spAll n⟩ := rfl
 have z1 := sz 1 (by decide)
 show semSs (GamR K sA 9 ⟨"_law_all", spAll n⟩) XN b_law_all { nx := fun _ G' => Q .non G', rt := Q } [some t.w, none, none] G
 simp only [b_law_all]
 refine stp ?_
 ((try dsimp only [semS, semE, semT, sem, mkE, mkB, blE, truE, semA, semO, semG, semGs, semI, semC, conW, intR, blR, negR, gZ, gS, tZ, tS]); try simp only [List.length_cons, List.length_nil, Nat.zero_add, z1, true_and])
 intro f0 hf0
 have k0 : Keep [] G (put G f0 (.lst [t.w])) := Keep.new hf0
 have g0 : (put G f0 (.lst [t.w])) f0 = some (.lst [t.w]) := put_same
 generalize put G f0 (.lst [t.w]) = G1 at k0 g0 ⊢
 have fin : ∀ (G' : Hw) (f : Addr) (v : Option W), Keep [] G G' → G f = none → G' f = some (.lst ((pre t).map Sy.w)) → semSs (GamR K sA 9 ⟨"_law_all", spAll n⟩) XN (.cons (.ret (.var 1)) .nil) { nx := fun _ G' => Q .non G', rt := Q } [some t.w, some (.ref f), v] G' := by
  intro G' f v kp hf gf
  refine stp ?_
  (try dsimp only [semS, semE, semT, sem, mkE, mkB, blE, truE, semA, semO, semG, semGs, semI, semC, conW, intR, blR, negR, gZ, gS, tZ, tS])
  exact h f G' kp hf gf
 have loop : ∀ D : End3, (∀ (G' : Hw) (f : Addr) (v : Option W), Keep [] G G' → G f = none → G' f = some (.lst ((pre t).map Sy.w)) → D.nx [some t.w, some (.ref f), v] G') → (∀ k ∈ kids t, k.size ≤ 40 ∧ k.deep < n) →
   forR ((kids t).map Sy.w) (fun _ => True) D [some t.w, some (.ref f0), none] G1 (fun w D' σ' G' => semG (.nm 2) w σ' G' fun σ2 G2 => semSs (GamR K sA 9 ⟨"_law_all", spAll n⟩) XN (.cons (.asg 1 (.bin .Add (.var 1) (.call 9 (.cons (.var 2) .nil)))) .nil) D' σ2 G2) := by
  intro D hD hk
  refine ⟨fun i σ G' => ∃ (f : Addr) (v : Option W), σ = [some t.w, some (.ref f), v] ∧ Keep [] G G' ∧ G f = none ∧ G' f = some (.lst ((t :: pres ((kids t).take i)).map Sy.w)), ⟨f0, none, rfl, k0, hf0, by simpa [pres] using g0⟩, fun _ _ _ _ _ => trivial, ?_, ?_⟩
  ·rintro i w σ G' hw ⟨f, v, rfl, kp, hf, gf⟩
   rw [List.getElem?_map] at hw
   obtain ⟨k, hki, rfl⟩ := Option.map_eq_some_iff.mp hw
   obtain ⟨o1, o2⟩ := hk k (List.mem_of_getElem? hki)
   have hi : i < (kids t).length := (List.getElem?_eq_some_iff.mp hki).1
   have ek : (kids t)[i] = k := (List.getElem?_eq_some_iff.mp hki).2
   have et : (kids t).take (i + 1) = (kids t).take i ++ [k] := by rw [List.take_succ_eq_append_getElem hi, ek]
   refine stp ?_
   ((try dsimp only [semS, semE, semT, sem, mkE, mkB, blE, truE, semA, semO, semG, semGs, semI, semC, conW, intR, blR, negR, gZ, gS, tZ, tS]); try simp only [e9])
   refine ⟨k, rfl, o1, o2, fun r G2 k2 hr gr => ?_⟩
   have gf2 := k2 _ _ (by simp) gf
   have hln : (t :: pres ((kids t).take (i + 1))).length ≤ t.size := by
    rw [← pre_len t, pre_kids t, List.length_cons, List.length_cons]
    have : pres (kids t) = pres ((kids t).take (i + 1)) ++ pres ((kids t).drop (i + 1)) := by rw [← pres_app, List.take_append_drop]
    rw [this, List.length_append]; omega
   rw [et, pres_app, pres_one, List.length_cons, List.length_append] at hln
   refine addL gf2 gr (by rw [List.length_map, List.length_map, List.length_cons]; omega) fun r' hr' => ?_
   refine ⟨r', _, rfl, (kp.trans k2).trans (Keep.new hr'), (kp.trans k2).none (by simp) hr', ?_⟩
   rw [put_same, et, pres_app, pres_one, ← List.map_append]
   rfl
  ·rintro σ G' ⟨f, v, rfl, kp, hf, gf⟩
   rw [List.length_map, List.take_length, ← pre_kids] at gf
   exact hD G' f v kp hf gf
 refine stp ?_
 cases t with
 | say x =>
  ((try dsimp only [semS, semE, semT, sem, mkE, mkB, blE, truE, semA, semO, semG, semGs, semI, semC, conW, intR, blR, negR, gZ, gS, tZ, tS]); try simp only [Sy.w, ixR, at_0, cmpR, eqG_beq, beq_self_eq_true, Bool.not_true, Bool.false_eq_true, if_false])
  refine stn ?_
  exact fin G1 f0 none k0 hf0 g0
 | neg a =>
  have e' : (("not" : Str) == "say") = false := by decide +kernel
  simp only [Sy.size, Sy.deep] at ts td
  ((try dsimp only [semS, semE, semT, sem, mkE, mkB, blE, truE, semA, semO, semG, semGs, semI, semC, conW, intR, blR, negR, gZ, gS, tZ, tS]); try simp only [Sy.w, ixR, at_0, cmpR, eqG_beq, e', Bool.not_false, if_true])
  refine stp ?_
  ((try dsimp only [semS, semE, semT, sem, mkE, mkB, blE, truE, semA, semO, semG, semGs, semI, semC, conW, intR, blR, negR, gZ, gS, tZ, tS]); try simp only [semI, slR, cut_1, iterW])
  exact loop _ (fun G' f v a b c => fin G' f v a b c) (fun k hk => by rw [List.mem_singleton.mp hk]; exact ⟨by omega, by omega⟩)
 | two j a b =>
  simp only [Sy.size, Sy.deep] at ts td
  ((try dsimp only [semS, semE, semT, sem, mkE, mkB, blE, truE, semA, semO, semG, semGs, semI, semC, conW, intR, blR, negR, gZ, gS, tZ, tS]); try simp only [Sy.w, ixR, at_0, cmpR, eqG_beq, (kw_not j).1, Bool.not_false, if_true])
  refine stp ?_
  ((try dsimp only [semS, semE, semT, sem, mkE, mkB, blE, truE, semA, semO, semG, semGs, semI, semC, conW, intR, blR, negR, gZ, gS, tZ, tS]); try simp only [semI, slR, cut_1, iterW])
  exact loop _ (fun G' f v a b c => fin G' f v a b c) (fun k hk => by
   rcases List.mem_cons.mp hk with rfl | hk
   ·exact ⟨by omega, by omega⟩
   ·rw [List.mem_singleton.mp hk]; exact ⟨by omega, by omega⟩)
theorem within_sem {n : Nat} {ws : List W} {G : Hw} {Q : Q3} (h : spWithin sA ws G Q XN) : semSs (Gam K sA n) XN ball_within { nx := fun _ G' => Q .non G', rt := Q } (start3 nall_within ws) G := by
 obtain ⟨t, rfl, ts, h⟩ := h
 have t0 : (Gam K sA n).mt[0]? = some ePop := rfl
 have t2 : (Gam K sA n).mt[2]? = some eApp := rfl
 have t3 : (Gam K sA n).mt[3]? = some eExt := rfl
 have s1 : (Gam K sA n).sx[1]? = some ⟨rvM, rvS⟩ := rfl
 have s3 : (Gam K sA n).sx[3]? = some ⟨hcM "sides_of", hcS sA spSides⟩ := rfl
 have z0 := sz 0 (by decide)
 have z1 := sz 1 (by decide)
 show semSs (Gam K sA n) XN ball_within { nx := fun _ G' => Q .non G', rt := Q } [some t.w, some (.ref sA), none, none, none] G
 simp only [ball_within]
 refine stp ?_
 ((try dsimp only [semS, semE, semT, sem, mkE, mkB, blE, truE, semA, semO, semG, semGs, semI, semC, conW, intR, blR, negR, gZ, gS, tZ, tS]); try simp only [List.length_nil, z0, true_and])
 intro pf hf
 have kf : Keep [] G (put G pf (.lst [])) := Keep.new hf
 have gf : (put G pf (.lst [])) pf = some (.lst []) := put_same
 generalize put G pf (.lst []) = G1 at kf gf ⊢
 refine stp ?_
 ((try dsimp only [semS, semE, semT, sem, mkE, mkB, blE, truE, semA, semO, semG, semGs, semI, semC, conW, intR, blR, negR, gZ, gS, tZ, tS]); try simp only [List.length_cons, List.length_nil, Nat.zero_add, z1, true_and])
 intro pw hw
 have kw' : Keep [] G1 (put G1 pw (.lst [t.w])) := Keep.new hw
 have gw : (put G1 pw (.lst [t.w])) pw = some (.lst [t.w]) := put_same
 have gf := kw' _ _ (by simp) gf
 have ne : pf ≠ pw := fun e => by rw [e, gw] at gf; cases gf
 have hw0 : G pw = none := kf.none (by simp) hw
 have k2 : Keep [] G (put G1 pw (.lst [t.w])) := kf.trans kw'
 generalize put G1 pw (.lst [t.w]) = G2 at k2 gw gf ⊢
 refine stp ?_
 refine ⟨fun m σ G' => ∃ (fs st : List Sy) (v : Option W), σ = [some t.w, some (.ref sA), some (.ref pf), some (.ref pw), v] ∧ G' pf = some (.lst (fs.map Sy.w)) ∧ G' pw = some (.lst (st.map Sy.w)) ∧ Keep [] G G' ∧ fs ++ pres st.reverse = pre t ∧ sums st = m, ⟨_, [], [t], none, rfl, gf, gw, k2, by simp [pres], rfl⟩, ?_⟩
 rintro m σ G' ⟨fs, st, v, rfl, gf', gw', kp, hp, rfl⟩
 have hln : fs.length + sums st = t.size := by
  have := congrArg List.length hp
  rw [List.length_append, pre_len] at this
  have e : (pres st.reverse).length = sums st := by
   clear this hp gw' gf'
   induction st with
   | nil => rfl
   | cons a st ih =>
    rw [List.reverse_cons, pres_app, List.length_append, ih, pres_one]
    simp [sums, pres]; omega
  omega
 ((try dsimp only [semS, semE, semT, sem, mkE, mkB, blE, truE, semA, semO, semG, semGs, semI, semC, conW, intR, blR, negR, gZ, gS, tZ, tS]); try simp only [truW, gw'])
 by_cases hst : st = []
 ·subst hst
  simp only [List.map_nil, List.isEmpty_nil, Bool.not_true, Bool.false_eq_true, if_false]
  refine stp ?_
  (try dsimp only [semS, semE, semT, sem, mkE, mkB, blE, truE, semA, semO, semG, semGs, semI, semC, conW, intR, blR, negR, gZ, gS, tZ, tS])
  have e : fs = pre t := by simpa [pres] using hp
  rw [e] at gf'
  exact h pf G' kp hf gf'
 ·obtain ⟨ini, x, rfl⟩ : ∃ ini x, st = ini ++ [x] := ⟨st.dropLast, st.getLast hst, (List.dropLast_concat_getLast hst).symm⟩
  have he : ((ini ++ [x]).map Sy.w).isEmpty = false := by simp
  simp only [he, Bool.not_false, if_true]
  rw [List.map_append, List.map_cons, List.map_nil] at gw'
  have hgx : (ini.map Sy.w ++ [x.w])[(ini.map Sy.w ++ [x.w]).length - 1]? = some x.w := by simp
  rw [sums_app, show sums [x] = x.size by simp [sums, pres, pre_len]] at hln
  have l1 := sums_len ini
  have l2 := sums_kids x
  have l3 := sums_len (kids x)
  refine stp ?_
  ((try dsimp only [semS, semE, semT, sem, mkE, mkB, blE, truE, semA, semO, semG, semGs, semI, semC, conW, intR, blR, negR, gZ, gS, tZ, tS]); try simp only [t0])
  refine ⟨tyL gw', ?_⟩
  simp only [popS, gw', hgx, List.dropLast_concat]
  have k3 : Keep [] G (put G' pw (.lst (ini.map Sy.w))) := keep_at kp hw0
  have gw3 : (put G' pw (.lst (ini.map Sy.w))) pw = some (.lst (ini.map Sy.w)) := put_same
  have gf3 : (put G' pw (.lst (ini.map Sy.w))) pf = some (.lst (fs.map Sy.w)) := by rw [put_ne ne]; exact gf'
  generalize put G' pw (.lst (ini.map Sy.w)) = G3 at k3 gw3 gf3 ⊢
  refine stp ?_
  ((try dsimp only [semS, semE, semT, sem, mkE, mkB, blE, truE, semA, semO, semG, semGs, semI, semC, conW, intR, blR, negR, gZ, gS, tZ, tS]); try simp only [t2])
  refine ⟨tyL gf3, appL gf3 (by rw [List.length_map]; omega) ?_⟩
  have k4 : Keep [] G (put G3 pf (.lst (fs.map Sy.w ++ [x.w]))) := keep_at k3 hf
  have gf4 : (put G3 pf (.lst (fs.map Sy.w ++ [x.w]))) pf = some (.lst (fs.map Sy.w ++ [x.w])) := put_same
  have gw4 : (put G3 pf (.lst (fs.map Sy.w ++ [x.w]))) pw = some (.lst (ini.map Sy.w)) := by rw [put_ne (Ne.symm ne)]; exact gw3
  generalize put G3 pf (.lst (fs.map Sy.w ++ [x.w])) = G4 at k4 gf4 gw4 ⊢
  refine stp ?_
  ((try dsimp only [semS, semE, semT, sem, mkE, mkB, blE, truE, semA, semO, semG, semGs, semI, semC, conW, intR, blR, negR, gZ, gS, tZ, tS]); try simp only [t3, s1, s3])
  refine ⟨tyL gw4, ?_⟩
  refine ⟨rfl, x, rfl, ?_⟩
  simp only [rvS, extS, gw4]
  refine ⟨sz _ (by rw [List.length_map, List.length_reverse, List.length_map]; omega), ?_⟩
  refine stn ?_
  refine ⟨sums (ini ++ (kids x).reverse), ?_, fs ++ [x], ini ++ (kids x).reverse, _, rfl, ?_, ?_, keep_at k4 hw0, ?_, rfl⟩
  ·have e : sums (kids x).reverse = sums (kids x) := by cases x <;> simp [kids, sums, pres] <;> omega
   rw [sums_app, sums_app, e, show sums [x] = x.size by simp [sums, pres, pre_len]]
   omega
  ·rw [put_ne ne, gf4]; simp
  ·rw [put_same, List.map_append, List.map_reverse]
  ·rw [← hp, List.reverse_append, List.reverse_reverse, List.reverse_append, List.reverse_singleton, pres_app, pres_app, pres_one, pre_kids x]
   simp
end
end K11
set_option Elab.async false
set_option linter.all false
set_option maxRecDepth 100000
set_option maxHeartbeats 8000000
namespace K11
open PySem PySem.Spec PyProof.Rows L2 L3
theorem ll_irr : ∀ a : List Nat, ¬ a < a
 | [], h => by simp at h
 | x :: a, h => by
  rcases List.cons_lt_cons_iff.mp h with h | h
  ·omega
  ·exact ll_irr a h.2
theorem ll_tr : ∀ {a b c : List Nat}, a < b → b < c → a < c
 | [], b, [], _, h => by simp at h
 | [], b, z :: c, _, _ => by simp
 | x :: a, [], c, h, _ => by simp at h
 | x :: a, y :: b, [], _, h => by simp at h
 | x :: a, y :: b, z :: c, h, h' => by
  rw [List.cons_lt_cons_iff] at h h' ⊢
  rcases h with h | ⟨rfl, h⟩
  ·rcases h' with h' | ⟨rfl, _⟩
   ·exact .inl (by omega)
   ·exact .inl h
  ·rcases h' with h' | ⟨rfl, h'⟩
   ·exact .inl h'
   ·exact .inr ⟨rfl, ll_tr h h'⟩
theorem ll_tot : ∀ (a b : List Nat), ¬ b < a → a ≠ b → a < b
 | [], [], _, h => absurd rfl h
 | [], y :: b, _, _ => by simp
 | x :: a, [], h, _ => absurd (by simp) h
 | x :: a, y :: b, h, n => by
  rw [List.cons_lt_cons_iff] at h ⊢
  by_cases e : x = y
  ·subst e
   refine .inr ⟨rfl, ll_tot a b (fun z => h (.inr ⟨rfl, z⟩)) fun z => n (by rw [z])⟩
  ·exact .inl (by omega)
theorem str_eq {a b : Str} (h : a.cps.toList = b.cps.toList) : a = b := by
 obtain ⟨a⟩ := a
 obtain ⟨b⟩ := b
 rw [show a = b from Array.toList_inj.mp h]
theorem s_lt {p y : Str} (h : ltCps y.cps.toList p.cps.toList = false) (n : p ≠ y) : p.cps.toList < y.cps.toList := by
 rw [ltCps_eq] at h
 exact ll_tot _ _ (of_decide_eq_false h) fun e => n (str_eq e)
theorem rs_one : ∀ {a b : List Str}, a.Pairwise (fun x y => x.cps.toList < y.cps.toList) → b.Pairwise (fun x y => x.cps.toList < y.cps.toList) → (∀ x, x ∈ a ↔ x ∈ b) → a = b
 | [], [], _, _, _ => rfl
 | [], y :: b, _, _, h => absurd ((h y).mpr List.mem_cons_self) (by simp)
 | x :: a, [], _, _, h => absurd ((h x).mp List.mem_cons_self) (by simp)
 | x :: a, y :: b, ha, hb, h => by
  obtain ⟨ha1, ha2⟩ := List.pairwise_cons.mp ha
  obtain ⟨hb1, hb2⟩ := List.pairwise_cons.mp hb
  have e : x = y := by
   rcases List.mem_cons.mp ((h x).mp List.mem_cons_self) with e | h1
   ·exact e
   ·rcases List.mem_cons.mp ((h y).mpr List.mem_cons_self) with e | h2
    ·exact e.symm
    ·exact absurd (ll_tr (ha1 y h2) (hb1 x h1)) (ll_irr _)
  subst e
  rw [rs_one ha2 hb2 fun z => ?_]
  constructor
  ·intro hz
   rcases List.mem_cons.mp ((h z).mp (List.mem_cons_of_mem _ hz)) with rfl | h1
   ·exact absurd (ha1 z hz) (ll_irr _)
   ·exact h1
  ·intro hz
   rcases List.mem_cons.mp ((h z).mpr (List.mem_cons_of_mem _ hz)) with rfl | h1
   ·exact absurd (hb1 z hz) (ll_irr _)
   ·exact h1
theorem rs_nd : ∀ {p : Str} {l : List Str}, risingS p l = true → (p :: l).Nodup → (p :: l).Pairwise (fun x y => x.cps.toList < y.cps.toList)
 | p, [], _, _ => by simp
 | p, y :: r, h, nd => by
  have h : (!ltCps y.cps.toList p.cps.toList && risingS y r) = true := h
  simp only [Bool.and_eq_true, Bool.not_eq_true'] at h
  obtain ⟨n1, n2⟩ := List.nodup_cons.mp nd
  have ih := rs_nd h.2 n2
  have hlt := s_lt h.1 fun e => n1 (by rw [e]; exact List.mem_cons_self)
  refine List.pairwise_cons.mpr ⟨fun z hz => ?_, ih⟩
  rcases List.mem_cons.mp hz with rfl | hz
  ·exact hlt
  ·exact ll_tr hlt ((List.pairwise_cons.mp ih).1 z hz)
theorem set_rs {ts ys : List Str} (nd : ys.Nodup) (hm : ∀ x, x ∈ ys ↔ x ∈ ts) (hs : sortedS ys = true) : Rs ts ys := by
 refine ⟨?_, hm⟩
 cases ys with
 | nil => exact .nil
 | cons p l => exact rs_nd hs nd
noncomputable def ddrS (p : Str) : List Str → List Str
 | [] => []
 | y :: r => if p = y then ddrS p r else y :: ddrS y r
theorem ddr_str : ∀ (p : Str) (l : List Str), ddr (.str p) (l.map .str) = (ddrS p l).map .str
 | p, [] => rfl
 | p, y :: r => by
  rw [List.map_cons, ddr, ddrS]
  by_cases h : p = y
  ·rw [if_pos (by simp [eqW, h]), if_pos h, ddr_str p r]
  ·rw [if_neg (by simp [eqW, h]), if_neg h, List.map_cons, ddr_str y r]
theorem rs_dd : ∀ {p : Str} {l : List Str}, risingS p l = true → (p :: ddrS p l).Pairwise (fun x y => x.cps.toList < y.cps.toList) ∧ ∀ x, x ∈ p :: ddrS p l ↔ x ∈ p :: l
 | p, [], _ => by simp [ddrS]
 | p, y :: r, h => by
  have h : (!ltCps y.cps.toList p.cps.toList && risingS y r) = true := h
  simp only [Bool.and_eq_true, Bool.not_eq_true'] at h
  obtain ⟨ih1, ih2⟩ := rs_dd h.2
  rw [ddrS]
  by_cases e : p = y
  ·subst e
   rw [if_pos rfl]
   refine ⟨ih1, fun x => ?_⟩
   rw [ih2 x]
   simp
  ·rw [if_neg e]
   have hlt := s_lt h.1 e
   refine ⟨List.pairwise_cons.mpr ⟨fun z hz => ?_, ih1⟩, fun x => ?_⟩
   ·rcases List.mem_cons.mp hz with rfl | hz
    ·exact hlt
    ·exact ll_tr hlt ((List.pairwise_cons.mp ih1).1 z hz)
   ·rw [List.mem_cons, ih2 x]
    exact (List.mem_cons (l := y :: r)).symm
theorem dd_rs {ts ts' : List Str} (hp : ts'.Perm ts) (hs : sortedS ts' = true) : ∃ ys, dd (ts'.map .str) = ys.map .str ∧ Rs ts ys := by
 cases ts' with
 | nil => exact ⟨[], rfl, .nil, fun x => by rw [← hp.mem_iff]⟩
 | cons p l =>
  obtain ⟨h1, h2⟩ := rs_dd hs
  refine ⟨p :: ddrS p l, ?_, h1, fun x => (h2 x).trans hp.mem_iff⟩
  rw [List.map_cons, dd, ddr_str]; rfl
structure PD (ys : List W) : Prop where
 h : ∀ y ∈ ys, pur y = true ∧ dep y ≤ 100
 len : ys.length < 64
theorem so_pd {xs ys : List W} (h : SOk xs) (so : SO xs ys) : PD ys := by
 rcases so with ⟨sb, rfl⟩ | ⟨ts, ts', rfl, hp, _, rfl⟩
 ·refine ⟨fun y hy => ?_, by rw [(srt_perm xs).length_eq]; exact sb.few⟩
  have hy := (srt_perm xs).mem_iff.mp hy
  exact ⟨purs_mem sb.pure _ hy, by have := deps_mem hy; have := sb.deep; omega⟩
 ·refine ⟨fun y hy => ?_, ?_⟩
  ·obtain ⟨x, _, rfl⟩ := List.mem_map.mp hy
   exact ⟨by simp [pur], by simp [dep]⟩
  ·rw [List.length_map, hp.length_eq]
   rcases h with sb | ⟨us, e, hl⟩
   ·have := sb.few; rwa [List.length_map] at this
   ·have := congrArg List.length e
    rw [List.length_map, List.length_map] at this
    omega
theorem eqG_pd {G : Hw} {x y : W} (hx : pur x = true ∧ dep x ≤ 100) (hy : pur y = true ∧ dep y ≤ 100) (h : ∀ p, x ≠ .ref p) : eqG G x y = some (eqW x y) := by
 have c : (pur x && pur y && decide (min (dep x) (dep y) ≤ 150)) = true := by
  rw [hx.1, hy.1]
  simp
  omega
 cases x with
 | ref p => exact absurd rfl (h p)
 | _ => cases y <;> simp only [eqG] <;> rw [if_pos c]
theorem noref {x : W} (h : pur x = true) : ∀ p, x ≠ .ref p := fun p e => by rw [e] at h; simp [pur] at h
theorem at_last {l : List W} {q : W} (h : l.getLast? = some q) : atI l (-1) = some q := by
 have hl : l ≠ [] := fun e => by rw [e] at h; cases h
 have h1 : 0 < l.length := List.length_pos_iff.mpr hl
 unfold atI ixN
 rw [if_neg (by decide), if_pos (by omega)]
 show l[((-1 : Int) + (l.length : Int)).toNat]? = some q
 rw [show ((-1 : Int) + (l.length : Int)).toNat = l.length - 1 by omega, ← List.getLast?_eq_getElem?]
 exact h
section
variable {K : Frg} {sA : Addr}
theorem srt_call {G : Hw} {p : Addr} {xs : List W} {Q : Q3} (e : lstOf G p = some xs) (ok : SOk xs) (h : ∀ ys, SO xs ys → ∀ r, G r = none → Q (.ref r) (put G r (.lst ys))) : sort2 [.ref p] G Q := by
 rcases ok with sb | ⟨ts, rfl, hl⟩
 ·exact .inl ⟨xs, e, sb, h _ (.inl ⟨sb, rfl⟩)⟩
 ·exact .inr ⟨ts, e, hl, fun ts' hp hs r hr => h _ (.inr ⟨ts, ts', rfl, hp, hs, rfl⟩) r hr⟩
noncomputable def Acc (ys acc : List W) (i : Nat) : Prop := (i = 0 ∧ acc = []) ∨ ∃ q, acc.getLast? = some q ∧ q ∈ ys ∧ acc ++ ddr q (ys.drop i) = dd ys ∧ acc.length ≤ i
theorem acc_new {ys : List W} {w : W} (hw : ys[0]? = some w) : Acc ys [w] 1 := by
 cases ys with
 | nil => cases hw
 | cons y r =>
  cases hw
  exact .inr ⟨w, rfl, List.mem_cons_self, rfl, Nat.le_refl _⟩
theorem acc_same {ys acc : List W} {q w : W} {i : Nat} (h1 : acc.getLast? = some q) (h2 : q ∈ ys) (h3 : acc ++ ddr q (ys.drop i) = dd ys) (h4 : acc.length ≤ i) (hw : ys[i]? = some w) (e : eqW q w = true) : Acc ys acc (i + 1) := by
 have hi := (List.getElem?_eq_some_iff.mp hw).1
 have ew := (List.getElem?_eq_some_iff.mp hw).2
 rw [List.drop_eq_getElem_cons hi, ew, ddr, if_pos e] at h3
 exact .inr ⟨q, h1, h2, h3, by omega⟩
theorem acc_more {ys acc : List W} {q w : W} {i : Nat} (h1 : acc.getLast? = some q) (h3 : acc ++ ddr q (ys.drop i) = dd ys) (h4 : acc.length ≤ i) (hw : ys[i]? = some w) (e : eqW q w = false) : Acc ys (acc ++ [w]) (i + 1) := by
 have hi := (List.getElem?_eq_some_iff.mp hw).1
 have ew := (List.getElem?_eq_some_iff.mp hw).2
 rw [List.drop_eq_getElem_cons hi, ew, ddr, if_neg (by rw [e]; exact Bool.false_ne_true)] at h3
 exact .inr ⟨w, by simp, List.mem_of_getElem? hw, by rw [List.append_assoc]; exact h3, by rw [List.length_append]; simp; omega⟩
theorem acc_end {ys acc : List W} (h : Acc ys acc ys.length) : acc = dd ys := by
 rcases h with ⟨e, rfl⟩ | ⟨q, _, _, h, _⟩
 ·rw [List.length_eq_zero_iff.mp e]; rfl
 ·rw [List.drop_length, ddr, List.append_nil] at h
  exact h
theorem once_sem {n : Nat} (hn : 14 ≤ n) {ws : List W} {G : Hw} {Q : Q3} (h : spOnce ws G Q XN) : semSs (Gam K sA n) XN bsorted_once { nx := fun _ G' => Q .non G', rt := Q } (start3 nsorted_once ws) G := by
 obtain ⟨p, xs, rfl, ex, ok, h⟩ := h
 have e4 : (Gam K sA n).fn[4]? = some eSrt2 := fnA 4 hn rfl
 have t2 : (Gam K sA n).mt[2]? = some eApp := rfl
 have z0 := sz 0 (by decide)
 show semSs (Gam K sA n) XN bsorted_once { nx := fun _ G' => Q .non G', rt := Q } [some (.ref p), none, none] G
 simp only [bsorted_once]
 refine stp ?_
 ((try dsimp only [semS, semE, semT, sem, mkE, mkB, blE, truE, semA, semO, semG, semGs, semI, semC, conW, intR, blR, negR, gZ, gS, tZ, tS]); try simp only [List.length_nil, z0, true_and])
 intro po ho
 have k1 : Keep [] G (put G po (.lst [])) := Keep.new ho
 have g1 : (put G po (.lst [])) po = some (.lst []) := put_same
 have ex1 : lstOf (put G po (.lst [])) p = some xs := by
  unfold lstOf at ex ⊢
  have : p ≠ po := fun e => by rw [e, ho] at ex; cases ex
  rw [put_ne this]; exact ex
 generalize put G po (.lst []) = G1 at k1 g1 ex1 ⊢
 refine stp ?_
 ((try dsimp only [semS, semE, semT, sem, mkE, mkB, blE, truE, semA, semO, semG, semGs, semI, semC, conW, intR, blR, negR, gZ, gS, tZ, tS]); try simp only [semI, e4])
 refine srt_call ex1 ok fun ys so r hr => ?_
 have pd := so_pd ok so
 have k2 : Keep [] G1 (put G1 r (.lst ys)) := Keep.new hr
 have gr : (put G1 r (.lst ys)) r = some (.lst ys) := put_same
 have g2 := k2 _ _ (by simp) g1
 have nr : r ≠ po := fun e => by rw [e, g1] at hr; cases hr
 have hrG : G r = none := k1.none (by simp) hr
 have kk := k1.trans k2
 generalize put G1 r (.lst ys) = G2 at k2 gr g2 kk ⊢
 simp only [iterW, lstOf_lst gr]
 refine ⟨fun i σ G' => ∃ (acc : List W) (v : Option W), σ = [some (.ref p), some (.ref po), v] ∧ G' po = some (.lst acc) ∧ G' r = some (.lst ys) ∧ Keep [] G G' ∧ Acc ys acc i, ⟨[], none, rfl, g2, gr, kk, .inl ⟨rfl, rfl⟩⟩, fun i σ G' z _ => by obtain ⟨_, _, _, _, z, _⟩ := z; exact lstOf_lst z, ?_, ?_⟩
 ·rintro i w σ G' hw ⟨acc, v, rfl, gp, gr', kp, ac⟩
  have hwm := List.mem_of_getElem? hw
  have hi := (List.getElem?_eq_some_iff.mp hw).1
  have hlen := pd.len
  refine stp ?_
  ((try dsimp only [semS, semE, semT, sem, mkE, mkB, blE, truE, semA, semO, semG, semGs, semI, semC, conW, intR, blR, negR, gZ, gS, tZ, tS]); try simp only [truW, gp])
  have app : acc.length < 1000 → Acc ys (acc ++ [w]) (i + 1) → ∀ D : End3, (∀ σ G', (∃ (acc : List W) (v : Option W), σ = [some (.ref p), some (.ref po), v] ∧ G' po = some (.lst acc) ∧ G' r = some (.lst ys) ∧ Keep [] G G' ∧ Acc ys acc (i + 1)) → D.nx σ G') → semSs (Gam K sA n) XN (.cons (.ex (.mth 2 (.var 1) (.cons (.var 2) .nil))) .nil) D [some (.ref p), some (.ref po), some w] G' := by
   intro hl ha D hD
   refine stp ?_
   ((try dsimp only [semS, semE, semT, sem, mkE, mkB, blE, truE, semA, semO, semG, semGs, semI, semC, conW, intR, blR, negR, gZ, gS, tZ, tS]); try simp only [t2])
   refine ⟨tyL gp, appL gp hl ?_⟩
   refine stn ?_
   exact hD _ _ ⟨acc ++ [w], _, rfl, put_same, by rw [put_ne nr]; exact gr', keep_at kp ho, ha⟩
  rcases ac with ⟨rfl, rfl⟩ | ⟨q, q1, q2, q3, q4⟩
  ·simp only [List.isEmpty_nil, Bool.not_true, Bool.not_false, if_true]
   exact app (by simp) (acc_new hw) _ fun σ G' z => z
  ·have he : acc.isEmpty = false := by cases acc with | nil => cases q1 | cons _ _ => rfl
   simp only [he, Bool.not_false, Bool.not_true, Bool.false_eq_true, if_false]
   refine ixL (lstOf_lst gp) ?_
   rw [at_last q1]
   simp only [cmpR, eqG_pd (pd.h q q2) (pd.h w hwm) (noref (pd.h q q2).1)]
   cases hq : eqW q w with
   | true =>
    simp only [Bool.not_true, Bool.false_eq_true, if_false]
    refine stn ?_
    exact ⟨acc, _, rfl, gp, gr', kp, acc_same q1 q2 q3 q4 hw hq⟩
   | false =>
    simp only [Bool.not_false, if_true]
    exact app (by omega) (acc_more q1 q3 q4 hw hq) _ fun σ G' z => z
 ·rintro σ G' ⟨acc, v, rfl, gp, gr', kp, ac⟩
  refine stp ?_
  (try dsimp only [semS, semE, semT, sem, mkE, mkB, blE, truE, semA, semO, semG, semGs, semI, semC, conW, intR, blR, negR, gZ, gS, tZ, tS])
  rw [acc_end ac] at gp
  exact h ys so po G' kp ho gp
end
end K11
set_option Elab.async false
set_option linter.all false
set_option maxRecDepth 100000
set_option maxHeartbeats 8000000
namespace K11
open PySem PySem.Spec PyProof.Rows L2 L3
theorem eqG_nil {G : Hw} {p q : Addr} {acc : List W} (hp : G p = some (.lst acc)) (hq : G q = some (.lst [])) (h : purs acc = true) : eqG G (.ref p) (.ref q) = some acc.isEmpty := by
 simp only [eqG, lstOf_lst hp, lstOf_lst hq]
 rw [if_pos (by rw [h]; simp [purs, deps])]
 cases acc <;> simp [eqWs]
theorem purs_all : ∀ {l : List W}, (∀ y ∈ l, pur y = true) → purs l = true
 | [], _ => rfl
 | y :: l, h => by simp only [purs, h y List.mem_cons_self, purs_all fun z hz => h z (List.mem_cons_of_mem _ hz), Bool.and_self]
theorem acc_sub {ys acc : List W} {i : Nat} (h : Acc ys acc i) : ∀ y ∈ acc, y ∈ ys := by
 have key : ∀ (p : W) (l : List W), ∀ y ∈ ddr p l, y ∈ l := by
  intro p l
  induction l generalizing p with
  | nil => intro y hy; cases hy
  | cons a l ih =>
   intro y hy
   rw [ddr] at hy
   split at hy
   ·exact List.mem_cons_of_mem _ (ih p y hy)
   ·rcases List.mem_cons.mp hy with rfl | hy
    ·exact List.mem_cons_self
    ·exact List.mem_cons_of_mem _ (ih a y hy)
 rcases h with ⟨_, rfl⟩ | ⟨q, _, _, h, _⟩
 ·intro y hy; cases hy
 ·intro y hy
  have : y ∈ dd ys := by rw [← h]; exact List.mem_append_left _ hy
  cases ys with
  | nil => cases this
  | cons x r =>
   rcases List.mem_cons.mp this with rfl | this
   ·exact List.mem_cons_self
   ·exact List.mem_cons_of_mem _ (key x r y this)
section
variable {K : Frg} {sA : Addr}
theorem lonce_sem {n : Nat} (hn : 17 ≤ n) {ws : List W} {G : Hw} {Q : Q3} (h : spOnce ws G Q XN) : semSs (Gam K sA n) XN b_law_once { nx := fun _ G' => Q .non G', rt := Q } (start3 n_law_once ws) G := by
 obtain ⟨p, xs, rfl, ex, ok, h⟩ := h
 have e4 : (Gam K sA n).fn[4]? = some eSrt2 := fnA 4 hn rfl
 have t2 : (Gam K sA n).mt[2]? = some eApp := rfl
 have z0 := sz 0 (by decide)
 show semSs (Gam K sA n) XN b_law_once { nx := fun _ G' => Q .non G', rt := Q } [some (.ref p), none, none] G
 simp only [b_law_once]
 refine stp ?_
 ((try dsimp only [semS, semE, semT, sem, mkE, mkB, blE, truE, semA, semO, semG, semGs, semI, semC, conW, intR, blR, negR, gZ, gS, tZ, tS]); try simp only [List.length_nil, z0, true_and])
 intro po ho
 have k1 : Keep [] G (put G po (.lst [])) := Keep.new ho
 have g1 : (put G po (.lst [])) po = some (.lst []) := put_same
 have ex1 : lstOf (put G po (.lst [])) p = some xs := by
  unfold lstOf at ex ⊢
  have : p ≠ po := fun e => by rw [e, ho] at ex; cases ex
  rw [put_ne this]; exact ex
 generalize put G po (.lst []) = G1 at k1 g1 ex1 ⊢
 refine stp ?_
 ((try dsimp only [semS, semE, semT, sem, mkE, mkB, blE, truE, semA, semO, semG, semGs, semI, semC, conW, intR, blR, negR, gZ, gS, tZ, tS]); try simp only [semI, e4])
 refine srt_call ex1 ok fun ys so r hr => ?_
 have pd := so_pd ok so
 have k2 : Keep [] G1 (put G1 r (.lst ys)) := Keep.new hr
 have gr : (put G1 r (.lst ys)) r = some (.lst ys) := put_same
 have g2 := k2 _ _ (by simp) g1
 have nr : r ≠ po := fun e => by rw [e, g1] at hr; cases hr
 have kk := k1.trans k2
 generalize put G1 r (.lst ys) = G2 at k2 gr g2 kk ⊢
 simp only [iterW, lstOf_lst gr]
 refine ⟨fun i σ G' => ∃ (acc : List W) (v : Option W), σ = [some (.ref p), some (.ref po), v] ∧ G' po = some (.lst acc) ∧ G' r = some (.lst ys) ∧ Keep [] G G' ∧ Acc ys acc i, ⟨[], none, rfl, g2, gr, kk, .inl ⟨rfl, rfl⟩⟩, fun i σ G' z _ => by obtain ⟨_, _, _, _, z, _⟩ := z; exact lstOf_lst z, ?_, ?_⟩
 ·rintro i w σ G' hw ⟨acc, v, rfl, gp, gr', kp, ac⟩
  have hwm := List.mem_of_getElem? hw
  have hi := (List.getElem?_eq_some_iff.mp hw).1
  have hlen := pd.len
  have hpa := purs_all fun y hy => (pd.h y (acc_sub ac y hy)).1
  refine stp ?_
  ((try dsimp only [semS, semE, semT, sem, mkE, mkB, blE, truE, semA, semO, semG, semGs, semI, semC, conW, intR, blR, negR, gZ, gS, tZ, tS]); try simp only [List.length_nil, z0, true_and])
  intro pe he
  have ke : Keep [] G' (put G' pe (.lst [])) := Keep.new he
  have ge : (put G' pe (.lst [])) pe = some (.lst []) := put_same
  have gp := ke _ _ (by simp) gp
  have gr' := ke _ _ (by simp) gr'
  have kp := kp.trans ke
  generalize put G' pe (.lst []) = G' at ge gp gr' kp ⊢
  simp only [cmpR, eqG_nil gp ge hpa]
  have app : acc.length < 1000 → Acc ys (acc ++ [w]) (i + 1) → ∀ D : End3, (∀ σ G', (∃ (acc : List W) (v : Option W), σ = [some (.ref p), some (.ref po), v] ∧ G' po = some (.lst acc) ∧ G' r = some (.lst ys) ∧ Keep [] G G' ∧ Acc ys acc (i + 1)) → D.nx σ G') → semSs (Gam K sA n) XN (.cons (.ex (.mth 2 (.var 1) (.cons (.var 2) .nil))) .nil) D [some (.ref p), some (.ref po), some w] G' := by
   intro hl ha D hD
   refine stp ?_
   ((try dsimp only [semS, semE, semT, sem, mkE, mkB, blE, truE, semA, semO, semG, semGs, semI, semC, conW, intR, blR, negR, gZ, gS, tZ, tS]); try simp only [t2])
   refine ⟨tyL gp, appL gp hl ?_⟩
   refine stn ?_
   exact hD _ _ ⟨acc ++ [w], _, rfl, put_same, by rw [put_ne nr]; exact gr', keep_at kp ho, ha⟩
  rcases ac with ⟨rfl, rfl⟩ | ⟨q, q1, q2, q3, q4⟩
  ·simp only [List.isEmpty_nil, if_true]
   exact app (by simp) (acc_new hw) _ fun σ G' z => z
  ·have he : acc.isEmpty = false := by cases acc with | nil => cases q1 | cons _ _ => rfl
   simp only [he, Bool.false_eq_true, if_false]
   refine ixL (lstOf_lst gp) ?_
   rw [at_last q1]
   simp only [eqG_pd (pd.h q q2) (pd.h w hwm) (noref (pd.h q q2).1)]
   cases hq : eqW q w with
   | true =>
    simp only [Bool.not_true, Bool.false_eq_true, if_false]
    refine stn ?_
    exact ⟨acc, _, rfl, gp, gr', kp, acc_same q1 q2 q3 q4 hw hq⟩
   | false =>
    simp only [Bool.not_false, if_true]
    exact app (by omega) (acc_more q1 q3 q4 hw hq) _ fun σ G' z => z
 ·rintro σ G' ⟨acc, v, rfl, gp, gr', kp, ac⟩
  refine stp ?_
  (try dsimp only [semS, semE, semT, sem, mkE, mkB, blE, truE, semA, semO, semG, semGs, semI, semC, conW, intR, blR, negR, gZ, gS, tZ, tS])
  rw [acc_end ac] at gp
  exact h ys so po G' kp ho gp
theorem parts_sem {n : Nat} (hn : 12 ≤ n) {ws : List W} {G : Hw} {Q : Q3} (h : spParts ws G Q XN) : semSs (Gam K sA n) XN ball_parts { nx := fun _ G' => Q .non G', rt := Q } (start3 nall_parts ws) G := by
 obtain ⟨t, rfl, ts, h⟩ := h
 have e11 : (Gam K sA n).fn[11]? = some ⟨"all_within", spWithin sA⟩ := fnA 11 hn rfl
 have g3 : (Gam K sA n).gl[3]? = some (("sides_of" : Str), .ref sA) := rfl
 show semSs (Gam K sA n) XN ball_parts { nx := fun _ G' => Q .non G', rt := Q } [some t.w] G
 simp only [ball_parts]
 refine stp ?_
 ((try dsimp only [semS, semE, semT, sem, mkE, mkB, blE, truE, semA, semO, semG, semGs, semI, semC, conW, intR, blR, negR, gZ, gS, tZ, tS]); try simp only [e11, g3])
 exact ⟨t, rfl, ts, h⟩
theorem size_sem {n : Nat} (hn : 13 ≤ n) {ws : List W} {G : Hw} {Q : Q3} (h : spSize ws G Q XN) : semSs (Gam K sA n) XN bsize { nx := fun _ G' => Q .non G', rt := Q } (start3 nsize ws) G := by
 obtain ⟨t, rfl, ts, h⟩ := h
 have e1 : (Gam K sA n).fn[1]? = some eLen := fnA 1 hn rfl
 have e12 : (Gam K sA n).fn[12]? = some ⟨"all_parts", spParts⟩ := fnA 12 hn rfl
 show semSs (Gam K sA n) XN bsize { nx := fun _ G' => Q .non G', rt := Q } [some t.w] G
 simp only [bsize]
 refine stp ?_
 ((try dsimp only [semS, semE, semT, sem, mkE, mkB, blE, truE, semA, semO, semG, semGs, semI, semC, conW, intR, blR, negR, gZ, gS, tZ, tS]); try simp only [e1, e12])
 refine ⟨t, rfl, ts, fun r G' k hr gr => ?_⟩
 simp only [lenS, lenW, gr, List.length_map, pre_len]
 exact h G' k
theorem so_sy {t : Sy} (h : t.size ≤ 40) : Srtb ((pre t).map Sy.w) := srtb (by rw [pre_len]; omega) fun p hp => by have := (pre_in t p hp).1; omega
theorem no_strs {t : Sy} {ts : List Str} : (pre t).map Sy.w ≠ ts.map .str := fun e => by
 rw [pre_kids] at e
 cases ts with
 | nil => cases e
 | cons x r =>
  have := (List.cons.inj e).1
  cases t <;> cases this
theorem pof_sem {n : Nat} (hn : 15 ≤ n) {ws : List W} {G : Hw} {Q : Q3} (h : spPof ws G Q XN) : semSs (Gam K sA n) XN bparts_of { nx := fun _ G' => Q .non G', rt := Q } (start3 nparts_of ws) G := by
 obtain ⟨t, rfl, ts, h⟩ := h
 have e12 : (Gam K sA n).fn[12]? = some ⟨"all_parts", spParts⟩ := fnA 12 hn rfl
 have e14 : (Gam K sA n).fn[14]? = some ⟨"sorted_once", spOnce⟩ := fnA 14 hn rfl
 show semSs (Gam K sA n) XN bparts_of { nx := fun _ G' => Q .non G', rt := Q } [some t.w] G
 simp only [bparts_of]
 refine stp ?_
 ((try dsimp only [semS, semE, semT, sem, mkE, mkB, blE, truE, semA, semO, semG, semGs, semI, semC, conW, intR, blR, negR, gZ, gS, tZ, tS]); try simp only [e12, e14])
 refine ⟨t, rfl, ts, fun r G' k hr gr => ⟨r, _, rfl, lstOf_lst gr, .inl (so_sy ts), fun ys so => ?_⟩⟩
 rcases so with ⟨_, rfl⟩ | ⟨us, us', e, _⟩
 ·exact h.keep k
 ·exact absurd e no_strs
theorem names_map : ∀ ts : List Sy, (ts.map Sy.w).filterMap (fun w => match w with | .tup (.str x :: y :: _) => if (x == "say") = true then some y else none | _ => none) = (namesOf ts).map .str
 | [] => rfl
 | .say x :: r => by
  rw [List.map_cons, List.filterMap_cons_some (b := W.str x) (by simp [Sy.w]), names_map r]; rfl
 | .neg a :: r => by
  have e : (("not" : Str) == "say") = false := by decide +kernel
  rw [List.map_cons, List.filterMap_cons_none (by simp only [Sy.w, e, Bool.false_eq_true, if_false]), names_map r]; rfl
 | .two k a b :: r => by
  rw [List.map_cons, List.filterMap_cons_none (by simp only [Sy.w, (kw_not k).1, Bool.false_eq_true, if_false]), names_map r]; rfl
theorem names_len : ∀ ts : List Sy, (namesOf ts).length ≤ ts.length
 | [] => Nat.le_refl _
 | .say x :: r => by have := names_len r; simp only [namesOf, List.length_cons]; omega
 | .neg a :: r => by have := names_len r; simp only [namesOf, List.length_cons]; omega
 | .two k a b :: r => by have := names_len r; simp only [namesOf, List.length_cons]; omega
theorem say_lc {Γ : Ctx3} {G : Hw} {ts : List Sy} {stab : Hw → Prop} {Q : Q3} (hs : stab G) (hl : ts.length ≤ 1000) (h : ∀ p, G p = none → Q (.ref p) (put G p (.lst ((namesOf ts).map .str)))) (nm : Str) :
  lcR (ts.map Sy.w) stab G (fun w G' K => semG (.nm 0) w (capS ([nm] : List Str).length [] [none]) G' fun σ2 G2 => semC Γ (.yes (.cmp .Eq (.ix (.var 0) (.con (.int 0))) (.con (.str "say")))) σ2 G2 fun b G3 => if b = true then (sem Γ XN (.ix (.var 0) (.con (.int 1)))).e σ2 G3 fun x G4 => K (some x) G4 else K none G3) Q := by
 refine lc_pure (fun w => match w with | .tup (.str x :: y :: _) => if (x == "say") = true then some y else none | _ => none) hs (by rw [List.length_map]; exact sz _ (by omega)) ?_ ?_
 ·intro w hw K' hK
  obtain ⟨t, _, rfl⟩ := List.mem_map.mp hw
  simp only [capS, List.length_cons, List.length_nil, List.replicate, List.map_nil, List.append_nil]
  cases t with
  | say x =>
   ((try dsimp only [semS, semE, semT, sem, mkE, mkB, blE, truE, semA, semO, semG, semGs, semI, semC, conW, intR, blR, negR, gZ, gS, tZ, tS]); try simp only [Sy.w, semC, ixR, at_0, at_1, cmpR, eqG_beq, beq_self_eq_true, if_true])
   simp only [Sy.w, beq_self_eq_true, if_true] at hK
   exact hK
  | neg a =>
   have e : (("not" : Str) == "say") = false := by decide +kernel
   ((try dsimp only [semS, semE, semT, sem, mkE, mkB, blE, truE, semA, semO, semG, semGs, semI, semC, conW, intR, blR, negR, gZ, gS, tZ, tS]); try simp only [Sy.w, semC, ixR, at_0, at_1, cmpR, eqG_beq, e, Bool.false_eq_true, if_false])
   simp only [Sy.w, e, Bool.false_eq_true, if_false] at hK
   exact hK
  | two k a b =>
   ((try dsimp only [semS, semE, semT, sem, mkE, mkB, blE, truE, semA, semO, semG, semGs, semI, semC, conW, intR, blR, negR, gZ, gS, tZ, tS]); try simp only [Sy.w, semC, ixR, at_0, at_1, cmpR, eqG_beq, (kw_not k).1, Bool.false_eq_true, if_false])
   simp only [Sy.w, (kw_not k).1, Bool.false_eq_true, if_false] at hK
   exact hK
 ·rw [names_map]; exact h
end
end K11
set_option Elab.async false
set_option linter.all false
set_option maxRecDepth 100000
set_option maxHeartbeats 8000000
namespace K11
open PySem PySem.Spec PyProof.Rows L2 L3
theorem dd_sub {ys : List W} : ∀ y ∈ dd ys, y ∈ ys := by
 have key : ∀ (p : W) (l : List W), ∀ y ∈ ddr p l, y ∈ l := by
  intro p l
  induction l generalizing p with
  | nil => intro y hy; cases hy
  | cons a l ih =>
   intro y hy
   rw [ddr] at hy
   split at hy
   ·exact List.mem_cons_of_mem _ (ih p y hy)
   ·rcases List.mem_cons.mp hy with rfl | hy
    ·exact List.mem_cons_self
    ·exact List.mem_cons_of_mem _ (ih a y hy)
 cases ys with
 | nil => intro y hy; cases hy
 | cons x r =>
  intro y hy
  rcases List.mem_cons.mp hy with rfl | hy
  ·exact List.mem_cons_self
  ·exact List.mem_cons_of_mem _ (key x r y hy)
theorem deps_all {n : Nat} : ∀ {l : List W}, (∀ y ∈ l, dep y ≤ n) → deps l ≤ n
 | [], _ => Nat.zero_le _
 | y :: l, h => by
  have h1 := h y List.mem_cons_self
  have h2 := deps_all fun z hz => h z (List.mem_cons_of_mem _ hz)
  simp only [deps]
  omega
theorem eqG_same {G : Hw} {p q : Addr} {l : List W} (hp : G p = some (.lst l)) (hq : G q = some (.lst l)) (h : ∀ y ∈ l, pur y = true ∧ dep y ≤ 100) : eqG G (.ref p) (.ref q) = some true := by
 have h1 : purs l = true := purs_all fun y hy => (h y hy).1
 have h2 : deps l ≤ 100 := deps_all fun y hy => (h y hy).2
 simp only [eqG, lstOf_lst hp, lstOf_lst hq]
 rw [if_pos (by rw [h1]; simp; omega), eqWs_refl h1]
theorem strs_pd (ys : List Str) : ∀ y ∈ ys.map W.str, pur y = true ∧ dep y ≤ 100 := fun y hy => by
 obtain ⟨x, _, rfl⟩ := List.mem_map.mp hy
 exact ⟨by simp [pur], by simp [dep]⟩
theorem parts_pd {t : Sy} (h : t.size ≤ 40) : ∀ y ∈ dd (srt ((pre t).map Sy.w)), pur y = true ∧ dep y ≤ 100 := fun y hy => (so_pd (.inl (so_sy h)) (.inl ⟨so_sy h, rfl⟩)).h y (dd_sub y hy)
theorem rs_len : ∀ {ys ts : List Str}, ys.Pairwise (fun x y => x.cps.toList < y.cps.toList) → (∀ x ∈ ys, x ∈ ts) → ys.length ≤ ts.length
 | [], ts, _, _ => Nat.zero_le _
 | y :: ys, ts, h, hm => by
  obtain ⟨h1, h2⟩ := List.pairwise_cons.mp h
  have hy := hm y List.mem_cons_self
  have := rs_len (ts := ts.erase y) h2 fun x hx => by
   have ne : x ≠ y := fun e => ll_irr _ (e ▸ h1 x hx)
   exact (List.mem_erase_of_ne ne).mpr (hm x (List.mem_cons_of_mem _ hx))
  rw [List.length_erase_of_mem hy] at this
  have := List.length_pos_of_mem hy
  simp only [List.length_cons]
  omega
section
variable {K : Frg} {sA : Addr}
theorem nin_sem {n : Nat} (hn : 16 ≤ n) {ws : List W} {G : Hw} {Q : Q3} (h : spNin ws G Q XN) : semSs (Gam K sA n) XN bnames_in { nx := fun _ G' => Q .non G', rt := Q } (start3 nnames_in ws) G := by
 obtain ⟨t, rfl, ts, h⟩ := h
 have e12 : (Gam K sA n).fn[12]? = some ⟨"all_parts", spParts⟩ := fnA 12 hn rfl
 have e14 : (Gam K sA n).fn[14]? = some ⟨"sorted_once", spOnce⟩ := fnA 14 hn rfl
 show semSs (Gam K sA n) XN bnames_in { nx := fun _ G' => Q .non G', rt := Q } [some t.w] G
 simp only [bnames_in]
 refine stp ?_
 ((try dsimp only [semS, semE, semT, sem, mkE, mkB, blE, truE, semA, semO, semG, semGs, semI, semC, conW, intR, blR, negR, gZ, gS, tZ, tS]); try simp only [e12, e14, semI])
 refine ⟨t, rfl, ts, fun r G' k hr gr => ?_⟩
 simp only [iterW, lstOf_lst gr]
 have hl := pre_len t
 have hnl := names_len (pre t)
 refine say_lc (Γ := Gam K sA n) (lstOf_lst gr) (by omega) (fun p hp => ?_) "part"
 refine ⟨p, _, rfl, lstOf_lst put_same, .inr ⟨namesOf (pre t), rfl, by omega⟩, fun ys so => ?_⟩
 have kk := k.trans (Keep.new (o := .lst ((namesOf (pre t)).map .str)) hp)
 have fin : ∀ zs, ys = zs → ∀ us : List Str, dd zs = us.map .str → Rs (namesOf (pre t)) us → Fr (dd ys) (put G' p (.lst ((namesOf (pre t)).map .str))) Q := by
  intro zs e us e2 rs
  rw [e, e2]
  exact (h us rs (by have := rs_len rs.1 fun x hx => (rs.2 x).mp hx; omega)).keep kk
 rcases so with ⟨sb, rfl⟩ | ⟨us, us', e, hp', hs, rfl⟩
 ·-- no text is a tuple: then there are no names
  cases hnm : namesOf (pre t) with
  | nil =>
   have e0 : srt (([] : List Str).map W.str) = [] := List.length_eq_zero_iff.mp (srt_perm _).length_eq
   rw [hnm] at fin
   exact fin [] e0 [] rfl ⟨.nil, fun x => Iff.rfl⟩
  | cons x r =>
   obtain ⟨T, hT⟩ := sb.hd
   rw [hnm] at hT
   have := hT (.str x) List.mem_cons_self
   cases this
 ·have ei : us = namesOf (pre t) := by
   have : ∀ {a b : List Str}, a.map W.str = b.map W.str → b = a := by
    intro a
    induction a with
    | nil => intro b e; cases b with | nil => rfl | cons _ _ => cases e
    | cons x a ih =>
     intro b e
     cases b with
     | nil => cases e
     | cons y b =>
      have h1 := (List.cons.inj e).1
      cases h1
      rw [ih (List.cons.inj e).2]
   exact this e
  subst ei
  obtain ⟨zs, e2, rs⟩ := dd_rs hp' hs
  exact fin _ rfl zs e2 rs
theorem isi1 {x : W} {T' T : String} {b : Bool} {G : Hw} {Q : Q3} (h1 : tyO G x = some T') (h2 : PySem.W.kitOne K (.type T') (.type T) = some b) (h : Q (.bl b) G) : isiS K [x, .ty T] G Q := ⟨T', b, h1, h2, h⟩
end
end K11
set_option Elab.async false
set_option linter.all false
set_option maxRecDepth 100000
set_option maxHeartbeats 8000000
namespace K11
open PySem PySem.Spec PyProof.Rows L2 L3
theorem sy_at {ts : List Sy} {i : Int} (h0 : 0 ≤ i) (h1 : i < ts.length) : ∃ t ∈ ts, atI (ts.map Sy.w) i = some t.w := by
 obtain ⟨w, hw, e⟩ := at_nat (l := ts.map Sy.w) h0 (by rw [List.length_map]; exact h1)
 obtain ⟨x, hx, rfl⟩ := List.mem_map.mp hw
 exact ⟨x, hx, e⟩
theorem cmpNe {G : Hw} {x y : W} {Q : Q3} (e : eqG G x y = some true) (h : Q (.bl false) G) : cmpR .NotEq x y G Q := by
 simp only [cmpR, e]
 exact h
theorem eqG_self {G : Hw} {i : Int} : eqG G (.int i) (.int i) = some true := by rw [eqG_int, decide_eq_true rfl]
section
variable {K : Frg} {sA : Addr}
theorem set_lc {n : Nat} {G : Hw} {p8 p4 : Addr} {t : Sy} {ys : List Str} {Q : Q3} (ts : t.size ≤ 40) (g8 : G p8 = some (.lst (ys.map .str))) (rs : Rs (namesOf (pre t)) ys) (g4 : G p4 = some (.lst ((pre t).map Sy.w))) (nm : Str) (h : ∀ G', Keep [] G G' → Q (.bl false) G') :
  lcR ((pre t).map Sy.w) (fun G' => lstOf G' p4 = some ((pre t).map Sy.w)) G (fun w G' K' => semG (.nm 0) w (capS ([nm] : List Str).length [] [none]) G' fun σ2 G2 => semC (Gam K sA n) (.yes (.cmp .Eq (.ix (.var 0) (.con (.int 0))) (.con (.str "say")))) σ2 G2 fun b G3 => if b = true then (sem (Gam K sA n) XN (.ix (.var 0) (.con (.int 1)))).e σ2 G3 fun x G4 => K' (some x) G4 else K' none G3)
   (fun x G1 => ssS [x] G1 fun y G2 => cmpR .NotEq (.ref p8) y G2 Q) := by
 have hl := pre_len t
 have hnl := names_len (pre t)
 refine say_lc (Γ := Gam K sA n) (lstOf_lst g4) (by omega) (fun p hp => ?_) nm
 have k1 : Keep [] G (put G p (.lst ((namesOf (pre t)).map .str))) := Keep.new hp
 refine ⟨namesOf (pre t), lstOf_lst put_same, by omega, fun us nd hm hs r hr => ?_⟩
 have k2 := k1.trans (Keep.new (o := .lst (us.map .str)) hr)
 have e : us = ys := rs_one (set_rs nd hm hs).1 rs.1 fun x => (hm x).trans (rs.2 x).symm
 subst e
 simp only [cmpR, eqG_same (k2 _ _ (by simp) g8) put_same (strs_pd us), Bool.not_true]
 exact h _ k2
theorem law_sem {n : Nat} (hn : 18 ≤ n) {a : W} {ns : List Int} {G : Hw} {Q : Q3} (hs : IsScr G a ns) (hl : ns.length ≤ 63) (h : ∀ G', Q (.bl true) G') : semSs (Gam K sA n) XN blaw { nx := fun _ G' => Q .non G', rt := Q } (start3 nlaw [a]) G := by
 have f1 : (Gam K sA n).fn[1]? = some eLen := fnA 1 hn rfl
 have f3 : (Gam K sA n).fn[3]? = some (eIsi K) := fnA 3 hn rfl
 have f5 : (Gam K sA n).fn[5]? = some eDeal := fnA 5 hn rfl
 have f6 : (Gam K sA n).fn[6]? = some eDraw := fnA 6 hn rfl
 have f7 : (Gam K sA n).fn[7]? = some ⟨"_law_names", spNames⟩ := fnA 7 hn rfl
 have f8 : (Gam K sA n).fn[8]? = some ⟨"_law_large", spLarge 21⟩ := fnA 8 hn rfl
 have f9 : (Gam K sA n).fn[9]? = some ⟨"_law_all", spAll 21⟩ := fnA 9 hn rfl
 have f13 : (Gam K sA n).fn[13]? = some ⟨"size", spSize⟩ := fnA 13 hn rfl
 have f15 : (Gam K sA n).fn[15]? = some ⟨"parts_of", spPof⟩ := fnA 15 hn rfl
 have f16 : (Gam K sA n).fn[16]? = some ⟨"names_in", spNin⟩ := fnA 16 hn rfl
 have f17 : (Gam K sA n).fn[17]? = some ⟨"_law_once", spOnce⟩ := fnA 17 hn rfl
 have t2 : (Gam K sA n).mt[2]? = some eApp := rfl
 have t4 : (Gam K sA n).mt[4]? = some eClr := rfl
 have s2 : (Gam K sA n).sx[2]? = some ⟨ssM, ssS⟩ := rfl
 have g0 : (Gam K sA n).gl[0]? = some (("bool" : Str), .ty "bool") := rfl
 have g1 : (Gam K sA n).gl[1]? = some (("int" : Str), .ty "int") := rfl
 have g2 : (Gam K sA n).gl[2]? = some (("list" : Str), .ty "list") := rfl
 show semSs (Gam K sA n) XN blaw { nx := fun _ G' => Q .non G', rt := Q } [some a, none, none, none, none, none, none, none, none, none] G
 simp only [blaw]
 refine stp ?_
 ((try dsimp only [semS, semE, semT, sem, mkE, mkB, blE, truE, semA, semO, semG, semGs, semI, semC, conW, intR, blR, negR, gZ, gS, tZ, tS]); try simp only [f5])
 refine ⟨a, 0, ns, rfl, hs, hl, by decide, fun d l G1 hd hl' k1 D1 => ?_⟩
 refine stp ?_
 ((try dsimp only [semS, semE, semT, sem, mkE, mkB, blE, truE, semA, semO, semG, semGs, semI, semC, conW, intR, blR, negR, gZ, gS, tZ, tS]); try simp only [f6, f7])
 refine ⟨d, l, 4, rfl, D1, by decide, fun m G2 m0 m1 k2 D2 => ?_⟩
 simp only [binR]
 refine ⟨d, l, 1 + m, rfl, D2, by omega, by omega, fun r xs G3 hx hxl hnm hr gr k3 D3 => ?_⟩
 refine stp ?_
 ((try dsimp only [semS, semE, semT, sem, mkE, mkB, blE, truE, semA, semO, semG, semGs, semI, semC, conW, intR, blR, negR, gZ, gS, tZ, tS]); try simp only [f6, f8])
 refine ⟨d, l, 40, rfl, D3, by decide, fun c G4 c0 c1 k4 D4 => ?_⟩
 have gr4 := k4 _ _ hr gr
 simp only [binR]
 refine ⟨d, l, r, 1 + c, 20, xs, rfl, D4, hr, gr4, hx, hxl, hnm, by omega, by omega, by decide, by decide, fun t G5 ok ts td k5 D5 => ?_⟩
 have ts : t.size ≤ 40 := by omega
 have td : t.deep ≤ 20 := by omega
 have plen := pre_len t
 clear gr gr4 k3 k4 k5 hnm
 refine stp ?_
 ((try dsimp only [semS, semE, semT, sem, mkE, mkB, blE, truE, semA, semO, semG, semGs, semI, semC, conW, intR, blR, negR, gZ, gS, tZ, tS]); try simp only [f9])
 refine ⟨t, rfl, ts, by omega, fun p4 G6 k6 hp4 q4 => ?_⟩
 have D6 := deal0 k6 D5
 have hp4d := off_of D5 hp4
 refine stp ?_
 ((try dsimp only [semS, semE, semT, sem, mkE, mkB, blE, truE, semA, semO, semG, semGs, semI, semC, conW, intR, blR, negR, gZ, gS, tZ, tS]); try simp only [f13])
 refine ⟨t, rfl, ts, fun G7 k7 => ?_⟩
 have q4 := k7 _ _ (by simp) q4
 have D7 := deal0 k7 D6
 refine stp ?_
 ((try dsimp only [semS, semE, semT, sem, mkE, mkB, blE, truE, semA, semO, semG, semGs, semI, semC, conW, intR, blR, negR, gZ, gS, tZ, tS]); try simp only [f3, g1, g0, f1])
 refine isi1 (b := true) rfl (by rfl) ?_
 simp only [truW, Bool.not_true, Bool.false_eq_true, if_false]
 refine isi1 (b := false) rfl (by rfl) ?_
 simp only [truW, Bool.false_eq_true, if_false, lenS, lenW, q4, List.length_map, plen, cmpR, eqG_self, Bool.not_true]
 refine stn ?_
 refine stp ?_
 ((try dsimp only [semS, semE, semT, sem, mkE, mkB, blE, truE, semA, semO, semG, semGs, semI, semC, conW, intR, blR, negR, gZ, gS, tZ, tS]); try simp only [f1, f6, lenS, lenW, q4, List.length_map, plen])
 have tp := t.pos
 refine ⟨d, l, t.size, rfl, D7, ⟨by omega, by omega⟩, fun i G8 i0 i1 k8 D8 => ?_⟩
 have q4 := k8 _ _ hp4d q4
 refine ixL (lstOf_lst q4) ?_
 obtain ⟨u, hu, eu⟩ := sy_at (ts := pre t) i0 (by rw [plen]; exact i1)
 rw [eu]
 obtain ⟨us, ud⟩ := pre_in t u hu
 have us : u.size ≤ 40 := by omega
 have ulen := pre_len u
 refine stp ?_
 ((try dsimp only [semS, semE, semT, sem, mkE, mkB, blE, truE, semA, semO, semG, semGs, semI, semC, conW, intR, blR, negR, gZ, gS, tZ, tS]); try simp only [f13, f1, f9])
 refine ⟨u, rfl, us, fun G9 k9 => ?_⟩
 refine ⟨u, rfl, us, by omega, fun pu G10 k10 hpu qu => ?_⟩
 simp only [lenS, lenW, qu, List.length_map, ulen, cmpR, eqG_self, Bool.not_true, Bool.false_eq_true, if_false]
 refine ⟨t, rfl, ts, fun G11 k11 => ?_⟩
 simp only [cmpR, eqG_self, Bool.not_true, Bool.false_eq_true, if_false]
 have q4 := ((k9.trans k10).trans k11) _ _ (by simp) q4
 refine stn ?_
 refine stp ?_
 ((try dsimp only [semS, semE, semT, sem, mkE, mkB, blE, truE, semA, semO, semG, semGs, semI, semC, conW, intR, blR, negR, gZ, gS, tZ, tS]); try simp only [f15])
 refine ⟨t, rfl, ts, fun p7 G12 k12 hp7 q7 => ?_⟩
 have n47 : p4 ≠ p7 := fun e => by rw [e, hp7] at q4; cases q4
 have q4 := k12 _ _ (by simp) q4
 refine stp ?_
 ((try dsimp only [semS, semE, semT, sem, mkE, mkB, blE, truE, semA, semO, semG, semGs, semI, semC, conW, intR, blR, negR, gZ, gS, tZ, tS]); try simp only [f3, g2, f17])
 refine isi1 (T' := "list") (b := true) (by simp only [tyO, q7]) (by rfl) ?_
 simp only [truW, Bool.not_true, Bool.false_eq_true, if_false]
 have once : ∀ {G : Hw} {p : Addr} {t : Sy} {Q : Q3}, t.size ≤ 40 → G p = some (.lst ((pre t).map Sy.w)) → Fr (dd (srt ((pre t).map Sy.w))) G Q → spOnce [.ref p] G Q XN := by
  intro G p t Q ts q h
  refine ⟨p, _, rfl, lstOf_lst q, .inl (so_sy ts), fun ys so => ?_⟩
  rcases so with ⟨_, rfl⟩ | ⟨us, us', e, _⟩
  ·exact h
  ·exact absurd e no_strs
 refine once ts q4 fun po G13 k13 hpo qo => ?_
 have q7 := k13 _ _ (by simp) q7
 have q4 := k13 _ _ (by simp) q4
 simp only [cmpR, eqG_same q7 qo (parts_pd ts), Bool.not_true, Bool.false_eq_true, if_false]
 refine stn ?_
 refine stp ?_
 ((try dsimp only [semS, semE, semT, sem, mkE, mkB, blE, truE, semA, semO, semG, semGs, semI, semC, conW, intR, blR, negR, gZ, gS, tZ, tS]); try simp only [t4])
 refine ⟨tyL q7, ?_⟩
 simp only [clrS, q7]
 have q4 : (put G13 p7 (.lst [])) p4 = some (.lst ((pre t).map Sy.w)) := by rw [put_ne n47]; exact q4
 generalize put G13 p7 (.lst []) = G14 at q4 ⊢
 refine stp ?_
 ((try dsimp only [semS, semE, semT, sem, mkE, mkB, blE, truE, semA, semO, semG, semGs, semI, semC, conW, intR, blR, negR, gZ, gS, tZ, tS]); try simp only [f16])
 refine ⟨t, rfl, ts, fun ys rs yl p8 G15 k15 hp8 q8 => ?_⟩
 have n48 : p4 ≠ p8 := fun e => by rw [e, hp8] at q4; cases q4
 have q4 := k15 _ _ (by simp) q4
 refine stp ?_
 ((try dsimp only [semS, semE, semT, sem, mkE, mkB, blE, truE, semA, semO, semG, semGs, semI, semC, conW, intR, blR, negR, gZ, gS, tZ, tS]); try simp only [f3, g2, s2, semI])
 refine isi1 (T' := "list") (b := true) (by simp only [tyO, q8]) (by rfl) ?_
 simp only [truW, Bool.not_true, Bool.false_eq_true, if_false, iterW, lstOf_lst q4]
 refine set_lc (n := n) (K := K) (sA := sA) ts q8 rs q4 "_law_one" fun G16 k16 => ?_
 simp only [Bool.false_eq_true, if_false]
 have q4 := k16 _ _ (by simp) q4
 have q8 := k16 _ _ (by simp) q8
 refine stn ?_
 refine stp ?_
 ((try dsimp only [semS, semE, semT, sem, mkE, mkB, blE, truE, semA, semO, semG, semGs, semI, semC, conW, intR, blR, negR, gZ, gS, tZ, tS]); try simp only [t2])
 refine ⟨tyL q8, appL q8 (by rw [List.length_map]; omega) ?_⟩
 have q4 : (put G16 p8 (.lst (ys.map .str ++ [.str "x"]))) p4 = some (.lst ((pre t).map Sy.w)) := by rw [put_ne n48]; exact q4
 have q8 : (put G16 p8 (.lst (ys.map .str ++ [.str "x"]))) p8 = some (.lst (ys.map .str ++ [.str "x"])) := put_same
 generalize put G16 p8 (.lst (ys.map .str ++ [.str "x"])) = G17 at q4 q8 ⊢
 refine stp ?_
 ((try dsimp only [semS, semE, semT, sem, mkE, mkB, blE, truE, semA, semO, semG, semGs, semI, semC, conW, intR, blR, negR, gZ, gS, tZ, tS]); try simp only [f9])
 refine ⟨u, rfl, us, by omega, fun p9 G18 k18 hp9 q9 => ?_⟩
 have q4 := k18 _ _ (by simp) q4
 have q8 := k18 _ _ (by simp) q8
 refine stp ?_
 ((try dsimp only [semS, semE, semT, sem, mkE, mkB, blE, truE, semA, semO, semG, semGs, semI, semC, conW, intR, blR, negR, gZ, gS, tZ, tS]); try simp only [f15, f17, f16, s2, semI])
 refine ⟨u, rfl, us, fun pa G19 k19 ha qa => ?_⟩
 have q9 := k19 _ _ (by simp) q9
 refine once us q9 fun pb G20 k20 hb qb => ?_
 have qa := k20 _ _ (by simp) qa
 have q9 := k20 _ _ (by simp) q9
 refine cmpNe (eqG_same qa qb (parts_pd us)) ?_
 dsimp only
 rw [if_neg Bool.false_ne_true]
 refine ⟨u, rfl, us, fun zs rz zl pc G21 k21 hc qc => ?_⟩
 have q9 := k21 _ _ (by simp) q9
 simp only [iterW, lstOf_lst q9]
 refine set_lc (n := n) (K := K) (sA := sA) us qc rz q9 "_law_one" fun G22 k22 => ?_
 simp only [Bool.false_eq_true, if_false]
 have kk := ((k19.trans k20).trans k21).trans k22
 have q4 := kk _ _ (by simp) q4
 have q8 := kk _ _ (by simp) q8
 refine stn ?_
 refine stp ?_
 ((try dsimp only [semS, semE, semT, sem, mkE, mkB, blE, truE, semA, semO, semG, semGs, semI, semC, conW, intR, blR, negR, gZ, gS, tZ, tS]); try simp only [f1, f16, f15, f17])
 refine ⟨t, rfl, ts, fun vs rv vl pd' G23 k23 hpd qd => ?_⟩
 have ev : vs = ys := rs_one rv.1 rs.1 fun x => (rv.2 x).trans (rs.2 x).symm
 subst ev
 have q4 := k23 _ _ (by simp) q4
 have q8 := k23 _ _ (by simp) q8
 simp only [lenS, lenW, qd, List.length_map, binR, q8, List.length_append, List.length_cons, List.length_nil, cmpR]
 have e1 : eqG G23 (.int ((vs.length : Int) + 1)) (.int ((vs.length + (0 + 1) : Nat) : Int)) = some true := by
  rw [eqG_int, decide_eq_true]
  omega
 rw [e1]
 simp only [if_true]
 refine ⟨t, rfl, ts, fun pe G24 k24 he qe => ?_⟩
 have q4 := k24 _ _ (by simp) q4
 refine once ts q4 fun pf G25 k25 hf qf => ?_
 have qe := k25 _ _ (by simp) qe
 simp only [cmpR, eqG_same qe qf (parts_pd ts)]
 exact h G25
end
end K11
set_option Elab.async false
set_option linter.all false
set_option maxRecDepth 100000
set_option maxHeartbeats 8000000
namespace K11
open PySem PySem.Spec PyProof.Rows L2 L3
structure Txt (K : Frg) (mg : Str → Option Value) (sA : Addr) : Prop where
 deal : ∃ f, mg "_law_deal" = some (.ref f) ∧ HD K "_law_deal" "_law_deal" s_law_deal .none f
 draw : ∃ f, mg "_law_draw" = some (.ref f) ∧ HD K "_law_draw" "_law_draw" s_law_draw .none f
 names : ∃ f, mg "_law_names" = some (.ref f) ∧ HD K "_law_names" "_law_names" s_law_names .none f
 large : ∃ f, mg "_law_large" = some (.ref f) ∧ HD K "_law_large" "_law_large" s_law_large .none f
 lall : ∃ f, mg "_law_all" = some (.ref f) ∧ HD K "_law_all" "_law_all" s_law_all .none f
 sides : ∃ f, mg "sides_of" = some (.ref f) ∧ HD K "sides_of" "sides_of" ssides_of .none f
 within : ∃ f, mg "all_within" = some (.ref f) ∧ HD K "all_within" "all_within" sall_within .none f
 parts : ∃ f, mg "all_parts" = some (.ref f) ∧ HD K "all_parts" "all_parts" sall_parts .none f
 size : ∃ f, mg "size" = some (.ref f) ∧ HD K "size" "size" ssize .none f
 once : ∃ f, mg "sorted_once" = some (.ref f) ∧ HD K "sorted_once" "sorted_once" ssorted_once .none f
 pof : ∃ f, mg "parts_of" = some (.ref f) ∧ HD K "parts_of" "parts_of" sparts_of .none f
 nin : ∃ f, mg "names_in" = some (.ref f) ∧ HD K "names_in" "names_in" snames_in .none f
 lonce : ∃ f, mg "_law_once" = some (.ref f) ∧ HD K "_law_once" "_law_once" s_law_once .none f
 max : mg "max" = none
 len : mg "len" = none
 list : mg "list" = none
 isi : mg "isinstance" = none
 srt : mg "sorted" = none
 range : mg "range" = none
 rev : mg "reversed" = none
 set : mg "set" = none
 bool : mg "bool" = none
 int : mg "int" = none
 mgS : mg "sides_of" = some (.ref sA)
 hdS : HD K "sides_of" "sides_of" ssides_of .none sA
noncomputable def rk (n : Nat) : Nat := 2 * n + 2 + (if 9 ≤ n then 21 else 0) + (if 10 ≤ n then 21 else 0)
section
variable {q : Pr} {sA : Addr}
noncomputable def Pn (q : Pr) (sA : Addr) (n : Nat) : Prop := ∀ A, Room (rk n) A → ∀ f ∈ (fnL q.K sA).take n, EntOk (q.at A) f
noncomputable def Gam0 : Ctx3 := ⟨[], [], [], [], [], [], []⟩
noncomputable def msides0 : MC := ⟨defScope ssides_of, nsides_of, true, [], [], [], [], [], []⟩
theorem looksides0 : mSs bsides_of msides0 (defBody ssides_of) = true := by decide +kernel
theorem us1' {P : List Value → Prop} (h : ∀ a, P [a]) (us : List Value) (e : us.length = 1) : P us := by
 cases us with
 | nil => cases e
 | cons a l => cases l with
  | nil => exact h a
  | cons b l => cases e
theorem spSides_mono : ∀ ws G (Q Q' : Q3), (∀ w G', Q w G' → Q' w G') → spSides ws G Q XN → spSides ws G Q' XN := fun ws G Q Q' k h => by
 obtain ⟨t, h1, h⟩ := h
 exact ⟨t, h1, k _ _ h⟩
theorem sx_sides (T : Txt q.K q.mg sA) {A : Around} (hr : Room 1 A) : SxE (q.at A) ⟨hcM "sides_of", hcS sA spSides⟩ ∧ RMono (hcS sA spSides) := by
 obtain ⟨fd, F, _⟩ := T.hdS.fd
 have FO := def_okD (k := 0) (sp := spSides) (M := msides0) F scsides_of (fun A hr => good_mk (Γ := Gam0) (p := q.at A) (by have := hr.un; show A.units + 200 < cLine; omega) forall_nil forall_nil forall_nil forall_nil forall_nil forall_nil rfl) ⟨rfl, rfl, rfl, rfl, rfl, rfl, rfl, rfl⟩ looksides0 (fun ws G Q h => by obtain ⟨t, rfl, _⟩ := h; rfl) (fun ws G Q h => sides_sem h)
 exact ⟨sx_hc FO F.kp (binds_of F fun _ _ _ _ _ _ => us1' fun _ => rfl) spSides_mono hr, hcS_mono spSides_mono⟩
theorem goodL (T : Txt q.K q.mg sA) {l : List Fn3} {A : Around} (hu : A.units + 200 < cLine) (hr1 : Room 1 A) (h : ∀ f ∈ l, EntOk (q.at A) f) : Good (GamL sA l) (q.at A) :=
 good_mk (Γ := GamL sA l) hu h
  (forall_cons (gl_type T.bool (by decide +kernel)) (forall_cons (gl_type T.int (by decide +kernel)) (forall_cons (gl_type T.list (by decide +kernel)) (forall_cons (gl_data T.mgS (v := .ref sA) rfl fun _ => rfl) forall_nil))))
  (forall_cons ent_pop (forall_cons ent_join (forall_cons ent_app (forall_cons ent_ext (forall_cons ent_clr forall_nil)))))
  (forall_cons (ent_rng T.range) forall_nil)
  forall_nil
  (forall_cons (ent_rev T.list T.rev) (forall_cons ⟨sx_rv, rvS_mono⟩ (forall_cons ⟨sx_ss T.srt T.set, ssS_mono⟩ (forall_cons (sx_sides T hr1) forall_nil)))) rfl
theorem units_of {k : Nat} {A : Around} (hr : Room k A) : A.units + 200 < cLine := by have := hr.un; omega
theorem good (T : Txt q.K q.mg sA) {n : Nat} (h : Pn q sA n) : ∀ A, Room (rk n) A → Good (Gam q.K sA n) (q.at A) := fun A hr => goodL T (units_of hr) (hr.mono (by unfold rk; omega)) (h A hr)
theorem next {n : Nat} {e : Fn3} (h : Pn q sA n) (hk : rk n ≤ rk (n + 1)) (he : (fnL q.K sA).take (n + 1) = (fnL q.K sA).take n ++ [e]) (hx : ∀ A, Room (rk (n + 1)) A → EntOk (q.at A) e) : Pn q sA (n + 1) := fun A hr => by
 rw [he]
 exact forall_snoc (h A (hr.mono hk)) (hx A hr)
theorem p5 (T : Txt q.K q.mg sA) : Pn q sA 5 := fun A hr => forall_cons (ent_max T.max) (forall_cons (ent_len T.len) (forall_cons (ent_lst T.list) (forall_cons (ent_isi T.isi) (forall_cons (ent_srt2 (units_of hr) T.srt) forall_nil))))
theorem more {n : Nat} {nm qual : Str} {st : Stmt} {f : Addr} {M : MC} {ps : List Str} {sp : Sp3} {body : ISs} (T : Txt q.K q.mg sA) (h : Pn q sA n) (hk : rk n + 1 ≤ rk (n + 1)) (hm : q.mg nm = some (.ref f)) (hd : HD q.K nm qual st .none f) (S : FnScope M.N ps (defScope st)) (eM : MOk (Gam q.K sA n) M (defScope st)) (look : mSs body M (defBody st) = true)
  (len : ∀ ws G Q, sp ws G Q XN → ws.length = ps.length) (hb : ∀ ws G Q, sp ws G Q XN → semSs (Gam q.K sA n) XN body { nx := fun _ G' => Q .non G', rt := Q } (start3 M.N ws) G) (mono : FMono ⟨nm, sp⟩)
  (hbind : ∀ (kV doc pm : Value) (an : Option Addr) (cdv ct : Value) (us : List Value), us.length = ps.length → bindArgs (PySem.W.fnOf nm qual (defArgs st) (defBody st) (defScope st) .none kV doc pm an cdv ct) ⟨us, []⟩ = pure (ps.zip us))
  (he : (fnL q.K sA).take (n + 1) = (fnL q.K sA).take n ++ [⟨nm, sp⟩]) : Pn q sA (n + 1) := by
 obtain ⟨fd, F, _⟩ := hd.fd
 have FO := def_okD F S (good T h) eM look len hb
 exact next h (by omega) he fun A hr => ent_def FO hm F.kp (binds_of F hbind) mono hr hk
theorem moreR {n N : Nat} {nm qual : Str} {st : Stmt} {f : Addr} {M : MC} {ps : List Str} {sp : Nat → Sp3} {body : ISs} (T : Txt q.K q.mg sA) (h : Pn q sA n) (hk : rk n + N ≤ rk (n + 1)) (hm : q.mg nm = some (.ref f)) (hd : HD q.K nm qual st .none f) (S : FnScope M.N ps (defScope st)) (eM : ∀ j, MOk (GamR q.K sA n ⟨nm, sp j⟩) M (defScope st)) (look : mSs body M (defBody st) = true)
  (h0 : ∀ ws G Q, ¬ sp 0 ws G Q XN) (len : ∀ j ws G Q, sp j ws G Q XN → ws.length = ps.length) (hb : ∀ j ws G Q, sp (j + 1) ws G Q XN → semSs (GamR q.K sA n ⟨nm, sp j⟩) XN body { nx := fun _ G' => Q .non G', rt := Q } (start3 M.N ws) G) (mono : ∀ j, FMono ⟨nm, sp j⟩)
  (hbind : ∀ (kV doc pm : Value) (an : Option Addr) (cdv ct : Value) (us : List Value), us.length = ps.length → bindArgs (PySem.W.fnOf nm qual (defArgs st) (defBody st) (defScope st) .none kV doc pm an cdv ct) ⟨us, []⟩ = pure (ps.zip us))
  (he : (fnL q.K sA).take (n + 1) = (fnL q.K sA).take n ++ [⟨nm, sp N⟩]) : Pn q sA (n + 1) := by
 obtain ⟨fd, F, _⟩ := hd.fd
 have FO := rec_ok (k := rk n) (Γ := fun e => GamR q.K sA n e) F S hm (binds_of F hbind) h0 len mono (fun j A hr hx => goodL T (units_of hr) (hr.mono (by unfold rk; omega)) (forall_snoc (h A hr) hx)) eM look hb N
 exact next h (by omega) he fun A hr => ent_def FO hm F.kp (binds_of F hbind) (mono N) hr hk
theorem usS {P : List Value → Prop} {n : Nat} (h : ∀ a l, l.length = n → P (a :: l)) (us : List Value) (e : us.length = n + 1) : P us := by
 cases us with
 | nil => exact absurd e (Nat.succ_ne_zero n).symm
 | cons a l => exact h a l (Nat.succ.inj e)
theorem us0 {P : List Value → Prop} (h : P []) (us : List Value) (e : us.length = 0) : P us := by
 cases us with
 | nil => exact h
 | cons a l => exact absurd e (Nat.succ_ne_zero _)
theorem us1 {P : List Value → Prop} (h : ∀ a0, P [a0]) : ∀ us : List Value, us.length = 1 → P us := usS (P := fun l => P (l)) (fun a0 => us0 (P := fun l => P (a0 :: l)) (h a0))
theorem us2 {P : List Value → Prop} (h : ∀ a0 a1, P [a0, a1]) : ∀ us : List Value, us.length = 2 → P us := usS (P := fun l => P (l)) (fun a0 => usS (P := fun l => P (a0 :: l)) (fun a1 => us0 (P := fun l => P (a0 :: a1 :: l)) (h a0 a1)))
theorem us4 {P : List Value → Prop} (h : ∀ a0 a1 a2 a3, P [a0, a1, a2, a3]) : ∀ us : List Value, us.length = 4 → P us := usS (P := fun l => P (l)) (fun a0 => usS (P := fun l => P (a0 :: l)) (fun a1 => usS (P := fun l => P (a0 :: a1 :: l)) (fun a2 => usS (P := fun l => P (a0 :: a1 :: a2 :: l)) (fun a3 => us0 (P := fun l => P (a0 :: a1 :: a2 :: a3 :: l)) (h a0 a1 a2 a3)))))
theorem p6 (T : Txt q.K q.mg sA) : Pn q sA 6 := by
 obtain ⟨f, hm, hd⟩ := T.deal
 exact more (sp := spDeal) (M := m_law_deal) T (p5 T) (by decide) hm hd sc_law_deal ⟨rfl, rfl, rfl, rfl, rfl, rfl, rfl, rfl⟩ look_law_deal
  (fun ws G Q h => by obtain ⟨a, b, ns, rfl, _⟩ := h; rfl) (fun ws G Q ⟨a, b, ns, e, h1, h2, h3, h4⟩ => by subst e; exact deal_sem rfl rfl h1 h2 h3 h4) (spDeal_mono) (fun _ _ _ _ _ _ => us2 fun _ _ => rfl) rfl
theorem p7 (T : Txt q.K q.mg sA) : Pn q sA 7 := by
 obtain ⟨f, hm, hd⟩ := T.draw
 exact more (sp := spDraw) (M := m_law_draw) T (p6 T) (by decide) hm hd sc_law_draw ⟨rfl, rfl, rfl, rfl, rfl, rfl, rfl, rfl⟩ look_law_draw
  (fun ws G Q h => by obtain ⟨a, b, m, rfl, _⟩ := h; rfl) (fun ws G Q ⟨a, b, m, e, h1, h2, h3⟩ => by subst e; exact draw_sem rfl rfl h1 h2 h3) (spDraw_mono) (fun _ _ _ _ _ _ => us2 fun _ _ => rfl) rfl
theorem p8 (T : Txt q.K q.mg sA) : Pn q sA 8 := by
 obtain ⟨f, hm, hd⟩ := T.names
 exact more (sp := spNames) (M := m_law_names) T (p7 T) (by decide) hm hd sc_law_names ⟨rfl, rfl, rfl, rfl, rfl, rfl, rfl, rfl⟩ look_law_names
  (fun ws G Q h => by obtain ⟨d, l, m, rfl, _⟩ := h; rfl) (fun ws G Q h => names_sem (by decide) h) (fun ws G Q Q' E k hh => by
   obtain ⟨d, l, m, h1, h2, h3, h4, h⟩ := hh
   exact ⟨d, l, m, h1, h2, h3, h4, fun r xs G' a b c d e f g => k _ _ (h r xs G' a b c d e f g)⟩) (fun _ _ _ _ _ _ => us2 fun _ _ => rfl) rfl
theorem p9 (T : Txt q.K q.mg sA) : Pn q sA 9 := by
 obtain ⟨f, hm, hd⟩ := T.large
 exact moreR (N := 21) (sp := spLarge) (M := m_law_large) T (p8 T) (by decide) hm hd sc_law_large (fun j => ⟨rfl, rfl, rfl, rfl, rfl, rfl, rfl, rfl⟩) look_law_large
  (fun ws G Q hh => by
   obtain ⟨d, l, r, m, e, xs, _, _, _, _, _, _, _, _, _, h1, h2, _⟩ := hh
   omega) (fun j ws G Q h => by obtain ⟨d, l, r, m, e, xs, rfl, _⟩ := h; rfl) (fun j ws G Q h => large_sem h) (fun j ws G Q Q' E k hh => by
   obtain ⟨d, l, r, m, e, xs, h1, h2, h3, h4, h5, h6, h7, h8, h9, h10, h11, h⟩ := hh
   exact ⟨d, l, r, m, e, xs, h1, h2, h3, h4, h5, h6, h7, h8, h9, h10, h11, fun t G' a b c d e => k _ _ (h t G' a b c d e)⟩) (fun _ _ _ _ _ _ => us4 fun _ _ _ _ => rfl) rfl
theorem p10 (T : Txt q.K q.mg sA) : Pn q sA 10 := by
 obtain ⟨f, hm, hd⟩ := T.lall
 exact moreR (N := 21) (sp := spAll) (M := m_law_all) T (p9 T) (by decide) hm hd sc_law_all (fun j => ⟨rfl, rfl, rfl, rfl, rfl, rfl, rfl, rfl⟩) look_law_all
  (fun ws G Q hh => by
   obtain ⟨t, _, _, h1, _⟩ := hh
   omega) (fun j ws G Q h => by obtain ⟨t, rfl, _⟩ := h; rfl) (fun j ws G Q h => all_sem h) (fun j ws G Q Q' E k hh => by
   obtain ⟨t, h1, h2, h3, h⟩ := hh
   exact ⟨t, h1, h2, h3, h.mono k⟩) (fun _ _ _ _ _ _ => us1 fun _ => rfl) rfl
theorem p11 (T : Txt q.K q.mg sA) : Pn q sA 11 := by
 obtain ⟨f, hm, hd⟩ := T.sides
 exact more (sp := spSides) (M := msides_of) T (p10 T) (by decide) hm hd scsides_of ⟨rfl, rfl, rfl, rfl, rfl, rfl, rfl, rfl⟩ looksides_of
  (fun ws G Q h => by obtain ⟨t, rfl, _⟩ := h; rfl) (fun ws G Q h => sides_sem h) (fun ws G Q Q' E k hh => by
   obtain ⟨t, h1, h⟩ := hh
   exact ⟨t, h1, k _ _ h⟩) (fun _ _ _ _ _ _ => us1 fun _ => rfl) rfl
theorem p12 (T : Txt q.K q.mg sA) : Pn q sA 12 := by
 obtain ⟨f, hm, hd⟩ := T.within
 exact more (sp := spWithin sA) (M := mall_within) T (p11 T) (by decide) hm hd scall_within ⟨rfl, rfl, rfl, rfl, rfl, rfl, rfl, rfl⟩ lookall_within
  (fun ws G Q h => by obtain ⟨t, rfl, _⟩ := h; rfl) (fun ws G Q h => within_sem h) (fun ws G Q Q' E k hh => by
   obtain ⟨t, h1, h2, h⟩ := hh
   exact ⟨t, h1, h2, h.mono k⟩) (fun _ _ _ _ _ _ => us2 fun _ _ => rfl) rfl
theorem p13 (T : Txt q.K q.mg sA) : Pn q sA 13 := by
 obtain ⟨f, hm, hd⟩ := T.parts
 exact more (sp := spParts) (M := mall_parts) T (p12 T) (by decide) hm hd scall_parts ⟨rfl, rfl, rfl, rfl, rfl, rfl, rfl, rfl⟩ lookall_parts
  (fun ws G Q h => by obtain ⟨t, rfl, _⟩ := h; rfl) (fun ws G Q h => parts_sem (by decide) h) (fun ws G Q Q' E k hh => by
   obtain ⟨t, h1, h2, h⟩ := hh
   exact ⟨t, h1, h2, h.mono k⟩) (fun _ _ _ _ _ _ => us1 fun _ => rfl) rfl
theorem p14 (T : Txt q.K q.mg sA) : Pn q sA 14 := by
 obtain ⟨f, hm, hd⟩ := T.size
 exact more (sp := spSize) (M := msize) T (p13 T) (by decide) hm hd scsize ⟨rfl, rfl, rfl, rfl, rfl, rfl, rfl, rfl⟩ looksize
  (fun ws G Q h => by obtain ⟨t, rfl, _⟩ := h; rfl) (fun ws G Q h => size_sem (by decide) h) (fun ws G Q Q' E k hh => by
   obtain ⟨t, h1, h2, h⟩ := hh
   exact ⟨t, h1, h2, fun G' a => k _ _ (h G' a)⟩) (fun _ _ _ _ _ _ => us1 fun _ => rfl) rfl
theorem p15 (T : Txt q.K q.mg sA) : Pn q sA 15 := by
 obtain ⟨f, hm, hd⟩ := T.once
 exact more (sp := spOnce) (M := msorted_once) T (p14 T) (by decide) hm hd scsorted_once ⟨rfl, rfl, rfl, rfl, rfl, rfl, rfl, rfl⟩ looksorted_once
  (fun ws G Q h => by obtain ⟨p, xs, rfl, _⟩ := h; rfl) (fun ws G Q h => once_sem (by decide) h) (fun ws G Q Q' E k hh => by
   obtain ⟨p, xs, h1, h2, h3, h⟩ := hh
   exact ⟨p, xs, h1, h2, h3, fun ys so => (h ys so).mono k⟩) (fun _ _ _ _ _ _ => us1 fun _ => rfl) rfl
theorem p16 (T : Txt q.K q.mg sA) : Pn q sA 16 := by
 obtain ⟨f, hm, hd⟩ := T.pof
 exact more (sp := spPof) (M := mparts_of) T (p15 T) (by decide) hm hd scparts_of ⟨rfl, rfl, rfl, rfl, rfl, rfl, rfl, rfl⟩ lookparts_of
  (fun ws G Q h => by obtain ⟨t, rfl, _⟩ := h; rfl) (fun ws G Q h => pof_sem (by decide) h) (fun ws G Q Q' E k hh => by
   obtain ⟨t, h1, h2, h⟩ := hh
   exact ⟨t, h1, h2, h.mono k⟩) (fun _ _ _ _ _ _ => us1 fun _ => rfl) rfl
theorem p17 (T : Txt q.K q.mg sA) : Pn q sA 17 := by
 obtain ⟨f, hm, hd⟩ := T.nin
 exact more (sp := spNin) (M := mnames_in) T (p16 T) (by decide) hm hd scnames_in ⟨rfl, rfl, rfl, rfl, rfl, rfl, rfl, rfl⟩ looknames_in
  (fun ws G Q h => by obtain ⟨t, rfl, _⟩ := h; rfl) (fun ws G Q h => nin_sem (by decide) h) (fun ws G Q Q' E k hh => by
   obtain ⟨t, h1, h2, h⟩ := hh
   exact ⟨t, h1, h2, fun ys a b => (h ys a b).mono k⟩) (fun _ _ _ _ _ _ => us1 fun _ => rfl) rfl
theorem p18 (T : Txt q.K q.mg sA) : Pn q sA 18 := by
 obtain ⟨f, hm, hd⟩ := T.lonce
 exact more (sp := spOnce) (M := m_law_once) T (p17 T) (by decide) hm hd sc_law_once ⟨rfl, rfl, rfl, rfl, rfl, rfl, rfl, rfl⟩ look_law_once
  (fun ws G Q h => by obtain ⟨p, xs, rfl, _⟩ := h; rfl) (fun ws G Q h => lonce_sem (by decide) h) (fun ws G Q Q' E k hh => by
   obtain ⟨p, xs, h1, h2, h3, h⟩ := hh
   exact ⟨p, xs, h1, h2, h3, fun ys so => (h ys so).mono k⟩) (fun _ _ _ _ _ _ => us1 fun _ => rfl) rfl
theorem law_ok {P : Program} {w : World} {K : Frg} {mg : Str → Option Value} (T : Txt K mg sA) {f : Addr} (hd : HD K "law" "law" slaw .none f) : ∃ fd : FuncData, (∀ (s : Shared) (u : Value), BindsTo s fd ⟨[u], []⟩ [("_law_script", u)]) ∧ ∀ base : Heap, FnOk P w K mg base CX0 81 f fd ["_law_script"] (lowSp K spLaw) := by
 obtain ⟨fd, F, kV, doc, pm, an, cdv, ct, e⟩ := hd.fd
 refine ⟨fd, fun s u => by subst e; exact .of_eq rfl, fun base => def_okD (q := ⟨P, w, K, mg, base⟩) (k := 80) (sp := spLaw) (M := mlaw) F sclaw (good (q := ⟨P, w, K, mg, base⟩) T (p18 T)) ⟨rfl, rfl, rfl, rfl, rfl, rfl, rfl, rfl⟩ looklaw (fun ws G Q h => by obtain ⟨a, ns, rfl, _⟩ := h; rfl) fun ws G Q h => ?_⟩
 obtain ⟨a, ns, rfl, hs, hl, h⟩ := h
 exact law_sem (by decide) hs hl h
end
end K11
set_option Elab.async false
set_option linter.all false
set_option maxRecDepth 100000
set_option maxHeartbeats 8000000
namespace K11
open PySem PySem.Spec PyProof.Rows L2 L3
theorem all_mk {l : PySem.W.OpenLaw} {w : World} {K : Frg} {h : Heap} {mg : Str → Option Value} {fa sA f1 f2 f3 f4 f5 f6 f7 f8 f9 f10 f11 f12 f13 f14 : Addr} (X : K.In h) (G : h.Ns mainGlobals mg) (hfa : mg "law" = some (.ref fa))
  {od1 an1 od2 an2 od3 an3 od4 an4 od5 an5 od6 an6 od7 an7 od8 an8 od9 an9 od10 an10 od11 an11 od12 an12 od13 an13 od14 an14 : Option Addr} {sl1 sl2 sl3 sl4 sl5 sl6 sl7 sl8 sl9 sl10 sl11 sl12 sl13 sl14 : Array (Option Value)} {oc1 kV1 dc1 pm1 cd1 ct1 oc2 kV2 dc2 pm2 cd2 ct2 oc3 kV3 dc3 pm3 cd3 ct3 oc4 kV4 dc4 pm4 cd4 ct4 oc5 kV5 dc5 pm5 cd5 ct5 oc6 kV6 dc6 pm6 cd6 ct6 oc7 kV7 dc7 pm7 cd7 ct7 oc8 kV8 dc8 pm8 cd8 ct8 oc9 kV9 dc9 pm9 cd9 ct9 oc10 kV10 dc10 pm10 cd10 ct10 oc11 kV11 dc11 pm11 cd11 ct11 oc12 kV12 dc12 pm12 cd12 ct12 oc13 kV13 dc13 pm13 cd13 ct13 oc14 kV14 dc14 pm14 cd14 ct14 : Value} {odS anS : Option Addr} {slS : Array (Option Value)} {ocS kVS dcS pmS cdS ctS : Value}
  (a1 : PySem.W.nsIn K mainGlobals "_law_deal" = some (some (.ref f1))) (l1 : K.lookup f1 = some ⟨oc1, od1, .func (PySem.W.fnOf "_law_deal" "_law_deal" (defArgs s_law_deal) (defBody s_law_deal) (defScope s_law_deal) .none kV1 dc1 pm1 an1 cd1 ct1), sl1⟩) (c1 : PySem.W.codeIn K cd1 "_law_deal" = true) (k1 : PySem.W.keepIn K (.ref f1) = true)
  (a2 : PySem.W.nsIn K mainGlobals "_law_draw" = some (some (.ref f2))) (l2 : K.lookup f2 = some ⟨oc2, od2, .func (PySem.W.fnOf "_law_draw" "_law_draw" (defArgs s_law_draw) (defBody s_law_draw) (defScope s_law_draw) .none kV2 dc2 pm2 an2 cd2 ct2), sl2⟩) (c2 : PySem.W.codeIn K cd2 "_law_draw" = true) (k2 : PySem.W.keepIn K (.ref f2) = true)
  (a3 : PySem.W.nsIn K mainGlobals "_law_names" = some (some (.ref f3))) (l3 : K.lookup f3 = some ⟨oc3, od3, .func (PySem.W.fnOf "_law_names" "_law_names" (defArgs s_law_names) (defBody s_law_names) (defScope s_law_names) .none kV3 dc3 pm3 an3 cd3 ct3), sl3⟩) (c3 : PySem.W.codeIn K cd3 "_law_names" = true) (k3 : PySem.W.keepIn K (.ref f3) = true)
  (a4 : PySem.W.nsIn K mainGlobals "_law_large" = some (some (.ref f4))) (l4 : K.lookup f4 = some ⟨oc4, od4, .func (PySem.W.fnOf "_law_large" "_law_large" (defArgs s_law_large) (defBody s_law_large) (defScope s_law_large) .none kV4 dc4 pm4 an4 cd4 ct4), sl4⟩) (c4 : PySem.W.codeIn K cd4 "_law_large" = true) (k4 : PySem.W.keepIn K (.ref f4) = true)
  (a5 : PySem.W.nsIn K mainGlobals "_law_all" = some (some (.ref f5))) (l5 : K.lookup f5 = some ⟨oc5, od5, .func (PySem.W.fnOf "_law_all" "_law_all" (defArgs s_law_all) (defBody s_law_all) (defScope s_law_all) .none kV5 dc5 pm5 an5 cd5 ct5), sl5⟩) (c5 : PySem.W.codeIn K cd5 "_law_all" = true) (k5 : PySem.W.keepIn K (.ref f5) = true)
  (a6 : PySem.W.nsIn K mainGlobals "sides_of" = some (some (.ref f6))) (l6 : K.lookup f6 = some ⟨oc6, od6, .func (PySem.W.fnOf "sides_of" "sides_of" (defArgs ssides_of) (defBody ssides_of) (defScope ssides_of) .none kV6 dc6 pm6 an6 cd6 ct6), sl6⟩) (c6 : PySem.W.codeIn K cd6 "sides_of" = true) (k6 : PySem.W.keepIn K (.ref f6) = true)
  (a7 : PySem.W.nsIn K mainGlobals "all_within" = some (some (.ref f7))) (l7 : K.lookup f7 = some ⟨oc7, od7, .func (PySem.W.fnOf "all_within" "all_within" (defArgs sall_within) (defBody sall_within) (defScope sall_within) .none kV7 dc7 pm7 an7 cd7 ct7), sl7⟩) (c7 : PySem.W.codeIn K cd7 "all_within" = true) (k7 : PySem.W.keepIn K (.ref f7) = true)
  (a8 : PySem.W.nsIn K mainGlobals "all_parts" = some (some (.ref f8))) (l8 : K.lookup f8 = some ⟨oc8, od8, .func (PySem.W.fnOf "all_parts" "all_parts" (defArgs sall_parts) (defBody sall_parts) (defScope sall_parts) .none kV8 dc8 pm8 an8 cd8 ct8), sl8⟩) (c8 : PySem.W.codeIn K cd8 "all_parts" = true) (k8 : PySem.W.keepIn K (.ref f8) = true)
  (a9 : PySem.W.nsIn K mainGlobals "size" = some (some (.ref f9))) (l9 : K.lookup f9 = some ⟨oc9, od9, .func (PySem.W.fnOf "size" "size" (defArgs ssize) (defBody ssize) (defScope ssize) .none kV9 dc9 pm9 an9 cd9 ct9), sl9⟩) (c9 : PySem.W.codeIn K cd9 "size" = true) (k9 : PySem.W.keepIn K (.ref f9) = true)
  (a10 : PySem.W.nsIn K mainGlobals "sorted_once" = some (some (.ref f10))) (l10 : K.lookup f10 = some ⟨oc10, od10, .func (PySem.W.fnOf "sorted_once" "sorted_once" (defArgs ssorted_once) (defBody ssorted_once) (defScope ssorted_once) .none kV10 dc10 pm10 an10 cd10 ct10), sl10⟩) (c10 : PySem.W.codeIn K cd10 "sorted_once" = true) (k10 : PySem.W.keepIn K (.ref f10) = true)
  (a11 : PySem.W.nsIn K mainGlobals "parts_of" = some (some (.ref f11))) (l11 : K.lookup f11 = some ⟨oc11, od11, .func (PySem.W.fnOf "parts_of" "parts_of" (defArgs sparts_of) (defBody sparts_of) (defScope sparts_of) .none kV11 dc11 pm11 an11 cd11 ct11), sl11⟩) (c11 : PySem.W.codeIn K cd11 "parts_of" = true) (k11 : PySem.W.keepIn K (.ref f11) = true)
  (a12 : PySem.W.nsIn K mainGlobals "names_in" = some (some (.ref f12))) (l12 : K.lookup f12 = some ⟨oc12, od12, .func (PySem.W.fnOf "names_in" "names_in" (defArgs snames_in) (defBody snames_in) (defScope snames_in) .none kV12 dc12 pm12 an12 cd12 ct12), sl12⟩) (c12 : PySem.W.codeIn K cd12 "names_in" = true) (k12 : PySem.W.keepIn K (.ref f12) = true)
  (a13 : PySem.W.nsIn K mainGlobals "_law_once" = some (some (.ref f13))) (l13 : K.lookup f13 = some ⟨oc13, od13, .func (PySem.W.fnOf "_law_once" "_law_once" (defArgs s_law_once) (defBody s_law_once) (defScope s_law_once) .none kV13 dc13 pm13 an13 cd13 ct13), sl13⟩) (c13 : PySem.W.codeIn K cd13 "_law_once" = true) (k13 : PySem.W.keepIn K (.ref f13) = true)
  (a14 : PySem.W.nsIn K mainGlobals "law" = some (some (.ref f14))) (l14 : K.lookup f14 = some ⟨oc14, od14, .func (PySem.W.fnOf "law" "law" (defArgs slaw) (defBody slaw) (defScope slaw) .none kV14 dc14 pm14 an14 cd14 ct14), sl14⟩) (c14 : PySem.W.codeIn K cd14 "law" = true) (k14 : PySem.W.keepIn K (.ref f14) = true)
  (z0 : PySem.W.nsIn K mainGlobals "max" = some none)
  (z1 : PySem.W.nsIn K mainGlobals "len" = some none)
  (z2 : PySem.W.nsIn K mainGlobals "list" = some none)
  (z3 : PySem.W.nsIn K mainGlobals "isinstance" = some none)
  (z4 : PySem.W.nsIn K mainGlobals "sorted" = some none)
  (z5 : PySem.W.nsIn K mainGlobals "range" = some none)
  (z6 : PySem.W.nsIn K mainGlobals "reversed" = some none)
  (z7 : PySem.W.nsIn K mainGlobals "set" = some none)
  (z8 : PySem.W.nsIn K mainGlobals "bool" = some none)
  (z9 : PySem.W.nsIn K mainGlobals "int" = some none)
  (aS : PySem.W.nsIn K mainGlobals "sides_of" = some (some (.ref sA))) (lS : K.lookup sA = some ⟨ocS, odS, .func (PySem.W.fnOf "sides_of" "sides_of" (defArgs ssides_of) (defBody ssides_of) (defScope ssides_of) .none kVS dcS pmS anS cdS ctS), slS⟩) (cS : PySem.W.codeIn K cdS "sides_of" = true) (kS : PySem.W.keepIn K (.ref sA) = true) :
  ∃ fd : FuncData, (∀ (s : Shared) (u : Value), BindsTo s fd ⟨[u], []⟩ [("_law_script", u)]) ∧ ∀ base : Heap, K.In base → base.Ns mainGlobals mg → FnOk l.prog w K mg base CX0 81 fa fd ["_law_script"] (lowSp K spLaw) := by
 have e := hfa.symm.trans (PySem.W.mg_of X G a14)
 cases e
 have T : Txt K mg sA := {
  deal := ⟨f1, PySem.W.mg_of X G a1, HD.mk' l1 c1 k1⟩
  draw := ⟨f2, PySem.W.mg_of X G a2, HD.mk' l2 c2 k2⟩
  names := ⟨f3, PySem.W.mg_of X G a3, HD.mk' l3 c3 k3⟩
  large := ⟨f4, PySem.W.mg_of X G a4, HD.mk' l4 c4 k4⟩
  lall := ⟨f5, PySem.W.mg_of X G a5, HD.mk' l5 c5 k5⟩
  sides := ⟨f6, PySem.W.mg_of X G a6, HD.mk' l6 c6 k6⟩
  within := ⟨f7, PySem.W.mg_of X G a7, HD.mk' l7 c7 k7⟩
  parts := ⟨f8, PySem.W.mg_of X G a8, HD.mk' l8 c8 k8⟩
  size := ⟨f9, PySem.W.mg_of X G a9, HD.mk' l9 c9 k9⟩
  once := ⟨f10, PySem.W.mg_of X G a10, HD.mk' l10 c10 k10⟩
  pof := ⟨f11, PySem.W.mg_of X G a11, HD.mk' l11 c11 k11⟩
  nin := ⟨f12, PySem.W.mg_of X G a12, HD.mk' l12 c12 k12⟩
  lonce := ⟨f13, PySem.W.mg_of X G a13, HD.mk' l13 c13 k13⟩
  max := PySem.W.mg_none_of X G z0
  len := PySem.W.mg_none_of X G z1
  list := PySem.W.mg_none_of X G z2
  isi := PySem.W.mg_none_of X G z3
  srt := PySem.W.mg_none_of X G z4
  range := PySem.W.mg_none_of X G z5
  rev := PySem.W.mg_none_of X G z6
  set := PySem.W.mg_none_of X G z7
  bool := PySem.W.mg_none_of X G z8
  int := PySem.W.mg_none_of X G z9
  mgS := PySem.W.mg_of X G aS
  hdS := HD.mk' lS cS kS }
 obtain ⟨fd, hb, hF⟩ := law_ok (P := l.prog) (w := w) T (HD.mk' l14 c14 k14)
 exact ⟨fd, hb, fun base _ _ => hF base⟩
end K11
open PySem PySem.W PyProof.Rows
set_option maxRecDepth 100000 in
set_option maxHeartbeats 0 in
theorem PySem.Challenge.cw_talkcourt_k11_parts_holds : PySem.Challenge.rw_talkcourt_k11_parts.Holds := by
 w_on; o_law; k_head; (case hw => w_witness2)
 k_fill
 refine L3.walk3 (l := PySem.Challenge.rw_talkcourt_k11_parts) (k := 81) rfl rfl ⟨rfl, by decide, by decide⟩ (fun w h Y => PySem.W.kIn_of Y) ?F
 case F =>
  intro w mg fa h KX G hmg
  refine' K11.all_mk KX G hmg ?a1 ?l1 ?c1 ?k1 ?a2 ?l2 ?c2 ?k2 ?a3 ?l3 ?c3 ?k3 ?a4 ?l4 ?c4 ?k4 ?a5 ?l5 ?c5 ?k5 ?a6 ?l6 ?c6 ?k6 ?a7 ?l7 ?c7 ?k7 ?a8 ?l8 ?c8 ?k8 ?a9 ?l9 ?c9 ?k9 ?a10 ?l10 ?c10 ?k10 ?a11 ?l11 ?c11 ?k11 ?a12 ?l12 ?c12 ?k12 ?a13 ?l13 ?c13 ?k13 ?a14 ?l14 ?c14 ?k14 ?z0 ?z1 ?z2 ?z3 ?z4 ?z5 ?z6 ?z7 ?z8 ?z9 ?aS ?lS ?cS ?kS
  case a1 | l1 | c1 | k1 | a2 | l2 | c2 | k2 | a3 | l3 | c3 | k3 | a4 | l4 | c4 | k4 | a5 | l5 | c5 | k5 | a6 | l6 | c6 | k6 | a7 | l7 | c7 | k7 | a8 | l8 | c8 | k8 | a9 | l9 | c9 | k9 | a10 | l10 | c10 | k10 | a11 | l11 | c11 | k11 | a12 | l12 | c12 | k12 | a13 | l13 | c13 | k13 | a14 | l14 | c14 | k14 | z0 | z1 | z2 | z3 | z4 | z5 | z6 | z7 | z8 | z9 | aS | lS | cS | kS => k_is
