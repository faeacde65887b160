import PyProof.Rows.All
import Wide.All
import OpenK.AllK
import Wide.FinOn
import Lean
import PyProof.EqAt
import PyProof.EqKinds
import PyProof.TupleCall
import PyProof.StrBlock2
import PySem.Challenge.RW_gapscribe_k22_puts_wraps_keeps
set_option Elab.async false
set_option linter.all false
set_option maxRecDepth 100000
namespace L2
open PySem PySem.Spec PyProof.Rows
noncomputable abbrev Key := Sum Int Str
noncomputable def keyIs : Key → Value → Bool
 | .inl k, v => Value.isInt k v
 | .inr x, v => Value.isStrOf x v
noncomputable def keyH (w : World) : Key → Int
 | .inl k => hashInt k
 | .inr x => hashStr w x
theorem keyIs_shape : ∀ {k : Key} {v : Value}, keyIs k v = true → (∃ i t, k = Sum.inl i ∧ v = Value.int i t) ∨ (∃ x t, k = Sum.inr x ∧ v = Value.str x t)
 | .inl i, v, h => by
  obtain ⟨t, e⟩ := Value.isInt_shape (k := i) (v := v) h
  exact .inl ⟨i, t, rfl, e⟩
 | .inr x, v, h => by
  obtain ⟨t, e⟩ := Value.isStrOf_shape (x := x) (v := v) h
  exact .inr ⟨x, t, rfl, e⟩
theorem key_ll (a b : Int) : decide ((Sum.inl a : Key) = Sum.inl b) = (a == b) := by
 by_cases e : a = b
 ·subst e; simp
 ·have h : ¬ (Sum.inl a : Key) = Sum.inl b := fun q => e (Sum.inl.inj q)
  rw [decide_eq_false h]
  exact (beq_eq_false_iff_ne.mpr e).symm
theorem key_rr (a b : Str) : decide ((Sum.inr a : Key) = Sum.inr b) = decide (a = b) := by
 by_cases e : a = b
 ·subst e; simp
 ·have h : ¬ (Sum.inr a : Key) = Sum.inr b := fun q => e (Sum.inr.inj q)
  rw [decide_eq_false h, decide_eq_false e]
theorem key_lr (a : Int) (b : Str) : decide ((Sum.inl a : Key) = Sum.inr b) = false := decide_eq_false (fun q => nomatch q)
theorem key_rl (a : Str) (b : Int) : decide ((Sum.inr a : Key) = Sum.inl b) = false := decide_eq_false (fun q => nomatch q)
noncomputable def mixKind (prog : Program) (w : World) : PySem.KeyKind prog w Key where
 is := keyIs
 hash := keyH w
 inj := fun v a b ha hb => by
  rcases keyIs_shape ha with ⟨i, t, rfl, rfl⟩ | ⟨x, t, rfl, rfl⟩
  ·rcases keyIs_shape hb with ⟨j, u, rfl, e⟩ | ⟨y, u, rfl, e⟩
   ·injection e with e1 _; rw [e1]
   ·exact nomatch e
  ·rcases keyIs_shape hb with ⟨j, u, rfl, e⟩ | ⟨y, u, rfl, e⟩
   ·exact nomatch e
   ·injection e with e1 _; rw [e1]
 byValue := fun k v h => by
  rcases keyIs_shape h with ⟨i, t, rfl, rfl⟩ | ⟨x, t, rfl, rfl⟩ <;> rfl
 pyHash := fun hv h => by
  rcases keyIs_shape hv with ⟨i, t, rfl, rfl⟩ | ⟨x, t, rfl, rfl⟩
  ·exact wpAny_pyHash_int h
  ·exact wpAny_pyHash_str h
 eqBool := fun hu hv h => by
  rcases keyIs_shape hu with ⟨i, t, rfl, rfl⟩ | ⟨x, t, rfl, rfl⟩
  ·rcases keyIs_shape hv with ⟨j, u, rfl, rfl⟩ | ⟨y, u, rfl, rfl⟩
   ·rw [key_ll] at h; exact wpAny_eqBool_int h
   ·rw [key_lr] at h; exact SeqAt.EqAt.int_str i t y u _ _ _ _ h
  ·rcases keyIs_shape hv with ⟨j, u, rfl, rfl⟩ | ⟨y, u, rfl, rfl⟩
   ·rw [key_rl] at h; exact SeqAt.EqAt.str_int x t j u _ _ _ _ h
   ·rw [key_rr] at h; exact wpAny_eqBool_str h
 «strs» := fun k x t v h => by
  rcases keyIs_shape h with ⟨i, u, rfl, e⟩ | ⟨y, u, rfl, e⟩
  ·exact nomatch e
  ·injection e with e1 _
   subst e1
   cases v <;> rfl
end L2
namespace L2
open PySem PySem.Spec PyProof.Rows
inductive V where
 | non | bl (b : Bool) | int (i : Int) | str (x : Str) | byt (b : Array UInt8) | flt (b : UInt64) | ref (a : Addr) | ty (n : String)
 deriving DecidableEq
noncomputable def RelV : V → Value → Prop
 | .non, u => u = Value.none
 | .bl b, u => u = Value.bool b
 | .int i, u => ∃ t, u = Value.int i t
 | .str x, u => ∃ t, u = Value.str x t
 | .byt b, u => ∃ t, u = Value.bytes b t
 | .flt b, u => ∃ t, u = Value.float b t
 | .ref a, u => u = Value.ref a
 | .ty n, u => u = Value.type n
noncomputable abbrev Vals : List V → List Value → Prop := Paired RelV
theorem Vals.length {xs : List V} {us : List Value} (r : Vals xs us) : xs.length = us.length := Paired.length r
theorem Vals.get : ∀ {xs : List V} {us : List Value} {i : Nat} {x : V}, Vals xs us → xs[i]? = some x → ∃ u, us[i]? = some u ∧ RelV x u
 | _, _, _, _, .nil, e => by simp at e
 | _, _, 0, _, .cons r _, e => by simp at e; subst e; exact ⟨_, rfl, r⟩
 | _, _, i + 1, x, .cons _ t, e => by
  obtain ⟨u, h1, h2⟩ := Vals.get (i := i) (x := x) t (by simpa using e)
  exact ⟨u, by simpa using h1, h2⟩
theorem Vals.set {x : V} {u : Value} (r : RelV x u) : ∀ {xs : List V} {us : List Value} (i : Nat), Vals xs us → Vals (xs.set i x) (us.set i u)
 | _, _, _, .nil => .nil
 | _, _, 0, .cons _ t => .cons r t
 | _, _, i + 1, .cons q t => .cons q (Vals.set r i t)
theorem Vals.append : ∀ {xs ys : List V} {us ws : List Value}, Vals xs us → Vals ys ws → Vals (xs ++ ys) (us ++ ws)
 | _, _, _, _, .nil, s => s
 | _, _, _, _, .cons r t, s => .cons r (Vals.append t s)
theorem Vals.take : ∀ {xs : List V} {us : List Value} (n : Nat), Vals xs us → Vals (xs.take n) (us.take n)
 | _, _, 0, _ => .nil
 | _, _, _ + 1, .nil => .nil
 | _, _, n + 1, .cons r t => .cons r (Vals.take n t)
theorem Vals.drop : ∀ {xs : List V} {us : List Value} (n : Nat), Vals xs us → Vals (xs.drop n) (us.drop n)
 | _, _, 0, r => r
 | _, _, _ + 1, .nil => .nil
 | _, _, n + 1, .cons _ t => Vals.drop n t
noncomputable def RelO : Option V → Option Value → Prop
 | some v, some u => RelV v u
 | none, none => True
 | _, _ => False
noncomputable def KV {κ : Type} : List (κ × V) → List (κ × Value) → Prop := Paired fun (p : κ × V) (q : κ × Value) => p.1 = q.1 ∧ RelV p.2 q.2
noncomputable def kV : Key → V
 | .inl i => .int i
 | .inr x => .str x
inductive HO where
  | lst (xs : List V)
  | tup (xs : List V)
  | dK (kvs : List (Key × V)) | dT (kvs : List (List Key × V))
  | set (S : Int → Bool) (n : Nat)
  | ins (C dx : Addr) (fs : List (Str × V))
  | own (x : Addr)
  | xd (fs : List (Str × V))
  | met (f x : Addr)
  | rng (lo hi : Int)
  | frz (o : Obj) (u : HO)
  | tbl (ps : Array Value)
  | ext (φ : Heap → Prop)
noncomputable abbrev Hp := Addr → Option HO
noncomputable def upd (H : Hp) (a : Addr) (o : HO) : Hp := fun b => if b = a then some o else H b
theorem upd_same {H : Hp} {a : Addr} {o : HO} : upd H a o a = some o := by unfold upd; rw [if_pos rfl]
theorem upd_ne {H : Hp} {a b : Addr} {o : HO} (h : b ≠ a) : upd H a o b = H b := by unfold upd; rw [if_neg h]
theorem ne_of {H : Hp} {a b : Addr} {o u : HO} (h : H a = some o) (h' : H b = some u) (d : o ≠ u) : a ≠ b := by
 intro e; subst e; rw [h] at h'; exact d (Option.some.inj h')
theorem ne_of_none {H : Hp} {a b : Addr} {o : HO} (h : H a = some o) (h' : H b = none) : a ≠ b := by
 intro e; subst e; rw [h] at h'; cases h'
section
variable (P : Program) (w : World)
noncomputable def ObjOk (H : Hp) (h : Heap) (a : Addr) : HO → Prop
 | .lst xs => xs.length ≤ sizeLine ∧ ∃ (its : List Value) (n : Nat), Vals xs its ∧ h.get? a = some { cls := .type "list", data := .seq its.toArray n }
 | .tup xs => xs.length ≤ sizeLine ∧ ∃ its : List Value, Vals xs its ∧ IsTup h a its.toArray
 | .dK kvs => kvs.length ≤ sizeLine ∧ (a == sysModules) = false ∧ ∃ vs, KV kvs vs ∧ h.DictOf (mixKind P w) a vs
 | .dT kvs => kvs.length ≤ sizeLine ∧ (a == sysModules) = false ∧ ∃ xs : List (List Key × Addr × Value),
   Paired (fun (p : List Key × V) (q : List Key × Addr × Value) => p.1 = q.1 ∧ H q.2.1 = some (.tup (p.1.map kV)) ∧ RelV p.2 q.2.2) kvs xs ∧
   ∃ o es ep, h.get? a = some o ∧ o.ExactDict ∧ o.data = .dict es ep ∧ es.toList = xs.map (entryOfKey (tupleKind (mixKind P w))) ∧ (xs.map (·.1)).Nodup
 | .set S n => h.SetOf (intKind P w) a S n
 | .ins C dx fs => H dx = some (.own a) ∧ fs.length ≤ 1000 ∧ dx ≠ a ∧ h.get? a = some (PySem.W.instObj C dx) ∧
   ∃ mA, h.Ns1 dx mA ∧ (∀ f, RelO (fs.lookup f) (mA f)) ∧ PySem.Within mA (fs.map (·.1))
 | .own _ => ∃ o, h.get? a = some o
 | .xd fs => ∃ mA, h.Ns1 a mA ∧ ∀ f, RelO (fs.lookup f) (mA f)
 | .rng lo hi => ∃ t u v, h.get? a = some { cls := .type "range", data := .fields #[.int lo t, .int hi u, .int 1 v] }
 | .frz o u => h.get? a = some o ∧ ObjOk H h a u
 | .tbl ps => h.get? a = some { cls := .none, data := .fields ps }
 | .met f x => h.get? a = some (PySem.W.methodObj (.ref f) (.ref x))
 | .ext φ => φ h ∧ (∃ o, h.get? a = some o) ∧ ∀ h1 h2 : Heap, φ h1 → (∀ o, h1.get? a = some o → h2.get? a = some o) → φ h2
noncomputable def HOk (H : Hp) (h : Heap) : Prop := ∀ a o, H a = some o → ObjOk P w H h a o
end
section
variable {P : Program} {w : World} {H H' : Hp} {h h' : Heap} {a : Addr} {o : HO}
theorem ObjOk.lt (x : ObjOk P w H h a o) : a < h.objs.size := by
 cases o with
 | lst xs => obtain ⟨_, _, _, _, e⟩ := x; exact Heap.lt_size e
 | tup xs => obtain ⟨_, _, _, p⟩ := x; exact p.lt
 | dK kvs => obtain ⟨_, _, _, _, o, _, _, e, _⟩ := x; exact Heap.lt_size e
 | dT kvs => obtain ⟨_, _, _, _, o, _, _, e, _⟩ := x; exact Heap.lt_size e
 | set S n => obtain ⟨o, _, _, _, e, _⟩ := x; exact Heap.lt_size e
 | ins C dx fs => obtain ⟨_, _, _, e, _⟩ := x; exact Heap.lt_size e
 | own y => obtain ⟨_, e⟩ := x; exact Heap.lt_size e
 | xd fs => obtain ⟨_, ⟨_, _, _, e, _⟩, _⟩ := x; exact Heap.lt_size e
 | rng lo hi => obtain ⟨_, _, _, e⟩ := x; exact Heap.lt_size e
 | frz ob u => obtain ⟨e, _⟩ := x; exact Heap.lt_size e
 | tbl ps => exact Heap.lt_size (show h.get? a = some _ from x)
 | met f y => exact Heap.lt_size (show h.get? a = some _ from x)
 | ext φ => obtain ⟨_, ⟨_, e⟩, _⟩ := x; exact Heap.lt_size e
theorem Paired.mapP {α β : Type} {F G : α → β → Prop} : ∀ {l₁ : List α} {l₂ : List β}, Paired F l₁ l₂ → (∀ a b, F a b → G a b) → Paired G l₁ l₂
 | _, _, .nil, _ => .nil
 | _, _, .cons r t, f => .cons (f _ _ r) (Paired.mapP t f)
theorem ObjOk.stay (x : ObjOk P w H h a o) (k : ∀ b u, (b = a ∨ H b = some (.own a)) → h.get? b = some u → h'.get? b = some u)
  (ho : ∀ b, H b = some (.own a) → H' b = some (.own a)) (ht : ∀ b xs, H b = some (.tup xs) → H' b = some (.tup xs)) : ObjOk P w H' h' a o := by
 induction o with
 | lst xs => obtain ⟨z, its, n, r, e⟩ := x; exact ⟨z, its, n, r, k _ _ (.inl rfl) e⟩
 | tup xs => obtain ⟨z, its, r, ob, e, c⟩ := x; exact ⟨z, its, r, ob, k _ _ (.inl rfl) e, c⟩
 | dK kvs => obtain ⟨z, y, vs, r, ob, es, ep, e, c⟩ := x; exact ⟨z, y, vs, r, ob, es, ep, k _ _ (.inl rfl) e, c⟩
 | dT kvs =>
  obtain ⟨z, y, xs, r, ob, es, ep, e, c⟩ := x
  exact ⟨z, y, xs, Paired.mapP r fun p q z => ⟨z.1, ht _ _ z.2.1, z.2.2⟩, ob, es, ep, k _ _ (.inl rfl) e, c⟩
 | set S n => obtain ⟨ob, es, ep, t, e, c⟩ := x; exact ⟨ob, es, ep, t, k _ _ (.inl rfl) e, c⟩
 | ins C dx fs =>
  obtain ⟨d, z, ne, e, mA, ⟨od, es, ep, e2, c⟩, r⟩ := x
  exact ⟨ho _ d, z, ne, k _ _ (.inl rfl) e, mA, ⟨od, es, ep, k _ _ (.inr d) e2, c⟩, r⟩
 | own y => obtain ⟨ob, e⟩ := x; exact ⟨ob, k _ _ (.inl rfl) e⟩
 | xd fs => obtain ⟨mA, ⟨od, es, ep, e, c⟩, r⟩ := x; exact ⟨mA, ⟨od, es, ep, k _ _ (.inl rfl) e, c⟩, r⟩
 | rng lo hi => obtain ⟨t, u, v, e⟩ := x; exact ⟨t, u, v, k _ _ (.inl rfl) e⟩
 | frz ob u ih => obtain ⟨e, q⟩ := x; exact ⟨k _ _ (.inl rfl) e, ih q⟩
 | tbl ps =>
  have e : h.get? a = some { cls := .none, data := .fields ps } := x
  show h'.get? a = some { cls := .none, data := .fields ps }
  exact k a _ (.inl rfl) e
 | met f y =>
  have e : h.get? a = some (PySem.W.methodObj (.ref f) (.ref y)) := x
  show h'.get? a = some (PySem.W.methodObj (.ref f) (.ref y))
  exact k a _ (.inl rfl) e
 | ext φ => obtain ⟨p, ⟨o, e⟩, st⟩ := x; exact ⟨st _ _ p fun o q => k _ _ (.inl rfl) q, ⟨o, k _ _ (.inl rfl) e⟩, st⟩
theorem HOk.lt (x : HOk P w H h) (e : H a = some o) : a < h.objs.size := (x a o e).lt
theorem HOk.fresh (x : HOk P w H h) (e : h.objs.size ≤ a) : H a = none := by
 cases q : H a with
 | none => rfl
 | some u => exact absurd (Nat.lt_of_lt_of_le (x.lt q) e) (Nat.lt_irrefl _)
theorem HOk.kept (x : HOk P w H h) (k : ∀ b u, h.get? b = some u → h'.get? b = some u) : HOk P w H h' := fun a o e =>
 (x a o e).stay (fun b u _ q => k b u q) (fun _ q => q) fun _ _ q => q
theorem HOk.laid (x : HOk P w H h) (k : ∀ b u, h.get? b = some u → h'.get? b = some u) (hp : h.objs.size ≤ a) (new : ObjOk P w (upd H a o) h' a o) : HOk P w (upd H a o) h' := fun b u e => by
 have hn := x.fresh hp
 by_cases hb : b = a
 ·subst hb; rw [upd_same] at e; cases e; exact new
 ·rw [upd_ne hb] at e
  exact (x b u e).stay (fun c v _ q => k c v q) (fun c q => by rw [upd_ne (ne_of_none q hn)]; exact q) fun c xs q => by rw [upd_ne (ne_of_none q hn)]; exact q
end
noncomputable def Rd (H : Hp) (a : Addr) (u : HO) : Prop := H a = some u ∨ ∃ o, H a = some (.frz o u)
theorem Rd.ok {P : Program} {w : World} {H : Hp} {h : Heap} {a : Addr} {u : HO} (r : Rd H a u) (x : HOk P w H h) : ObjOk P w H h a u := by
 rcases r with r | ⟨o, r⟩
 ·exact x a u r
 ·obtain ⟨_, q⟩ := x a _ r
  exact q
noncomputable def Mut : Option HO → Prop
 | some (.lst _) => True
 | some (.dK _) => True
 | some (.dT _) => True
 | some (.set _ _) => True
 | some (.ins _ _ _) => True
 | some (.ext _) => True
 | _ => False
section
variable {P : Program} {w : World} {H : Hp} {h h' : Heap} {x e : Addr} {o' : HO}
theorem HOk.write (ok : HOk P w H h) (mu : Mut (H x)) (he : e = x ∨ H e = some (.own x)) (k : ∀ b u, b ≠ e → h.get? b = some u → h'.get? b = some u) (heo : ∃ u, h'.get? e = some u)
  (new : ObjOk P w (upd H x o') h' x o') : HOk P w (upd H x o') h' := fun b u q => by
 have nown : ∀ c y, H c = some (.own y) → c ≠ x := fun c y r z => by subst z; rw [r] at mu; exact mu
 have ntup : ∀ c xs, H c = some (.tup xs) → c ≠ x := fun c xs r z => by subst z; rw [r] at mu; exact mu
 by_cases hb : b = x
 ·subst hb; rw [upd_same] at q; cases q; exact new
 ·rw [upd_ne hb] at q
  by_cases hbe : b = e
  ·have q' : H b = some (.own x) := by
    rcases he with z | z
    ·exact absurd (hbe.trans z) hb
    ·rw [hbe]; exact z
   rw [q] at q'; cases q'
   obtain ⟨v, hv⟩ := heo
   exact ⟨v, by rw [hbe]; exact hv⟩
  ·refine (ok b u q).stay (fun c v hc r => k c v ?_ r) (fun c r => by rw [upd_ne (nown c b r)]; exact r) fun c xs r => by rw [upd_ne (ntup c xs r)]; exact r
   rcases hc with rfl | hc
   ·exact hbe
   ·rintro rfl
    rcases he with z | z
    ·exact nown c b hc z
    ·rw [hc] at z; cases z; exact hb rfl
end
structure Un (fs ex : List Addr) (H H' : Hp) (h h' : Heap) : Prop where
 keep : ∀ b o, h.get? b = some o → H b = none → b ∉ fs → b ∉ ex → h'.get? b = some o
 slot : ∀ b o, h.get? b = some o → H b = none → b ∈ fs → b ∉ ex → ∃ sl, h'.get? b = some { o with slots := sl }
 free : ∀ b o, h.get? b = some o → H b = none → b ∉ ex → H' b = none
 there : ∀ b o, h.get? b = some o → b ∉ ex → ∃ o', h'.get? b = some o'
 tups : ∀ b xs, H b = some (.tup xs) → H' b = some (.tup xs)
 frzs : ∀ b o u, H b = some (.frz o u) → H' b = some (.frz o u)
 tbls : ∀ b ps, H b = some (.tbl ps) → ∃ more, H' b = some (.tbl (ps ++ more))
section
variable {fs fs' ex ex' : List Addr} {H H1 H2 : Hp} {h h1 h2 h' : Heap} {a x e : Addr} {o : HO}
theorem Un.any (u : Un fs ex H H1 h h1) {b : Addr} {ob : Obj} (q : h.get? b = some ob) (n : H b = none) (hx : b ∉ ex) : ∃ sl, h1.get? b = some { ob with slots := sl } := by
 by_cases hb : b ∈ fs
 ·exact u.slot b ob q n hb hx
 ·exact ⟨ob.slots, u.keep b ob q n hb hx⟩
theorem Un.kept (k : ∀ b u, h.get? b = some u → h'.get? b = some u) : Un fs ex H H h h' :=
 ⟨fun b ob q _ _ _ => k b ob q, fun b ob q _ _ _ => ⟨ob.slots, k b ob q⟩, fun _ _ _ n _ => n, fun b ob q _ => ⟨ob, k b ob q⟩, fun _ _ q => q, fun _ _ _ q => q, fun _ ps q => ⟨#[], by rw [q]; simp⟩⟩
theorem Un.refl : Un fs ex H H h h := Un.kept fun _ _ q => q
theorem Un.laid (k : ∀ b u, h.get? b = some u → h'.get? b = some u) (hp : h.objs.size ≤ a) (hn : H a = none) : Un fs ex H (upd H a o) h h' where
 keep := fun b u q _ _ _ => k b u q
 slot := fun b u q _ _ _ => ⟨u.slots, k b u q⟩
 free := fun b u q n _ => by rw [upd_ne (Nat.ne_of_lt (Nat.lt_of_lt_of_le (Heap.lt_size q) hp))]; exact n
 there := fun b u q _ => ⟨u, k b u q⟩
 tups := fun b xs q => by rw [upd_ne (ne_of_none q hn)]; exact q
 frzs := fun b u xs q => by rw [upd_ne (ne_of_none q hn)]; exact q
 tbls := fun b ps q => ⟨#[], by rw [upd_ne (ne_of_none q hn), q]; simp⟩
theorem Un.write (mu : Mut (H x)) (he : e = x ∨ H e = some (.own x)) (k : ∀ b u, b ≠ e → h.get? b = some u → h'.get? b = some u) (heo : ∃ u, h'.get? e = some u) : Un fs ex H (upd H x o) h h' := by
 have hx : ∀ b, H b = none → b ≠ x := fun b n z => by subst z; rw [n] at mu; exact mu
 have hb : ∀ b, H b = none → b ≠ e := fun b n z => by
  subst z
  rcases he with r | r
  ·exact hx b n r
  ·rw [n] at r; cases r
 have hm : ∀ b u, H b = some u → ¬ Mut (some u) → b ≠ x := fun b u q nm z => by subst z; rw [q] at mu; exact nm mu
 refine ⟨fun b u q n _ _ => k b u (hb b n) q, fun b u q n _ _ => ⟨u.slots, k b u (hb b n) q⟩, fun b u q n _ => by rw [upd_ne (hx b n)]; exact n, fun b u q _ => ?_,
  fun b xs q => by rw [upd_ne (hm b _ q fun z => z)]; exact q, fun b u xs q => by rw [upd_ne (hm b _ q fun z => z)]; exact q, fun b ps q => ⟨#[], by rw [upd_ne (hm b _ q fun z => z), q]; simp⟩⟩
 by_cases hbe : b = e
 ·subst hbe; exact heo
 ·exact ⟨u, k b u hbe q⟩
end
noncomputable def trk (h : Heap) (H : Hp) : List Addr := (List.range h.objs.size).filter fun a => (H a).isSome
noncomputable def hidT (h : Heap) (H : Hp) : Heap := PySem.W.hideAll h (trk h H)
theorem hidT_size (h : Heap) (H : Hp) : (hidT h H).objs.size = h.objs.size := PySem.W.hideAll_size _ _
theorem hidT_get {h : Heap} {H : Hp} {b : Addr} {o : Obj} (e : h.get? b = some o) (n : H b = none) : (hidT h H).get? b = some o :=
 PySem.W.hideAll_get _ e fun hm => by
  have q : (H b).isSome = true := (List.mem_filter.mp hm).2
  rw [n] at q; simp at q
theorem of_hidT {h : Heap} {H : Hp} {b : Addr} {o : Obj} (e : (hidT h H).get? b = some o) : h.get? b = some o ∧ H b = none := by
 have e' : h.get? b = some o := PySem.W.of_hideAll (trk h H) e
 refine ⟨e', ?_⟩
 cases q : H b with
 | none => rfl
 | some x =>
  have hm : b ∈ trk h H := List.mem_filter.mpr ⟨List.mem_range.mpr (Heap.lt_size e'), by simp [q]⟩
  have z : (hidT h H).get? b = none := PySem.W.hideAll_none (trk h H) hm
  rw [z] at e; cases e
end L2
namespace L2
open PySem PySem.Spec PyProof.Rows
structure Mod (K : PySem.W.Frag) (mg : Str → Option Value) (base : Heap) : Prop where
 kin : K.In base
 glob : base.Ns mainGlobals mg
 blt : ∃ mb, base.Ns builtinsNs mb ∧ ∀ x : Str, x ≠ "__name__" → mb x = bootBuiltins x
 nolimit : base.NoLimit
structure Cx where
 prog : Program
 w : World
 K : PySem.W.Frag
 mg : Str → Option Value
 base : Heap
 A : Around
 N : List Str
 s₀ : Shared
 H₀ : Hp
 env : Env
 outer : List Env
 stack : List Env
 ex : List Addr
 fn : Str → Bool
 calm : Bool
 pn : List (Addr × Obj)
 xe : Value → Shared → Prop
noncomputable def frs (l : List Env) : List Addr := l.filterMap (·.frame)
noncomputable abbrev Cx.fs (X : Cx) : List Addr := frs X.outer
noncomputable def Vis (sc : Scope) (x : Str) : Prop := sc.names.lookup x = some .local ∨ sc.names.lookup x = some .cell ∨ sc.names.lookup x = some .free
noncomputable def Loc (sc : Scope) (x : Str) : Prop := sc.names.lookup x = some .local ∨ sc.names.lookup x = some .cell
noncomputable def Look (env : Env) (h : Heap) (m : Str → Option Value) (x : Str) (u : Value) : Prop :=
 (env.kindOf x = some .local ∧ m x = some u) ∨ ((env.kindOf x = some .cell ∨ env.kindOf x = some .free) ∧ ∃ c, env.cells.lookup x = some c ∧ h.IsCell c (some u))
structure Cx.Ok (X : Cx) : Prop where
 mod : Mod X.K X.mg X.base
 kind : X.env.scope.kind = .function
 glob : X.env.globals = mainGlobals
 blt : X.env.builtins = builtinsNs
 above : X.s₀.heap.objs.size ≤ X.env.locals
 inj : ∀ x y c, X.env.cells.lookup x = some c → X.env.cells.lookup y = some c → x = y
 has : ∀ x, (X.env.kindOf x = some .cell ∨ X.env.kindOf x = some .free) → ∃ c, X.env.cells.lookup x = some c
 cab : ∀ x c, X.fn x = true → X.env.cells.lookup x = some c → X.s₀.heap.objs.size ≤ c
 hd : X.calm = true → X.A.handled = none
 frames : X.A.frames = some X.stack
 stk : X.stack = X.outer ∨ (X.stack = X.env :: X.outer ∧ X.env.frame = some X.env.locals)
 exf : ∀ b ∈ X.ex, b ≠ X.env.locals ∧ ∀ x c, X.env.cells.lookup x = some c → c ≠ b
 bs : ∀ b o, X.base.get? b = some o → X.s₀.heap.get? b = some o ∧ X.H₀ b = none
 bsz : X.base.objs.size ≤ X.s₀.heap.objs.size
 noex : ∀ b o, X.base.get? b = some o → b ∉ X.ex
 exfs : ∀ b ∈ X.ex, b ∉ X.fs
 funs : X.s₀.heap.FunFrames X.base X.outer
 frf : ∀ b ∈ X.fs, X.H₀ b = none
structure Inv (X : Cx) (pins : List (Addr × Obj)) (σ : List (Option V)) (H : Hp) (s : Shared) : Prop where
 ok : X.Ok
 os : s.os = X.s₀.os
 bare : AllBare s.gens
 base : Un X.fs X.ex X.H₀ H X.s₀.heap s.heap
 loc : ∃ m, s.heap.Ns X.env.locals m ∧ ∀ (i : Nat) (x : Str) (v : V), X.N[i]? = some x → σ[i]? = some (some v) → Vis X.env.scope x → ∃ u, RelV v u ∧ Look X.env s.heap m x u
 cell : ∀ x c, X.env.cells.lookup x = some c → ∃ v, s.heap.IsCell c v
 free : H X.env.locals = none
 freeC : ∀ x c, X.env.cells.lookup x = some c → H c = none
 pin : ∀ p ∈ X.pn ++ pins, s.heap.get? p.1 = some p.2 ∧ H p.1 = none ∧ p.1 ≠ X.env.locals ∧ p.1 ∉ X.fs ∧ ∀ v, p.2.data ≠ .cell v
 hok : HOk X.prog X.w H s.heap
 len : σ.length = X.N.length
section
variable {X : Cx} {pins : List (Addr × Obj)} {σ : List (Option V)} {H H' : Hp} {s : Shared} {h' : Heap}
theorem Cx.Ok.nofr (ok : X.Ok) {b : Addr} {o : Obj} (e : X.base.get? b = some o) : b ∉ X.fs := fun hb => by
 have := (ok.funs.mem hb).1
 rw [e] at this; cases this
theorem Inv.bs (I : Inv X pins σ H s) : ∀ b o, X.base.get? b = some o → s.heap.get? b = some o ∧ H b = none := fun b o e =>
 ⟨I.base.keep b o (I.ok.bs b o e).1 (I.ok.bs b o e).2 (I.ok.nofr e) (I.ok.noex b o e), I.base.free b o (I.ok.bs b o e).1 (I.ok.bs b o e).2 (I.ok.noex b o e)⟩
theorem Inv.bk (I : Inv X pins σ H s) : ∀ b o, X.base.get? b = some o → s.heap.get? b = some o := fun b o e => (I.bs b o e).1
theorem Inv.mod (I : Inv X pins σ H s) : Mod X.K X.mg X.base := I.ok.mod
theorem Inv.kIn (I : Inv X pins σ H s) : X.K.In s.heap := I.ok.mod.kin.keeps I.bk
theorem Inv.lt (I : Inv X pins σ H s) : X.env.locals < s.heap.objs.size := let ⟨_, hn, _⟩ := I.loc; hn.lt
theorem Inv.sz (I : Inv X pins σ H s) : X.s₀.heap.objs.size ≤ s.heap.objs.size := Nat.le_trans I.ok.above (Nat.le_of_lt I.lt)
theorem Inv.nofs (I : Inv X pins σ H s) {a : Addr} (h : s.heap.objs.size ≤ a) : a ∉ X.fs := fun hb => by
 obtain ⟨_, o, ho, _⟩ := I.ok.funs.mem hb
 exact absurd (Nat.lt_of_lt_of_le (Heap.lt_size ho) (Nat.le_trans I.sz h)) (Nat.lt_irrefl _)
theorem Inv.cne (I : Inv X pins σ H s) : ∀ x c, X.env.cells.lookup x = some c → c ≠ X.env.locals := fun x c e z => by
 obtain ⟨v, o, ho, hd⟩ := I.cell x c e
 obtain ⟨m, ⟨o', es, ep, ho', hd', _⟩, _⟩ := I.loc
 rw [z, ho'] at ho; cases ho; rw [hd'] at hd; cases hd
theorem Inv.funs (I : Inv X pins σ H s) : s.heap.FunFrames X.base X.outer := by
 have all : ∀ (l : List Env), (∀ b ∈ frs l, b ∈ X.fs) → X.s₀.heap.FunFrames X.base l → s.heap.FunFrames X.base l := by
  intro l
  induction l with
  | nil => intro _ _; trivial
  | cons env r ih =>
   intro hs hl
   obtain ⟨hk, ⟨L, o, hf, hn, ho, hd⟩, hr⟩ := hl
   have hL : L ∈ X.fs := hs L (by unfold frs; rw [List.filterMap_cons, hf]; exact List.mem_cons_self)
   obtain ⟨sl, e⟩ := I.base.slot L o ho (I.ok.frf L hL) hL fun z => I.ok.exfs L z hL
   exact ⟨hk, ⟨L, _, hf, hn, e, hd⟩, ih (fun b hb => hs b (by unfold frs; rw [List.filterMap_cons, hf]; exact List.mem_cons_of_mem _ hb)) hr⟩
 exact all X.outer (fun _ hb => hb) I.ok.funs
theorem Inv.stack (I : Inv X pins σ H s) : s.heap.FunFrames X.base X.stack := by
 rcases I.ok.stk with e | ⟨e, hf⟩
 ·rw [e]; exact I.funs
 ·rw [e]
  obtain ⟨m, hn, _⟩ := I.loc
  refine .cons (by rw [I.ok.kind]; decide) hf hn ?_ I.funs
  exact Heap.get?_none_of_le (Nat.le_trans I.ok.bsz I.ok.above)
theorem Inv.stkSub (I : Inv X pins σ H s) : ∀ b ∈ frs X.stack, b ∈ X.env.locals :: X.fs := fun b hb => by
 rcases I.ok.stk with e | ⟨e, hf⟩
 ·rw [e] at hb; exact List.mem_cons_of_mem _ hb
 ·rw [e] at hb
  unfold frs at hb
  rw [List.filterMap_cons, hf] at hb
  exact hb
theorem Inv.stkFree (I : Inv X pins σ H s) : ∀ b ∈ frs X.stack, H b = none := fun b hb => by
 rcases List.mem_cons.mp (I.stkSub b hb) with e | hb
 ·rw [e]; exact I.free
 ·obtain ⟨_, o, ho, _⟩ := I.ok.funs.mem hb
  exact I.base.free b o ho (I.ok.frf b hb) fun z => I.ok.exfs b z hb
theorem Inv.step {g' : Array GenState} {t' : Nat} {d' : Drawn} {ch : List Addr} (I : Inv X pins σ H s)
  (hch : ∀ b ∈ ch, (b ∈ X.ex ∨ X.s₀.heap.objs.size ≤ b) ∧ b ≠ X.env.locals ∧ (∀ x c, X.env.cells.lookup x = some c → c ≠ b) ∧ ∀ p ∈ X.pn ++ pins, p.1 ≠ b)
  (keep : ∀ b o, b ≠ X.env.locals → b ∉ X.fs → b ∉ ch → s.heap.get? b = some o → H b = none → h'.get? b = some o)
  (slot : ∀ b o, b ≠ X.env.locals → b ∈ X.fs → b ∉ ch → s.heap.get? b = some o → H b = none → ∃ sl, h'.get? b = some { o with slots := sl }) (free : ∀ b o, b ∉ ch → s.heap.get? b = some o → H b = none → H' b = none)
  (there : ∀ b o, b ∉ ch → s.heap.get? b = some o → ∃ o', h'.get? b = some o')
  (tups : ∀ b xs, H b = some (.tup xs) → H' b = some (.tup xs)) (frzs : ∀ b o u, H b = some (.frz o u) → H' b = some (.frz o u)) (tbls : ∀ b ps, H b = some (.tbl ps) → ∃ more, H' b = some (.tbl (ps ++ more)))
  (ns : ∀ m, s.heap.Ns X.env.locals m → h'.Ns X.env.locals m) (hok : HOk X.prog X.w H' h') (hg : AllBare g') :
  Inv X pins σ H' { s with heap := h', gens := g', drawn := d', toks := t' } := by
 have neL : ∀ b o, X.s₀.heap.get? b = some o → b ≠ X.env.locals := fun b o e => Nat.ne_of_lt (Nat.lt_of_lt_of_le (Heap.lt_size e) I.ok.above)
 have neC : ∀ b o, X.s₀.heap.get? b = some o → b ∉ X.ex → b ∉ ch := fun b o e hx hb => by
  rcases (hch b hb).1 with z | z
  ·exact hx z
  ·exact absurd (Nat.lt_of_lt_of_le (Heap.lt_size e) z) (Nat.lt_irrefl _)
 have cellK : ∀ x c, X.env.cells.lookup x = some c → ∀ v, s.heap.IsCell c v → h'.IsCell c v := fun x c e v ⟨o, ho, hd⟩ => by
  have nch : c ∉ ch := fun z => (hch c z).2.2.1 x c e rfl
  by_cases hc : c ∈ X.fs
  ·obtain ⟨sl, q⟩ := slot c o (I.cne x c e) hc nch ho (I.freeC x c e)
   exact ⟨_, q, hd⟩
  ·exact ⟨o, keep c o (I.cne x c e) hc nch ho (I.freeC x c e), hd⟩
 refine ⟨I.ok, I.os, hg, ⟨fun b o e n hb hx => ?_, fun b o e n hb hx => ?_, fun b o e n hx => ?_, fun b o e hx => ?_, fun b xs e => tups b xs (I.base.tups b xs e), fun b o xs e => frzs b o xs (I.base.frzs b o xs e), fun b ps e => ?_⟩, ?_, fun x c e => ?_, ?_, fun x c e => ?_, fun p hp => ?_, hok, I.len⟩
 ·exact keep b o (neL b o e) hb (neC b o e hx) (I.base.keep b o e n hb hx) (I.base.free b o e n hx)
 ·obtain ⟨sl, e1⟩ := I.base.slot b o e n hb hx
  obtain ⟨sl', e2⟩ := slot b _ (neL b o e) hb (neC b o e hx) e1 (I.base.free b o e n hx)
  exact ⟨sl', e2⟩
 ·obtain ⟨o', e1⟩ := I.base.there b o e hx
  exact free b o' (neC b o e hx) e1 (I.base.free b o e n hx)
 ·obtain ⟨o', e1⟩ := I.base.there b o e hx
  exact there b o' (neC b o e hx) e1
 ·obtain ⟨m1, e1⟩ := I.base.tbls b ps e
  obtain ⟨m2, e2⟩ := tbls b _ e1
  exact ⟨m1 ++ m2, by rw [e2, Array.append_assoc]⟩
 ·obtain ⟨m, hn, hl⟩ := I.loc
  refine ⟨m, ns m hn, fun i x v e1 e2 e3 => ?_⟩
  obtain ⟨u, r, l⟩ := hl i x v e1 e2 e3
  refine ⟨u, r, ?_⟩
  rcases l with l | ⟨k, c, e, z⟩
  ·exact .inl l
  ·exact .inr ⟨k, c, e, cellK x c e _ z⟩
 ·obtain ⟨v, z⟩ := I.cell x c e
  exact ⟨v, cellK x c e v z⟩
 ·obtain ⟨m, ⟨o, _, _, ho, _⟩, _⟩ := I.loc
  exact free _ o (fun z => (hch _ z).2.1 rfl) ho I.free
 ·obtain ⟨v, o, ho, hd⟩ := I.cell x c e
  exact free c o (fun z => (hch c z).2.2.1 x c e rfl) ho (I.freeC x c e)
 ·obtain ⟨e, n, ne, nf, d⟩ := I.pin p hp
  have nch : p.1 ∉ ch := fun z => (hch p.1 z).2.2.2 p hp rfl
  exact ⟨keep p.1 p.2 ne nf nch e n, free p.1 p.2 nch e n, ne, nf, d⟩
theorem Inv.un {t' : Nat} (I : Inv X pins σ H s) (u : Un X.fs [] H H' s.heap h') (hok : HOk X.prog X.w H' h') : Inv X pins σ H' { s with heap := h', toks := t' } := by
 obtain ⟨m, ⟨o, es, ep, ho, r⟩, _⟩ := id I.loc
 obtain ⟨sl, hL⟩ := u.any ho I.free (by simp)
 exact I.step (g' := s.gens) (d' := s.drawn) (ch := []) (fun _ z => nomatch z) (fun b o _ hb _ e n => u.keep b o e n hb (by simp)) (fun b o _ hb _ e n => u.slot b o e n hb (by simp)) (fun b o _ e n => u.free b o e n (by simp)) (fun b o _ e => u.there b o e (by simp)) u.tups u.frzs u.tbls (fun m' hm => by
  obtain ⟨o', es', ep', ho', r'⟩ := hm
  rw [ho] at ho'; cases ho'
  exact ⟨_, es', ep', hL, r'⟩) hok I.bare
theorem Inv.call {g' : Array GenState} {t' : Nat} {d' : Drawn} {ch : List Addr} (I : Inv X pins σ H s) (u : Un (frs X.stack) ch H H' s.heap h') (hok : HOk X.prog X.w H' h') (hg : AllBare g')
  (hch : ∀ b ∈ ch, (b ∈ X.ex ∨ X.s₀.heap.objs.size ≤ b) ∧ b ≠ X.env.locals ∧ (∀ x c, X.env.cells.lookup x = some c → c ≠ b) ∧ ∀ p ∈ X.pn ++ pins, p.1 ≠ b) :
  Inv X pins σ H' { s with heap := h', gens := g', drawn := d', toks := t' } := by
 obtain ⟨m, ⟨o, es, ep, ho, r⟩, _⟩ := id I.loc
 obtain ⟨sl, hL⟩ := u.any ho I.free fun z => (hch _ z).2.1 rfl
 exact I.step (ch := ch) hch (fun b o hL hb hc e n => u.keep b o e n (fun z => (List.mem_cons.mp (I.stkSub b z)).elim hL hb) hc) (fun b o _ _ hc e n => u.any e n hc) (fun b o hc e n => u.free b o e n hc) (fun b o hc e => u.there b o e hc) u.tups u.frzs u.tbls (fun m' hm => by
  obtain ⟨o', es', ep', ho', r'⟩ := hm
  rw [ho] at ho'; cases ho'
  exact ⟨_, es', ep', hL, r'⟩) hok hg
theorem Inv.turned {t' : Nat} {it : Addr} (I : Inv X pins σ H s) (k : ∀ b o, b ≠ it → s.heap.get? b = some o → h'.get? b = some o) (hn : H it = none) (hL : it ≠ X.env.locals)
  (h1 : it ∈ X.ex ∨ X.s₀.heap.objs.size ≤ it) (h2 : ∀ x c, X.env.cells.lookup x = some c → c ≠ it) (h3 : ∀ p ∈ X.pn ++ pins, p.1 ≠ it) : Inv X pins σ H { s with heap := h', toks := t' } := by
 have nit : ∀ b u, H b = some u → b ≠ it := fun b u e z => by rw [z, hn] at e; cases e
 refine I.step (g' := s.gens) (d' := s.drawn) (ch := [it]) (fun b hb => ?_) (fun b o _ _ hc e _ => k b o (fun z => hc (by simp [z])) e) (fun b o _ _ hc e _ => ⟨o.slots, k b o (fun z => hc (by simp [z])) e⟩) (fun _ _ _ _ n => n)
  (fun b o hc e => ⟨o, k b o (fun z => hc (by simp [z])) e⟩) (fun _ _ e => e) (fun _ _ _ e => e) (fun b ps e => ⟨#[], by rw [e]; simp⟩) (fun m hm => ?_) (fun b u e => ?_) I.bare
 ·have e : b = it := by simpa using hb
  subst e
  exact ⟨h1, hL, h2, h3⟩
 ·obtain ⟨o, es, ep, ho, r⟩ := hm
  exact ⟨o, es, ep, k _ o (Ne.symm hL) ho, r⟩
 ·refine (I.hok b u e).stay (fun c v hc q => k c v ?_ q) (fun _ q => q) fun _ _ q => q
  rcases hc with z | z
  ·rw [z]; exact nit b u e
  ·exact nit c _ z
theorem Inv.tok (I : Inv X pins σ H s) (t : Nat) : Inv X pins σ H { s with toks := t } := I.un (h' := s.heap) (t' := t) Un.refl I.hok
theorem Inv.kept {t' : Nat} (I : Inv X pins σ H s) (k : ∀ b u, s.heap.get? b = some u → h'.get? b = some u) : Inv X pins σ H { s with heap := h', toks := t' } := I.un (Un.kept k) (I.hok.kept k)
theorem Inv.laid {a : Addr} {o : HO} {t' : Nat} (I : Inv X pins σ H s) (k : ∀ b u, s.heap.get? b = some u → h'.get? b = some u) (hp : s.heap.objs.size ≤ a) (new : ObjOk X.prog X.w (upd H a o) h' a o) :
  Inv X pins σ (upd H a o) { s with heap := h', toks := t' } := I.un (Un.laid k hp (I.hok.fresh hp)) (I.hok.laid k hp new)
theorem Inv.write {x e : Addr} {o : HO} {t' : Nat} (I : Inv X pins σ H s) (mu : Mut (H x)) (he : e = x ∨ H e = some (.own x)) (k : ∀ b u, b ≠ e → s.heap.get? b = some u → h'.get? b = some u) (heo : ∃ u, h'.get? e = some u)
  (new : ObjOk X.prog X.w (upd H x o) h' x o) : Inv X pins σ (upd H x o) { s with heap := h', toks := t' } := I.un (Un.write mu he k heo) (I.hok.write mu he k heo new)
theorem Inv.pins_of {pins' : List (Addr × Obj)} (I : Inv X pins σ H s) (h : ∀ p ∈ pins', s.heap.get? p.1 = some p.2 ∧ H p.1 = none ∧ p.1 ≠ X.env.locals ∧ p.1 ∉ X.fs ∧ ∀ v, p.2.data ≠ .cell v) : Inv X pins' σ H s :=
 ⟨I.ok, I.os, I.bare, I.base, I.loc, I.cell, I.free, I.freeC, fun p hp => (List.mem_append.mp hp).elim (fun z => I.pin p (List.mem_append_left _ z)) (h p), I.hok, I.len⟩
theorem nodup_ix {N : List Str} (hN : N.Nodup) {i j : Nat} {x : Str} (a : N[i]? = some x) (b : N[j]? = some x) : i = j := by
 obtain ⟨h1, e1⟩ := List.getElem?_eq_some_iff.mp a
 obtain ⟨h2, e2⟩ := List.getElem?_eq_some_iff.mp b
 exact (List.getElem_inj hN).mp (e1.trans e2.symm)
theorem store_ok2 {M : Model} {A : Around} {E : Value → Shared → Prop} {i : Nat} {x : Str} {v : V} {u : Value} {Q : Unit → Shared → Prop} (I : Inv X pins σ H s) (hN : X.N.Nodup) (hi : X.N[i]? = some x) (hx : Loc X.env.scope x) (r : RelV v u)
  (h : ∀ s', Inv X pins (σ.set i (some v)) H s' → (∃ a, Heap.SameBut a s.heap s'.heap ∧ (a = X.env.locals ∨ X.env.cells.lookup x = some a)) → Q () s') (hf : X.fn x = true ∨ X.env.scope.names.lookup x = some .local := by first | exact .inl rfl | exact .inr rfl | assumption) : wpAny M A (storeName X.env x u) Q E s := by
 obtain ⟨m, hn, hl⟩ := id I.loc
 have hcls : (X.env.scope.kind == .class || (X.env.scope.kind == .module && X.env.locals != X.env.globals)) = false := by rw [I.ok.kind]; rfl
 have hiσ : i < σ.length := by rw [I.len]; exact (List.getElem?_eq_some_iff.mp hi).1
 have cne := I.cne
 have tracked : ∀ {a : Addr} {h' : Heap}, (∃ o, s.heap.get? a = some o ∧ H a = none) → Heap.SameBut a s.heap h' → HOk X.prog X.w H h' := fun {a h'} ha hs b ob e => by
  obtain ⟨_, _, hfree⟩ := ha
  refine (I.hok b ob e).stay (fun c w' hc q => (hs.2 c ?_).trans q) (fun _ q => q) fun _ _ q => q
  rintro rfl
  rcases hc with rfl | hc
  ·rw [hfree] at e; cases e
  ·rw [hfree] at hc; cases hc
 rcases hx with hk | hk
 ·refine wpAny_storeName_local hk hn (fun h' hn' hs => ?_) hcls
  obtain ⟨oL, _, _, hoL, _⟩ := id hn
  refine h _ ⟨I.ok, I.os, I.bare, ⟨fun b o e n hb hx => ?_, fun b o e n hb hx => ?_, I.base.free, fun b o e hx => ?_, I.base.tups, I.base.frzs, I.base.tbls⟩, ⟨_, hn', fun j y v' e1 e2 e3 => ?_⟩, fun y c e => ?_, I.free, I.freeC, fun p hp => ?_, tracked ⟨oL, hoL, I.free⟩ hs, by simpa using I.len⟩ ⟨_, hs, .inl rfl⟩
  ·exact (hs.2 b (Nat.ne_of_lt (Nat.lt_of_lt_of_le (Heap.lt_size e) I.ok.above))).trans (I.base.keep b o e n hb hx)
  ·obtain ⟨sl, e1⟩ := I.base.slot b o e n hb hx
   exact ⟨sl, (hs.2 b (Nat.ne_of_lt (Nat.lt_of_lt_of_le (Heap.lt_size e) I.ok.above))).trans e1⟩
  ·obtain ⟨o', e1⟩ := I.base.there b o e hx
   exact ⟨o', (hs.2 b (Nat.ne_of_lt (Nat.lt_of_lt_of_le (Heap.lt_size e) I.ok.above))).trans e1⟩
  ·by_cases hj : j = i
   ·subst hj
    rw [hi] at e1; cases e1
    rw [List.getElem?_set_self hiσ] at e2
    cases e2
    exact ⟨u, r, .inl ⟨hk, by simp⟩⟩
   ·rw [List.getElem?_set_ne (Ne.symm hj)] at e2
    obtain ⟨u', r', q⟩ := hl j y v' e1 e2 e3
    refine ⟨u', r', ?_⟩
    rcases q with ⟨k, e⟩ | ⟨k, c, e, z⟩
    ·refine .inl ⟨k, ?_⟩
     have : y ≠ x := fun e => hj (nodup_ix hN e1 (e ▸ hi))
     simp [this, e]
    ·exact .inr ⟨k, c, e, z.sameBut hs (cne y c e)⟩
  ·obtain ⟨w', z⟩ := I.cell y c e
   exact ⟨w', z.sameBut hs (cne y c e)⟩
  ·obtain ⟨e, n, ne, nf, d⟩ := I.pin p hp
   exact ⟨(hs.2 p.1 ne).trans e, n, ne, nf, d⟩
 ·have hfn : X.fn x = true := by
   rcases hf with z | z
   ·exact z
   ·rw [z] at hk; cases hk
  obtain ⟨c, hc⟩ := I.ok.has x (.inl hk)
  obtain ⟨w', z⟩ := I.cell x c hc
  refine wpAny_storeName_cell I.ok.kind hk hc z (fun h' hc' hs => ?_)
  obtain ⟨oc, hoc, hocd⟩ := id z
  refine h { s with heap := h' } ⟨I.ok, I.os, I.bare, ⟨fun b o e n hb hx => ?_, fun b o e n hb hx => ?_, I.base.free, fun b o e hx => ?_, I.base.tups, I.base.frzs, I.base.tbls⟩, ⟨m, hn.sameBut hs (Ne.symm (cne x c hc)), fun j y v' e1 e2 e3 => ?_⟩, fun y c' e => ?_, I.free, I.freeC, fun p hp => ?_, tracked ⟨oc, hoc, I.freeC x c hc⟩ hs, by simpa using I.len⟩ ⟨c, hs, .inr hc⟩
  ·exact (hs.2 b (Nat.ne_of_lt (Nat.lt_of_lt_of_le (Heap.lt_size e) (I.ok.cab x c hfn hc)))).trans (I.base.keep b o e n hb hx)
  ·obtain ⟨sl, e1⟩ := I.base.slot b o e n hb hx
   exact ⟨sl, (hs.2 b (Nat.ne_of_lt (Nat.lt_of_lt_of_le (Heap.lt_size e) (I.ok.cab x c hfn hc)))).trans e1⟩
  ·obtain ⟨o', e1⟩ := I.base.there b o e hx
   exact ⟨o', (hs.2 b (Nat.ne_of_lt (Nat.lt_of_lt_of_le (Heap.lt_size e) (I.ok.cab x c hfn hc)))).trans e1⟩
  ·by_cases hj : j = i
   ·subst hj
    rw [hi] at e1; cases e1
    rw [List.getElem?_set_self hiσ] at e2
    cases e2
    exact ⟨u, r, .inr ⟨.inl hk, c, hc, hc'⟩⟩
   ·rw [List.getElem?_set_ne (Ne.symm hj)] at e2
    obtain ⟨u', r', q⟩ := hl j y v' e1 e2 e3
    refine ⟨u', r', ?_⟩
    rcases q with q | ⟨k, c', e, z'⟩
    ·exact .inl q
    ·refine .inr ⟨k, c', e, z'.sameBut hs ?_⟩
     rintro rfl
     exact hj (nodup_ix hN e1 (I.ok.inj _ _ _ e hc ▸ hi))
  ·by_cases hcc : c' = c
   ·subst hcc; exact ⟨_, hc'⟩
   ·obtain ⟨w2, z2⟩ := I.cell y c' e
    exact ⟨w2, z2.sameBut hs hcc⟩
  ·obtain ⟨e, n, ne, nf, d⟩ := I.pin p hp
   refine ⟨(hs.2 p.1 ?_).trans e, n, ne, nf, d⟩
   intro q
   rw [q, hoc] at e
   have q' : oc = p.2 := Option.some.inj e
   exact d w' (by rw [← q']; exact hocd)
theorem store_ok {M : Model} {A : Around} {E : Value → Shared → Prop} {i : Nat} {x : Str} {v : V} {u : Value} {Q : Unit → Shared → Prop} (I : Inv X pins σ H s) (hN : X.N.Nodup) (hi : X.N[i]? = some x) (hx : Loc X.env.scope x) (r : RelV v u)
  (h : ∀ s', Inv X pins (σ.set i (some v)) H s' → Q () s') (hf : X.fn x = true ∨ X.env.scope.names.lookup x = some .local := by first | exact .inl rfl | exact .inr rfl | assumption) : wpAny M A (storeName X.env x u) Q E s :=
 store_ok2 I hN hi hx r (fun s' I' _ => h s' I') hf
theorem Inv.call' {s' : Shared} {ch : List Addr} (I : Inv X pins σ H s) (ho : s'.os = s.os) (u : Un (frs X.stack) ch H H' s.heap s'.heap) (hok : HOk X.prog X.w H' s'.heap) (hg : AllBare s'.gens)
  (hch : ∀ b ∈ ch, (b ∈ X.ex ∨ X.s₀.heap.objs.size ≤ b) ∧ b ≠ X.env.locals ∧ (∀ x c, X.env.cells.lookup x = some c → c ≠ b) ∧ ∀ p ∈ X.pn ++ pins, p.1 ≠ b) : Inv X pins σ H' s' := by
 obtain ⟨h', g', d', t', o'⟩ := s'
 have e : o' = s.os := ho
 subst e
 exact I.call (g' := g') (t' := t') (d' := d') u hok hg hch
end
noncomputable abbrev XK := Value → Option Addr → Hp → Prop
noncomputable abbrev St := List (Option V)
noncomputable abbrev VK := V → Hp → Prop
noncomputable abbrev TE := St → Hp → VK → Prop
noncomputable abbrev TT := St → Hp → (Bool → Hp → Prop) → Prop
noncomputable abbrev TA := St → Hp → (List V → Hp → Prop) → Prop
structure Ends where
 nx : St → Hp → Prop
 rt : VK
 bk : St → Hp → Prop := fun _ _ => False
 ct : St → Hp → Prop := fun _ _ => False
noncomputable abbrev TS := Ends → St → Hp → Prop
noncomputable def EP (X : Cx) (pins : List (Addr × Obj)) (σ : St) (Q : VK) (u : Value) (s' : Shared) : Prop := ∃ v H', Inv X pins σ H' s' ∧ RelV v u ∧ Q v H'
noncomputable def TP (X : Cx) (pins : List (Addr × Obj)) (σ : St) (Q : Bool → Hp → Prop) (b : Bool) (s' : Shared) : Prop := ∃ H', Inv X pins σ H' s' ∧ Q b H'
noncomputable def AP (X : Cx) (pins : List (Addr × Obj)) (σ : St) (Q : List V → Hp → Prop) (us : List Value) (s' : Shared) : Prop := ∃ vs H', Inv X pins σ H' s' ∧ Vals vs us ∧ Q vs H'
noncomputable def SP (X : Cx) (pins : List (Addr × Obj)) (D : Ends) (f : Flow) (s' : Shared) : Prop :=
 match f with
 | .next => ∃ σ' H', Inv X pins σ' H' s' ∧ D.nx σ' H'
 | .brk => ∃ σ' H', Inv X pins σ' H' s' ∧ D.bk σ' H'
 | .cont => ∃ σ' H', Inv X pins σ' H' s' ∧ D.ct σ' H'
 | .ret u => ∃ v σ' H', Inv X pins σ' H' s' ∧ RelV v u ∧ D.rt v H'
noncomputable def PE (X : Cx) (e : Expr) (t : TE) : Prop :=
 ∀ (pins : List (Addr × Obj)) (s : Shared) (σ : St) (H : Hp) (Q : VK), Inv X pins σ H s → t σ H Q → wpAny (model X.prog X.w) X.A (eval e X.env) (EP X pins σ Q) X.xe s
noncomputable def PT (X : Cx) (e : Expr) (t : TT) : Prop :=
 ∀ (pins : List (Addr × Obj)) (s : Shared) (σ : St) (H : Hp) (Q : Bool → Hp → Prop), Inv X pins σ H s → t σ H Q → wpAny (model X.prog X.w) X.A (isTrue e X.env (eval e X.env)) (TP X pins σ Q) X.xe s
noncomputable def PW (X : Cx) (e : Expr) (t : TT) : Prop :=
 ∀ (whole : Sem Value) (pins : List (Addr × Obj)) (s : Shared) (σ : St) (H : Hp) (Q : Bool → Hp → Prop), Inv X pins σ H s → t σ H Q → wpAny (model X.prog X.w) X.A (isTrue e X.env whole) (TP X pins σ Q) X.xe s
theorem PW.pt {X : Cx} {e : Expr} {t : TT} (h : PW X e t) : PT X e t := h _
noncomputable def PA (X : Cx) (es : List Expr) (t : TA) : Prop :=
 ∀ (pos : Pos) (pins : List (Addr × Obj)) (s : Shared) (σ : St) (H : Hp) (Q : List V → Hp → Prop), Inv X pins σ H s → t σ H Q → wpAny (model X.prog X.w) X.A (spliced (backTo pos (starEach es X.env))) (AP X pins σ Q) X.xe s
noncomputable def PS (X : Cx) (st : Stmt) (t : TS) : Prop :=
 ∀ (pins : List (Addr × Obj)) (s : Shared) (σ : St) (H : Hp) (D : Ends), Inv X pins σ H s → t D σ H → wpAny (model X.prog X.w) X.A (exec st X.env) (SP X pins D) X.xe s
noncomputable def PSs (X : Cx) (st : List Stmt) (t : TS) : Prop :=
 ∀ (pins : List (Addr × Obj)) (s : Shared) (σ : St) (H : Hp) (D : Ends), Inv X pins σ H s → t D σ H → wpAny (model X.prog X.w) X.A (execs st X.env) (SP X pins D) X.xe s
theorem thn {α : Type} {t : Sem α} {Q Q' : α → Shared → Prop} {M : Model} {A : Around} {E : Value → Shared → Prop} {s : Shared} (h : wpAny M A t Q E s) (hQ : ∀ a s, Q a s → Q' a s) : wpAny M A t Q' E s := wpAny_mono h hQ fun _ _ x => x
end L2
namespace L2
open PySem PySem.Spec PyProof.Rows
section
variable {X : Cx}
noncomputable def tVar (i : Nat) : TE := fun σ H Q => ∃ v, σ[i]? = some (some v) ∧ Q v H
noncomputable def tC (v : V) : TE := fun _ H Q => Q v H
theorem pe_var {i : Nat} {x : Str} {pos : Pos} (hN : X.N[i]? = some x) (hv : Vis X.env.scope x) (hd : (x == ("__debug__" : Str)) = false := by decide) (hcd : (x == ("__classdict__" : Str)) = false := by decide) : PE X (.Name x pos) (tVar i) := by
 intro pins s σ H Q I h
 obtain ⟨v, e, h⟩ := h
 obtain ⟨m, hn, hl⟩ := I.loc
 obtain ⟨u, r, l⟩ := hl i x v hN e hv
 have fin : EP X pins σ Q u s := ⟨v, H, I, r, h⟩
 rcases l with ⟨hk, hm⟩ | ⟨hk, c, hc, hcell⟩
 ·exact wpAny_Name (wpAny_loadName_local I.ok.kind hk hn hm fin) hd
 ·rcases hk with hk | hk
  ·exact wpAny_Name (wpAny_loadName_cell I.ok.kind hk hc hcell fin) hd
  ·exact wpAny_Name (wpAny_loadName_free I.ok.kind hk hc hcell fin hcd) hd
theorem pe_int {i j pos} : PE X (.Constant (.int i) j pos) (tC (.int i)) := fun _ _ _ H _ I h => wpAny_Constant_int ⟨.int i, H, I.tok _, ⟨_, rfl⟩, h⟩
theorem pe_bl {b j pos} : PE X (.Constant (.bool b) j pos) (tC (.bl b)) := fun _ _ _ H _ I h => Constant_bool ⟨.bl b, H, I, rfl, h⟩
theorem pe_non {j pos} : PE X (.Constant .none j pos) (tC .non) := fun _ _ _ H _ I h => Constant_none ⟨.non, H, I, rfl, h⟩
theorem pe_str {x j pos} : PE X (.Constant (.str x) j pos) (tC (.str x)) := fun _ _ _ H _ I h => Calls.Constant_str ⟨.str x, H, I.tok _, ⟨_, rfl⟩, h⟩
noncomputable def Gl (X : Cx) (x : Str) : Prop := X.env.kindOf x = some .globalImplicit
theorem ld_glob {E : Value → Shared → Prop} {pins : List (Addr × Obj)} {s : Shared} {σ : St} {H : Hp} {x : Str} {u : Value} {pos : Pos} {Q : Value → Shared → Prop} (I : Inv X pins σ H s) (hg : Gl X x) (hm : X.mg x = some u) (h : Q u s)
  (hd : (x == ("__debug__" : Str)) = false := by decide) : wpAny (model X.prog X.w) X.A (eval (.Name x pos) X.env) Q E s :=
 Calls.Name_function_global I.ok.kind hg (Calls.loadGlobal_global (by rw [I.ok.glob]; exact I.mod.glob.keeps I.bk) hm h) hd
theorem ld_blt {E : Value → Shared → Prop} {pins : List (Addr × Obj)} {s : Shared} {σ : St} {H : Hp} {x : Str} {u : Value} {pos : Pos} {Q : Value → Shared → Prop} (I : Inv X pins σ H s) (hg : Gl X x) (hm : X.mg x = none) (hv : bootBuiltins x = some u) (h : Q u s)
  (hn : x ≠ "__name__" := by decide) (hd : (x == ("__debug__" : Str)) = false := by decide) : wpAny (model X.prog X.w) X.A (eval (.Name x pos) X.env) Q E s := by
 obtain ⟨mb, h1, h2⟩ := I.mod.blt
 exact Calls.Name_function_global I.ok.kind hg (Calls.loadGlobal_builtin (by rw [I.ok.glob]; exact I.mod.glob.keeps I.bk) hm (by rw [I.ok.blt]; exact h1.keeps I.bk) ((h2 x hn).trans hv) h) hd
theorem pe_glob {x : Str} {v : V} {u : Value} {pos : Pos} (hg : Gl X x) (hm : X.mg x = some u) (r : RelV v u) (hd : (x == ("__debug__" : Str)) = false := by decide) : PE X (.Name x pos) (tC v) :=
 fun _ _ _ H _ I h => ld_glob I hg hm ⟨v, H, I, r, h⟩ hd
theorem pe_bltn {x : Str} {v : V} {u : Value} {pos : Pos} (hg : Gl X x) (hm : X.mg x = none) (hv : bootBuiltins x = some u) (r : RelV v u) (hn : x ≠ "__name__" := by decide) (hd : (x == ("__debug__" : Str)) = false := by decide) : PE X (.Name x pos) (tC v) :=
 fun _ _ _ H _ I h => ld_blt I hg hm hv ⟨v, H, I, r, h⟩ hn hd
variable {a b : Expr} {ta tb : TE} {pos : Pos}
noncomputable def PC (X : Cx) (op : CmpOp) (a b : Expr) (t : TE) : Prop :=
 ∀ (pins : List (Addr × Obj)) (s : Shared) (σ : St) (H : Hp) (Q : VK), Inv X pins σ H s → t σ H Q →
  wpAny (model X.prog X.w) X.A (eval a X.env) (fun v s₁ => wpAny (model X.prog X.w) X.A (eval b X.env) (fun u s₂ => wpAny (model X.prog X.w) X.A (compareOp op v u) (EP X pins σ Q) X.xe s₂) X.xe s₁) X.xe s
theorem nobehind (b : Expr) {op : CmpOp} (h : op ≠ .In) (h2 : op ≠ .NotIn) : behindInMarks op b = false := by
 have e1 : (op == CmpOp.In) = false := by cases op <;> first | rfl | exact absurd rfl h
 have e2 : (op == CmpOp.NotIn) = false := by cases op <;> first | rfl | exact absurd rfl h2
 cases b <;> simp [behindInMarks, e1, e2]
noncomputable def tIsN (ta : TE) : TE := fun σ H Q => ta σ H fun x H1 => Q (.bl (decide (x = .non))) H1
noncomputable def tNotN (ta : TE) : TE := fun σ H Q => ta σ H fun x H1 => Q (.bl (!decide (x = .non))) H1
theorem RelV.none_iff {x : V} {v : Value} (r : RelV x v) : (v == Value.none) = decide (x = .non) := by
 cases x with
 | non => cases r; rfl
 | bl _ => cases r; rfl
 | int _ => obtain ⟨t, rfl⟩ := r; rfl
 | str _ => obtain ⟨t, rfl⟩ := r; rfl
 | byt _ => obtain ⟨t, rfl⟩ := r; rfl
 | flt _ => obtain ⟨t, rfl⟩ := r; rfl
 | ref _ => cases r; rfl
 | ty _ => cases r; rfl
theorem pc_isN {j pos'} (ha : PE X a ta) : PC X .Is a (.Constant .none j pos') (tIsN ta) := by
 intro pins s σ H Q I h
 refine thn (ha pins s σ H _ I h) fun v s1 ⟨x, H1, I1, r1, q1⟩ => ?_
 exact Constant_none (is_none_gen ⟨.bl _, H1, I1, by rw [r1.none_iff]; rfl, q1⟩)
theorem pc_notN {j pos'} (ha : PE X a ta) : PC X .IsNot a (.Constant .none j pos') (tNotN ta) := by
 intro pins s σ H Q I h
 refine thn (ha pins s σ H _ I h) fun v s1 ⟨x, H1, I1, r1, q1⟩ => ?_
 exact Constant_none (isnot_none_gen ⟨.bl _, H1, I1, by rw [r1.none_iff]; rfl, q1⟩)
noncomputable def tB (t : TE) : TT := fun σ H Q => t σ H fun x H1 => ∃ c, x = .bl c ∧ Q c H1
theorem pe_cmp {op : CmpOp} {t : TE} (h : PC X op a b t) (h1 : behindInMarks op b = false := by first | exact nobehind _ (by decide) (by decide) | rfl) : PE X (.Compare a [op] [b] pos) t := fun pins s σ H Q I hw => wpAny_Compare1 (h pins s σ H Q I hw) h1
theorem pt_cmp {op : CmpOp} {t : TE} (h : PC X op a b t) (h1 : behindInMarks op b = false := by first | exact nobehind _ (by decide) (by decide) | rfl) : PT X (.Compare a [op] [b] pos) (tB t) := by
 intro pins s σ H Q I hw
 refine wpAny_isTrue_Compare1 (thn (h pins s σ H _ I hw) fun v s1 h1 => thn h1 fun u s2 h2 => thn h2 fun c s3 ⟨x, H1, I1, r1, q1⟩ => ?_) h1
 obtain ⟨d, rfl, q⟩ := q1
 cases r1
 exact wpAny_truthy_bool ⟨H1, I1, q⟩
theorem pt_val {e : Expr} {t : TE} (h : PE X e t) (he : ∀ whole, isTrue e X.env whole = (do let v ← whole; standAt e.pos; holding [v] (truthy v)) := by intro _; rfl) : PT X e (tB t) := by
 intro pins s σ H Q I hw
 refine isTrue_plain (thn (h pins s σ H _ I hw) fun v s1 ⟨x, H1, I1, r1, q1⟩ => ?_) (he _)
 obtain ⟨d, rfl, q⟩ := q1
 cases r1
 exact wpAny_truthy_bool ⟨H1, I1, q⟩
variable {tA tB' : TT} {rest : List Expr}
noncomputable def tAnd (t u : TT) : TT := fun σ H Q => t σ H fun c H1 => if c = true then u σ H1 Q else Q false H1
noncomputable def tOr (t u : TT) : TT := fun σ H Q => t σ H fun c H1 => if c = true then Q true H1 else u σ H1 Q
noncomputable def tNot (t : TT) : TT := fun σ H Q => t σ H fun c H1 => Q (!c) H1
theorem pw_and1 (ha : PT X a tA) : PW X (.BoolOp .And [a] pos) tA := by
 intro wh pins s σ H Q I h
 refine isTrue_and (thn (ha pins s σ H Q I h) fun c s1 e => ?_)
 cases c with
 | true => exact isTrue_and_nil e
 | false => exact e
theorem pw_or1 (ha : PT X a tA) : PW X (.BoolOp .Or [a] pos) tA := by
 intro wh pins s σ H Q I h
 refine isTrue_or (thn (ha pins s σ H Q I h) fun c s1 e => ?_)
 cases c with
 | false => exact isTrue_or_nil e
 | true => exact e
theorem pw_and (ha : PT X a tA) (hb : PW X (.BoolOp .And (b :: rest) pos) tB') : PW X (.BoolOp .And (a :: b :: rest) pos) (tAnd tA tB') := by
 intro wh pins s σ H Q I h
 refine isTrue_and (thn (ha pins s σ H _ I h) fun c s1 ⟨H1, I1, q1⟩ => ?_)
 cases c with
 | true => exact hb wh pins s1 σ H1 Q I1 q1
 | false => exact ⟨H1, I1, q1⟩
theorem pw_or (ha : PT X a tA) (hb : PW X (.BoolOp .Or (b :: rest) pos) tB') : PW X (.BoolOp .Or (a :: b :: rest) pos) (tOr tA tB') := by
 intro wh pins s σ H Q I h
 refine isTrue_or (thn (ha pins s σ H _ I h) fun c s1 ⟨H1, I1, q1⟩ => ?_)
 cases c with
 | true => exact ⟨H1, I1, q1⟩
 | false => exact hb wh pins s1 σ H1 Q I1 q1
theorem pt_not (ha : PT X a tA) : PT X (.UnaryOp .Not a pos) (tNot tA) := by
 intro pins s σ H Q I h
 exact isTrue_not (ha pins s σ H (fun c H1 => Q (!c) H1) I h)
noncomputable def tAndV (ta tb : TE) : TE := fun σ H Q => ta σ H fun x H1 => ∃ c, x = .bl c ∧ if c = true then tb σ H1 Q else Q (.bl false) H1
noncomputable def tOrV (ta tb : TE) : TE := fun σ H Q => ta σ H fun x H1 => ∃ c, x = .bl c ∧ if c = true then Q (.bl true) H1 else tb σ H1 Q
noncomputable def tNotV (ta : TE) : TE := fun σ H Q => ta σ H fun x H1 => ∃ c, x = .bl c ∧ Q (.bl (!c)) H1
theorem pe_one {op} {t : TE} (h : PE X a t) : PE X (.BoolOp op [a] pos) t := fun pins s σ H Q I hw => BoolOp_one (h pins s σ H Q I hw)
theorem pe_and (ha : PE X a ta) (hb : PE X (.BoolOp .And (b :: rest) pos) tb) : PE X (.BoolOp .And (a :: b :: rest) pos) (tAndV ta tb) := by
 intro pins s σ H Q I h
 refine BoolOp_and (thn (ha pins s σ H _ I h) fun v s1 ⟨x, H1, I1, r1, q1⟩ => ?_)
 obtain ⟨c, rfl, q1⟩ := q1
 cases r1
 refine wpAny_truthy_bool ?_
 cases c with
 | true => exact hb pins s1 σ H1 Q I1 q1
 | false => exact ⟨.bl false, H1, I1, rfl, q1⟩
theorem pe_or (ha : PE X a ta) (hb : PE X (.BoolOp .Or (b :: rest) pos) tb) : PE X (.BoolOp .Or (a :: b :: rest) pos) (tOrV ta tb) := by
 intro pins s σ H Q I h
 refine BoolOp_or (thn (ha pins s σ H _ I h) fun v s1 ⟨x, H1, I1, r1, q1⟩ => ?_)
 obtain ⟨c, rfl, q1⟩ := q1
 cases r1
 refine wpAny_truthy_bool ?_
 cases c with
 | false => exact hb pins s1 σ H1 Q I1 q1
 | true => exact ⟨.bl true, H1, I1, rfl, q1⟩
theorem pe_not (ha : PE X a ta) : PE X (.UnaryOp .Not a pos) (tNotV ta) := by
 intro pins s σ H Q I h
 refine UnaryOp_ (thn (ha pins s σ H _ I h) fun v s1 ⟨x, H1, I1, r1, q1⟩ => ?_)
 obtain ⟨c, rfl, q1⟩ := q1
 cases r1
 exact not_of (wpAny_truthy_bool ⟨.bl (!c), H1, I1, rfl, q1⟩)
end
end L2
namespace L2
open PySem PySem.Spec PyProof.Rows
noncomputable def SqL (K : PySem.W.Frag) (H : Hp) (a : Addr) (xs : List V) : Prop :=
 Rd H a (.lst xs) ∨
  ∃ (o : Obj) (its : Array Value) (n : Nat), K.lookup a = some o ∧ o.cls = .type "list" ∧ o.dict = none ∧ o.data = .seq its n ∧ its.size ≤ sizeLine ∧ Vals xs its.toList
noncomputable def SqT (K : PySem.W.Frag) (H : Hp) (a : Addr) (xs : List V) : Prop :=
 Rd H a (.tup xs) ∨
  ∃ (o : Obj) (its : Array Value) (n : Nat), K.lookup a = some o ∧ o.cls = .type "tuple" ∧ o.data = .seq its n ∧ its.size ≤ sizeLine ∧ Vals xs its.toList
noncomputable def absV : Value → Option V
 | .none => some .non
 | .bool b => some (.bl b)
 | .int i _ => some (.int i)
 | .str x _ => some (.str x)
 | .bytes b _ => some (.byt b)
 | .float b _ => some (.flt b)
 | .ref a => some (.ref a)
 | .type n => some (.ty n)
 | _ => none
theorem RelV.abs {x : V} {u : Value} (r : RelV x u) : absV u = some x := by
 cases x with
 | non => cases r; rfl
 | bl _ => cases r; rfl
 | int _ => obtain ⟨t, rfl⟩ := r; rfl
 | str _ => obtain ⟨t, rfl⟩ := r; rfl
 | byt _ => obtain ⟨t, rfl⟩ := r; rfl
 | flt _ => obtain ⟨t, rfl⟩ := r; rfl
 | ref _ => cases r; rfl
 | ty _ => cases r; rfl
theorem RelV.inj {x y : V} {u : Value} (r : RelV x u) (q : RelV y u) : x = y := Option.some.inj (r.abs.symm.trans q.abs)
theorem Vals.inj : ∀ {xs ys : List V} {us : List Value}, Vals xs us → Vals ys us → xs = ys
 | _, _, _, .nil, .nil => rfl
 | _, _, _, .cons r t, .cons r' t' => by rw [r.inj r', Vals.inj t t']
section
variable {X : Cx} {pins : List (Addr × Obj)} {σ : St} {H : Hp} {s : Shared} {a : Addr} {xs ys : List V}
theorem SqL.of {K : PySem.W.Frag} (h : H a = some (.lst xs)) : SqL K H a xs := .inl (.inl h)
theorem SqT.of {K : PySem.W.Frag} (h : H a = some (.tup xs)) : SqT K H a xs := .inl (.inl h)
theorem Inv.list (I : Inv X pins σ H s) (h : SqL X.K H a xs) : ∃ its : List Value, Vals xs its ∧ PlainL s.heap a its.toArray ∧ xs.length ≤ sizeLine := by
 rcases h with h | ⟨o, its, n, hk, hc, hd, hs, hz, r⟩
 ·obtain ⟨z, its, n, r, e⟩ := h.ok I.hok
  exact ⟨its, r, ⟨_, n, e, rfl, rfl, rfl⟩, z⟩
 ·refine ⟨its.toList, r, ⟨o, n, I.kIn a o hk, hc, hd, by simpa using hs⟩, ?_⟩
  have e := r.length
  simp only [Array.length_toList] at e
  omega
theorem Inv.tuple (I : Inv X pins σ H s) (h : SqT X.K H a xs) : ∃ its : List Value, Vals xs its ∧ IsTup s.heap a its.toArray ∧ xs.length ≤ sizeLine := by
 rcases h with h | ⟨o, its, n, hk, hc, hs, hz, r⟩
 ·obtain ⟨z, its, r, p⟩ := h.ok I.hok
  exact ⟨its, r, p, z⟩
 ·refine ⟨its.toList, r, ⟨o, I.kIn a o hk, hc, n, by simpa using hs⟩, ?_⟩
  have e := r.length
  simp only [Array.length_toList] at e
  omega
theorem Inv.list_inj (I : Inv X pins σ H s) (h : SqL X.K H a xs) (h' : SqL X.K H a ys) : xs = ys := by
 obtain ⟨its, r, ⟨o, n, e, _, _, d⟩, _⟩ := I.list h
 obtain ⟨its', r', ⟨o', n', e', _, _, d'⟩, _⟩ := I.list h'
 rw [e] at e'; cases e'
 rw [d] at d'
 injection d' with d1 _
 have : its = its' := by simpa using congrArg Array.toList d1
 subst this
 exact r.inj r'
theorem Inv.tuple_inj (I : Inv X pins σ H s) (h : SqT X.K H a xs) (h' : SqT X.K H a ys) : xs = ys := by
 obtain ⟨its, r, ⟨o, e, _, n, d⟩, _⟩ := I.tuple h
 obtain ⟨its', r', ⟨o', e', _, n', d'⟩, _⟩ := I.tuple h'
 rw [e] at e'; cases e'
 rw [d] at d'
 injection d' with d1 _
 have : its = its' := by simpa using congrArg Array.toList d1
 subst this
 exact r.inj r'
end
noncomputable abbrev Cx.wish (X : Cx) (E : Value → Shared → Prop) : Cx := { X with xe := E }
noncomputable abbrev Cx.nox (X : Cx) : Cx := X.wish fun _ _ => False
theorem Cx.Ok.wish {X : Cx} (ok : X.Ok) (E : Value → Shared → Prop) : (X.wish E).Ok :=
 ⟨ok.mod, ok.kind, ok.glob, ok.blt, ok.above, ok.inj, ok.has, ok.cab, ok.hd, ok.frames, ok.stk, ok.exf, ok.bs, ok.bsz, ok.noex, ok.exfs, ok.funs, ok.frf⟩
theorem Cx.Ok.unwish {X : Cx} {E : Value → Shared → Prop} (ok : (X.wish E).Ok) : X.Ok :=
 ⟨ok.mod, ok.kind, ok.glob, ok.blt, ok.above, ok.inj, ok.has, ok.cab, ok.hd, ok.frames, ok.stk, ok.exf, ok.bs, ok.bsz, ok.noex, ok.exfs, ok.funs, ok.frf⟩
section
variable {X : Cx} {pins : List (Addr × Obj)} {σ : St} {H : Hp} {s : Shared} {E : Value → Shared → Prop}
theorem Inv.wish (I : Inv X pins σ H s) (E : Value → Shared → Prop) : Inv (X.wish E) pins σ H s := ⟨I.ok.wish E, I.os, I.bare, I.base, I.loc, I.cell, I.free, I.freeC, I.pin, I.hok, I.len⟩
theorem Inv.unwish (I : Inv (X.wish E) pins σ H s) : Inv X pins σ H s := ⟨I.ok.unwish, I.os, I.bare, I.base, I.loc, I.cell, I.free, I.freeC, I.pin, I.hok, I.len⟩
theorem SP.unwish {D : Ends} {f : Flow} {s' : Shared} (h : SP (X.wish E) pins D f s') : SP X pins D f s' := by
 cases f with
 | next => obtain ⟨σ', H', I, q⟩ := h; exact ⟨σ', H', I.unwish, q⟩
 | brk => obtain ⟨σ', H', I, q⟩ := h; exact ⟨σ', H', I.unwish, q⟩
 | cont => obtain ⟨σ', H', I, q⟩ := h; exact ⟨σ', H', I.unwish, q⟩
 | ret u => obtain ⟨v, σ', H', I, r, q⟩ := h; exact ⟨v, σ', H', I.unwish, r, q⟩
theorem PSs.nox {st : List Stmt} {t : TS} (h : PSs X.nox st t) : PSs X st t := fun pins s σ H D I hw =>
 wpAny_mono (h pins s σ H D (I.wish _) hw) (fun _ _ q => q.unwish) fun _ _ z => False.elim z
end
section
variable {X : Cx} {st : Stmt} {rest : List Stmt} {t u : TS} {e : Expr} {te : TE} {pos : Pos}
noncomputable def tNext : TS := fun D σ H => D.nx σ H
noncomputable def tSeq (t u : TS) : TS := fun D σ H => t { D with nx := u D } σ H
theorem pss_nil : PSs X [] tNext := fun _ _ σ H _ I h => wpAny_execs_nil ⟨σ, H, I, h⟩
theorem pss_cons (h1 : PS X st t) (h2 : PSs X rest u) : PSs X (st :: rest) (tSeq t u) := by
 intro pins s σ H D I h
 refine wpAny_execs_cons (thn (h1 pins s σ H { D with nx := u D } I h) fun f s1 q => ?_)
 cases f with
 | next =>
  obtain ⟨σ', H', I', q⟩ := q
  exact h2 pins s1 σ' H' D I' q
 | ret v => exact q
 | brk => exact q
 | cont => exact q
theorem pss_one (h1 : PS X st t) : PSs X [st] t := by
 intro pins s σ H D I h
 refine wpAny_execs_cons (thn (h1 pins s σ H D I h) fun f s1 q => ?_)
 cases f with
 | next => exact wpAny_execs_nil q
 | ret v => exact q
 | brk => exact q
 | cont => exact q
theorem Inv.quiet {pins : List (Addr × Obj)} {σ : St} {H : Hp} {s : Shared} (I : Inv X pins σ H s) : interactive X.env = false := by simp [interactive, I.ok.kind]
noncomputable def tDrop (te : TE) : TS := fun D σ H => te σ H fun _ H1 => D.nx σ H1
theorem ps_expr (he : PE X e te) (hs : swapsWith e none pos.line X.env = pure false := by rfl) : PS X (.Expr e pos) (tDrop te) := by
 intro pins s σ H D I h
 exact wpAny_Expr_any (thn (he pins s σ H _ I h) fun v s1 ⟨x, H1, I1, r1, q1⟩ => ⟨σ, H1, I1, q1⟩) I.quiet hs
noncomputable def tRet (te : TE) : TS := fun D σ H => te σ H D.rt
theorem ps_ret (he : PE X e te) : PS X (.Return (some e) pos) (tRet te) := by
 intro pins s σ H D I h
 exact wpAny_Return_some (thn (he pins s σ H _ I h) fun v s1 ⟨x, H1, I1, r1, q1⟩ => ⟨x, σ, H1, I1, r1, q1⟩)
noncomputable def tIfS (c : TT) (t u : TS) : TS := fun D σ H => c σ H fun b H1 => if b = true then t D σ H1 else u D σ H1
theorem ps_if {c : Expr} {a b : List Stmt} {tc : TT} (hc : PT X c tc) (ha : PSs X a t) (hb : PSs X b u) : PS X (.If c a b pos) (tIfS tc t u) := by
 intro pins s σ H D I h
 refine wpAny_If (thn (hc pins s σ H _ I h) fun d s1 ⟨H1, I1, q1⟩ => ?_)
 cases d with
 | true => exact ha pins s1 σ H1 D I1 q1
 | false => exact hb pins s1 σ H1 D I1 q1
end
noncomputable abbrev TG := V → St → Hp → (St → Hp → Prop) → Prop
noncomputable abbrev TGs := List V → St → Hp → (St → Hp → Prop) → Prop
noncomputable def PG (X : Cx) (target : Expr) (t : TG) : Prop :=
 ∀ (pins : List (Addr × Obj)) (s : Shared) (σ : St) (H : Hp) (v : V) (u : Value) (Q : St → Hp → Prop), Inv X pins σ H s → RelV v u → t v σ H Q →
  wpAny (model X.prog X.w) X.A (assign target X.env u) (fun _ s' => ∃ σ' H', Inv X pins σ' H' s' ∧ Q σ' H') X.xe s
noncomputable def PGs (X : Cx) (ts : List Expr) (t : TGs) : Prop :=
 ∀ (pins : List (Addr × Obj)) (s : Shared) (σ : St) (H : Hp) (vs : List V) (us : List Value) (Q : St → Hp → Prop), Inv X pins σ H s → Vals vs us → t vs σ H Q →
  wpAny (model X.prog X.w) X.A (assignInOrder ((assignEach ts X.env).map (·.2)) us) (fun _ s' => ∃ σ' H', Inv X pins σ' H' s' ∧ Q σ' H') X.xe s
noncomputable abbrev TSet := V → V → V → Hp → (Hp → Prop) → Prop
noncomputable def PSet (X : Cx) (t : TSet) : Prop :=
 ∀ (pins : List (Addr × Obj)) (s : Shared) (σ : St) (H : Hp) (o i v : V) (ov iv u : Value) (Q : Hp → Prop), Inv X pins σ H s → RelV o ov → RelV i iv → RelV v u → t o i v H Q →
  wpAny (model X.prog X.w) X.A (setItem ov iv u) (fun _ s' => ∃ H', Inv X pins σ H' s' ∧ Q H') X.xe s
section
variable {X : Cx} {pos : Pos}
noncomputable def gName (i : Nat) : TG := fun v σ H Q => Q (σ.set i (some v)) H
theorem pg_name {i : Nat} {x : Str} (hN : X.N.Nodup) (hi : X.N[i]? = some x) (hx : Loc X.env.scope x) (hf : X.fn x = true ∨ X.env.scope.names.lookup x = some .local := by first | exact .inl rfl | exact .inr rfl | assumption) : PG X (.Name x pos) (gName i) := by
 intro pins s σ H v u Q I r h
 exact wpAny_assign_Name (store_ok I hN hi hx r (fun s' I' => ⟨_, H, I', h⟩) hf)
noncomputable def gNil : TGs := fun vs σ H Q => vs = [] ∧ Q σ H
noncomputable def gCons (t : TG) (u : TGs) : TGs := fun vs σ H Q => ∃ v r, vs = v :: r ∧ t v σ H fun σ' H' => u r σ' H' Q
theorem pgs_nil : PGs X [] gNil := by
 intro pins s σ H vs us Q I r h
 obtain ⟨e, h⟩ := h
 subst e
 cases r
 exact assignInOrder_nil ⟨σ, H, I, h⟩
theorem pgs_cons {e : Expr} {es : List Expr} {t : TG} {u : TGs} (h1 : PG X e t) (h2 : PGs X es u)
  (hs : (assignEach (e :: es) X.env).map (·.2) = assign e X.env :: (assignEach es X.env).map (·.2) := by rfl) : PGs X (e :: es) (gCons t u) := by
 intro pins s σ H vs us Q I r h
 obtain ⟨v, vr, e1, h⟩ := h
 subst e1
 cases r with
 | cons r rr =>
  rw [hs]
  refine assignInOrder_cons (thn (h1 pins s σ H _ _ _ I r h) fun _ s1 ⟨σ1, H1, I1, q1⟩ => ?_)
  exact h2 pins s1 σ1 H1 _ _ Q I1 rr q1
noncomputable def gTup (K : PySem.W.Frag) (n : Nat) (t : TGs) : TG := fun v σ H Q => ∃ a xs, v = .ref a ∧ SqT K H a xs ∧ xs.length = n ∧ t xs σ H Q
theorem pg_tup {es : List Expr} {k : Nat} {t : TGs} {n : Nat} (hc : X.calm = true) (h : PGs X es t)
  (hn : (assignEach es X.env).length = n := by rfl) (hst : (assignEach es X.env).findIdx? (·.1) = none := by rfl) : PG X (.Tuple es k pos) (gTup X.K n t) := by
 intro pins s σ H v u Q I r hw
 obtain ⟨a, xs, e1, hq, hl, hw⟩ := hw
 subst e1
 cases r
 obtain ⟨its, rv, ht, hz⟩ := I.tuple hq
 refine assign_Tuple_tuple (I.ok.hd hc) ht (by simp [hn, ← hl, rv.length]) hst fun h' hx => ?_
 have I1 : Inv X pins σ H { s with heap := h' } := I.kept (t' := s.toks) fun b o e => hx b o (Nat.ne_of_lt (Heap.lt_size e)) e
 exact h pins _ σ H xs _ Q I1 (by simpa using rv) hw
noncomputable def gSub (to ti : TE) (t : TSet) : TG := fun v σ H Q => to σ H fun o H1 => ti σ H1 fun i H2 => t o i v H2 fun H3 => Q σ H3
theorem pg_sub {o i : Expr} {to ti : TE} {t : TSet} (ho : PE X o to) (hi : PE X i ti) (hs : PSet X t)
  (ha : ∀ v, assign (.Subscript o i pos) X.env v = (do
   let ov ← holding [v] (eval o X.env)
   let iv ← holding [v, ov] (eval i X.env)
   standAt pos
   holding [v, ov, iv] (setItem ov iv v)
   release [v, ov, iv] []) := by intro _; rfl) : PG X (.Subscript o i pos) (gSub to ti t) := by
 intro pins s σ H v u Q I r h
 rw [ha]
 refine wpAny_bind (wpAny_holding (thn (ho pins s σ H _ I h) fun ov s1 ⟨x, H1, I1, r1, q1⟩ => ?_))
 refine wpAny_bind (wpAny_holding (thn (hi pins s1 σ H1 _ I1 q1) fun iv s2 ⟨y, H2, I2, r2, q2⟩ => ?_))
 refine wpAny_bind (wpAny_standAt (wpAny_bind (wpAny_holding (thn (hs pins s2 σ H2 x y v ov iv u _ I2 r1 r2 r q2) fun _ s3 ⟨H3, I3, q3⟩ => ?_))))
 exact wpAny_release ⟨σ, H3, I3, q3⟩
noncomputable def tAsg (te : TE) (g : TG) : TS := fun D σ H => te σ H fun x H1 => g x σ H1 D.nx
theorem ps_asg {tg e : Expr} {te : TE} {g : TG} (he : PE X e te) (hg : PG X tg g) (hs : swapsWithSole [tg] e pos.line X.env = pure false := by rfl) (hw : swappedStores [tg] e X.env = pure none := by rfl)
  (h1 : (assignEach [tg] X.env).map (·.2) = [assign tg X.env] := by rfl) : PS X (.Assign [tg] e pos) (tAsg te g) := by
 intro pins s σ H D I h
 refine wpAny_Assign_stores (thn (he pins s σ H _ I h) fun v s1 ⟨x, H1, I1, r1, q1⟩ => ?_) hs hw
 rw [h1]
 exact thn (hg pins s1 σ H1 x v _ I1 r1 q1) fun _ s2 q => q
theorem ps_set {i : Nat} {x : Str} {e : Expr} {te : TE} {pos' : Pos} (hN : X.N.Nodup) (hi : X.N[i]? = some x) (hx : Loc X.env.scope x) (he : PE X e te) (hs : swapsWith e (some (.Name x pos')) pos.line X.env = pure false := by rfl) (hf : X.fn x = true ∨ X.env.scope.names.lookup x = some .local := by first | exact .inl rfl | exact .inr rfl | assumption) :
  PS X (.Assign [.Name x pos'] e pos) (tAsg te (gName i)) := by
 intro pins s σ H D I h
 refine wpAny_Assign_Name (thn (he pins s σ H _ I h) fun v s1 ⟨y, H1, I1, r1, q1⟩ => ?_) hs
 exact store_ok I1 hN hi hx r1 (fun s2 I2 => ⟨_, H1, I2, q1⟩) hf
end
section
variable {X : Cx} {pos : Pos}
noncomputable def tWhile (c : TT) (tb : TS) : TS := fun D σ H => ∃ W : Nat → St → Hp → Prop, (∃ m, W m σ H) ∧ ∀ m σ H, W m σ H →
 c σ H fun b H1 => if b = true then ∃ N : St → Hp → Prop, (∀ σ' H', N σ' H' → ∃ m', m' < m ∧ W m' σ' H') ∧ tb { D with nx := N, ct := N, bk := D.nx } σ H1 else D.nx σ H1
theorem ps_while {c : Expr} {body : List Stmt} {tc : TT} {tb : TS} (hp : PassesOwn (model X.prog X.w) X.A X.env X.xe) (hc : PT X c tc) (hb : PSs X body tb) : PS X (.While c body [] pos) (tWhile tc tb) := by
 intro pins s σ H D I h
 obtain ⟨W, ⟨m0, w0⟩, turn⟩ := h
 refine wpAny_While (codeAny_whileLoop (fun n s' => ∃ σ' H', Inv X pins σ' H' s' ∧ W n σ' H') ?_ m0 ⟨σ, H, I, w0⟩)
 rintro n s1 ⟨σ1, H1, I1, w1⟩
 refine wpAny_passesOwn hp (thn (hc pins s1 σ1 H1 _ I1 (turn n σ1 H1 w1)) fun b s2 ⟨H2, I2, q2⟩ => ?_)
 cases b with
 | true =>
  obtain ⟨N, hN, q2⟩ := q2
  rw [if_pos rfl]
  refine wpAny_passesOwn hp (thn (hb pins s2 σ1 H2 _ I2 q2) fun f s3 q3 => ?_)
  cases f with
  | next =>
   obtain ⟨σ3, H3, I3, n3⟩ := q3
   obtain ⟨m', hm, w3⟩ := hN σ3 H3 n3
   exact ⟨m', hm, σ3, H3, I3, w3⟩
  | cont =>
   obtain ⟨σ3, H3, I3, n3⟩ := q3
   obtain ⟨m', hm, w3⟩ := hN σ3 H3 n3
   exact ⟨m', hm, σ3, H3, I3, w3⟩
  | brk => exact q3
  | ret v => exact q3
 | false =>
  rw [if_neg Bool.false_ne_true]
  exact wpAny_execs_nil ⟨σ1, H2, I2, q2⟩
end
structure It where
 go : Nat → Hp → Prop
 yld : Nat → Hp → V → Hp → Prop
 stop : Nat → Hp → Prop
noncomputable def FpOk (X : Cx) (pins : List (Addr × Obj)) (H : Hp) (b : Addr) : Prop :=
 H b = none ∧ b ≠ X.env.locals ∧ b ∉ X.fs ∧ (b ∈ X.ex ∨ X.s₀.heap.objs.size ≤ b) ∧ (∀ x c, X.env.cells.lookup x = some c → c ≠ b) ∧ ∀ p ∈ X.pn ++ pins, p.1 ≠ b
theorem Inv.fpOk {X : Cx} {pins : List (Addr × Obj)} {σ : St} {H H' : Hp} {s : Shared} {b : Addr} (I : Inv X pins σ H s) (hb : s.heap.objs.size ≤ b) (hn : H' b = none) : FpOk X pins H' b := by
 refine ⟨hn, Nat.ne_of_gt (Nat.lt_of_lt_of_le I.lt hb), I.nofs hb, .inr (Nat.le_trans I.sz hb), fun x c e z => ?_, fun p hp z => ?_⟩
 ·obtain ⟨v, q⟩ := I.cell x c e
  exact absurd (Nat.lt_of_lt_of_le q.lt (by rw [z]; exact hb)) (Nat.lt_irrefl _)
 ·exact absurd (Nat.lt_of_lt_of_le (Heap.lt_size (I.pin p hp).1) (by rw [z]; exact hb)) (Nat.lt_irrefl _)
structure Turn (P : Program) (w : World) (K : PySem.W.Frag) (tg : Expr) (J : It) (fp : List Addr) (it : Addr) (tn : Nat → Heap → Prop) : Prop where
 mem : it ∈ fp
 obj : ∀ i h, tn i h → ∀ b ∈ fp, ∃ o, h.get? b = some o ∧ ∀ v, o.data ≠ .cell v
 keep : ∀ i h h', tn i h → (∀ b ∈ fp, ∀ o, h.get? b = some o → h'.get? b = some o) → tn i h'
 item : ∀ (X : Cx), X.prog = P → X.w = w → X.K = K → X.calm = true → ∀ (i : Nat) (pins : List (Addr × Obj)) (s : Shared) (σ : St) (H : Hp) (E : Value → Shared → Prop), Inv X pins σ H s → (∀ b ∈ fp, FpOk X pins H b) → tn i s.heap → J.go i H →
  wpAny (model P w) X.A (pyNext (.ref it)) (fun r s1 => ∃ u, r = some u ∧
   wpAny (model P w) X.A (letOwnedTupleGo tg (.ref it) u) (fun _ s2 => ∃ x H', Inv X pins σ H' s2 ∧ RelV x u ∧ J.yld i H x H' ∧ tn (i + 1) s2.heap ∧ ∀ b ∈ fp, H' b = none) E s1) E s
 done : ∀ (X : Cx), X.prog = P → X.w = w → X.K = K → X.calm = true → ∀ (i : Nat) (pins : List (Addr × Obj)) (s : Shared) (σ : St) (H : Hp) (E : Value → Shared → Prop), Inv X pins σ H s → (∀ b ∈ fp, FpOk X pins H b) → tn i s.heap → J.stop i H →
  wpAny (model P w) X.A (pyNext (.ref it)) (fun r s1 => r = none ∧ Inv X pins σ H s1) E s
 self : ∀ (A : Around) (i : Nat) (s : Shared) (Q : Value → Shared → Prop) (E : Value → Shared → Prop), tn i s.heap → Q (.ref it) s → wpAny (model P w) A (pyIter (.ref it)) Q E s
noncomputable abbrev TI := St → Hp → (It → Hp → Prop) → Prop
noncomputable def PIE (X : Cx) (pins : List (Addr × Obj)) (σ : St) (tg : Expr) (R : It → Hp → Prop) (itv : Value) (s2 : Shared) : Prop :=
 ∃ (it : Addr) (fp : List Addr) (tn : Nat → Heap → Prop) (J : It) (H' : Hp), itv = .ref it ∧ Inv X pins σ H' s2 ∧ Turn X.prog X.w X.K tg J fp it tn ∧ tn 0 s2.heap ∧ (∀ b ∈ fp, FpOk X pins H' b) ∧ R J H'
noncomputable def PI (X : Cx) (tg iter : Expr) (wi : TI) : Prop :=
 ∀ (pins : List (Addr × Obj)) (s : Shared) (σ : St) (H : Hp) (R : It → Hp → Prop), Inv X pins σ H s → wi σ H R →
  wpAny (model X.prog X.w) X.A (eval iter X.env) (fun v s1 => wpAny (model X.prog X.w) X.A (pyIter v) (PIE X pins σ tg R) X.xe s1) X.xe s
theorem go_of {M : Model} {A : Around} {E : Value → Shared → Prop} {s : Shared} {tg : Expr} {it : Addr} {u : Value} {o : Obj} {n : String} {vs : Array Value} {Q : Unit → Shared → Prop} (ho : s.heap.get? it = some o) (hc : o.cls = .type n) (hd : o.data = .fields vs)
  (hn : ["enumerate", "zip", "dict_itemiterator", "dict_reverseitemiterator", "odict_iterator", "itertools.zip_longest", "itertools.pairwise"].contains n = false) (hQ : Q () s) : wpAny M A (letOwnedTupleGo tg (.ref it) u) Q E s := by
 unfold letOwnedTupleGo
 cases tg <;> first
  | exact wpAny_pure hQ
  | (cases u <;> first
    | exact wpAny_pure hQ
    | (refine wpAny_bind (wpAny_load ho ?_)
       rw [hc, hd]
       show wpAny M A (if (["enumerate", "zip", "dict_itemiterator", "dict_reverseitemiterator", "odict_iterator", "itertools.zip_longest", "itertools.pairwise"].contains n && vs[0]? == some (rawInt _)) = true then _ else _) Q E s
       rw [if_neg (by intro h; rw [hn, Bool.false_and] at h; cases h)]
       exact wpAny_pure hQ))
noncomputable def Itl (K : PySem.W.Frag) (a : Addr) : It :=
 ⟨fun i H => ∃ xs x, SqL K H a xs ∧ xs[i]? = some x, fun i H x H' => H' = H ∧ ∀ xs, SqL K H a xs → xs[i]? = some x, fun i H => ∃ xs, SqL K H a xs ∧ xs.length ≤ i⟩
noncomputable def Itt (K : PySem.W.Frag) (a : Addr) : It :=
 ⟨fun i H => ∃ xs x, SqT K H a xs ∧ xs[i]? = some x, fun i H x H' => H' = H ∧ ∀ xs, SqT K H a xs → xs[i]? = some x, fun i H => ∃ xs, SqT K H a xs ∧ xs.length ≤ i⟩
noncomputable def Itr (lo : Int) (n : Nat) : It := ⟨fun i _ => i < n, fun i H x H' => H' = H ∧ x = .int (lo + i), fun i _ => n ≤ i⟩
theorem turn_list {P : Program} {w : World} {K : PySem.W.Frag} {tg : Expr} (a it : Addr) : Turn P w K tg (Itl K a) [it] it (fun i h => h.IsListIter it a i) where
 mem := by simp
 obj := fun i h st b hb => by
  have e : b = it := by simpa using hb
  subst e
  obtain ⟨o, e, c, d⟩ := st
  exact ⟨o, e, fun v z => by rw [d] at z; cases z⟩
 keep := fun i h h' st k => st.at fun o e => k it (by simp) o e
 item := by
  intro X hP hw hK hc i pins s σ H E I hf st hg
  subst hP hw hK
  obtain ⟨xs, x, hq, hx⟩ := hg
  obtain ⟨its, rv, p, hz⟩ := I.list hq
  obtain ⟨u, hu, ru⟩ := rv.get hx
  obtain ⟨f0, f1, f2, f3, f4, f5⟩ := hf it (by simp)
  refine wpAny_pyNext_list_item st p.isList (x := u) (by simpa using hu) fun h' st' sb => ?_
  have I1 : Inv X pins σ H { s with heap := h' } := I.turned (t' := s.toks) (fun b o hb e => (sb.2 b hb).trans e) f0 f1 f3 f4 f5
  obtain ⟨o, e, c, d⟩ := id st'
  exact ⟨u, rfl, go_of (s := { s with heap := h' }) e c d (by decide) ⟨x, H, I1, ru, ⟨rfl, fun ys hy => by rw [I.list_inj hy hq]; exact hx⟩, st', fun b hb => (hf b hb).1⟩⟩
 done := by
  intro X hP hw hK hc i pins s σ H E I hf st hg
  subst hP hw hK
  obtain ⟨xs, hq, hx⟩ := hg
  obtain ⟨its, rv, p, hz⟩ := I.list hq
  obtain ⟨f0, f1, f2, f3, f4, f5⟩ := hf it (by simp)
  have hl := rv.length
  exact wpAny_pyNext_list_end (I.ok.hd hc) st p.isList (by simp; omega) fun h' eb => ⟨rfl, I.turned (t' := s.toks) (fun b o hb e => eb b o hb e) f0 f1 f3 f4 f5⟩
 self := fun _ _ _ _ _ st h => wpAny_pyIter_listiter st h
theorem turn_tuple {P : Program} {w : World} {K : PySem.W.Frag} {tg : Expr} (a it : Addr) : Turn P w K tg (Itt K a) [it] it (fun i h => h.IsTupleIter it a i) where
 mem := by simp
 obj := fun i h st b hb => by
  have e : b = it := by simpa using hb
  subst e
  obtain ⟨o, e, c, d⟩ := st
  exact ⟨o, e, fun v z => by rw [d] at z; cases z⟩
 keep := fun i h h' st k => st.at fun o e => k it (by simp) o e
 item := by
  intro X hP hw hK hc i pins s σ H E I hf st hg
  subst hP hw hK
  obtain ⟨xs, x, hq, hx⟩ := hg
  obtain ⟨its, rv, p, hz⟩ := I.tuple hq
  obtain ⟨u, hu, ru⟩ := rv.get hx
  obtain ⟨f0, f1, f2, f3, f4, f5⟩ := hf it (by simp)
  refine wpAny_pyNext_tuple_item st (show s.heap.IsTuple a its.toArray from p) (x := u) (by simpa using hu) fun h' st' sb => ?_
  have I1 : Inv X pins σ H { s with heap := h' } := I.turned (t' := s.toks) (fun b o hb e => (sb.2 b hb).trans e) f0 f1 f3 f4 f5
  obtain ⟨o, e, c, d⟩ := id st'
  exact ⟨u, rfl, go_of (s := { s with heap := h' }) e c d (by decide) ⟨x, H, I1, ru, ⟨rfl, fun ys hy => by rw [I.tuple_inj hy hq]; exact hx⟩, st', fun b hb => (hf b hb).1⟩⟩
 done := by
  intro X hP hw hK hc i pins s σ H E I hf st hg
  subst hP hw hK
  obtain ⟨xs, hq, hx⟩ := hg
  obtain ⟨its, rv, p, hz⟩ := I.tuple hq
  obtain ⟨f0, f1, f2, f3, f4, f5⟩ := hf it (by simp)
  have hl := rv.length
  exact wpAny_pyNext_tuple_end (I.ok.hd hc) st (show s.heap.IsTuple a its.toArray from p) (by simp; omega) fun h' eb => ⟨rfl, I.turned (t' := s.toks) (fun b o hb e => eb b o hb e) f0 f1 f3 f4 f5⟩
 self := fun _ _ _ _ _ st h => wpAny_pyIter_tupleiter st h
theorem turn_range {P : Program} {w : World} {K : PySem.W.Frag} {tg : Expr} (it : Addr) (lo : Int) (n : Nat) : Turn P w K tg (Itr lo n) [it] it (fun i h => IsRangeIter h it (lo + (i : Nat) * 1) ((n : Int) - (i : Nat)) 1) where
 mem := by simp
 obj := fun i h st b hb => by
  have e : b = it := by simpa using hb
  subst e
  exact ⟨_, st, fun v z => by
   have z' : Data.fields _ = Data.cell v := z
   cases z'⟩
 keep := fun i h h' st k => k it (by simp) _ st
 item := by
  intro X hP hw hK hc i pins s σ H E I hf st hg
  subst hP hw hK
  obtain ⟨f0, f1, f2, f3, f4, f5⟩ := hf it (by simp)
  have W := Walks.range (prog := X.prog) (w := X.w) (I.ok.hd hc) it lo 1 n
  refine W.item i s _ _ hg st fun v h' tk hv st' kk => ?_
  obtain ⟨t, rfl⟩ := hv
  have I1 : Inv X pins σ H { s with heap := h', toks := tk } := I.turned (fun b o hb e => kk b o (by simpa using hb) e) f0 f1 f3 f4 f5
  refine ⟨_, rfl, go_of (s := { s with heap := h', toks := tk }) (n := "range_iterator") st' rfl rfl (by decide) ⟨.int (lo + i), H, I1, ⟨t, ?_⟩, ⟨rfl, rfl⟩, st', fun b hb => (hf b hb).1⟩⟩
  rw [Int.mul_one]
 done := by
  intro X hP hw hK hc i pins s σ H E I hf st hg
  subst hP hw hK
  obtain ⟨f0, f1, f2, f3, f4, f5⟩ := hf it (by simp)
  exact wpAny_pyNext_range_end (I.ok.hd hc) st (by have : n ≤ i := hg; omega) fun h' eb => ⟨rfl, I.turned (t' := s.toks) (fun b o hb e => eb b o hb e) f0 f1 f3 f4 f5⟩
 self := fun _ _ _ _ _ st h => wpAny_pyIter_rangeiter st h
end L2
namespace L2
open PySem PySem.Spec PyProof.Rows
section
variable {X : Cx} {tg : Expr}
theorem range_it {pins : List (Addr × Obj)} {σ : St} {H : Hp} {s : Shared} {R : It → Hp → Prop} {E : Value → Shared → Prop} {lo hi : Int} {t u v : Tok} {tk : Nat} (I : Inv X pins σ H s) (h1 : -(2 ^ 62) ≤ lo) (h2 : lo < 2 ^ 62) (h3 : -(2 ^ 62) ≤ hi) (h4 : hi < 2 ^ 62)
  (q : R (Itr lo (hi - lo).toNat) H) : wpAny (model X.prog X.w) X.A (pyIter (.ref s.heap.objs.size)) (PIE X pins σ tg R) E { s with heap := s.heap.push { cls := .type "range", data := .fields #[.int lo t, .int hi u, .int 1 v] }, toks := tk } := by
 refine wpAny_pyIter_range (IsRange.new ..) (small_one h1 h2 h3 h4) ?_
 have I1 : Inv X pins σ H { s with heap := s.heap.push { cls := .type "range", data := .fields #[.int lo t, .int hi u, .int 1 v] }, toks := tk } := I.kept fun b o e => Heap.get?_push_of_some _ e
 refine ⟨(s.heap.push { cls := .type "range", data := .fields #[.int lo t, .int hi u, .int 1 v] }).objs.size, [(s.heap.push { cls := .type "range", data := .fields #[.int lo t, .int hi u, .int 1 v] }).objs.size], _, _, H, rfl,
  I1.kept (t' := tk) fun b o e => Heap.get?_push_of_some _ e, turn_range _ lo (hi - lo).toNat, ?_, fun b hb => ?_, q⟩
 ·have e1 : lo + ((0 : Nat) : Int) * 1 = lo := by simp
  have e2 : (((hi - lo).toNat : Nat) : Int) - ((0 : Nat) : Int) = Builtin.Range.rangeSize lo hi 1 := by rw [rangeSize_one]; split <;> omega
  show IsRangeIter _ _ (lo + ((0 : Nat) : Int) * 1) ((((hi - lo).toNat : Nat) : Int) - ((0 : Nat) : Int)) 1
  rw [e1, e2]
  exact Heap.get?_push_size _ rfl
 ·have e : b = (s.heap.push { cls := .type "range", data := .fields #[.int lo t, .int hi u, .int 1 v] }).objs.size := by simpa using hb
  subst e
  exact I1.fpOk (Nat.le_refl _) (I1.hok.fresh (Nat.le_refl _))
noncomputable def iRng1 (ta : TA) : TI := fun σ H R => ta σ H fun vs H1 => ∃ j : Int, vs = [.int j] ∧ -(2 ^ 62) ≤ j ∧ j < 2 ^ 62 ∧ R (Itr 0 j.toNat) H1
theorem pi_range1 {a : Expr} {ta : TA} {p pos : Pos} (hg : Gl X "range") (hm : X.mg "range" = none) (ha : PA X [a] ta) (hs : starEach [a] X.env = [(false, eval a X.env)] := by rfl) : PI X tg (.Call (.Name "range" p) [a] [] pos) (iRng1 ta) := by
 intro pins s σ H R I h
 refine Call_ (ld_blt I hg hm boot_range (PyProof.Rows.callWith_type1 (thn (ha pos pins s σ H _ I h) fun us s1 ⟨vs, H1, I1, r1, q1⟩ => ?_) hs rfl))
 obtain ⟨j, e, q1, q2, q⟩ := q1
 subst e
 cases r1 with
 | cons r rr =>
  cases rr
  obtain ⟨t, rfl⟩ := r
  exact call_range_1 (range_it I1 (by omega) (by omega) q1 q2 (by simpa using q))
noncomputable def tFor (wi : TI) (g : TG) (tb : TS) : TS := fun D σ H => wi σ H fun J H1 => ∃ W : Nat → Nat → St → Hp → Prop, (∃ m, W 0 m σ H1) ∧ ∀ i m σ H, W i m σ H →
 (J.stop i H ∧ D.nx σ H) ∨ (J.go i H ∧ ∃ N : St → Hp → Prop, (∀ σ' H', N σ' H' → ∃ m', m' < m ∧ W (i + 1) m' σ' H') ∧ ∀ x H', J.yld i H x H' → g x σ H' fun σ2 H2 => tb { D with nx := N, ct := N, bk := D.nx } σ2 H2)
noncomputable def pinsAt (fp : List Addr) (h : Heap) : List (Addr × Obj) := fp.filterMap fun b => (h.get? b).map fun o => (b, o)
theorem mem_pinsAt {fp : List Addr} {h : Heap} {b : Addr} {o : Obj} (hb : b ∈ fp) (e : h.get? b = some o) : (b, o) ∈ pinsAt fp h := List.mem_filterMap.mpr ⟨b, hb, by rw [e]; rfl⟩
theorem of_pinsAt {fp : List Addr} {h : Heap} {p : Addr × Obj} (hp : p ∈ pinsAt fp h) : p.1 ∈ fp ∧ h.get? p.1 = some p.2 := by
 obtain ⟨b, hb, e⟩ := List.mem_filterMap.mp hp
 cases q : h.get? b with
 | none => rw [q] at e; cases e
 | some o =>
  rw [q] at e
  have e' : (b, o) = p := Option.some.inj e
  subst e'
  exact ⟨hb, q⟩
theorem Inv.pinned {pins : List (Addr × Obj)} {σ : St} {H : Hp} {s : Shared} {fp : List Addr} (I : Inv X pins σ H s) (hf : ∀ b ∈ fp, FpOk X pins H b) (ho : ∀ b ∈ fp, ∃ o, s.heap.get? b = some o ∧ ∀ v, o.data ≠ .cell v) : Inv X (pins ++ pinsAt fp s.heap) σ H s :=
 I.pins_of fun p hp => (List.mem_append.mp hp).elim (fun z => I.pin p (List.mem_append_right _ z)) fun z => by
  obtain ⟨hb, e⟩ := of_pinsAt z
  obtain ⟨f0, f1, f2, _⟩ := hf p.1 hb
  obtain ⟨o, e', d⟩ := ho p.1 hb
  rw [e] at e'; cases e'
  exact ⟨e, f0, f1, f2, d⟩
theorem Inv.unpinned {pins pl : List (Addr × Obj)} {σ : St} {H : Hp} {s : Shared} (I : Inv X (pins ++ pl) σ H s) : Inv X pins σ H s := I.pins_of fun p hp => I.pin p (List.mem_append_right _ (List.mem_append_left _ hp))
theorem ps_for {iter : Expr} {body : List Stmt} {wi : TI} {g : TG} {tb : TS} {pos : Pos} (hp : PassesOwn (model X.prog X.w) X.A X.env X.xe) (hc : X.calm = true) (hi : PI X tg iter wi) (hg : PG X tg g) (hb : PSs X body tb)
  (hs : ∀ x, foldedSetIterable iter X.env x = pure x := by intro _; rfl) : PS X (.For tg iter body [] pos) (tFor wi g tb) := by
 intro pins s σ H D I h
 refine wpAny_For (thn (hi pins s σ H _ I h) fun v s1 h1 => thn h1 fun itv s2 h2 => ?_) hs
 obtain ⟨it, fp, tn, J, H2, e, I2, T, st2, f2, W, ⟨m0, w0⟩, turn⟩ := h2
 subst e
 have stat : ∀ {H' : Hp}, (∀ b ∈ fp, H' b = none) → ∀ b ∈ fp, FpOk X pins H' b := fun hn b hb => ⟨hn b hb, (f2 b hb).2⟩
 refine codeAny_forLoop_any (fun n s' => ∃ i σ' H', Inv X pins σ' H' s' ∧ tn i s'.heap ∧ (∀ b ∈ fp, H' b = none) ∧ W i n σ' H') ?_ m0 ⟨0, σ, H2, I2, st2, fun b hb => (f2 b hb).1, w0⟩
 rintro n s3 ⟨i, σ3, H3, I3, st3, fr3, w3⟩
 rcases turn i n σ3 H3 w3 with ⟨stop, qn⟩ | ⟨go, N, hN, step⟩
 ·refine wpAny_passesOwn hp (thn (T.done X rfl rfl rfl hc i pins s3 σ3 H3 X.xe I3 (stat fr3) st3 stop) fun r s4 ⟨hr, I4⟩ => ?_)
  subst hr
  exact wpAny_execs_nil ⟨σ3, H3, I4, qn⟩
 ·refine wpAny_passesOwn hp (thn (T.item X rfl rfl rfl hc i pins s3 σ3 H3 X.xe I3 (stat fr3) st3 go) fun r s4 ⟨u, hr, h4⟩ => ?_)
  subst hr
  refine wpAny_passesOwn hp (thn h4 fun _ s5 ⟨x, H5, I5, r5, y5, st5, fr5⟩ => ?_)
  have I5' := I5.pinned (stat fr5) (T.obj _ _ st5)
  refine wpAny_passesOwn hp (thn (hg _ s5 σ3 H5 x u _ I5' r5 (step x H5 y5)) fun _ s6 ⟨σ6, H6, I6, q6⟩ => ?_)
  refine wpAny_passesOwn hp (thn (hb _ s6 σ6 H6 _ I6 q6) fun f s7 q7 => ?_)
  have again : ∀ {σ7 : St} {H7 : Hp}, Inv X (pins ++ pinsAt fp s5.heap) σ7 H7 s7 → N σ7 H7 → ∃ m, m < n ∧ ∃ i σ' H', Inv X pins σ' H' s7 ∧ tn i s7.heap ∧ (∀ b ∈ fp, H' b = none) ∧ W i m σ' H' := fun {σ7 H7} I7 n7 => by
   obtain ⟨m', hm, w7⟩ := hN σ7 H7 n7
   refine ⟨m', hm, i + 1, σ7, H7, I7.unpinned, T.keep _ _ _ st5 fun b hb o e => (I7.pin (b, o) (List.mem_append_right _ (List.mem_append_right _ (mem_pinsAt hb e)))).1, fun b hb => ?_, w7⟩
   obtain ⟨o, e, d⟩ := T.obj _ _ st5 b hb
   exact (I7.pin (b, o) (List.mem_append_right _ (List.mem_append_right _ (mem_pinsAt hb e)))).2.1
  cases f with
  | next => obtain ⟨σ7, H7, I7, n7⟩ := q7; exact again I7 n7
  | cont => obtain ⟨σ7, H7, I7, n7⟩ := q7; exact again I7 n7
  | brk => obtain ⟨σ7, H7, I7, q7⟩ := q7; exact ⟨σ7, H7, I7.unpinned, q7⟩
  | ret v => obtain ⟨x7, σ7, H7, I7, r7, q7⟩ := q7; exact ⟨x7, σ7, H7, I7.unpinned, r7, q7⟩
end
theorem for_list {K : PySem.W.Frag} {a : Addr} {xs : List V} {g : TG} {tb : TS} {D : Ends} {σ : St} {H : Hp} (Pv : Nat → St → Hp → Prop) (h0 : Pv 0 σ H) (hl : ∀ i σ H, i ≤ xs.length → Pv i σ H → SqL K H a xs)
  (hs : ∀ i x σ H, xs[i]? = some x → Pv i σ H → g x σ H fun σ2 H2 => tb { D with nx := Pv (i + 1), ct := Pv (i + 1), bk := D.nx } σ2 H2) (hd : ∀ σ H, Pv xs.length σ H → D.nx σ H) :
  ∃ W : Nat → Nat → St → Hp → Prop, (∃ m, W 0 m σ H) ∧ ∀ i m σ H, W i m σ H →
   ((Itl K a).stop i H ∧ D.nx σ H) ∨ ((Itl K a).go i H ∧ ∃ N : St → Hp → Prop, (∀ σ' H', N σ' H' → ∃ m', m' < m ∧ W (i + 1) m' σ' H') ∧ ∀ x H', (Itl K a).yld i H x H' → g x σ H' fun σ2 H2 => tb { D with nx := N, ct := N, bk := D.nx } σ2 H2) := by
 refine ⟨fun i m σ H => m = xs.length - i ∧ i ≤ xs.length ∧ Pv i σ H, ⟨xs.length, by simp, Nat.zero_le _, h0⟩, ?_⟩
 rintro i m σ H ⟨rfl, hi, p⟩
 have q := hl i σ H hi p
 by_cases hlt : i < xs.length
 ·refine .inr ⟨⟨xs, xs[i], q, by simp [hlt]⟩, Pv (i + 1), fun σ' H' p' => ⟨xs.length - (i + 1), by omega, rfl, hlt, p'⟩, fun x H' y => ?_⟩
  obtain ⟨e, y⟩ := y
  subst e
  exact hs i x σ _ (y xs q) p
 ·have e : i = xs.length := by omega
  subst e
  exact .inl ⟨⟨xs, q, Nat.le_refl _⟩, hd σ H p⟩
theorem for_range {lo : Int} {n : Nat} {g : TG} {tb : TS} {D : Ends} {σ : St} {H : Hp} (Pv : Nat → St → Hp → Prop) (h0 : Pv 0 σ H)
  (hs : ∀ i σ H, i < n → Pv i σ H → g (.int (lo + i)) σ H fun σ2 H2 => tb { D with nx := Pv (i + 1), ct := Pv (i + 1), bk := D.nx } σ2 H2) (hd : ∀ σ H, Pv n σ H → D.nx σ H) :
  ∃ W : Nat → Nat → St → Hp → Prop, (∃ m, W 0 m σ H) ∧ ∀ i m σ H, W i m σ H →
   ((Itr lo n).stop i H ∧ D.nx σ H) ∨ ((Itr lo n).go i H ∧ ∃ N : St → Hp → Prop, (∀ σ' H', N σ' H' → ∃ m', m' < m ∧ W (i + 1) m' σ' H') ∧ ∀ x H', (Itr lo n).yld i H x H' → g x σ H' fun σ2 H2 => tb { D with nx := N, ct := N, bk := D.nx } σ2 H2) := by
 refine ⟨fun i m σ H => m = n - i ∧ i ≤ n ∧ Pv i σ H, ⟨n, by simp, Nat.zero_le _, h0⟩, ?_⟩
 rintro i m σ H ⟨rfl, hi, p⟩
 by_cases hlt : i < n
 ·refine .inr ⟨hlt, Pv (i + 1), fun σ' H' p' => ⟨n - (i + 1), by omega, rfl, hlt, p'⟩, fun x H' y => ?_⟩
  obtain ⟨e, y⟩ := y
  subst e y
  exact hs i σ _ hlt p
 ·have e : i = n := by omega
  subst e
  exact .inl ⟨Nat.le_refl _, hd σ H p⟩
end L2
namespace L2
open PySem PySem.Spec PyProof.Rows
noncomputable abbrev R2 := V → V → Hp → VK → Prop
noncomputable def OpR (X : Cx) (f : Value → Value → Sem Value) (r : R2) : Prop :=
 ∀ (pins : List (Addr × Obj)) (s : Shared) (σ : St) (H : Hp) (x y : V) (v u : Value) (Q : VK), Inv X pins σ H s → RelV x v → RelV y u → r x y H Q →
  wpAny (model X.prog X.w) X.A (f v u) (EP X pins σ Q) X.xe s
noncomputable def UnR (X : Cx) (f : Value → Sem Value) (r : V → Hp → VK → Prop) : Prop :=
 ∀ (pins : List (Addr × Obj)) (s : Shared) (σ : St) (H : Hp) (x : V) (v : Value) (Q : VK), Inv X pins σ H s → RelV x v → r x H Q →
  wpAny (model X.prog X.w) X.A (f v) (EP X pins σ Q) X.xe s
noncomputable def CallR (X : Cx) (f : Value) (r : List V → Hp → VK → Prop) : Prop :=
 ∀ (pins : List (Addr × Obj)) (s : Shared) (σ : St) (H : Hp) (xs : List V) (us : List Value) (Q : VK), Inv X pins σ H s → Vals xs us → r xs H Q →
  wpAny (model X.prog X.w) X.A (call f us) (EP X pins σ Q) X.xe s
noncomputable def TruR (X : Cx) (r : V → Hp → (Bool → Hp → Prop) → Prop) : Prop :=
 ∀ (pins : List (Addr × Obj)) (s : Shared) (σ : St) (H : Hp) (x : V) (v : Value) (Q : Bool → Hp → Prop), Inv X pins σ H s → RelV x v → r x H Q →
  wpAny (model X.prog X.w) X.A (truthy v) (TP X pins σ Q) X.xe s
noncomputable def tOp (r : R2) (ta tb : TE) : TE := fun σ H Q => ta σ H fun x H1 => tb σ H1 fun y H2 => r x y H2 Q
noncomputable def tUn (r : V → Hp → VK → Prop) (ta : TE) : TE := fun σ H Q => ta σ H fun x H1 => r x H1 Q
noncomputable def rI (C : Int → Int → Prop) (g : Int → Int → V) : R2 := fun x y H Q => ∃ i j, x = .int i ∧ y = .int j ∧ C i j ∧ Q (g i j) H
noncomputable def rI0 (g : Int → Int → V) : R2 := fun x y H Q => ∃ i j, x = .int i ∧ y = .int j ∧ Q (g i j) H
noncomputable def rU (g : Int → V) : V → Hp → VK → Prop := fun x H Q => ∃ i, x = .int i ∧ Q (g i) H
section
variable {X : Cx} {a b c : Expr} {ta tb tc : TE} {pos : Pos}
theorem binT (ha : PE X a ta) (hb : PE X b tb) {pins : List (Addr × Obj)} {s : Shared} {σ : St} {H : Hp} {R : V → V → Hp → Prop} (I : Inv X pins σ H s)
  (h : ta σ H fun x H1 => tb σ H1 fun y H2 => R x y H2) {Q : Value → Shared → Prop} {f : Value → Value → Sem Value}
  (hf : ∀ v u s2 x y H2, Inv X pins σ H2 s2 → RelV x v → RelV y u → R x y H2 → wpAny (model X.prog X.w) X.A (f v u) Q X.xe s2) :
  wpAny (model X.prog X.w) X.A (eval a X.env) (fun v s₁ => wpAny (model X.prog X.w) X.A (eval b X.env) (fun u s₂ => wpAny (model X.prog X.w) X.A (f v u) Q X.xe s₂) X.xe s₁) X.xe s := by
 refine thn (ha pins s σ H _ I h) fun v s1 ⟨x, H1, I1, r1, q1⟩ => ?_
 refine thn (hb pins s1 σ H1 _ I1 q1) fun u s2 ⟨y, H2, I2, r2, q2⟩ => ?_
 exact hf v u s2 x y H2 I2 r1 r2 q2
theorem pe_op {op : Operator} {r : R2} (ho : OpR X (binaryOp op) r) (ha : PE X a ta) (hb : PE X b tb) : PE X (.BinOp a op b pos) (tOp r ta tb) := by
 intro pins s σ H Q I h
 exact wpAny_BinOp (binT ha hb I h fun v u s2 x y H2 I2 rx ry q => ho pins s2 σ H2 x y v u Q I2 rx ry q)
theorem pe_un {op : UnaryOp} {r : V → Hp → VK → Prop} (ho : UnR X (unaryOp op) r) (ha : PE X a ta) : PE X (.UnaryOp op a pos) (tUn r ta) := by
 intro pins s σ H Q I h
 exact UnaryOp_ (thn (ha pins s σ H _ I h) fun v s1 ⟨x, H1, I1, r1, q1⟩ => ho pins s1 σ H1 x v Q I1 r1 q1)
theorem opI {f : Value → Value → Sem Value} {C : Int → Int → Prop} {g : Int → Int → Int}
  (rule : ∀ (i j : Int) (t u : Tok) (s : Shared) (Q : Value → Shared → Prop) (E : Value → Shared → Prop), C i j → Q (.int (g i j) s.toks) { s with toks := s.toks + 1 } → wpAny (model X.prog X.w) X.A (f (.int i t) (.int j u)) Q E s) :
  OpR X f (rI C fun i j => .int (g i j)) := by
 intro pins s σ H x y v u Q I rx ry h
 obtain ⟨i, j, rfl, rfl, hc, q⟩ := h
 obtain ⟨t, rfl⟩ := rx
 obtain ⟨t', rfl⟩ := ry
 exact rule i j t t' s _ _ hc ⟨.int (g i j), H, I.tok _, ⟨_, rfl⟩, q⟩
theorem opI0 {f : Value → Value → Sem Value} {g : Int → Int → Int}
  (rule : ∀ (i j : Int) (t u : Tok) (s : Shared) (Q : Value → Shared → Prop) (E : Value → Shared → Prop), Q (.int (g i j) s.toks) { s with toks := s.toks + 1 } → wpAny (model X.prog X.w) X.A (f (.int i t) (.int j u)) Q E s) :
  OpR X f (rI0 fun i j => .int (g i j)) := by
 intro pins s σ H x y v u Q I rx ry h
 obtain ⟨i, j, rfl, rfl, q⟩ := h
 obtain ⟨t, rfl⟩ := rx
 obtain ⟨t', rfl⟩ := ry
 exact rule i j t t' s _ _ ⟨.int (g i j), H, I.tok _, ⟨_, rfl⟩, q⟩
theorem opB0 {f : Value → Value → Sem Value} {g : Int → Int → Bool}
  (rule : ∀ (i j : Int) (t u : Tok) (s : Shared) (Q : Value → Shared → Prop) (E : Value → Shared → Prop), Q (.bool (g i j)) s → wpAny (model X.prog X.w) X.A (f (.int i t) (.int j u)) Q E s) :
  OpR X f (rI0 fun i j => .bl (g i j)) := by
 intro pins s σ H x y v u Q I rx ry h
 obtain ⟨i, j, rfl, rfl, q⟩ := h
 obtain ⟨t, rfl⟩ := rx
 obtain ⟨t', rfl⟩ := ry
 exact rule i j t t' s _ _ ⟨.bl (g i j), H, I, rfl, q⟩
noncomputable def CDiv (i j : Int) : Prop := 0 < j ∧ j < 1073741824
noncomputable def CPow (i j : Int) : Prop := 0 ≤ j ∧ j ≤ 1000000 ∧ i.natAbs < 2 ^ 64
noncomputable def CMul (i j : Int) : Prop := (-(2 ^ 64) < i ∧ i < 2 ^ 64) ∨ (-(2 ^ 64) < j ∧ j < 2 ^ 64)
theorem CMul.ok {i j : Int} (h : CMul i j) : IntMulOk i j := by
 rcases h with ⟨h1, h2⟩ | ⟨h1, h2⟩
 ·exact .of_left (intBits_le_64 h1 h2)
 ·exact .of_right (intBits_le_64 h1 h2)
theorem op_add : OpR X (binaryOp .Add) (rI0 fun i j => .int (i + j)) := opI0 fun _ _ _ _ _ _ _ q => add_int q
theorem op_sub : OpR X (binaryOp .Sub) (rI0 fun i j => .int (i - j)) := opI0 fun _ _ _ _ _ _ _ q => sub_int q
theorem op_mul : OpR X (binaryOp .Mult) (rI CMul fun i j => .int (i * j)) := opI fun _ _ _ _ _ _ _ hc q => mul_int q hc.ok
theorem op_fdiv : OpR X (binaryOp .FloorDiv) (rI CDiv fun i j => .int (i / j)) := opI fun i j _ _ _ _ _ hc q => by
 have h1 : (0 : Int) < j := hc.1
 have h2 : j < 1073741824 := hc.2
 exact floordiv_int (by omega) (by rw [Int.fdiv_eq_ediv_of_nonneg i (by omega)]; exact q) (.inl (PyProof.noPylong_small (by omega)))
theorem op_mod : OpR X (binaryOp .Mod) (rI (fun _ j => 0 < j) fun i j => .int (i % j)) := opI fun i j _ _ _ _ _ hc q => by
 have h1 : (0 : Int) < j := hc
 exact mod_int' (by omega) (by rw [Int.fmod_eq_emod_of_nonneg i (by omega)]; exact q)
theorem op_pow : OpR X (binaryOp .Pow) (rI CPow fun i j => .int (i ^ j.toNat)) := opI fun _ _ _ _ _ _ _ hc q => pow_int_small hc.1 hc.2.1 hc.2.2 q
theorem unI {f : Value → Sem Value} {g : Int → Int}
  (rule : ∀ (i : Int) (t : Tok) (s : Shared) (Q : Value → Shared → Prop) (E : Value → Shared → Prop), Q (.int (g i) s.toks) { s with toks := s.toks + 1 } → wpAny (model X.prog X.w) X.A (f (.int i t)) Q E s) :
  UnR X f (rU fun i => .int (g i)) := by
 intro pins s σ H x v Q I rx h
 obtain ⟨i, rfl, q⟩ := h
 obtain ⟨t, rfl⟩ := rx
 exact rule i t s _ _ ⟨.int (g i), H, I.tok _, ⟨_, rfl⟩, q⟩
theorem un_neg : UnR X (unaryOp .USub) (rU fun i => .int (-i)) := unI fun _ _ _ _ _ q => neg_int q
end
noncomputable def scal : V → V → Bool
 | .non, .non => true | .non, .int _ => true | .int _, .non => true | .non, .bl _ => true | .bl _, .non => true | .non, .str _ => true | .str _, .non => true
 | .int _, .int _ => true | .bl _, .bl _ => true | .str _, .str _ => true | .byt _, .byt _ => true
 | .int _, .str _ => true | .str _, .int _ => true | .bl _, .str _ => true | .str _, .bl _ => true
 | _, _ => false
noncomputable def rEq : R2 := fun x y H Q => scal x y = true ∧ Q (.bl (decide (x = y))) H
noncomputable def rNe : R2 := fun x y H Q => scal x y = true ∧ Q (.bl (!decide (x = y))) H
theorem dec_int {i j : Int} : decide (V.int i = V.int j) = (i == j) := by
 rw [Bool.eq_iff_iff]
 simp
theorem dec_bl {i j : Bool} : decide (V.bl i = V.bl j) = (i == j) := by
 rw [Bool.eq_iff_iff]
 simp
theorem dec_str {i j : Str} : decide (V.str i = V.str j) = (i == j) := by
 rw [Bool.eq_iff_iff]
 simp
theorem dec_byt {i j : Array UInt8} : decide (V.byt i = V.byt j) = (i.toList == j.toList) := by
 rw [Bool.eq_iff_iff]
 cases i
 cases j
 simp
section
variable {X : Cx} {a b c : Expr} {ta tb tc : TE} {pos : Pos}
theorem fin_bl {pins : List (Addr × Obj)} {σ : St} {H : Hp} {s : Shared} {Q : VK} {k k' : Bool} (I : Inv X pins σ H s) (q : Q (.bl k) H) (e : k = k') : EP X pins σ Q (.bool k') s := by
 subst e
 exact ⟨.bl k, H, I, rfl, q⟩
theorem op_eq : OpR X (compareOp .Eq) rEq := by
 intro pins s σ H x y v u Q I rx ry h
 obtain ⟨hs, q⟩ := h
 cases x with
 | non =>
  cases rx
  cases y with
  | non => cases ry; exact PySem.EqNone.eq_none_none (fin_bl I q (by simp))
  | bl j => cases ry; exact PySem.EqNone.eq_none_bool (fin_bl I q (by simp))
  | int j => obtain ⟨t', rfl⟩ := ry; exact PySem.EqNone.eq_none_int (fin_bl I q (by simp))
  | str j => obtain ⟨t', rfl⟩ := ry; exact PySem.EqNone.eq_none_str (fin_bl I q (by simp))
  | _ => exact absurd (show false = true from hs) Bool.false_ne_true
 | bl i =>
  cases rx
  cases y with
  | non => cases ry; exact PySem.EqNone.eq_bool_none (fin_bl I q (by simp))
  | bl j => cases ry; exact eq_bool (fin_bl I q dec_bl)
  | str j => obtain ⟨t', rfl⟩ := ry; exact PySem.EqMixed.eq_bool_str (fin_bl I q (by simp))
  | _ => exact absurd (show false = true from hs) Bool.false_ne_true
 | int i =>
  obtain ⟨t, rfl⟩ := rx
  cases y with
  | non => cases ry; exact PySem.EqNone.eq_int_none (fin_bl I q (by simp))
  | int j => obtain ⟨t', rfl⟩ := ry; exact eq_int (fin_bl I q dec_int)
  | str j => obtain ⟨t', rfl⟩ := ry; exact PySem.EqMixed.eq_int_str (fin_bl I q (by simp))
  | _ => exact absurd (show false = true from hs) Bool.false_ne_true
 | str i =>
  obtain ⟨t, rfl⟩ := rx
  cases y with
  | non => cases ry; exact PySem.EqNone.eq_str_none (fin_bl I q (by simp))
  | bl j => cases ry; exact PySem.EqMixed.eq_str_bool (fin_bl I q (by simp))
  | int j => obtain ⟨t', rfl⟩ := ry; exact PySem.EqMixed.eq_str_int (fin_bl I q (by simp))
  | str j => obtain ⟨t', rfl⟩ := ry; exact eq_str (fin_bl I q dec_str)
  | _ => exact absurd (show false = true from hs) Bool.false_ne_true
 | byt i =>
  obtain ⟨t, rfl⟩ := rx
  cases y with
  | byt j => obtain ⟨t', rfl⟩ := ry; exact PySem.W.eq_bytes (fin_bl I q dec_byt)
  | _ => exact absurd (show false = true from hs) Bool.false_ne_true
 | _ => cases y <;> exact absurd (show false = true from hs) Bool.false_ne_true
theorem op_ne : OpR X (compareOp .NotEq) rNe := by
 intro pins s σ H x y v u Q I rx ry h
 obtain ⟨hs, q⟩ := h
 cases x with
 | non =>
  cases rx
  cases y with
  | non => cases ry; exact PySem.EqNone.ne_none_none (fin_bl I q (by simp))
  | bl j => cases ry; exact PySem.EqNone.ne_none_bool (fin_bl I q (by simp))
  | int j => obtain ⟨t', rfl⟩ := ry; exact PySem.EqNone.ne_none_int (fin_bl I q (by simp))
  | str j => obtain ⟨t', rfl⟩ := ry; exact PySem.EqNone.ne_none_str (fin_bl I q (by simp))
  | _ => exact absurd (show false = true from hs) Bool.false_ne_true
 | bl i =>
  cases rx
  cases y with
  | non => cases ry; exact PySem.EqNone.ne_bool_none (fin_bl I q (by simp))
  | bl j => cases ry; exact ne_bool (fin_bl I q (congrArg not dec_bl))
  | str j => obtain ⟨t', rfl⟩ := ry; exact PySem.EqMixed.ne_bool_str (fin_bl I q (by simp))
  | _ => exact absurd (show false = true from hs) Bool.false_ne_true
 | int i =>
  obtain ⟨t, rfl⟩ := rx
  cases y with
  | non => cases ry; exact PySem.EqNone.ne_int_none (fin_bl I q (by simp))
  | int j => obtain ⟨t', rfl⟩ := ry; exact ne_int (fin_bl I q (congrArg not dec_int))
  | str j => obtain ⟨t', rfl⟩ := ry; exact PySem.EqMixed.ne_int_str (fin_bl I q (by simp))
  | _ => exact absurd (show false = true from hs) Bool.false_ne_true
 | str i =>
  obtain ⟨t, rfl⟩ := rx
  cases y with
  | non => cases ry; exact PySem.EqNone.ne_str_none (fin_bl I q (by simp))
  | bl j => cases ry; exact PySem.EqMixed.ne_str_bool (fin_bl I q (by simp))
  | int j => obtain ⟨t', rfl⟩ := ry; exact PySem.EqMixed.ne_str_int (fin_bl I q (by simp))
  | str j => obtain ⟨t', rfl⟩ := ry; exact ne_str (fin_bl I q (congrArg not dec_str))
  | _ => exact absurd (show false = true from hs) Bool.false_ne_true
 | byt i =>
  obtain ⟨t, rfl⟩ := rx
  cases y with
  | byt j => obtain ⟨t', rfl⟩ := ry; exact PySem.W.ne_bytes (fin_bl I q (congrArg not dec_byt))
  | _ => exact absurd (show false = true from hs) Bool.false_ne_true
 | _ => cases y <;> exact absurd (show false = true from hs) Bool.false_ne_true
theorem op_lt : OpR X (compareOp .Lt) (rI0 fun i j => .bl (decide (i < j))) := opB0 fun _ _ _ _ _ _ _ q => lt_int q
theorem op_le : OpR X (compareOp .LtE) (rI0 fun i j => .bl (decide (i ≤ j))) := opB0 fun _ _ _ _ _ _ _ q => le_int q
theorem op_gt : OpR X (compareOp .Gt) (rI0 fun i j => .bl (decide (j < i))) := opB0 fun _ _ _ _ _ _ _ q => gt_int q
theorem op_lt_str : OpR X (compareOp .Lt) (fun x y H Q => ∃ i j, x = .str i ∧ y = .str j ∧ Q (.bl (decide (i.cps.toList < j.cps.toList))) H) := by
 intro pins s σ H x y v u Q I rx ry h
 obtain ⟨i, j, rfl, rfl, q⟩ := h
 obtain ⟨t, rfl⟩ := rx
 obtain ⟨t', rfl⟩ := ry
 exact lt_str (fin_bl I q rfl)
theorem op_in_str : OpR X (compareOp .In) (fun x y H Q => ∃ i j, x = .str i ∧ y = .str j ∧ Q (.bl (!(Builtin.Str.occurrences j i 0 j.length 1).isEmpty)) H) := by
 intro pins s σ H x y v u Q I rx ry h
 obtain ⟨i, j, rfl, rfl, q⟩ := h
 obtain ⟨t, rfl⟩ := rx
 obtain ⟨t', rfl⟩ := ry
 exact in_str (fin_bl I q rfl)
theorem op_notin_str : OpR X (compareOp .NotIn) (fun x y H Q => ∃ i j, x = .str i ∧ y = .str j ∧ Q (.bl (!(!(Builtin.Str.occurrences j i 0 j.length 1).isEmpty))) H) := by
 intro pins s σ H x y v u Q I rx ry h
 obtain ⟨i, j, rfl, rfl, q⟩ := h
 obtain ⟨t, rfl⟩ := rx
 obtain ⟨t', rfl⟩ := ry
 exact notIn_str (fin_bl I q rfl)
theorem OpR.or {f : Value → Value → Sem Value} {r r' : R2} (h : OpR X f r) (h' : OpR X f r') : OpR X f (fun x y H Q => r x y H Q ∨ r' x y H Q) := by
 intro pins s σ H x y v u Q I rx ry q
 rcases q with q | q
 ·exact h pins s σ H x y v u Q I rx ry q
 ·exact h' pins s σ H x y v u Q I rx ry q
theorem nomark (b : Expr) {op : CmpOp} (h : op ≠ .In := by decide) (h2 : op ≠ .NotIn := by decide) : behindInMarks op b = false := by
 have e1 : (op == CmpOp.In) = false := by cases op <;> first | rfl | exact absurd rfl h
 have e2 : (op == CmpOp.NotIn) = false := by cases op <;> first | rfl | exact absurd rfl h2
 cases b <;> simp [behindInMarks, e1, e2]
theorem pe_cmpR {op : CmpOp} {r : R2} (ho : OpR X (compareOp op) r) (ha : PE X a ta) (hb : PE X b tb) (hm : behindInMarks op b = false) : PE X (.Compare a [op] [b] pos) (tOp r ta tb) := by
 intro pins s σ H Q I h
 exact wpAny_Compare1 (binT ha hb I h fun v u s2 x y H2 I2 rx ry q => ho pins s2 σ H2 x y v u Q I2 rx ry q) hm
noncomputable def tTest (t : TE) : TT := fun σ H Q => t σ H fun x H' => ∃ k, x = .bl k ∧ Q k H'
theorem pt_cmpR {op : CmpOp} {r : R2} (ho : OpR X (compareOp op) r) (ha : PE X a ta) (hb : PE X b tb) (hm : behindInMarks op b = false) : PT X (.Compare a [op] [b] pos) (tTest (tOp r ta tb)) := by
 intro pins s σ H Q I h
 refine wpAny_isTrue_Compare1 (thn (ha pins s σ H _ I h) fun v s1 ⟨x, H1, I1, r1, q1⟩ => thn (hb pins s1 σ H1 _ I1 q1) fun u s2 ⟨y, H2, I2, r2, q2⟩ =>
  thn (ho pins s2 σ H2 x y v u _ I2 r1 r2 q2) fun c s3 ⟨z, H3, I3, r3, k, e, q3⟩ => ?_) hm
 subst e
 cases r3
 exact wpAny_truthy_bool ⟨H3, I3, q3⟩
noncomputable def tChain (r r' : R2) (ta tb tc : TE) : TE := fun σ H Q => ta σ H fun x H1 => tb σ H1 fun y H2 => r x y H2 fun z H3 => ∃ k, z = .bl k ∧
 (if k = true then tc σ H3 fun w' H4 => r' y w' H4 Q else Q (.bl false) H3)
theorem pe_chain {op op' : CmpOp} {r r' : R2} (ho : OpR X (compareOp op) r) (ho' : OpR X (compareOp op') r') (ha : PE X a ta) (hb : PE X b tb) (hc : PE X c tc)
  (hm : lastMarks [op, op'] [b, c] = false := by with_unfolding_all rfl) : PE X (.Compare a [op, op'] [b, c] pos) (tChain r r' ta tb tc) := by
 intro pins s σ H Q I h
 refine Compare_chain (thn (ha pins s σ H _ I h) fun v s1 ⟨x, H1, I1, r1, q1⟩ => chain_link (thn (hb pins s1 σ H1 _ I1 q1) fun u s2 ⟨y, H2, I2, r2, q2⟩ =>
  thn (ho pins s2 σ H2 x y v u _ I2 r1 r2 q2) fun d s3 ⟨z, H3, I3, r3, k, e, q3⟩ => ?_)) hm
 subst e
 cases r3
 refine wpAny_truthy_bool ?_
 cases k with
 | false => exact ite_ff ⟨.bl false, H3, I3, rfl, q3⟩
 | true => exact ite_tt (chain_last (thn (hc pins s3 σ H3 _ I3 q3) fun w' s4 ⟨z', H4, I4, r4, q4⟩ => ho' pins s4 σ H4 y z' u w' Q I4 r2 r4 q4))
theorem pt_chain {op op' : CmpOp} {r r' : R2} (ho : OpR X (compareOp op) r) (ho' : OpR X (compareOp op') r') (ha : PE X a ta) (hb : PE X b tb) (hc : PE X c tc)
  (hm : lastMarks [op, op'] [b, c] = false := by with_unfolding_all rfl) : PT X (.Compare a [op, op'] [b, c] pos) (tTest (tChain r r' ta tb tc)) := by
 intro pins s σ H Q I h
 refine isTrue_chain (thn (ha pins s σ H _ I h) fun v s1 ⟨x, H1, I1, r1, q1⟩ => test_link (thn (hb pins s1 σ H1 _ I1 q1) fun u s2 ⟨y, H2, I2, r2, q2⟩ =>
  thn (ho pins s2 σ H2 x y v u _ I2 r1 r2 q2) fun d s3 ⟨z, H3, I3, r3, k, e, q3⟩ => ?_)) hm
 subst e
 cases r3
 refine wpAny_truthy_bool ?_
 cases k with
 | false =>
  obtain ⟨k', e', q'⟩ := q3
  cases e'
  exact ite_ff ⟨H3, I3, q'⟩
 | true =>
  refine ite_tt (test_last (thn (hc pins s3 σ H3 _ I3 q3) fun w' s4 ⟨z', H4, I4, r4, q4⟩ => thn (ho' pins s4 σ H4 y z' u w' _ I4 r2 r4 q4) fun d' s5 ⟨z2, H5, I5, r5, k2, e2, q5⟩ => ?_))
  subst e2
  cases r5
  exact wpAny_truthy_bool ⟨H5, I5, q5⟩
noncomputable def TruV (K : PySem.W.Frag) (x : V) (H : Hp) (k : Bool) : Prop :=
 match x with
 | .non => k = false
 | .bl b => k = b
 | .int i => k = (i != 0)
 | .str y => y.length ≤ sizeLine ∧ k = ((y.length : Int) != 0)
 | .byt y => y.size ≤ sizeLine ∧ k = ((y.size : Int) != 0)
 | .ref p => (∃ xs, SqL K H p xs ∧ k = !xs.isEmpty) ∨ (∃ xs, SqT K H p xs ∧ k = !xs.isEmpty) ∨ ∃ kvs, H p = some (.dK kvs) ∧ k = !kvs.isEmpty
 | _ => False
theorem isEmpty_kv {κ : Type} {kvs : List (κ × V)} {vs : List (κ × Value)} (r : KV kvs vs) : (!vs.isEmpty) = !kvs.isEmpty := by
 cases r <;> rfl
theorem isEmpty_of {xs : List V} {its : List Value} (r : Vals xs its) : (!its.toArray.isEmpty) = !xs.isEmpty := by
 cases r <;> simp
theorem line63 : (sizeLine : Nat) < 2 ^ 63 := by rw [sizeLine_eq]; decide
theorem tru_ok : TruR X (fun x H Q => ∃ k, TruV X.K x H k ∧ Q k H) := by
 intro pins s σ H x v Q I rx h
 obtain ⟨k, e, q⟩ := h
 have hl := line63
 have hs : sizeLine = 16777216 := sizeLine_eq
 cases x with
 | non =>
  cases rx
  have e' : k = false := e
  subst e'
  exact truthy_none ⟨H, I, q⟩
 | bl b =>
  cases rx
  have e' : k = b := e
  subst e'
  exact wpAny_truthy_bool ⟨H, I, q⟩
 | int i =>
  obtain ⟨t, rfl⟩ := rx
  have e' : k = (i != 0) := e
  subst e'
  exact PySem.P.truthy_int ⟨H, I, q⟩
 | str y =>
  obtain ⟨t, rfl⟩ := rx
  obtain ⟨hy, e'⟩ : y.length ≤ sizeLine ∧ k = ((y.length : Int) != 0) := e
  subst e'
  exact PySem.P.truthy_str (by omega) ⟨H, I.tok _, q⟩
 | byt y =>
  obtain ⟨t, rfl⟩ := rx
  obtain ⟨hy, e'⟩ : y.size ≤ sizeLine ∧ k = ((y.size : Int) != 0) := e
  subst e'
  exact PySem.W.truthy_bytes (by omega) ⟨H, I.tok _, q⟩
 | ref p =>
  cases rx
  have e' : (∃ xs, SqL X.K H p xs ∧ k = !xs.isEmpty) ∨ (∃ xs, SqT X.K H p xs ∧ k = !xs.isEmpty) ∨ ∃ kvs, H p = some (.dK kvs) ∧ k = !kvs.isEmpty := e
  rcases e' with ⟨xs, hx, e'⟩ | ⟨xs, hx, e'⟩ | ⟨kvs, hx, e'⟩
  ·subst e'
   obtain ⟨its, r, pl, hz⟩ := I.list hx
   have hlen := r.length
   exact wpAny_truthy_list pl.isList (by simp only [List.size_toArray]; omega) ⟨H, I.tok _, by rw [isEmpty_of r]; exact q⟩
  ·subst e'
   obtain ⟨its, r, pl, hz⟩ := I.tuple hx
   have hlen := r.length
   exact truthy_tuple pl (by simp only [List.size_toArray]; omega) ⟨H, I.tok _, by rw [isEmpty_of r]; exact q⟩
  ·subst e'
   obtain ⟨hz, hS, vs, r, m⟩ : kvs.length ≤ sizeLine ∧ (p == sysModules) = false ∧ ∃ vs, KV kvs vs ∧ s.heap.DictOf (mixKind X.prog X.w) p vs := I.hok p _ hx
   have hlen : kvs.length = vs.length := Paired.length r
   exact wpAny_truthy_dict hS m (by omega) ⟨H, I.tok _, by rw [isEmpty_kv r]; exact q⟩
 | _ => exact (show False from e).elim
theorem pt_truth (ha : PE X a ta) (he : ∀ whole, isTrue a X.env whole = (do let v ← whole; standAt a.pos; holding [v] (truthy v))) :
  PT X a (fun σ H Q => ta σ H fun x H' => ∃ k, TruV X.K x H' k ∧ Q k H') := by
 intro pins s σ H Q I h
 exact isTrue_plain (thn (ha pins s σ H _ I h) fun v s1 ⟨x, H1, I1, r1, q1⟩ => tru_ok pins s1 σ H1 x v Q I1 r1 q1) (he _)
theorem op_add_str : OpR X (binaryOp .Add) (fun x y H Q => ∃ i j, x = .str i ∧ y = .str j ∧ i.length + j.length ≤ sizeLine ∧ Q (.str (i ++ j)) H) := by
 intro pins s σ H x y v u Q I rx ry h
 obtain ⟨i, j, rfl, rfl, hz, q⟩ := h
 obtain ⟨t, rfl⟩ := rx
 obtain ⟨t', rfl⟩ := ry
 exact add_str (fun t' tk => ⟨.str (i ++ j), H, I.tok _, ⟨_, rfl⟩, q⟩) hz
theorem vals1 {x : V} {us : List Value} (r : Vals [x] us) : ∃ u, us = [u] ∧ RelV x u := by
 cases r with
 | cons r1 r2 => cases r2; exact ⟨_, rfl, r1⟩
theorem call_int1 : CallR X (.type "int") (fun xs H Q => (∃ i, xs = [.int i] ∧ Q (.int i) H) ∨ ∃ k, xs = [.bl k] ∧ Q (.int (if k then 1 else 0)) H) := by
 intro pins s σ H xs us Q I r h
 rcases h with ⟨i, rfl, q⟩ | ⟨k, rfl, q⟩
 ·obtain ⟨u, rfl, t, rfl⟩ := vals1 r
  exact call_int_int ⟨.int i, H, I, ⟨_, rfl⟩, q⟩
 ·obtain ⟨u, rfl, r1⟩ := vals1 r
  cases r1
  exact call_int_bool ⟨.int (if k then 1 else 0), H, I.tok _, ⟨_, rfl⟩, q⟩
noncomputable def LenV (K : PySem.W.Frag) (x : V) (H : Hp) (n : Nat) : Prop :=
 match x with
 | .str y => y.length ≤ sizeLine ∧ n = y.length
 | .byt y => y.size ≤ sizeLine ∧ n = y.size
 | .ref p => (∃ xs, SqL K H p xs ∧ n = xs.length) ∨ ∃ xs, SqT K H p xs ∧ n = xs.length
 | _ => False
theorem call_len : CallR X (.builtin "len") (fun xs H Q => ∃ x n, xs = [x] ∧ LenV X.K x H n ∧ Q (.int n) H) := by
 intro pins s σ H xs us Q I r h
 obtain ⟨x, n, rfl, e, q⟩ := h
 obtain ⟨u, rfl, rx⟩ := vals1 r
 have hl := line63
 have hs : sizeLine = 16777216 := sizeLine_eq
 cases x with
 | str y =>
  obtain ⟨t, rfl⟩ := rx
  obtain ⟨hy, e'⟩ : y.length ≤ sizeLine ∧ n = y.length := e
  subst e'
  exact len_str (by omega) ⟨.int _, H, I.tok _, ⟨_, rfl⟩, q⟩
 | byt y =>
  obtain ⟨t, rfl⟩ := rx
  obtain ⟨hy, e'⟩ : y.size ≤ sizeLine ∧ n = y.size := e
  subst e'
  exact PySem.W.len_bytes (by omega) ⟨.int _, H, I.tok _, ⟨_, rfl⟩, q⟩
 | ref p =>
  cases rx
  have e' : (∃ xs, SqL X.K H p xs ∧ n = xs.length) ∨ ∃ xs, SqT X.K H p xs ∧ n = xs.length := e
  rcases e' with ⟨xs, hx, e'⟩ | ⟨xs, hx, e'⟩
  ·subst e'
   obtain ⟨its, r', pl, hz⟩ := I.list hx
   have hlen := r'.length
   exact Calls.call_len_list pl.isList (by simp only [List.size_toArray]; omega) ⟨.int xs.length, H, I.tok _, ⟨_, by simp only [List.size_toArray]; rw [hlen]⟩, q⟩
  ·subst e'
   obtain ⟨its, r', pl, hz⟩ := I.tuple hx
   have hlen := r'.length
   exact len_tuple pl (by simp only [List.size_toArray]; omega) ⟨.int xs.length, H, I.tok _, ⟨_, by simp only [List.size_toArray]; rw [hlen]⟩, q⟩
 | _ => exact (show False from e).elim
end
end L2
namespace L2
open PySem PySem.Spec PyProof.Rows
structure ObjM (h : Heap) (x dx C : Addr) (mA : Str → Option Value) : Prop where
 obj : h.get? x = some (PySem.W.instObj C dx)
 ns : h.Ns1 dx mA
 ne : dx ≠ x
theorem lookIn_ns {h : Heap} {dx : Addr} {mA : Str → Option Value} (n : h.Ns1 dx mA) : ∃ od, h.get? dx = some od ∧ ∀ name, PySem.W.lookIn name od = some (mA name) := by
 obtain ⟨o, es, ep, ho, hd, hk, _, hm⟩ := n
 refine ⟨o, ho, fun name => ?_⟩
 have e := hm name
 unfold nsFind findBy at e
 rw [← Array.find?_toList] at e
 unfold PySem.W.lookIn
 rw [hd]
 dsimp only
 split
 ·rename_i y q
  rw [q] at e
  exact congrArg some e
 ·rename_i q
  rw [q] at e
  have a : es.toList.any (·.refKey) = false := by
   rw [List.any_eq_false]
   intro y hy
   obtain ⟨z, t, hkey⟩ := hk y (Array.mem_toList_iff.mp hy)
   simp [DictEntry.refKey, hkey]
  have a' : ¬ es.toList.any (·.refKey) = true := by rw [a]; exact Bool.false_ne_true
  rw [if_neg a']
  exact congrArg some e
theorem ObjM.look {h : Heap} {x dx C : Addr} {mA : Str → Option Value} (I : ObjM h x dx C mA) : ∃ od, PySem.W.InstAt h x (PySem.W.instObj C dx) C (some od) ∧ ∀ name, PySem.W.lookIn name od = some (mA name) :=
 let ⟨od, ho, hl⟩ := lookIn_ns I.ns
 ⟨od, ⟨I.obj, rfl, rfl, ho⟩, hl⟩
section
variable {prog : Program} {w : World} {A : Around} {E : Value → Shared → Prop} {s : Shared} {K : PySem.W.Frag} {x dx C f : Addr} {mA : Str → Option Value} {name : Str} {v : Value}
theorem get_map {expr : Bool} {Q : Value → Shared → Prop} (X : K.In s.heap) (I : ObjM s.heap x dx C mA) (hg : PySem.W.plainGet K C name = true) (hh : PySem.W.hasDictIn K C = true)
  (ha : PySem.W.findIn K (.ref C) name = some none) (hv : mA name = some v) (hv' : PySem.W.handedIn v = true) (h : Q v { s with toks := s.toks + 1 }) :
  wpAny (model prog w) A (getAttr (.ref x) name expr) Q E s := by
 obtain ⟨od, J, hl⟩ := I.look
 exact PySem.W.get_value X J (PySem.W.plainGet_of hg).1 (PySem.W.findObj_own hh ha rfl (by rw [hl, hv])) hv' h
theorem get_meth {pl : Sem Bool} {Q : Value × List Value → Shared → Prop} (X : K.In s.heap) (I : ObjM s.heap x dx C mA) (hg : PySem.W.plainGet K C name = true)
  (hf : PySem.W.findIn K (.ref C) name = some (some (.ref f))) (ht : PySem.W.isFn K (.ref f) = true) (hv : mA name = none) (h : Q (.ref f, [.ref x]) s) :
  wpAny (model prog w) A (getMethod (.ref x) name pl) Q E s := by
 obtain ⟨od, J, hl⟩ := I.look
 exact PySem.W.method_fn X J (PySem.W.plainGet_of hg).1 (PySem.W.plainGet_of hg).2 hf (beq_iff_eq.mp ht) (by show (PySem.W.lookIn name od).map (·.isSome) = some false; rw [hl, hv]; rfl) h
theorem set_map {ns : List Str} {Q : Unit → Shared → Prop} (X : K.In s.heap) (I : ObjM s.heap x dx C mA)
  (hs : PySem.W.findIn K (.ref C) "__setattr__" = some (some (.builtin "object.__setattr__"))) (hp : PySem.W.plainOver K C = true) (ht : PySem.W.takerIn K C name = some none) (hh : PySem.W.hasDictIn K C = true)
  (hw : PySem.Within mA ns) (hsz : ns.length ≤ sizeLine)
  (h : ∀ h', ObjM h' x dx C (fun y => if y = name then some v else mA y) → Heap.SameBut dx s.heap h' → Q () { s with heap := h', toks := s.toks + 2 }) :
  wpAny (model prog w) A (setAttr (.ref x) name v) Q E s := by
 obtain ⟨od, J, hl⟩ := I.look
 refine PySem.W.set_plain X J hs (PySem.W.osa_open (s := { s with toks := s.toks + 1 }) (r := none) X J hp ht fun b => ?_)
 obtain ⟨cd, hc, hd'⟩ := PySem.W.any_some hh
 have hx : s.heap.get? x = some ⟨.ref C, some dx, .plain, #[]⟩ := I.obj
 refine wpAny_bind (wpAny_pure (wpAny_bind (wpAny_bind (wpAny_loadPart hx (wpAny_bind (PySem.W.Looks.here (s := { s with toks := s.toks + 1 }) (PySem.W.looks_clsIn X hc) ?_))))))
 rw [hd']
 refine wpAny_pure (a := some dx) (wpAny_bind (wpAny_pure (wpAny_bind ?_)))
 refine wpAny_nsSet1 (s := { s with toks := s.toks + 1 }) I.ns fun h' hn2 hs2 => ?_
 obtain ⟨oD, esD, epD, hoD, hdD, hcD⟩ := hn2.count (PySem.Within.cons name v hw)
 refine wpAny_bind (wpAny_lookBehind hoD (by rw [hdD]; exact pastItsLine_dict (Nat.le_trans hcD (by rw [List.length_cons]; omega))) ?_)
 exact wpAny_pure (h _ ⟨(hs2.2 _ (Ne.symm I.ne)).trans I.obj, hn2, I.ne⟩ hs2)
theorem make_map {R : Result → Shared → Prop} {vs : List Value} {kw : List (Str × Value)} (X : K.In s.heap) (hm : PySem.W.makesIn K C = true)
  (hi : PySem.W.findIn K (.ref C) "__init__" = some (some (.ref f))) (hf : PySem.W.typeIn K (.ref f) = some (.type "function"))
  (h : codeAny (model prog w) (A.under (.builtin "type.__call__" ⟨.ref C :: vs, kw⟩)) (.call (.ref f) ⟨.ref (s.heap.objs.size + 1) :: vs, kw⟩) (PySem.W.InitBack (s.heap.objs.size + 1) R)
   { s with heap := (s.heap.push PySem.W.emptyDict).push (PySem.W.instObj C s.heap.objs.size) }) :
  codeAny (model prog w) A (.call (.ref C) ⟨vs, kw⟩) R s := by
 obtain ⟨hh, g, d, t, os⟩ := s
 exact PySem.W.make_core (PySem.W.makes_of X hm) (PySem.W.looks_findIn X hi) (fun self => PySem.W.bind_fn X self hf) (.inl rfl) h
theorem make_map0 {R : Result → Shared → Prop} (X : K.In s.heap) (hm : PySem.W.makesIn K C = true)
  (hi : PySem.W.findIn K (.ref C) "__init__" = some (some (.builtin "object.__init__")))
  (hb : ∀ self, PySem.W.Looks (model prog w) s.heap (bindSpecial (.builtin "object.__init__") self) (.builtin "object.__init__", [self]))
  (h : codeAny (model prog w) (A.under (.builtin "type.__call__" ⟨[.ref C], []⟩)) (.call (.builtin "object.__init__") ⟨[.ref (s.heap.objs.size + 1)], []⟩) (PySem.W.InitBack (s.heap.objs.size + 1) R)
   { s with heap := (s.heap.push PySem.W.emptyDict).push (PySem.W.instObj C s.heap.objs.size) }) :
  codeAny (model prog w) A (.call (.ref C) ⟨[], []⟩) R s := by
 obtain ⟨hh, g, d, t, os⟩ := s
 exact PySem.W.make_core (PySem.W.makes_of X hm) (PySem.W.looks_findIn X hi) hb (.inr ⟨rfl, rfl⟩) h
end
noncomputable def putF (f : Str) (v : V) : List (Str × V) → List (Str × V)
 | [] => [(f, v)]
 | (g, x) :: r => if g = f then (g, v) :: r else (g, x) :: putF f v r
theorem lookup_putF (f g : Str) (v : V) : ∀ fs : List (Str × V), (putF f v fs).lookup g = if g = f then some v else fs.lookup g
 | [] => by
  show List.lookup g [(f, v)] = _
  by_cases h : g = f
  ·have hb : (g == f) = true := beq_iff_eq.mpr h
   simp only [List.lookup, hb, if_pos h]
  ·have hb : (g == f) = false := beq_eq_false_iff_ne.mpr h
   simp only [List.lookup, hb, if_neg h]
 | (k, x) :: r => by
  have ih := lookup_putF f g v r
  rw [show putF f v ((k, x) :: r) = (if k = f then (k, v) :: r else (k, x) :: putF f v r) from rfl]
  by_cases hk : k = f
  ·rw [if_pos hk]
   by_cases h : g = k
   ·have hb : (g == k) = true := beq_iff_eq.mpr h
    simp only [List.lookup, hb, if_pos (h.trans hk)]
   ·have hb : (g == k) = false := beq_eq_false_iff_ne.mpr h
    simp only [List.lookup, hb, if_neg (fun e : g = f => h (e.trans hk.symm))]
  ·rw [if_neg hk]
   by_cases h : g = k
   ·have hb : (g == k) = true := beq_iff_eq.mpr h
    simp only [List.lookup, hb, if_neg (fun e : g = f => hk (h.symm.trans e))]
   ·have hb : (g == k) = false := beq_eq_false_iff_ne.mpr h
    simp only [List.lookup, hb]
    exact ih
theorem keys_putF (f : Str) (v : V) : ∀ fs : List (Str × V), f ∈ (putF f v fs).map (·.1) ∧ ∀ g, g ∈ fs.map (·.1) → g ∈ (putF f v fs).map (·.1)
 | [] => ⟨by simp [putF], fun g h => by simp at h⟩
 | (k, x) :: r => by
  obtain ⟨i1, i2⟩ := keys_putF f v r
  rw [show putF f v ((k, x) :: r) = (if k = f then (k, v) :: r else (k, x) :: putF f v r) from rfl]
  by_cases hk : k = f
  ·rw [if_pos hk]
   subst hk
   exact ⟨by simp, fun g h => by simpa using h⟩
  ·rw [if_neg hk]
   refine ⟨?_, fun g h => ?_⟩
   ·rw [List.map_cons]
    exact List.mem_cons_of_mem _ i1
   ·rw [List.map_cons] at h ⊢
    rcases List.mem_cons.mp h with e | e
    ·exact List.mem_cons.mpr (.inl e)
    ·exact List.mem_cons_of_mem _ (i2 g e)
theorem length_putF (f : Str) (v : V) : ∀ fs : List (Str × V), (putF f v fs).length ≤ fs.length + 1
 | [] => by simp [putF]
 | (k, x) :: r => by
  have ih := length_putF f v r
  rw [show putF f v ((k, x) :: r) = (if k = f then (k, v) :: r else (k, x) :: putF f v r) from rfl]
  by_cases hk : k = f
  ·rw [if_pos hk, List.length_cons, List.length_cons]; omega
  ·rw [if_neg hk, List.length_cons, List.length_cons]; omega
theorem RelO.some_of {v : V} {o : Option Value} (r : RelO (some v) o) : ∃ u, o = some u ∧ RelV v u := by
 cases o with
 | none => exact (show False from r).elim
 | some u => exact ⟨u, rfl, r⟩
theorem RelO.none_of {o : Option Value} (r : RelO none o) : o = none := by
 cases o with
 | none => rfl
 | some u => exact (show False from r).elim
theorem handed_of {v : V} {u : Value} (r : RelV v u) : PySem.W.handedIn u = true := by
 cases v with
 | non => cases (show u = Value.none from r); rfl
 | bl b => cases (show u = Value.bool b from r); rfl
 | int i => obtain ⟨t, e⟩ := (show ∃ t, u = Value.int i t from r); cases e; rfl
 | str x => obtain ⟨t, e⟩ := (show ∃ t, u = Value.str x t from r); cases e; rfl
 | byt b => obtain ⟨t, e⟩ := (show ∃ t, u = Value.bytes b t from r); cases e; rfl
 | flt b => obtain ⟨t, e⟩ := (show ∃ t, u = Value.float b t from r); cases e; rfl
 | ref a => cases (show u = Value.ref a from r); rfl
 | ty n => cases (show u = Value.type n from r); rfl
section
variable {P : Program} {w : World} {H H' : Hp} {h h' : Heap} {a C dx : Addr} {fs fs' : List (Str × V)}
theorem ins_get (hok : HOk P w H h) (e : H a = some (.ins C dx fs)) : ∃ mA, ObjM h a dx C mA ∧ (∀ f, RelO (fs.lookup f) (mA f)) ∧ PySem.Within mA (fs.map (·.1)) ∧ fs.length ≤ 1000 ∧ H dx = some (.own a) := by
 obtain ⟨d, z, ne, ob, mA, n, r, q⟩ := (show ObjOk P w H h a (.ins C dx fs) from hok a _ e)
 exact ⟨mA, ⟨ob, n, ne⟩, r, q, z, d⟩
end
structure Cls (K : PySem.W.Frag) (C : Addr) : Prop where
 pg : PySem.W.plainGet K C Str.empty = true
 hd : PySem.W.hasDictIn K C = true
 po : PySem.W.plainOver K C = true
 sa : PySem.W.findIn K (.ref C) "__setattr__" = some (some (.builtin "object.__setattr__"))
theorem Cls.get {K : PySem.W.Frag} {C : Addr} (c : Cls K C) (f : Str) : PySem.W.plainGet K C f = true := c.pg
noncomputable def NoAttr (K : PySem.W.Frag) (C : Addr) (f : Str) : Prop := PySem.W.findIn K (.ref C) f = some none
theorem NoAttr.taker {K : PySem.W.Frag} {C : Addr} {f : Str} (n : NoAttr K C f) : PySem.W.takerIn K C f = some none := by
 unfold PySem.W.takerIn
 rw [show PySem.W.findIn K (.ref C) f = some none from n]
 rfl
structure Meth (K : PySem.W.Frag) (C : Addr) (m : Str) (f : Addr) : Prop where
 at_ : PySem.W.findIn K (.ref C) m = some (some (.ref f))
 fn : PySem.W.isFn K (.ref f) = true
 kp : PySem.W.keepIn K (.ref f) = true
section
variable {X : Cx} {pins : List (Addr × Obj)} {σ : St} {H : Hp} {s : Shared} {a C dx : Addr} {fs : List (Str × V)} {f : Str} {v : V} {A : Around} {E : Value → Shared → Prop}
theorem getattr_ok {b : Bool} {Q : Value → Shared → Prop} (I : Inv X pins σ H s) (e : H a = some (.ins C dx fs)) (c : Cls X.K C) (n : NoAttr X.K C f) (l : fs.lookup f = some v)
  (h : ∀ u s', Inv X pins σ H s' → RelV v u → Q u s') : wpAny (model X.prog X.w) A (getAttr (.ref a) f b) Q E s := by
 obtain ⟨mA, O, r, _, _, _⟩ := ins_get I.hok e
 obtain ⟨u, hu, ru⟩ := RelO.some_of (v := v) (o := mA f) (by rw [← l]; exact r f)
 exact get_map I.kIn O (c.get f) c.hd n hu (handed_of ru) (h u _ (I.tok _) ru)
theorem getmeth_ok {m : Str} {g : Addr} {pl : Sem Bool} {Q : Value × List Value → Shared → Prop} (I : Inv X pins σ H s) (e : H a = some (.ins C dx fs)) (c : Cls X.K C) (k : Meth X.K C m g) (l : fs.lookup m = none)
  (h : Q (.ref g, [.ref a]) s) : wpAny (model X.prog X.w) A (getMethod (.ref a) m pl) Q E s := by
 obtain ⟨mA, O, r, _, _, _⟩ := ins_get I.hok e
 have hn : mA m = none := RelO.none_of (by rw [← l]; exact r m)
 exact get_meth I.kIn O (c.get m) k.at_ k.fn hn h
theorem setattr_ok {y : V} {u : Value} {Q : Unit → Shared → Prop} (I : Inv X pins σ H s) (e : H a = some (.ins C dx fs)) (c : Cls X.K C) (n : NoAttr X.K C f) (hl : fs.length < 1000) (ry : RelV y u)
  (h : ∀ s', Inv X pins σ (upd H a (.ins C dx (putF f y fs))) s' → Q () s') : wpAny (model X.prog X.w) A (setAttr (.ref a) f u) Q E s := by
 obtain ⟨mA, O, r, wi, _, ho⟩ := ins_get I.hok e
 have hz : (fs.map (·.1)).length ≤ sizeLine := by rw [List.length_map, sizeLine_eq]; omega
 refine set_map I.kIn O c.sa c.po n.taker c.hd wi hz fun h' O' sb => h _ ?_
 have hd : ∃ o, h'.get? dx = some o := let ⟨o, _, _, e', _⟩ := O'.ns; ⟨o, e'⟩
 refine I.write (x := a) (e := dx) (by rw [e]; exact True.intro) (.inr ho) (fun b q hb z => (sb.2 b hb).trans z) hd ?_
 refine ⟨by rw [upd_ne O.ne]; exact ho, ?_, O.ne, O'.obj, _, O'.ns, fun g => ?_, fun g hg => ?_⟩
 ·have := length_putF f y fs; omega
 ·show RelO ((putF f y fs).lookup g) (if g = f then some u else mA g)
  rw [lookup_putF]
  by_cases q : g = f
  ·rw [if_pos q, if_pos q]; exact ry
  ·rw [if_neg q, if_neg q]; exact r g
 ·by_cases q : g = f
  ·rw [q]; exact (keys_putF f y fs).1
  ·refine (keys_putF f y fs).2 g (wi g fun z => hg ?_)
   show (if g = f then some u else mA g) = none
   rw [if_neg q]; exact z
theorem Inv.made (I : Inv X pins σ H s) : Inv X pins σ (upd (upd H s.heap.objs.size (.own (s.heap.objs.size + 1))) (s.heap.objs.size + 1) (.ins C s.heap.objs.size []))
  { s with heap := (s.heap.push PySem.W.emptyDict).push (PySem.W.instObj C s.heap.objs.size) } := by
 have e1 : (s.heap.push PySem.W.emptyDict).get? s.heap.objs.size = some PySem.W.emptyDict := Heap.get?_push_size s.heap rfl
 have e2 : ((s.heap.push PySem.W.emptyDict).push (PySem.W.instObj C s.heap.objs.size)).get? (s.heap.objs.size + 1) = some (PySem.W.instObj C s.heap.objs.size) := by
  have := Heap.get?_push_size (s.heap.push PySem.W.emptyDict) (o := PySem.W.instObj C s.heap.objs.size) rfl
  rwa [Heap.size_push] at this
 have e3 : (s.heap.push PySem.W.emptyDict).Ns s.heap.objs.size (fun _ => none) := ⟨PySem.W.emptyDict, #[], _, e1, rfl, (fun e he => absurd he (by simp)), fun _ => rfl⟩
 have I1 := I.laid (a := s.heap.objs.size) (o := .own (s.heap.objs.size + 1)) (h' := s.heap.push PySem.W.emptyDict) (t' := s.toks) (fun b u q => Heap.get?_push_of_some _ q) (Nat.le_refl _) ⟨_, e1⟩
 refine I1.laid (a := s.heap.objs.size + 1) (o := .ins C s.heap.objs.size []) (t' := s.toks) (fun b u q => Heap.get?_push_of_some _ q) (Nat.le_of_eq (Heap.size_push _ _)) ?_
 have ne : s.heap.objs.size ≠ s.heap.objs.size + 1 := Nat.ne_of_lt (Nat.lt_succ_self _)
 refine ⟨by rw [upd_ne ne, upd_same], Nat.zero_le _, ne, e2, fun _ => none, (Heap.Ns1.of_empty e3).at fun o q => Heap.get?_push_of_some _ q, fun _ => True.intro, fun y hy => absurd rfl hy⟩
theorem attr_of {prog : Program} {w : World} {env : Env} {e : Expr} {f : Str} {pos : Pos} {s : Shared} {Q : Value → Shared → Prop} (hb : attributeBase e f env (eval e env) = eval e env)
  (h : wpAny (model prog w) A (eval e env) (fun o s₁ => wpAny (model prog w) A (getAttr o f true) Q E s₁) E s) : wpAny (model prog w) A (eval (.Attribute e f pos) env) Q E s :=
 Attribute_any_ h (by rw [arm_eval_Attribute, hb])
end
noncomputable def tFld (K : PySem.W.Frag) (ta : TE) (f : Str) : TE := fun σ H Q => ta σ H fun x H1 => ∃ a C dx fs v, x = .ref a ∧ H1 a = some (.ins C dx fs) ∧ Cls K C ∧ NoAttr K C f ∧ fs.lookup f = some v ∧ Q v H1
noncomputable def sFld (K : PySem.W.Frag) (ta tv : TE) (f : Str) : TS := fun D σ H => tv σ H fun y H1 => ta σ H1 fun x H2 => ∃ a C dx fs, x = .ref a ∧ H2 a = some (.ins C dx fs) ∧ Cls K C ∧ NoAttr K C f ∧ fs.length < 1000 ∧
 D.nx σ (upd H2 a (.ins C dx (putF f y fs)))
section
variable {X : Cx} {o e value : Expr} {f : Str} {pos pos' tpos : Pos} {ta tv : TE}
theorem pe_fld (he : PE X e ta) (hb : attributeBase e f X.env (eval e X.env) = eval e X.env) : PE X (.Attribute e f pos) (tFld X.K ta f) := by
 intro pins s σ H Q I h
 refine attr_of hb (thn (he pins s σ H _ I h) fun u s1 ⟨x, H1, I1, rx, a, C, dx, fs, v, ex, ea, c, n, l, q⟩ => ?_)
 subst ex
 obtain rfl : u = Value.ref a := rx
 exact getattr_ok I1 ea c n l fun u' s2 I2 ru => ⟨v, H1, I2, ru, q⟩
theorem ps_fld (ha : PE X o ta) (hv : PE X value tv) (hs : swapsWith value (some (.Attribute o f pos')) pos.line X.env = pure false) : PS X (.Assign [.Attribute o f pos'] value pos) (sFld X.K ta tv f) := by
 intro pins s σ H D I h
 refine plainObj_wpAny_Assign_Attribute (thn (hv pins s σ H _ I h) fun u s1 ⟨y, H1, I1, ry, q⟩ => thn (ha pins s1 σ H1 _ I1 q) fun ov s2 ⟨x, H2, I2, rx, a, C, dx, fs, ex, ea, c, n, l, q2⟩ => ?_) hs
 subst ex
 obtain rfl : ov = Value.ref a := rx
 exact setattr_ok I2 ea c n l ry fun s3 I3 => ⟨σ, _, I3, q2⟩
end
section
variable {X : Cx} {pins : List (Addr × Obj)} {σ : St} {H : Hp} {s : Shared} {A : Around} {E : Value → Shared → Prop} {Q : Value → Shared → Prop} {c : Value} {b : Bool}
inductive TyOf (K : PySem.W.Frag) (H : Hp) : V → Value → Prop where
 | non : TyOf K H .non (.type "NoneType")
 | bl (x : Bool) : TyOf K H (.bl x) (.type "bool")
 | int (i : Int) : TyOf K H (.int i) (.type "int")
 | str (x : Str) : TyOf K H (.str x) (.type "str")
 | flt (x : UInt64) : TyOf K H (.flt x) (.type "float")
 | lst {a : Addr} {xs : List V} (e : H a = some (.lst xs)) : TyOf K H (.ref a) (.type "list")
 | frz {a : Addr} {o : Obj} {xs : List V} (e : H a = some (.frz o (.lst xs))) : TyOf K H (.ref a) (.type "list")
 | tup {a : Addr} {xs : List V} (e : H a = some (.tup xs)) : TyOf K H (.ref a) (.type "tuple")
 | dK {a : Addr} {kvs : List (Key × V)} (e : H a = some (.dK kvs)) : TyOf K H (.ref a) (.type "dict")
 | dT {a : Addr} {kvs : List (List Key × V)} (e : H a = some (.dT kvs)) : TyOf K H (.ref a) (.type "dict")
 | ins {a C dx : Addr} {fs : List (Str × V)} (e : H a = some (.ins C dx fs)) (cl : Cls K C) (ha : PySem.W.findIn K (.ref C) "__class__" = some (some (.builtin "object.__class__")))
   (hn : PySem.W.specialIn K (.builtin "object.__class__") "__get__" = some (some (.builtin "getset_descriptor.__get__"))) (htk : PySem.W.takesIn K (.builtin "object.__class__") = some true)
   (hm : PySem.W.mroIn K C (.type "object") = some true) : TyOf K H (.ref a) (.ref C)
theorem isinst_ok {x : V} {u t : Value} (I : Inv X pins σ H s) (rx : RelV x u) (ty : TyOf X.K H x t) (e : PySem.W.kitOne X.K t c = some b) (h : ∀ tk, Q (.bool b) { s with toks := tk }) :
  wpAny (model X.prog X.w) A (call (.builtin "isinstance") [u, c]) Q E s := by
 cases ty with
 | non => cases (show u = Value.none from rx); exact PySem.W.kia_one PySem.W.kitx_none I.kIn True.intro e (fun z => nomatch z) h
 | bl y => cases (show u = Value.bool y from rx); exact PySem.W.kia_one PySem.W.kitx_bool I.kIn True.intro e (fun z => nomatch z) h
 | int i => obtain ⟨t, q⟩ := (show ∃ t, u = Value.int i t from rx); cases q; exact PySem.W.kia_one PySem.W.kitx_int I.kIn True.intro e (fun z => nomatch z) h
 | str y => obtain ⟨t, q⟩ := (show ∃ t, u = Value.str y t from rx); cases q; exact PySem.W.kia_one PySem.W.kitx_str I.kIn True.intro e (fun z => nomatch z) h
 | flt y => obtain ⟨t, q⟩ := (show ∃ t, u = Value.float y t from rx); cases q; exact PySem.W.kia_one PySem.W.kitx_float I.kIn True.intro e (fun z => nomatch z) h
 | @lst a xs ea =>
  cases (show u = Value.ref a from rx)
  obtain ⟨_, _, n, _, h1⟩ := (show ObjOk X.prog X.w H s.heap a (.lst xs) from I.hok a _ ea)
  exact PySem.W.kia_one PySem.W.kitx_list I.kIn ⟨_, h1, rfl⟩ e (fun z => nomatch z) h
 | @frz a ob xs ea =>
  cases (show u = Value.ref a from rx)
  obtain ⟨_, _, _, n, _, h1⟩ := (show ObjOk X.prog X.w H s.heap a (.frz ob (.lst xs)) from I.hok a _ ea)
  exact PySem.W.kia_one PySem.W.kitx_list I.kIn ⟨_, h1, rfl⟩ e (fun z => nomatch z) h
 | @tup a xs ea =>
  cases (show u = Value.ref a from rx)
  obtain ⟨_, _, _, p⟩ := (show ObjOk X.prog X.w H s.heap a (.tup xs) from I.hok a _ ea)
  obtain ⟨o, h1, h2, _⟩ := p
  exact PySem.W.kia_one PySem.W.kitx_tuple I.kIn ⟨o, h1, h2⟩ e (fun z => nomatch z) h
 | @dK a kvs ea =>
  cases (show u = Value.ref a from rx)
  obtain ⟨_, _, vs, _, p⟩ := (show ObjOk X.prog X.w H s.heap a (.dK kvs) from I.hok a _ ea)
  obtain ⟨o, es, ep, h1, h2, _⟩ := p
  exact PySem.W.kia_one PySem.W.kitx_dict I.kIn ⟨o, h1, h2.1⟩ e (fun z => nomatch z) h
 | @dT a kvs ea =>
  cases (show u = Value.ref a from rx)
  obtain ⟨_, _, xs, _, o, es, ep, h1, h2, _⟩ := (show ObjOk X.prog X.w H s.heap a (.dT kvs) from I.hok a _ ea)
  exact PySem.W.kia_one PySem.W.kitx_dict I.kIn ⟨o, h1, h2.1⟩ e (fun z => nomatch z) h
 | @ins a C dx fs ea cl ha hn htk hm =>
  cases (show u = Value.ref a from rx)
  obtain ⟨mA, O, _⟩ := ins_get I.hok ea
  obtain ⟨od, J, _⟩ := O.look
  exact PySem.W.kia_one (PySem.W.kitx_own (cl.get _) cl.hd ha hn htk hm) I.kIn J e (fun z => nomatch z) h
end
end L2
namespace L2
open PySem PySem.Spec PyProof.Rows
structure Room (k : Nat) (A : Around) : Prop where
 hd : A.handled = none
 dp : A.depth + 3 * k + 5 < recursionLimit
 un : A.units + 16 * k + 200 < cLine
theorem Room.mono {j k : Nat} {A : Around} (r : Room k A) (h : j ≤ k) : Room j A := ⟨r.hd, by have := r.dp; omega, by have := r.un; omega⟩
theorem Room.deeper {k : Nat} {A : Around} (r : Room (k + 1) A) (env : Env) : Room k (A.deeper env) :=
 ⟨r.hd, by have := r.dp; show A.depth + 1 + 3 * k + 5 < _; omega, by have := r.un; show A.units + 3 + 16 * k + 200 < _; omega⟩
theorem make_depth {A : Around} {C : Addr} {us : List Value} {kw : List (Str × Value)} : (A.under (.builtin "type.__call__" ⟨.ref C :: us, kw⟩)).depth = A.depth + 1 := by
 first | rfl | simp [Around.under, Code.weight, Code.isCreation, Code.isGuard, Code.isCaller, Code.frames, Code.isFrame, guardIds]
theorem make_units {A : Around} {C : Addr} {us : List Value} {kw : List (Str × Value)} : (A.under (.builtin "type.__call__" ⟨.ref C :: us, kw⟩)).units = A.units + 1 := by
 first | rfl | simp [Around.under, Code.cUnits, Code.frames, Code.isFrame]
theorem Room.make {k : Nat} {A : Around} (r : Room (k + 1) A) (C : Addr) (us : List Value) (kw : List (Str × Value)) : Room k (A.under (.builtin "type.__call__" ⟨.ref C :: us, kw⟩)) :=
 ⟨r.hd, by have := r.dp; rw [make_depth]; omega, by have := r.un; rw [make_units]; omega⟩
theorem Room.depth {k : Nat} {A : Around} (r : Room k A) : A.depth < recursionLimit := by have := r.dp; omega
noncomputable def tNil : TA := fun _ H Q => Q [] H
noncomputable def tCons (ta : TE) (tr : TA) : TA := fun σ H Q => ta σ H fun x H1 => tr σ H1 fun xs H2 => Q (x :: xs) H2
section
variable {X : Cx} {e : Expr} {es : List Expr} {te : TE} {t : TA} {pos : Pos}
theorem pa_nil : PA X [] tNil := fun _ _ _ _ H Q I h => Calls.spliced_nil ⟨[], H, I, .nil, h⟩
theorem pa_cons (ha : PE X e te) (hr : PA X es t) (hs : starEach (e :: es) X.env = (false, eval e X.env) :: starEach es X.env := by rfl) : PA X (e :: es) (tCons te t) := by
 intro pos pins s σ H Q I h
 rw [hs]
 show wpAny _ _ (spliced ((false, eval e X.env) :: backTo pos (starEach es X.env))) _ _ s
 refine Calls.spliced_cons (thn (ha pins s σ H _ I h) fun u s1 ⟨x, H1, I1, r1, q1⟩ => ?_)
 exact thn (hr pos pins s1 σ H1 _ I1 q1) fun us s2 ⟨xs, H2, I2, r2, q2⟩ => ⟨x :: xs, H2, I2, .cons r1 r2, q2⟩
noncomputable def tTup (t : TA) : TE := fun σ H Q => t σ H fun xs H1 => xs.length ≤ sizeLine ∧ ∀ p, H1 p = none → Q (.ref p) (upd H1 p (.tup xs))
noncomputable def tLst (t : TA) : TE := fun σ H Q => t σ H fun xs H1 => xs.length ≤ sizeLine ∧ ∀ p, H1 p = none → Q (.ref p) (upd H1 p (.lst xs))
theorem pe_tup {x1} (h : PA X es t) : PE X (.Tuple es x1 pos) (tTup t) := by
 intro pins s σ H Q I hq
 refine wpAny_Tuple_spliced (thn (h pos pins s σ H _ I hq) fun us s1 ⟨xs, H1, I1, r, z, q⟩ => ⟨by rw [← r.length]; exact z, ?_⟩)
 have hf : H1 s1.heap.objs.size = none := I1.hok.fresh (Nat.le_refl _)
 refine ⟨.ref s1.heap.objs.size, upd H1 s1.heap.objs.size (.tup xs), I1.laid (t' := s1.toks) (fun b u e => Heap.get?_push_of_some _ e) (Nat.le_refl _) ?_, rfl, q _ hf⟩
 exact ⟨z, us, r, ⟨_, Heap.get?_push_size _ rfl, rfl, _, rfl⟩⟩
theorem pe_lst (h : PA X es t) : PE X (.List es pos) (tLst t) := by
 intro pins s σ H Q I hq
 refine wpAny_List_spliced (thn (h pos pins s σ H _ I hq) fun us s1 ⟨xs, H1, I1, r, z, q⟩ => ⟨by rw [← r.length]; exact z, ?_⟩)
 have hf : H1 s1.heap.objs.size = none := I1.hok.fresh (Nat.le_refl _)
 refine ⟨.ref s1.heap.objs.size, upd H1 s1.heap.objs.size (.lst xs), I1.laid (t' := s1.toks) (fun b u e => Heap.get?_push_of_some _ e) (Nat.le_refl _) ?_, rfl, q _ hf⟩
 exact ⟨z, us, 0, r, Heap.get?_push_size _ rfl⟩
end
noncomputable abbrev Sp := List V → Hp → VK → XK → Prop
noncomputable abbrev CXT := List Env → Hp → Shared → XK → Value → Shared → Prop
structure Env0 (P : Program) (w : World) (K : PySem.W.Frag) (mg : Str → Option Value) (base : Heap) (A : Around) (outer : List Env) (s : Shared) (H : Hp) : Prop where
 frames : A.frames = some outer
 mod : Mod K mg base
 bs : ∀ b o, base.get? b = some o → s.heap.get? b = some o ∧ H b = none
 bsz : base.objs.size ≤ s.heap.objs.size
 funs : s.heap.FunFrames base outer
 frf : ∀ b ∈ frs outer, H b = none
 hok : HOk P w H s.heap
 bare : AllBare s.gens
noncomputable def CE (outer : List Env) (P : Program) (w : World) (H : Hp) (s : Shared) (Q : VK) (u : Value) (s' : Shared) : Prop :=
 ∃ v H', s'.os = s.os ∧ AllBare s'.gens ∧ Un (frs outer) [] H H' s.heap s'.heap ∧ HOk P w H' s'.heap ∧ RelV v u ∧ Q v H'
noncomputable def CR (CX : CXT) (outer : List Env) (P : Program) (w : World) (H : Hp) (s : Shared) (Q : VK) (E : XK) (r : Result) (s' : Shared) : Prop :=
 match r with
 | .ok (.ret u) => CE outer P w H s Q u s'
 | .ok _ => False
 | .error e => CX outer H s E e s'
structure FnOk (P : Program) (w : World) (K : PySem.W.Frag) (mg : Str → Option Value) (base : Heap) (CX : CXT) (k : Nat) (f : Addr) (fd : FuncData) (ps : List Str) (sp : Sp) : Prop where
 len : ∀ vs H Q E, sp vs H Q E → vs.length = ps.length
 run : ∀ (A : Around) (outer : List Env) (s : Shared) (H : Hp) (args : Args) (us : List Value) (vs : List V) (Q : VK) (E : XK), Room k A → Env0 P w K mg base A outer s H → BindsTo s fd args (ps.zip us) → Vals vs us → sp vs H Q E →
  codeAny (model P w) A (.call (.ref f) args) (CR CX outer P w H s Q E) s
theorem Env0.make {P : Program} {w : World} {K : PySem.W.Frag} {mg : Str → Option Value} {base : Heap} {A : Around} {outer : List Env} {s : Shared} {H : Hp} (e : Env0 P w K mg base A outer s H) (C : Addr) (us : List Value) (kw : List (Str × Value)) :
  Env0 P w K mg base (A.under (.builtin "type.__call__" ⟨.ref C :: us, kw⟩)) outer s H := ⟨by first | exact e.frames | (simpa [Around.under, Code.envs, Code.isFrame, pushEnvs] using e.frames), e.mod, e.bs, e.bsz, e.funs, e.frf, e.hok, e.bare⟩
section
variable {X : Cx} {pins : List (Addr × Obj)} {σ : St} {H : Hp} {s s' : Shared}
theorem Inv.env0 (I : Inv X pins σ H s) : Env0 X.prog X.w X.K X.mg X.base X.A X.stack s H :=
 ⟨I.ok.frames, I.ok.mod, I.bs, Nat.le_trans I.ok.bsz I.sz, I.stack, I.stkFree, I.hok, I.bare⟩
theorem Inv.after {Q : VK} {u : Value} (I : Inv X pins σ H s) (h : CE X.stack X.prog X.w H s Q u s') : EP X pins σ Q u s' := by
 obtain ⟨v, H', os, bare, un, hok, r, q⟩ := h
 obtain ⟨hh, g, d, t, os'⟩ := s'
 obtain rfl : os' = s.os := os
 exact ⟨v, H', I.call (h' := hh) (g' := g) (d' := d) (t' := t) (ch := []) un hok bare (fun b z => absurd z (by simp)), r, q⟩
end
noncomputable def tCall (sp : Sp) (dvs : List V) (E : XK) (t : TA) : TE := fun σ H Q => t σ H fun vs H1 => sp (vs ++ dvs) H1 Q E
noncomputable def Binds (K : PySem.W.Frag) (fd : FuncData) (ps : List Str) (ds : List Value) : Prop :=
 ∀ (s : Shared) (us : List Value), K.In s.heap → (us ++ ds).length = ps.length → BindsTo s fd ⟨us, []⟩ (ps.zip (us ++ ds))
theorem Binds.all {K : PySem.W.Frag} {fd : FuncData} {ps : List Str} (h : ∀ us : List Value, us.length = ps.length → bindArgs fd ⟨us, []⟩ = pure (ps.zip us)) : Binds K fd ps [] := fun s us _ hl => by
 rw [List.append_nil] at hl ⊢
 exact .of_eq (h us hl)
noncomputable def Passes (CX : CXT) (X : Cx) (E : XK) : Prop := ∀ (pins : List (Addr × Obj)) (σ : St) (H : Hp) (s : Shared) (e : Value) (s' : Shared), Inv X pins σ H s → CX X.stack H s E e s' → X.xe e s'
section
variable {X : Cx} {CX : CXT} {k : Nat} {f C : Addr} {fd : FuncData} {ps : List Str} {sp : Sp} {dvs : List V} {ds : List Value} {E : XK} {x m : Str} {p pos apos : Pos} {e o : Expr} {es : List Expr} {ta : TE} {t : TA}
theorem run_fn {pins : List (Addr × Obj)} {σ : St} {H : Hp} {s : Shared} {Q : VK} {us : List Value} {vs : List V} (F : FnOk X.prog X.w X.K X.mg X.base CX k f fd ps sp) (hr : Room k X.A) (hb : Binds X.K fd ps ds) (hd : Vals dvs ds) (hx : Passes CX X E)
  (I : Inv X pins σ H s) (r : Vals vs us) (h : sp (vs ++ dvs) H Q E) : wpAny (model X.prog X.w) X.A (call (.ref f) us) (EP X pins σ Q) X.xe s := by
 have r2 : Vals (vs ++ dvs) (us ++ ds) := r.append hd
 have hl : (us ++ ds).length = ps.length := by rw [← r2.length]; exact F.len _ _ _ _ h
 refine wpAny_call (codeAny_mono (F.run X.A X.stack s H ⟨us, []⟩ (us ++ ds) (vs ++ dvs) Q E hr I.env0 (hb s us I.kIn hl) r2 h) fun r s' hq => ?_)
 cases r with
 | error e => exact hx pins σ H s e s' I hq
 | ok fl =>
  cases fl with
  | ret u => exact I.after hq
  | next => exact False.elim hq
  | brk => exact False.elim hq
  | cont => exact False.elim hq
theorem pe_call (F : FnOk X.prog X.w X.K X.mg X.base CX k f fd ps sp) (hr : Room k X.A) (hg : Gl X x) (hm : X.mg x = some (.ref f)) (hk : PySem.W.keepIn X.K (.ref f) = true) (hb : Binds X.K fd ps ds) (hd : Vals dvs ds) (hx : Passes CX X E)
  (ha : PA X (e :: es) t) (hdb : (x == ("__debug__" : Str)) = false := by decide) (he : starEach (e :: es) X.env = (false, eval e X.env) :: starEach es X.env := by rfl) (hpl : (backTo pos (starEach es X.env)).any (·.1) = false := by rfl) :
  PE X (.Call (.Name x p) (e :: es) [] pos) (tCall sp dvs E t) := by
 intro pins s σ H Q I h
 refine wpAny_Call_Name_kw (ld_glob I hg hm ?_ hdb)
 refine PySem.W.callWith_K (h₀ := X.base) I.ok.mod.kin hk (thn (ha pos pins s σ H _ I h) fun us s1 ⟨vs, H1, I1, r, q⟩ => ⟨I1.kIn, ?_⟩) he hpl
 exact run_fn F hr hb hd hx I1 r q
structure Mk (K : PySem.W.Frag) (C f : Addr) : Prop where
 makes : PySem.W.makesIn K C = true
 init : PySem.W.findIn K (.ref C) "__init__" = some (some (.ref f))
 fn : PySem.W.isFn K (.ref f) = true
 kp : PySem.W.keepIn K (.ref C) = true
theorem run_make {pins : List (Addr × Obj)} {σ : St} {H : Hp} {s : Shared} {Q : VK} {us : List Value} {vs : List V} (M : Mk X.K C f) (F : FnOk X.prog X.w X.K X.mg X.base CX k f fd ps sp) (hr : Room (k + 1) X.A) (hb : Binds X.K fd ps ds) (hd : Vals dvs ds)
  (hx : Passes CX X E) (I : Inv X pins σ H s) (r : Vals vs us)
  (h : ∀ x dx, H x = none → H dx = none → dx ≠ x → sp (.ref x :: (vs ++ dvs)) (upd (upd H dx (.own x)) x (.ins C dx [])) (fun v H2 => v = .non ∧ Q (.ref x) H2) E) :
  wpAny (model X.prog X.w) X.A (call (.ref C) us) (EP X pins σ Q) X.xe s := by
 have hq := h (s.heap.objs.size + 1) s.heap.objs.size (I.hok.fresh (Nat.le_succ _)) (I.hok.fresh (Nat.le_refl _)) (Nat.ne_of_lt (Nat.lt_succ_self _))
 have I2 := Inv.made (C := C) I
 have r2 : Vals (V.ref (s.heap.objs.size + 1) :: (vs ++ dvs)) (Value.ref (s.heap.objs.size + 1) :: (us ++ ds)) := .cons rfl (r.append hd)
 have hl : (Value.ref (s.heap.objs.size + 1) :: us ++ ds).length = ps.length := by
  have e := r2.length
  rw [F.len _ _ _ _ hq] at e
  exact e.symm
 refine wpAny_call (make_map (f := f) I.kIn M.makes M.init (beq_iff_eq.mp M.fn) (codeAny_mono (F.run _ X.stack _ _ ⟨Value.ref (s.heap.objs.size + 1) :: us, []⟩ (Value.ref (s.heap.objs.size + 1) :: (us ++ ds)) _ _ E (hr.make C us [])
  (I2.env0.make C us []) (hb _ (Value.ref (s.heap.objs.size + 1) :: us) I2.kIn hl) r2 hq) fun r s' hq' => ?_))
 cases r with
 | error e => exact hx pins σ _ _ e s' I2 hq'
 | ok fl =>
  cases fl with
  | ret u =>
   obtain ⟨v, H', I3, rv, ev, q3⟩ := I2.after hq'
   subst ev
   exact ⟨rv, ⟨V.ref (s.heap.objs.size + 1), H', I3, rfl, q3⟩⟩
  | next => exact False.elim hq'
  | brk => exact False.elim hq'
  | cont => exact False.elim hq'
end
noncomputable def PK (X : Cx) (kws : List Keyword) (t : TA) : Prop :=
 ∀ (pos : Pos) (pins : List (Addr × Obj)) (s : Shared) (σ : St) (H : Hp) (Q : List V → Hp → Prop), Inv X pins σ H s → t σ H Q → wpAny (model X.prog X.w) X.A (evalAll ((backToKw pos (keywordEach kws X.env)).map (·.2))) (AP X pins σ Q) X.xe s
section
variable {X : Cx} {CX : CXT} {k : Nat} {f C : Addr} {fd : FuncData} {ps ks : List Str} {sp : Sp} {E : XK} {x m : Str} {p pos apos kpos : Pos} {e o : Expr} {es : List Expr} {kws : List Keyword} {te ta : TE} {t tk : TA} {nm : Option Str}
theorem pk_nil : PK X [] tNil := fun _ _ _ _ H Q I h => wpAny_evalAll_nil ⟨[], H, I, .nil, h⟩
theorem pk_cons (ha : PE X e te) (hr : PK X kws t) : PK X (⟨nm, e, kpos⟩ :: kws) (tCons te t) := by
 intro pos pins s σ H Q I h
 show wpAny _ _ (evalAll ((do let v ← eval e X.env; standAt pos; pure v) :: (backToKw pos (keywordEach kws X.env)).map (·.2))) _ _ s
 refine wpAny_evalAll_cons (wpAny_bind (thn (ha pins s σ H _ I h) fun u s1 ⟨x, H1, I1, r1, q1⟩ => wpAny_bind (wpAny_standAt (wpAny_pure ?_))))
 exact thn (hr pos pins s1 σ H1 _ I1 q1) fun us s2 ⟨xs, H2, I2, r2, q2⟩ => ⟨x :: xs, H2, I2, .cons r1 r2, q2⟩
structure KBinds (K : PySem.W.Frag) (fd : FuncData) (ps ks : List Str) (g : List Value → List Value → List Value) (gV : List V → List V → List V) : Prop where
 to : ∀ (s : Shared) (us ws : List Value), K.In s.heap → (g us ws).length = ps.length → BindsTo s fd ⟨us, ks.zip ws⟩ (ps.zip (g us ws))
 rel : ∀ {vs : List V} {us : List Value} {zs : List V} {ws : List Value}, Vals vs us → Vals zs ws → Vals (gV vs zs) (g us ws)
variable {g : List Value → List Value → List Value} {gV : List V → List V → List V}
end
structure FnScope (N P : List Str) (sc : Scope) : Prop where
 kind : sc.kind = .function
 co : sc.isCoroutine = false
 gen : sc.isGenerator = false
 nd : N.Nodup
 pre : N.take P.length = P
 par : ∀ x ∈ P, sc.names.lookup x = some .local ∨ sc.names.lookup x = some .cell
 nofree : ∀ y ∈ sc.names, y.2 ≠ .free
theorem bindL_out {kindOf : Str → Option NameKind} {x : Str} : ∀ {binds : List (Str × Value)} {m : Str → Option Value}, (∀ v, (x, v) ∉ binds) → bindL kindOf binds m x = m x
 | [], _, _ => rfl
 | (n, v) :: r, m, h => by
  unfold bindL
  rw [bindL_out fun w hw => h w (List.mem_cons_of_mem _ hw)]
  split
  ·have : x ≠ n := by rintro rfl; exact h v List.mem_cons_self
   simp [this]
  ·rfl
theorem bindC_out {kindOf : Str → Option NameKind} {x : Str} : ∀ {binds : List (Str × Value)} {m : Str → Option Value}, (∀ v, (x, v) ∉ binds) → bindC kindOf binds m x = m x
 | [], _, _ => rfl
 | (n, v) :: r, m, h => by
  unfold bindC
  rw [bindC_out fun w hw => h w (List.mem_cons_of_mem _ hw)]
  split
  ·rfl
  ·have : x ≠ n := by rintro rfl; exact h v List.mem_cons_self
   simp [this]
theorem bindL_get {kindOf : Str → Option NameKind} {x : Str} {v : Value} : ∀ {P : List Str} {vs : List Value} {i : Nat} {m : Str → Option Value}, P.Nodup → P[i]? = some x → vs[i]? = some v → kindOf x = some .local →
  bindL kindOf (P.zip vs) m x = some v
 | [], _, _, _, _, h, _, _ => by simp at h
 | _ :: _, [], _, _, _, _, h, _ => by simp at h
 | p :: P, w :: vs, 0, m, nd, h1, h2, hk => by
  simp at h1 h2; subst h1; subst h2
  show bindL kindOf ((p, w) :: P.zip vs) m p = _
  unfold bindL
  rw [bindL_out fun v hv => (List.nodup_cons.mp nd).1 (List.of_mem_zip hv).1, if_pos hk]
  simp
 | p :: P, w :: vs, i + 1, m, nd, h1, h2, hk => by
  show bindL kindOf ((p, w) :: P.zip vs) m x = _
  unfold bindL
  exact bindL_get (i := i) (List.nodup_cons.mp nd).2 (by simpa using h1) (by simpa using h2) hk
theorem bindC_get {kindOf : Str → Option NameKind} {x : Str} {v : Value} : ∀ {P : List Str} {vs : List Value} {i : Nat} {m : Str → Option Value}, P.Nodup → P[i]? = some x → vs[i]? = some v → kindOf x ≠ some .local →
  bindC kindOf (P.zip vs) m x = some v
 | [], _, _, _, _, h, _, _ => by simp at h
 | _ :: _, [], _, _, _, _, h, _ => by simp at h
 | p :: P, w :: vs, 0, m, nd, h1, h2, hk => by
  simp at h1 h2; subst h1; subst h2
  show bindC kindOf ((p, w) :: P.zip vs) m p = _
  unfold bindC
  rw [bindC_out fun v hv => (List.nodup_cons.mp nd).1 (List.of_mem_zip hv).1, if_neg hk]
  simp
 | p :: P, w :: vs, i + 1, m, nd, h1, h2, hk => by
  show bindC kindOf ((p, w) :: P.zip vs) m x = _
  unfold bindC
  exact bindC_get (i := i) (List.nodup_cons.mp nd).2 (by simpa using h1) (by simpa using h2) hk
noncomputable def start (N : List Str) (vs : List V) : St := vs.map some ++ List.replicate (N.length - vs.length) none
noncomputable def cxOf (CX : CXT) (P : Program) (w : World) (K : PySem.W.Frag) (mg : Str → Option Value) (base : Heap) (N : List Str) (qual : Str) (scope : Scope) (f : Addr) (cd : Value) (A : Around) (outer : List Env) (s : Shared) (H : Hp) (E : XK) : Cx where
 prog := P
 w := w
 K := K
 mg := mg
 base := base
 A := A.deeper (envOfC qual scope s.heap.objs.size f cd)
 N := N
 s₀ := s
 H₀ := H
 env := envOfC qual scope s.heap.objs.size f cd
 outer := outer
 stack := envOfC qual scope s.heap.objs.size f cd :: outer
 ex := []
 calm := true
 fn := fun _ => true
 pn := []
 xe := fun e s' => wpAny (model P w) (A.deeper (envOfC qual scope s.heap.objs.size f cd)) (leaving (envOfC qual scope s.heap.objs.size f cd) e) (fun _ s'' => CX outer H s E e s'') (fun e' s'' => CX outer H s E e' s'') s'
theorem cell_has {sc : Scope} {n : Nat} {x : Str} (h : sc.names.lookup x = some .cell) : ∃ c, (cellsFrom n sc.names []).lookup x = some c := by
 have q := PySem.W.cellsFrom_some sc.names n [] (.inl h)
 exact Option.isSome_iff_exists.mp q
theorem inv_start {CX : CXT} {P : Program} {w : World} {K : PySem.W.Frag} {mg : Str → Option Value} {base : Heap} {N ps : List Str} {qual : Str} {scope : Scope} {f : Addr} {cd : Value} {A : Around} {outer : List Env} {s s1 : Shared} {H : Hp} {E : XK} {us : List Value} {vs : List V}
  (S : FnScope N ps scope) (hd : A.handled = none) (e0 : Env0 P w K mg base A outer s H) (hl : vs.length = ps.length) (r : Vals vs us)
  (x : InCallC s s.heap.objs.size (bindL (envOfC qual scope s.heap.objs.size f cd).kindOf (ps.zip us) fun _ => none) (cellsFrom (s.heap.objs.size + 1) scope.names []) (bindC (envOfC qual scope s.heap.objs.size f cd).kindOf (ps.zip us) fun _ => none) s1) :
  Inv (cxOf CX P w K mg base N qual scope f cd A outer s H E) [] (start N vs) H s1 := by
 have hpl : ps.length ≤ N.length := by have := congrArg List.length S.pre; rw [List.length_take] at this; omega
 obtain ⟨h1, tk, rfl, hk⟩ := x.done
 have noA : ∀ b : Addr, b ∉ (cxOf CX P w K mg base N qual scope f cd A outer s H E).ex := fun b z => absurd (show b ∈ ([] : List Addr) from z) (by simp)
 refine ⟨⟨e0.mod, S.kind, rfl, rfl, Nat.le_refl _, fun y z c h1 h2 => ?_, fun y hy => ?_, fun y c _ h => ?_, fun _ => hd, Around.frames_deeper e0.frames, .inr ⟨rfl, rfl⟩, fun b z => absurd z (noA b), e0.bs, e0.bsz, fun b _ _ => noA b, fun b z => absurd z (noA b), e0.funs, e0.frf⟩,
  rfl, e0.bare, Un.kept hk, ⟨_, x.toInCall.ns, fun i y v h1 h2 h3 => ?_⟩, fun y c h => ⟨_, x.cell y c h⟩, e0.hok.fresh (Nat.le_refl _), fun y c h => ?_, fun p hp => absurd (show p ∈ ([] : List (Addr × Obj)) from hp) (by simp), e0.hok.kept hk, ?_⟩
 ·exact name_of_addr x.apart (PySem.mem_of_lookup h1) (PySem.mem_of_lookup h2)
 ·have hy : scope.names.lookup y = some .cell ∨ scope.names.lookup y = some .free := hy
  rcases hy with hy | hy
  ·exact cell_has hy
  ·exact absurd rfl (S.nofree _ (PySem.mem_of_lookup hy))
 ·exact Nat.le_of_lt (x.above y c (PySem.mem_of_lookup h))
 ·have hi : i < vs.length := by
   unfold start at h2
   by_cases hi : i < vs.length
   ·exact hi
   ·rw [List.getElem?_append_right (by simpa using hi)] at h2
    rw [List.getElem?_replicate] at h2
    split at h2 <;> cases h2
  have ha : vs[i]? = some v := by
   unfold start at h2
   rw [List.getElem?_append_left (by simpa using hi), List.getElem?_map] at h2
   cases e : vs[i]? with
   | none => rw [e] at h2; cases h2
   | some a => rw [e] at h2; cases h2; rfl
  obtain ⟨u, hu, rv⟩ := r.get ha
  have hp : ps[i]? = some y := by
   rw [← S.pre, List.getElem?_take_of_lt (by omega)]; exact h1
  have ndP : ps.Nodup := by rw [← S.pre]; exact S.nd.sublist (List.take_sublist _ _)
  refine ⟨u, rv, ?_⟩
  rcases S.par y (List.mem_of_getElem? hp) with k | k
  ·exact .inl ⟨k, bindL_get ndP hp hu k⟩
  ·obtain ⟨c, e⟩ := cell_has (n := s.heap.objs.size + 1) k
   refine .inr ⟨.inl k, c, e, ?_⟩
   have q := x.cell y c e
   rw [bindC_get ndP hp hu (by show scope.names.lookup y ≠ _; rw [k]; decide)] at q
   exact q
 ·exact e0.hok.fresh (Nat.le_of_lt (x.above y c (PySem.mem_of_lookup h)))
 ·unfold start
  show _ = N.length
  rw [List.length_append, List.length_map, List.length_replicate]
  omega
theorem fn_of {CX : CXT} {P : Program} {w : World} {K : PySem.W.Frag} {mg : Str → Option Value} {base : Heap} {k : Nat} {f : Addr} {name qual : Str} {params : Arguments} {body : List Stmt} {scope : Scope} {dV kV doc pm cdv ct oc : Value} {an od : Option Addr}
  {osl : Array (Option Value)} {N ps : List Str} {sp : Sp} (lk : K.lookup f = some ⟨oc, od, .func (PySem.W.fnOf name qual params body scope dV kV doc pm an cdv ct), osl⟩) (hcd : PySem.W.codeIn K cdv qual = true) (S : FnScope N ps scope)
  (len : ∀ vs H Q E, sp vs H Q E → vs.length = ps.length)
  (hbody : ∀ (A : Around) (outer : List Env) (s : Shared) (H : Hp) (vs : List V) (Q : VK) (E : XK), Room k (A.deeper (envOfC qual scope s.heap.objs.size f cdv)) → sp vs H Q E →
   ∃ t, PSs (cxOf CX P w K mg base N qual scope f cdv A outer s H E) body t ∧ t { nx := fun _ H' => Q .non H', rt := Q } (start N vs) H) :
  FnOk P w K mg base CX (k + 1) f (PySem.W.fnOf name qual params body scope dV kV doc pm an cdv ct) ps sp := by
 refine ⟨len, fun A outer s H args us vs Q E hr e0 hb r hsp => ?_⟩
 have hl := len _ _ _ _ hsp
 have KX : K.In s.heap := e0.mod.kin.keeps fun b o e => (e0.bs b o e).1
 have lim : s.heap.NoLimit := e0.mod.nolimit.keeps fun b o e => (e0.bs b o e).1
 have hkind : ∀ y ∈ ps.zip us, scope.names.lookup y.1 = some .local ∨ (scope.names.lookup y.1 = some .cell ∧ ((cellsFrom (s.heap.objs.size + 1) scope.names []).lookup y.1).isSome = true) := fun ⟨n, v⟩ hy => by
  rcases S.par n (List.of_mem_zip hy).1 with q | q
  ·exact .inl q
  ·exact .inr ⟨q, PySem.W.cellsFrom_some _ _ _ (.inl q)⟩
 refine codeAny_call_function hr.depth (KX _ _ lk) rfl S.co S.gen rfl (PySem.W.codeRec_of KX hcd) (hb _ _ _ _ ?_)
 refine wpAny_newFunctionEnv_cells S.kind hkind fun env he s1 x => ?_
 subst he
 refine ⟨lim.keeps x.toInCall.keep, codeAny_func ?_⟩
 obtain ⟨t, ht, hq⟩ := hbody A outer s H vs Q E (hr.deeper _) hsp
 have I : Inv (cxOf CX P w K mg base N qual scope f cdv A outer s H E) [] (start N vs) H s1 := inv_start S hr.hd e0 hl r x
 refine wpAny_mono (ht [] s1 (start N vs) H _ I hq) (fun fl s' hs => ?_) fun e s' hs => hs
 have fin : ∀ {σ' : St} {H' : Hp} {v : V} {u : Value}, Inv (cxOf CX P w K mg base N qual scope f cdv A outer s H E) [] σ' H' s' → RelV v u → Q v H' → CE outer P w H s Q u s' :=
  fun {σ' H' v u} J rv q => ⟨v, H', J.os, J.bare, J.base, J.hok, rv, q⟩
 cases fl with
 | ret u =>
  obtain ⟨v, σ', H', J, rv, q⟩ := hs
  exact fin J rv q
 | next =>
  obtain ⟨σ', H', J, q⟩ := hs
  exact fin (v := V.non) (u := Value.none) J rfl q
 | brk =>
  obtain ⟨_, _, _, q⟩ := hs
  exact False.elim q
 | cont =>
  obtain ⟨_, _, _, q⟩ := hs
  exact False.elim q
end L2
namespace L2
open PySem PySem.Spec PyProof.Rows
section
variable {X : Cx} {x : Str} {p pos : Pos} {e : Expr} {es : List Expr} {t : TA} {id T : String} {r : List V → Hp → VK → Prop}
noncomputable def tCB (r : List V → Hp → VK → Prop) (t : TA) : TE := fun σ H Q => t σ H fun vs H1 => r vs H1 Q
theorem pe_callB (hc : CallR X (.builtin id) r) (hg : Gl X x) (hm : X.mg x = none) (hv : bootBuiltins x = some (.builtin id)) (ha : PA X (e :: es) t) (hn : x ≠ "__name__" := by decide) (hdb : (x == ("__debug__" : Str)) = false := by decide)
  (he : starEach (e :: es) X.env = (false, eval e X.env) :: starEach es X.env := by rfl) (hpl : (backTo pos (starEach es X.env)).any (·.1) = false := by rfl) : PE X (.Call (.Name x p) (e :: es) [] pos) (tCB r t) := by
 intro pins s σ H Q I h
 refine wpAny_Call_Name_kw (ld_blt I hg hm hv ?_ hn hdb)
 exact PyProof.Rows.callWith_builtin1 (thn (ha pos pins s σ H _ I h) fun us s1 ⟨vs, H1, I1, r1, q1⟩ => hc pins s1 σ H1 vs us Q I1 r1 q1) he hpl
theorem pe_callTy (hc : CallR X (.type T) r) (hg : Gl X x) (hm : X.mg x = none) (hv : bootBuiltins x = some (.type T)) (ha : PA X (e :: es) t) (hn : x ≠ "__name__" := by decide) (hdb : (x == ("__debug__" : Str)) = false := by decide)
  (he : starEach (e :: es) X.env = (false, eval e X.env) :: starEach es X.env := by rfl) (hpl : (backTo pos (starEach es X.env)).any (·.1) = false := by rfl) : PE X (.Call (.Name x p) (e :: es) [] pos) (tCB r t) := by
 intro pins s σ H Q I h
 refine wpAny_Call_Name_kw (ld_blt I hg hm hv ?_ hn hdb)
 exact PyProof.Rows.callWith_type1 (thn (ha pos pins s σ H _ I h) fun us s1 ⟨vs, H1, I1, r1, q1⟩ => hc pins s1 σ H1 vs us Q I1 r1 q1) he hpl
end
end L2
namespace HT
open PySem PyProof.Rows
section
open PySem.SeqAt
open PySem.AutoSeq1 (wpAny_loadPart')
open PySem.MeetsSeq PySem.MeetsSeq2 PySem.MeetsSeq3
end
section
variable {prog : Program} {w : World} {A : Around} {E : Value → Shared → Prop} {s : Shared}
theorem cat_tup {t b : Addr} {vs ws : List Value} {Q : Value → Shared → Prop} (ht : IsTup s.heap t vs.toArray) (hb : IsTup s.heap b ws.toArray) (hv : vs ≠ [])
  (h1 : ws = [] → Q (.ref t) s) (h2 : ws ≠ [] → Q (.ref s.heap.objs.size) { s with heap := s.heap.push { cls := .type "tuple", data := .seq (vs ++ ws).toArray } })
  (hsz : vs.length + ws.length ≤ sizeLine) : wpAny (model prog w) A (binaryOp .Add (.ref t) (.ref b)) Q E s := by
 obtain ⟨⟨cls, dd, data, sl⟩, ho, hc, n, hd⟩ := id ht
 obtain ⟨⟨cls2, dd2, data2, sl2⟩, ho2, hc2, n2, hd2⟩ := id hb
 simp only at hc hd hc2 hd2
 subst hc hd hc2 hd2
 have e : vs.toArray ++ ws.toArray = (vs ++ ws).toArray := by simp
 by_cases hw : ws = []
 ·exact concat_meets ⟨_, ho, rfl⟩ ⟨_, ho2, rfl⟩ noFill_tuple_add seq_tuple_add PySem.F.slot_tuple_add PySem.F.entry_tuple_add (PySem.F.args_tuple_add_2 _ _)
   (tuple_addW1 t b vs.toArray ws.toArray n n2 dd dd2 sl sl2 (by simpa using hv) (by simp [hw])) ⟨ho, ho2, h1 hw⟩
 ·refine concat_meets ⟨_, ho, rfl⟩ ⟨_, ho2, rfl⟩ noFill_tuple_add seq_tuple_add PySem.F.slot_tuple_add PySem.F.entry_tuple_add (PySem.F.args_tuple_add_2 _ _)
   (tuple_addW2 t b vs.toArray ws.toArray n n2 dd dd2 sl sl2 (by simpa using hv) (by simpa using hw) (by rw [List.size_toArray, List.size_toArray]; exact hsz)) ⟨ho, ho2, ?_⟩
  rw [e]
  exact h2 hw
noncomputable def sIx (n d : Nat) : Option Int → Nat
 | none => d
 | some v => if v < 0 then (v + (n : Int)).toNat else min v.toNat n
theorem sIx_none (n d : Nat) : sIx n d none = d := rfl
theorem sIx_nat (n d k : Nat) : sIx n d (some (k : Int)) = min k n := by
 show (if (k : Int) < 0 then ((k : Int) + (n : Int)).toNat else min (k : Int).toNat n) = min k n
 rw [if_neg (by omega), Int.toNat_natCast]
theorem sIx_le (n d : Nat) (hd : d ≤ n) (o : Option Int) : sIx n d o ≤ n := by
 cases o with
 | none => exact hd
 | some v =>
  show (if v < 0 then (v + (n : Int)).toNat else min v.toNat n) ≤ n
  by_cases hv : v < 0
  ·rw [if_pos hv]; omega
  ·rw [if_neg hv]; exact Nat.min_le_right _ _
theorem clip_eq (v : Int) (n d : Nat) : (if v < 0 then max (v + (n : Int)) 0 else min v (n : Int)) = ((sIx n d (some v) : Nat) : Int) := by
 show (if v < 0 then max (v + (n : Int)) 0 else min v (n : Int)) = (((if v < 0 then (v + (n : Int)).toNat else min v.toNat n) : Nat) : Int)
 by_cases hv : v < 0
 ·simp only [if_pos hv]; omega
 ·simp only [if_neg hv]; omega
theorem adjust_gen (lo hi : Option Int) (n : Nat) : Builtin.Slice.sliceAdjust lo hi 1 (n : Int) = (((sIx n 0 lo : Nat) : Int), ((sIx n n hi : Nat) : Int)) := by
 have h1 : ¬ ((1 : Int) < 0) := by omega
 unfold Builtin.Slice.sliceAdjust
 simp only [h1, if_false]
 refine Prod.ext ?_ ?_
 ·cases lo with
  | none => rfl
  | some v => exact clip_eq v n 0
 ·cases hi with
  | none => rfl
  | some v => exact clip_eq v n n
theorem places_gen (i j : Nat) : Builtin.Slice.slicePlaces (i : Int) (j : Int) 1 = j - i := by
 unfold Builtin.Slice.slicePlaces
 have h1 : (1 : Int) > 0 := by omega
 simp only [h1, if_true, Int.ediv_one]
 split <;> omega
theorem slicePart_ {v : Value} {o : Option Int} {Q : Option Int → Shared → Prop} (p : IsPart v o) (h : Q o s) : wpAny (model prog w) A (Builtin.Slice.slicePartIndex v) Q E s := by
 cases p with
 | none => exact slicePart_none h
 | int i t => exact slicePart_int h
theorem sliceApplied_gen {sl : Addr} {vl vu : Value} {lo hi : Option Int} {n : Nat} {Q : Int × Int × Nat → Shared → Prop} (hs : s.heap.IsSliceOf sl vl vu .none) (pl : IsPart vl lo) (pu : IsPart vu hi)
  (h : Q (((sIx n 0 lo : Nat) : Int), 1, sIx n n hi - sIx n 0 lo) s) : wpAny (model prog w) A (Builtin.Slice.sliceApplied (.ref sl) (pure (n : Int))) Q E s := by
 obtain ⟨os, hos, hcs, hds⟩ := id hs
 unfold Builtin.Slice.sliceApplied Builtin.Slice.sliceFields
 refine wpAny_bind (wpAny_bind (wpAny_field hos hds (x := vl) rfl (wpAny_bind (wpAny_field hos hds (x := vu) rfl (wpAny_bind (wpAny_field hos hds (x := .none) rfl (wpAny_pure ?_)))))))
 refine wpAny_bind (slicePart_none ?_)
 show wpAny _ _ (if ((1 : Int) == 0) = true then _ else _) _ _ s
 rw [if_neg (by decide)]
 refine wpAny_bind (slicePart_ pl (wpAny_bind (slicePart_ pu (wpAny_bind (wpAny_pure ?_)))))
 show wpAny _ _ (match Builtin.Slice.sliceAdjust lo hi 1 (n : Int) with | (lo, hi) => pure (lo, (1 : Int), Builtin.Slice.slicePlaces lo hi 1)) _ _ s
 rw [adjust_gen lo hi n]
 show wpAny _ _ (pure (((sIx n 0 lo : Nat) : Int), (1 : Int), Builtin.Slice.slicePlaces ((sIx n 0 lo : Nat) : Int) ((sIx n n hi : Nat) : Int) 1)) _ _ s
 rw [places_gen]
 exact wpAny_pure h
theorem pick_gen (xs : Array Value) (i k : Nat) : ((List.range k).filterMap fun (m : Nat) => xs[((i : Int) + (m : Int) * 1).toNat]?).toArray = ((xs.toList.drop i).take k).toArray := by
 have e : (fun (m : Nat) => xs[((i : Int) + (m : Int) * 1).toNat]?) = fun m => xs[i + m]? := by
  funext m
  have : ((i : Int) + (m : Int) * 1).toNat = i + m := by omega
  rw [this]
 rw [e]
 have := pick_run xs i k
 rw [List.filterMap_map] at this
 have e2 : ((fun x => xs[x]?) ∘ fun x => i + x) = fun m => xs[i + m]? := rfl
 rw [e2] at this
 rw [this]
theorem getItem_tuple_cut {t sl : Addr} {items : Array Value} {vl vu : Value} {lo hi : Option Int} {Q : Value → Shared → Prop} (ht : IsTup s.heap t items) (hs : s.heap.IsSliceOf sl vl vu .none) (pl : IsPart vl lo) (pu : IsPart vu hi)
  (hw : ¬ (sIx items.size 0 lo = 0 ∧ sIx items.size items.size hi = items.size))
  (h : Q (.ref s.heap.objs.size) { s with heap := s.heap.push { cls := .type "tuple", data := .seq ((items.toList.drop (sIx items.size 0 lo)).take (sIx items.size items.size hi - sIx items.size 0 lo)).toArray } })
  (hsz : items.size ≤ sizeLine) : wpAny (model prog w) A (getItem (.ref t) (.ref sl)) Q E s := by
 have htake : sizeOk (.seq ((items.toList.drop (sIx items.size 0 lo)).take (sIx items.size items.size hi - sIx items.size 0 lo)).toArray) := by
  show ((items.toList.drop (sIx items.size 0 lo)).take (sIx items.size items.size hi - sIx items.size 0 lo)).toArray.size ≤ sizeLine
  rw [List.size_toArray, List.length_take, List.length_drop, Array.length_toList]
  omega
 have hj : sIx items.size items.size hi ≤ items.size := sIx_le _ _ (Nat.le_refl _) hi
 obtain ⟨os, hos, hcs, hds⟩ := id hs
 have hTs : s.TypeIs (.ref sl) "slice" := ⟨os, hos, hcs⟩
 unfold getItem
 try with_reducible refine wpAny_holding ?_
 first | refine wpAny_bind (wpAny_pure ?_) | skip
 refine wpAny_bind (wpAny_sequenceKey ht.typeIs (by decide) ?_)
 refine wpAny_bind (wpAny_callSpecial?_slot (name := Str.ofString "__getitem__") ht.typeIs PyProof.Rows.slot_tuple_getitem
  (wpAny_call_entry PyProof.Rows.slot_tuple_getitem ht.typeIs entry_tuple_getitem ?_ (args_tuple_getitem _ _)))
 show wpAny _ _ (Builtin.Tuple.tupleItemsOf (.ref t) >>= _) _ _ s
 refine wpAny_bind (tupleItemsOf_ ht ?_)
 refine wpAny_bind (wpAny_typeOf hTs ?_)
 rw [if_pos (by decide)]
 refine wpAny_bind (sliceApplied_gen hs pl pu ?_)
 have hno : ¬ ((((sIx items.size 0 lo : Nat) : Int) == 0 && (1 : Int) == 1 && (sIx items.size items.size hi - sIx items.size 0 lo) == items.size) = true) := by
  intro q
  rw [Bool.and_eq_true, Bool.and_eq_true] at q
  have q1 : ((sIx items.size 0 lo : Nat) : Int) = 0 := eq_of_beq q.1.1
  have q2 : sIx items.size items.size hi - sIx items.size 0 lo = items.size := eq_of_beq q.2
  exact hw ⟨by omega, by omega⟩
 show wpAny _ _ (if (((sIx items.size 0 lo : Nat) : Int) == 0 && (1 : Int) == 1 && (sIx items.size items.size hi - sIx items.size 0 lo) == items.size) = true then _ else _) _ _ s
 rw [if_neg hno, pick_gen]
 first
  | exact wpAny_bind (m := Builtin.Tuple.tupleExact _) (wpAny_newObj_type (wpAny_pure ⟨_, rfl, wpAny_pure h⟩) htake)
  | exact wpAny_bind (m := Builtin.Tuple.tupleExact _) (wpAny_newObj_type (wpAny_bind (wpAny_pure (wpAny_pure ⟨_, rfl, wpAny_pure h⟩))) htake)
  | exact wpAny_bind (wpAny_bind (m := Builtin.Tuple.tupleExact _) (wpAny_newObj_type (wpAny_pure (wpAny_pure ⟨_, rfl, wpAny_pure h⟩)) htake))
  | exact wpAny_bind (wpAny_bind (m := Builtin.Tuple.tupleExact _) (wpAny_newObj_type (wpAny_pure ⟨_, rfl, wpAny_pure h⟩) htake))
end
end HT
namespace L2
open PySem PySem.Spec PyProof.Rows
noncomputable abbrev TO := St → Hp → (Option Int → Hp → Prop) → Prop
noncomputable def PO (X : Cx) (e : Option Expr) (t : TO) : Prop :=
 ∀ (pins : List (Addr × Obj)) (s : Shared) (σ : St) (H : Hp) (Q : Option Int → Hp → Prop), Inv X pins σ H s → t σ H Q →
  wpAny (model X.prog X.w) X.A (evalPart e X.env) (fun u s' => ∃ o H', Inv X pins σ H' s' ∧ IsPart u o ∧ Q o H') X.xe s
noncomputable def tNoPart : TO := fun _ H Q => Q none H
noncomputable def tPart (t : TE) : TO := fun σ H Q => t σ H fun x H1 => ∃ i, x = .int i ∧ Q (some i) H1
section
variable {X : Cx} {e : Expr} {te : TE} {lo hi : Option Expr} {tl th : TO} {pos p2 : Pos}
theorem po_none : PO X none tNoPart := by
 intro pins s σ H Q I h
 rw [evalPart_none]
 exact wpAny_pure ⟨none, H, I, .none, h⟩
theorem po_some (h : PE X e te) : PO X (some e) (tPart te) := by
 intro pins s σ H Q I hw
 rw [evalPart_some]
 refine thn (h pins s σ H _ I hw) fun u s1 ⟨x, H1, I1, r1, q1⟩ => ?_
 obtain ⟨i, rfl, q⟩ := q1
 obtain ⟨t, rfl⟩ := r1
 exact ⟨some i, H1, I1, .int i t, q⟩
noncomputable def SlR (X : Cx) (r : V → Option Int → Option Int → Hp → VK → Prop) : Prop :=
 ∀ (pins : List (Addr × Obj)) (s : Shared) (σ : St) (H : Hp) (x : V) (v vl vu : Value) (lo hi : Option Int) (sl : Addr) (Q : VK), Inv X pins σ H s → RelV x v → s.heap.IsSliceOf sl vl vu .none → IsPart vl lo → IsPart vu hi → r x lo hi H Q →
  ∃ T id, typeLookup (.type T) "__getitem__" = pure (some (.builtin id)) ∧ s.TypeIs v T ∧ wpAny (model X.prog X.w) X.A (getItem v (.ref sl)) (EP X pins σ Q) X.xe s
theorem SlR.or {r r' : V → Option Int → Option Int → Hp → VK → Prop} (h : SlR X r) (h' : SlR X r') : SlR X (fun x lo hi H Q => r x lo hi H Q ∨ r' x lo hi H Q) := by
 intro pins s σ H x v vl vu lo hi sl Q I rx hs pl pu q
 rcases q with q | q
 ·exact h pins s σ H x v vl vu lo hi sl Q I rx hs pl pu q
 ·exact h' pins s σ H x v vl vu lo hi sl Q I rx hs pl pu q
noncomputable def tSl (r : V → Option Int → Option Int → Hp → VK → Prop) (te : TE) (tl th : TO) : TE := fun σ H Q => te σ H fun x H1 => tl σ H1 fun l H2 => th σ H2 fun u H3 => r x l u H3 Q
theorem pe_slice {r : V → Option Int → Option Int → Hp → VK → Prop} (hr : SlR X r) (he : PE X e te) (hl : PO X lo tl) (hu : PO X hi th) : PE X (.Subscript e (.Slice lo hi none p2) pos) (tSl r te tl th) := by
 intro pins s σ H Q I h
 refine Subscript_ (thn (he pins s σ H _ I h) fun v s1 ⟨x, H1, I1, r1, q1⟩ => ?_)
 refine wpAny_Slice (thn (hl pins s1 σ H1 _ I1 q1) fun vl s2 ⟨l, H2, I2, pl, q2⟩ => thn (hu pins s2 σ H2 _ I2 q2) fun vu s3 ⟨u, H3, I3, pu, q3⟩ => ?_)
 rw [evalPart_none]
 refine wpAny_pure ?_
 have I4 : Inv X pins σ H3 { s3 with heap := s3.heap.push { cls := .type "slice", data := .fields #[vl, vu, .none] } } := I3.kept (t' := s3.toks) fun b ob q => Heap.get?_push_of_some _ q
 obtain ⟨T, id, hT, ht, hg⟩ := hr pins { s3 with heap := s3.heap.push { cls := .type "slice", data := .fields #[vl, vu, .none] } } σ H3 x v vl vu l u s3.heap.objs.size Q I4 r1 (Heap.IsSliceOf.new ..) pl pu q3
 show wpAny (model X.prog X.w) X.A (subscriptTail e (.Slice lo hi none p2) v (.ref s3.heap.objs.size)) (EP X pins σ Q) X.xe { s3 with heap := s3.heap.push { cls := .type "slice", data := .fields #[vl, vu, .none] } }
 exact tail_any (ops := [.ref s3.heap.objs.size, v]) ht hT hg (by with_unfolding_all rfl)
noncomputable def cutV (xs : List V) (lo hi : Option Int) : List V := (xs.drop (HT.sIx xs.length 0 lo)).take (HT.sIx xs.length xs.length hi - HT.sIx xs.length 0 lo)
theorem cutV_length (xs : List V) (lo hi : Option Int) : (cutV xs lo hi).length ≤ xs.length := by
 unfold cutV
 rw [List.length_take, List.length_drop]
 omega
noncomputable def rSlT (K : PySem.W.Frag) : V → Option Int → Option Int → Hp → VK → Prop := fun x lo hi H Q => ∃ a xs, x = .ref a ∧ SqT K H a xs ∧
 ¬ (HT.sIx xs.length 0 lo = 0 ∧ HT.sIx xs.length xs.length hi = xs.length) ∧ ∀ p, H p = none → Q (.ref p) (upd H p (.tup (cutV xs lo hi)))
theorem sl_tup : SlR X (rSlT X.K) := by
 intro pins s σ H x v vl vu lo hi sl Q I rx hs pl pu h
 obtain ⟨a, xs, rfl, hx, hw, q⟩ := h
 cases rx
 obtain ⟨its, r, ht, hz⟩ := I.tuple hx
 have hlen : its.toArray.size = xs.length := by rw [List.size_toArray]; exact r.length.symm
 refine ⟨"tuple", _, PyProof.Rows.slot_tuple_getitem.lookup, ht.typeIs, ?_⟩
 refine HT.getItem_tuple_cut ht hs pl pu (by rw [hlen]; exact hw) ?_ (by rw [hlen]; exact hz)
 rw [hlen]
 refine ⟨.ref s.heap.objs.size, _, I.laid (t' := s.toks) (o := .tup (cutV xs lo hi)) (fun b ob q => Heap.get?_push_of_some _ q) (Nat.le_refl _) ?_, rfl, q _ (I.hok.fresh (Nat.le_refl _))⟩
 exact ⟨Nat.le_trans (cutV_length xs lo hi) hz, _, (r.drop (HT.sIx xs.length 0 lo)).take (HT.sIx xs.length xs.length hi - HT.sIx xs.length 0 lo), IsTup.new _ _⟩
noncomputable def rCatT (K : PySem.W.Frag) : R2 := fun x y H Q => ∃ a b xs ys, x = .ref a ∧ y = .ref b ∧ SqT K H a xs ∧ SqT K H b ys ∧ xs ≠ [] ∧ xs.length + ys.length ≤ sizeLine ∧
 (ys = [] → Q (.ref a) H) ∧ (ys ≠ [] → ∀ p, H p = none → Q (.ref p) (upd H p (.tup (xs ++ ys))))
theorem Vals.nil_iff {xs : List V} {us : List Value} (r : Vals xs us) : us = [] ↔ xs = [] := by
 cases r with
 | nil => simp
 | cons _ _ => simp
theorem op_catT : OpR X (binaryOp .Add) (rCatT X.K) := by
 intro pins s σ H x y v u Q I rx ry h
 obtain ⟨a, b, xs, ys, rfl, rfl, ha, hb, hx, hz, q1, q2⟩ := h
 cases rx
 cases ry
 obtain ⟨its, r1, p1, _⟩ := I.tuple ha
 obtain ⟨its2, r2, p2, _⟩ := I.tuple hb
 refine HT.cat_tup p1 p2 (fun z => hx (r1.nil_iff.mp z)) (fun z => ⟨.ref a, H, I, rfl, q1 (r2.nil_iff.mp z)⟩) (fun z => ?_) (by rw [← r1.length, ← r2.length]; exact hz)
 refine ⟨.ref s.heap.objs.size, _, I.laid (t' := s.toks) (o := .tup (xs ++ ys)) (fun b ob q => Heap.get?_push_of_some _ q) (Nat.le_refl _) ?_, rfl, q2 (fun w => z (r2.nil_iff.mpr w)) _ (I.hok.fresh (Nat.le_refl _))⟩
 exact ⟨by rw [List.length_append]; exact hz, _, r1.append r2, IsTup.new _ _⟩
end
end L2
namespace L2
open PySem PySem.Spec PyProof.Rows
noncomputable def ixN (n : Nat) (i : Int) : Option Nat := if 0 ≤ i then (if i < n then some i.toNat else none) else if -(n : Int) ≤ i then some (i + n).toNat else none
noncomputable def atI {α : Type} (xs : List α) (i : Int) : Option α := (ixN xs.length i).bind fun j => xs[j]?
theorem ixN_seq {n : Nat} {i : Int} {j : Nat} (h : ixN n i = some j) : seqIndex? i n = some j ∧ j < n ∧ -(n : Int) ≤ i ∧ i < n := by
 unfold ixN at h
 by_cases h0 : 0 ≤ i
 ·rw [if_pos h0] at h
  by_cases h1 : i < n
  ·rw [if_pos h1] at h
   have e : i.toNat = j := Option.some.inj h
   exact ⟨by rw [seqIndex_of h0 h1, e], by omega, by omega, h1⟩
  ·rw [if_neg h1] at h; cases h
 ·rw [if_neg h0] at h
  by_cases h1 : -(n : Int) ≤ i
  ·rw [if_pos h1] at h
   have e : (i + n).toNat = j := Option.some.inj h
   exact ⟨by rw [seqIndex_neg (by omega) h1, e], by omega, h1, by omega⟩
  ·rw [if_neg h1] at h; cases h
theorem atI_get {α : Type} {xs : List α} {i : Int} {v : α} (h : atI xs i = some v) : ∃ j, seqIndex? i xs.length = some j ∧ xs[j]? = some v ∧ j < xs.length ∧ -(xs.length : Int) ≤ i ∧ i < xs.length := by
 unfold atI at h
 cases e : ixN xs.length i with
 | none => rw [e] at h; cases h
 | some j =>
  rw [e] at h
  obtain ⟨h1, h2, h3, h4⟩ := ixN_seq e
  exact ⟨j, h1, h, h2, h3, h4⟩
theorem atI_nat {α : Type} {xs : List α} {j : Nat} {v : α} (h : xs[j]? = some v) : atI xs (j : Int) = some v := by
 have hj : j < xs.length := (List.getElem?_eq_some_iff.mp h).1
 have e : ixN xs.length (j : Int) = some j := by
  unfold ixN
  rw [if_pos (by omega), if_pos (by omega)]; simp
 unfold atI; rw [e]; exact h
noncomputable def PlainIx (b : Expr) : Prop := ∀ o i, subscripted b false o i = operate [o, i] (getItem o i)
noncomputable def IxR (X : Cx) (r : R2) : Prop :=
 ∀ (value slice : Expr) (pins : List (Addr × Obj)) (s : Shared) (σ : St) (H : Hp) (x y : V) (v u : Value) (Q : VK), Inv X pins σ H s → RelV x v → RelV y u → r x y H Q →
  subscripted slice false v u = operate [v, u] (getItem v u) → wpAny (model X.prog X.w) X.A (subscriptTail value slice v u) (EP X pins σ Q) X.xe s
noncomputable def MtR (X : Cx) (id : String) (r : V → List V → Hp → VK → Prop) : Prop :=
 ∀ (pins : List (Addr × Obj)) (s : Shared) (σ : St) (H : Hp) (x : V) (xs : List V) (v : Value) (us : List Value) (Q : VK), Inv X pins σ H s → RelV x v → Vals xs us → r x xs H Q →
  wpAny (model X.prog X.w) X.A (call (.builtin id) (v :: us)) (EP X pins σ Q) X.xe s
section
variable {X : Cx} {a b : Expr} {ta tb : TE} {pos : Pos}
theorem IxR.or {r r' : R2} (h : IxR X r) (h' : IxR X r') : IxR X (fun x y H Q => r x y H Q ∨ r' x y H Q) := by
 intro value slice pins s σ H x y v u Q I rx ry q hs
 rcases q with q | q
 ·exact h value slice pins s σ H x y v u Q I rx ry q hs
 ·exact h' value slice pins s σ H x y v u Q I rx ry q hs
theorem pe_ix {r : R2} (hr : IxR X r) (ha : PE X a ta) (hb : PE X b tb) (hs : PlainIx b) : PE X (.Subscript a b pos) (tOp r ta tb) := by
 intro pins s σ H Q I h
 exact Subscript_ (binT ha hb I h fun v u s2 x y H2 I2 rx ry q => hr a b pins s2 σ H2 x y v u Q I2 rx ry q (hs _ _))
noncomputable def rIxL (K : PySem.W.Frag) : R2 := fun x y H Q => ∃ p xs i v, x = .ref p ∧ y = .int i ∧ SqL K H p xs ∧ atI xs i = some v ∧ Q v H
noncomputable def rIxT (K : PySem.W.Frag) : R2 := fun x y H Q => ∃ p xs i v, x = .ref p ∧ y = .int i ∧ SqT K H p xs ∧ atI xs i = some v ∧ Q v H
noncomputable def rIxS : R2 := fun x y H Q => ∃ z i c, x = .str z ∧ y = .int i ∧ z.length ≤ sizeLine ∧ atI z.cps.toList i = some c ∧ Q (.str ⟨#[c]⟩) H
theorem ix_list : IxR X (rIxL X.K) := by
 intro value slice pins s σ H x y v u Q I rx ry h hs
 obtain ⟨p, xs, i, z, rfl, rfl, hq, he, q⟩ := h
 cases rx
 obtain ⟨t, rfl⟩ := ry
 obtain ⟨its, r, pl, hz⟩ := I.list hq
 obtain ⟨j, h1, h2, h3, h4, h5⟩ := atI_get he
 obtain ⟨w, ew, rw'⟩ := r.get h2
 have hl := r.length
 have hn := line63
 have fin : EP X pins σ Q w s := ⟨z, H, I, rw', q⟩
 by_cases h0 : 0 ≤ i
 ·have hj : i.toNat = j := by
   rw [seqIndex_of h0 h5] at h1
   exact Option.some.inj h1
  exact item_listR pl.isList h0 (by omega) (by rw [hj]; simpa using ew) fin hs
 ·have hj : (i + (its.toArray.size : Int)).toNat = j := by
   rw [seqIndex_neg (by omega) h4] at h1
   rw [List.size_toArray, ← hl]
   exact Option.some.inj h1
  exact subscriptTail_builtinR (x := w) pl.isList.typeIs slot_list_getitem.lookup
   (wpAny_getItem_list_neg (Q := fun r s' => r = w ∧ EP X pins σ Q r s') pl.isList (by omega) (by rw [List.size_toArray] <;> omega) (by omega) (by rw [hj]; simpa using ew) ⟨rfl, fin⟩) hs
theorem ix_tup : IxR X (rIxT X.K) := by
 intro value slice pins s σ H x y v u Q I rx ry h hs
 obtain ⟨p, xs, i, z, rfl, rfl, hq, he, q⟩ := h
 cases rx
 obtain ⟨t, rfl⟩ := ry
 obtain ⟨its, r, pl, hz⟩ := I.tuple hq
 obtain ⟨j, h1, h2, h3, h4, h5⟩ := atI_get he
 obtain ⟨w, ew, rw'⟩ := r.get h2
 have hl := r.length
 have hn := line63
 have fin : EP X pins σ Q w s := ⟨z, H, I, rw', q⟩
 exact subscriptTail_builtinR (x := w) pl.typeIs slot_tuple_getitem.lookup
  (getItem_tuple (j := j) (Q := fun r s' => r = w ∧ EP X pins σ Q r s') pl (by omega) (by omega) (by rw [List.size_toArray, ← hl]; exact h1) (by simpa using ew) ⟨rfl, fin⟩) hs
theorem ix_str : IxR X rIxS := by
 intro value slice pins s σ H x y v u Q I rx ry h hs
 obtain ⟨z, i, c, rfl, rfl, hz, he, q⟩ := h
 obtain ⟨t, rfl⟩ := rx
 obtain ⟨t', rfl⟩ := ry
 obtain ⟨j, h1, h2, h3, h4, h5⟩ := atI_get he
 have hl : z.cps.toList.length = z.length := by simp [Str.length]
 rw [hl] at h1 h4 h5
 have hn := line63
 exact tail_any (typeIs_str s z t) slot_str_getitem.lookup (getItem_str (c := c) (by
  have e1 : decide (i < -(2 ^ 63 : Int)) = false := decide_eq_false (by omega)
  have e2 : decide (i ≥ 2 ^ 63) = false := decide_eq_false (by omega)
  rw [e1, e2, Bool.or_false]) (by rw [h1]; simpa using h2) ⟨.str ⟨#[c]⟩, H, I.tok _, ⟨_, rfl⟩, q⟩) hs
noncomputable def rIx (K : PySem.W.Frag) : R2 := fun x y H Q => rIxL K x y H Q ∨ rIxT K x y H Q ∨ rIxS x y H Q
theorem ix_seq : IxR X (rIx X.K) := ix_list.or (ix_tup.or ix_str)
theorem mapSeq_set (its : List Value) (n j : Nat) (u : Value) : Obj.mapSeq (·.setIfInBounds j u) { cls := .type "list", data := .seq its.toArray n } = { cls := .type "list", data := .seq (its.set j u).toArray n } := by
 simp [Obj.mapSeq]
theorem Inv.lst {pins : List (Addr × Obj)} {σ : St} {H : Hp} {s : Shared} {p : Addr} {xs : List V} (I : Inv X pins σ H s) (h : H p = some (.lst xs)) :
  ∃ (its : List Value) (n : Nat), Vals xs its ∧ s.heap.get? p = some { cls := .type "list", data := .seq its.toArray n } ∧ xs.length ≤ sizeLine := by
 obtain ⟨z, its, n, r, e⟩ := I.hok p _ h
 exact ⟨its, n, r, e, z⟩
theorem Inv.lstUpd {pins : List (Addr × Obj)} {σ : St} {H : Hp} {s : Shared} {p : Addr} {xs ys : List V} {its its' : List Value} {n n' : Nat} {f : Obj → Obj} (I : Inv X pins σ H s) (h : H p = some (.lst xs))
  (ho : s.heap.get? p = some { cls := .type "list", data := .seq its.toArray n }) (hf : f { cls := .type "list", data := .seq its.toArray n } = { cls := .type "list", data := .seq its'.toArray n' }) (r : Vals ys its') (hz : ys.length ≤ sizeLine) (t : Nat) :
  Inv X pins σ (upd H p (.lst ys)) { s with heap := s.heap.update p f, toks := t } := by
 have e : (s.heap.update p f).get? p = some { cls := .type "list", data := .seq its'.toArray n' } := by
  rw [Heap.get?_update_self f ho (by rw [hf] <;> rfl), hf]
 refine I.write (x := p) (e := p) (by rw [h]; trivial) (.inl rfl) (fun b u hb q => (Heap.get?_update_other _ _ (Ne.symm hb)).trans q) ⟨_, e⟩ ?_
 exact ⟨hz, its', n', r, e⟩
noncomputable def rSetL : V → V → V → Hp → (Hp → Prop) → Prop := fun o i v H Q => ∃ p xs k j, o = .ref p ∧ i = .int k ∧ H p = some (.lst xs) ∧ ixN xs.length k = some j ∧ Q (upd H p (.lst (xs.set j v)))
theorem set_list : PSet X rSetL := by
 intro pins s σ H o i v ov iv u Q I ro ri rv h
 obtain ⟨p, xs, k, j, rfl, rfl, hp, hj, q⟩ := h
 cases ro
 obtain ⟨t, rfl⟩ := ri
 obtain ⟨its, n, r, ho, hz⟩ := I.lst hp
 obtain ⟨h1, h2, h3, h4⟩ := ixN_seq hj
 have hl := r.length
 have hn := line63
 have I' : Inv X pins σ (upd H p (.lst (xs.set j v))) { s with heap := s.heap.update p (Obj.mapSeq (·.setIfInBounds j u)) } :=
  I.lstUpd hp ho (mapSeq_set its n j u) (r.set rv j) (by rw [List.length_set]; exact hz) s.toks
 by_cases h0 : 0 ≤ k
 ·have hk : k.toNat = j := by
   rw [seqIndex_of h0 h4] at h1
   exact Option.some.inj h1
  exact PySem.W.ki_setAt ho h0 (by omega) (by rw [List.size_toArray, ← hl]; exact h4) (by rw [hk]; exact ⟨_, I', q⟩)
 ·have hk : (k + (its.toArray.size : Int)).toNat = j := by
   rw [seqIndex_neg (by omega) h3] at h1
   rw [List.size_toArray, ← hl]
   exact Option.some.inj h1
  exact PySem.W.ki_setBack ho (by omega) (by rw [List.size_toArray, ← hl]; exact h3) (by omega) (by rw [hk]; exact ⟨_, I', q⟩)
theorem slice_bounds (lo hi : Option Int) (n : Nat) : (sliceBounds lo hi none n).1 = ((HT.sIx n 0 lo : Nat) : Int) ∧ (sliceBounds lo hi none n).2.1 = ((HT.sIx n n hi : Nat) : Int) ∧ (sliceBounds lo hi none n).2.2 = 1 := by
 refine ⟨?_, ?_, rfl⟩
 ·cases lo with
  | none => simp [sliceBounds, HT.sIx]
  | some i =>
   simp only [sliceBounds, HT.sIx, Option.getD_none, show (1 : Int) > 0 by decide, if_true]
   by_cases h : i < 0
   ·simp only [h, if_true] <;> omega
   ·simp only [h, if_false] <;> omega
 ·cases hi with
  | none => simp [sliceBounds, HT.sIx]
  | some i =>
   simp only [sliceBounds, HT.sIx, Option.getD_none, show (1 : Int) > 0 by decide, if_true]
   by_cases h : i < 0
   ·simp only [h, if_true] <;> omega
   ·simp only [h, if_false] <;> omega
theorem slicePick_cut (its : List Value) (lo hi : Option Int) : slicePick its.toArray lo hi none = ((its.drop (HT.sIx its.length 0 lo)).take (HT.sIx its.length its.length hi - HT.sIx its.length 0 lo)).toArray := by
 obtain ⟨h1, h2, h3⟩ := slice_bounds lo hi its.toArray.size
 unfold slicePick
 rw [h1, h2, h3]
 simp only [sliceRange_one, pick_run, List.size_toArray] <;> rfl
noncomputable def rSlL (K : PySem.W.Frag) : V → Option Int → Option Int → Hp → VK → Prop := fun x lo hi H Q => ∃ a xs, x = .ref a ∧ SqL K H a xs ∧ ∀ p, H p = none → Q (.ref p) (upd H p (.lst (cutV xs lo hi)))
theorem sl_list : SlR X (rSlL X.K) := by
 intro pins s σ H x v vl vu lo hi sl Q I rx hs pl pu h
 obtain ⟨a, xs, rfl, hx, q⟩ := h
 cases rx
 obtain ⟨its, r, ht, hz⟩ := I.list hx
 have hlen := r.length
 refine ⟨"list", _, slot_list_getitem.lookup, ht.isList.typeIs, ?_⟩
 refine wpAny_getItem_list_slice ht.isList hs pl pu .none (by simp) ?_ (by rw [List.size_toArray] <;> omega)
 rw [slicePick_cut, ← hlen]
 refine ⟨.ref s.heap.objs.size, _, I.laid (t' := s.toks) (o := .lst (cutV xs lo hi)) (fun b ob q => Heap.get?_push_of_some _ q) (Nat.le_refl _) ?_, rfl, q _ (I.hok.fresh (Nat.le_refl _))⟩
 exact ⟨Nat.le_trans (cutV_length xs lo hi) hz, _, 0, (r.drop (HT.sIx xs.length 0 lo)).take (HT.sIx xs.length xs.length hi - HT.sIx xs.length 0 lo), Heap.get?_push_size _ rfl⟩
noncomputable def flatV : V → Bool
 | .non => true
 | .bl _ => true
 | .int _ => true
 | .str _ => true
 | _ => false
noncomputable def eqV : V → V → Bool
 | .non, .non => true
 | .bl a, .bl b => a == b
 | .bl a, .int b => (if a then 1 else 0) == b
 | .int a, .bl b => a == (if b then 1 else 0)
 | .int a, .int b => a == b
 | .str a, .str b => a == b
 | _, _ => false
theorem eqAt_V {A : Around} {s : Shared} {y x : V} {u v : Value} (ry : RelV y u) (rx : RelV x v) (fy : flatV y = true) (fx : flatV x = true) : SeqAt.EqAt A s u v (eqV y x) := by
 cases y with
 | non =>
  cases ry
  cases x with
  | non => cases rx; exact SeqAt.EqAt.same _
  | bl b => cases rx; exact SeqAt.EqAt.none_bool b
  | int b => obtain ⟨t, rfl⟩ := rx; exact SeqAt.EqAt.none_int b t
  | str b => obtain ⟨t, rfl⟩ := rx; exact SeqAt.EqAt.none_str b t
  | _ => exact absurd (show false = true from fx) Bool.false_ne_true
 | bl a =>
  cases ry
  cases x with
  | non => cases rx; exact SeqAt.EqAt.bool_none a
  | bl b => cases rx; exact SeqAt.EqAt.bool_bool a b
  | int b => obtain ⟨t, rfl⟩ := rx; exact SeqAt.EqAt.bool_int a b t
  | str b => obtain ⟨t, rfl⟩ := rx; exact SeqAt.EqAt.bool_str a b t
  | _ => exact absurd (show false = true from fx) Bool.false_ne_true
 | int a =>
  obtain ⟨t', rfl⟩ := ry
  cases x with
  | non => cases rx; exact SeqAt.EqAt.int_none a t'
  | bl b => cases rx; exact SeqAt.EqAt.int_bool a t' b
  | int b => obtain ⟨t, rfl⟩ := rx; exact SeqAt.EqAt.int_int a t' b t
  | str b => obtain ⟨t, rfl⟩ := rx; exact SeqAt.EqAt.int_str a t' b t
  | _ => exact absurd (show false = true from fx) Bool.false_ne_true
 | str a =>
  obtain ⟨t', rfl⟩ := ry
  cases x with
  | non => cases rx; exact SeqAt.EqAt.str_none a t'
  | bl b => cases rx; exact SeqAt.EqAt.str_bool a t' b
  | int b => obtain ⟨t, rfl⟩ := rx; exact SeqAt.EqAt.str_int a t' b t
  | str b => obtain ⟨t, rfl⟩ := rx; exact SeqAt.EqAt.str_str a t' b t
  | _ => exact absurd (show false = true from fx) Bool.false_ne_true
 | _ => exact absurd (show false = true from fy) Bool.false_ne_true
noncomputable def eqU (x : V) (u : Value) : Bool := match u with
 | .none => eqV .non x
 | .bool b => eqV (.bl b) x
 | .int i _ => eqV (.int i) x
 | .str z _ => eqV (.str z) x
 | _ => false
theorem eqU_of {x y : V} {u : Value} (r : RelV y u) (f : flatV y = true) : eqU x u = eqV y x := by
 cases y with
 | non => cases r; rfl
 | bl b => cases r; rfl
 | int i => obtain ⟨t, rfl⟩ := r; rfl
 | str z => obtain ⟨t, rfl⟩ := r; rfl
 | _ => exact absurd (show false = true from f) Bool.false_ne_true
theorem any_eqU {x : V} : ∀ {xs : List V} {us : List Value}, Vals xs us → xs.all flatV = true → us.any (eqU x) = xs.any fun y => eqV y x
 | _, _, .nil, _ => rfl
 | y :: xs, u :: us, .cons r t, f => by
  rw [List.all_cons, Bool.and_eq_true] at f
  rw [List.any_cons, List.any_cons, eqU_of r f.1, any_eqU t f.2]
theorem mem_eqAt {A : Around} {s : Shared} {x : V} {v : Value} (rx : RelV x v) (fx : flatV x = true) : ∀ {xs : List V} {us : List Value}, Vals xs us → xs.all flatV = true → ∀ u ∈ us, SeqAt.EqAt A s u v (eqU x u)
 | _, _, .nil, _ => fun u hu => by cases hu
 | y :: xs, u :: us, .cons r t, f => fun u' hu => by
  rw [List.all_cons, Bool.and_eq_true] at f
  rcases List.mem_cons.mp hu with rfl | hu
  ·rw [eqU_of r f.1]; exact eqAt_V r rx f.1 fx
  ·exact mem_eqAt rx fx t f.2 u' hu
noncomputable def inV (x : V) (xs : List V) : Bool := xs.any fun y => eqV y x
noncomputable def rIn (K : PySem.W.Frag) (neg : Bool) : R2 := fun x y H Q => ∃ p xs, y = .ref p ∧ (SqL K H p xs ∨ SqT K H p xs) ∧ flatV x = true ∧ xs.all flatV = true ∧ Q (.bl (if neg then !inV x xs else inV x xs)) H
theorem op_in_seq : OpR X (compareOp .In) (rIn X.K false) := by
 intro pins s σ H x y v u Q I rx ry h
 obtain ⟨p, xs, rfl, hq, fx, fs, q⟩ := h
 cases ry
 rcases hq with hq | hq
 ·obtain ⟨its, r, pl, hz⟩ := I.list hq
  refine SeqAt.in_listAt (eqU x) pl.isList (fun w hw => mem_eqAt rx fx r fs w (by simpa using hw)) ⟨.bl _, H, I, rfl, ?_⟩
  rw [show its.toArray.any (eqU x) = its.any (eqU x) by simp, any_eqU r fs]
  exact q
 ·obtain ⟨its, r, pl, hz⟩ := I.tuple hq
  refine SeqAt.in_tupleAt (eqU x) pl (fun w hw => mem_eqAt rx fx r fs w (by simpa using hw)) ⟨.bl _, H, I, rfl, ?_⟩
  rw [show its.toArray.any (eqU x) = its.any (eqU x) by simp, any_eqU r fs]
  exact q
theorem op_notIn_seq : OpR X (compareOp .NotIn) (rIn X.K true) := by
 intro pins s σ H x y v u Q I rx ry h
 obtain ⟨p, xs, rfl, hq, fx, fs, q⟩ := h
 cases ry
 rcases hq with hq | hq
 ·obtain ⟨its, r, pl, hz⟩ := I.list hq
  refine SeqAt.notIn_listAt (eqU x) pl.isList (fun w hw => mem_eqAt rx fx r fs w (by simpa using hw)) ⟨.bl _, H, I, rfl, ?_⟩
  rw [show its.toArray.any (eqU x) = its.any (eqU x) by simp, any_eqU r fs]
  exact q
 ·obtain ⟨its, r, pl, hz⟩ := I.tuple hq
  refine SeqAt.notIn_tupleAt (eqU x) pl (fun w hw => mem_eqAt rx fx r fs w (by simpa using hw)) ⟨.bl _, H, I, rfl, ?_⟩
  rw [show its.toArray.any (eqU x) = its.any (eqU x) by simp, any_eqU r fs]
  exact q
theorem call_tuple_of : CallR X (.type "tuple") (fun xs H Q => ∃ p ys, xs = [.ref p] ∧ ((SqL X.K H p ys ∧ ∀ l, H l = none → Q (.ref l) (upd H l (.tup ys))) ∨ (SqT X.K H p ys ∧ Q (.ref p) H))) := by
 intro pins s σ H xs us Q I r h
 obtain ⟨p, ys, rfl, h⟩ := h
 obtain ⟨u, rfl, rx⟩ := vals1 r
 cases rx
 rcases h with ⟨hq, q⟩ | ⟨hq, q⟩
 ·obtain ⟨its, r', pl, hz⟩ := I.list hq
  have hlen := r'.length
  refine call_tuple_list pl.isList (fun h' kp => ?_) (by simp only [List.size_toArray] <;> omega)
  have I1 : Inv X pins σ H { s with heap := h' } := I.kept (t' := s.toks) kp
  have I2 : Inv X pins σ (upd H h'.objs.size (.tup ys)) { s with heap := h'.push { cls := .type "tuple", data := .seq its.toArray } } :=
   I1.laid (t' := s.toks) (fun b o e => Heap.get?_push_of_some _ e) (Nat.le_refl _) (show ObjOk X.prog X.w _ _ _ (.tup ys) from ⟨hz, its, r', IsTup.new _ _⟩)
  exact ⟨.ref h'.objs.size, _, I2, rfl, q _ (I1.hok.fresh (Nat.le_refl _))⟩
 ·obtain ⟨its, r', pl, hz⟩ := I.tuple hq
  exact call_tuple_same pl ⟨.ref p, H, I, rfl, q⟩
noncomputable def tyV (K : PySem.W.Frag) (T : String) (x : V) (H : Hp) : Prop := match x with
 | .str _ => T = "str"
 | .int _ => T = "int"
 | .ref p => (T = "list" ∧ ∃ xs, SqL K H p xs) ∨ (T = "tuple" ∧ ∃ o, K.lookup p = some o ∧ o.cls = .type "tuple" ∧ o.dict = none) ∨
   (T = "dict" ∧ ((∃ kvs, H p = some (.dK kvs)) ∨ ∃ kvs, H p = some (.dT kvs))) ∨ (T = "set" ∧ ∃ S n, H p = some (.set S n))
 | _ => False
theorem tyV_is {pins : List (Addr × Obj)} {σ : St} {H : Hp} {s : Shared} {T : String} {x : V} {v : Value} (I : Inv X pins σ H s) (r : RelV x v) (ty : tyV X.K T x H) :
  s.TypeIs v T ∧ ∀ a, v = .ref a → ∃ ob, s.heap.get? a = some ob ∧ ob.dict = none := by
 cases x with
 | str z =>
  obtain ⟨t, rfl⟩ := r
  cases (show T = "str" from ty)
  exact ⟨typeIs_str s z t, fun _ e => nomatch e⟩
 | int i =>
  obtain ⟨t, rfl⟩ := r
  cases (show T = "int" from ty)
  exact ⟨typeIs_int s i t, fun _ e => nomatch e⟩
 | ref p =>
  cases r
  rcases ty with ⟨rfl, xs, hq⟩ | ⟨rfl, o, hk, hc, hd⟩ | ⟨rfl, hk⟩ | ⟨rfl, S, n, hk⟩
  ·obtain ⟨its, _, pl, _⟩ := I.list hq
   refine ⟨pl.isList.typeIs, fun a e => ?_⟩
   cases e
   obtain ⟨o, n, e, c, hd, _⟩ := pl
   exact ⟨o, e, hd⟩
  ·refine ⟨⟨o, I.kIn p o hk, hc⟩, fun a e => ?_⟩
   cases e
   exact ⟨o, I.kIn _ o hk, hd⟩
  ·have z : ∃ o, s.heap.get? p = some o ∧ o.ExactDict := by
    rcases hk with ⟨kvs, hk⟩ | ⟨kvs, hk⟩
    ·obtain ⟨_, _, _, _, o, _, _, e, ex, _⟩ := I.hok p _ hk
     exact ⟨o, e, ex⟩
    ·obtain ⟨_, _, _, _, o, _, _, e, ex, _⟩ := I.hok p _ hk
     exact ⟨o, e, ex⟩
   obtain ⟨o, e, ex⟩ := z
   refine ⟨⟨o, e, ex.1⟩, fun a e2 => ?_⟩
   cases e2
   exact ⟨o, e, ex.2.1⟩
  ·obtain ⟨o, _, _, _, e, ex, _⟩ := I.hok p _ hk
   refine ⟨⟨o, e, ex.1⟩, fun a e2 => ?_⟩
   cases e2
   exact ⟨o, e, ex.2.1⟩
 | _ => exact False.elim ty
noncomputable def tBM0 (K : PySem.W.Frag) (T : String) (r : V → List V → Hp → VK → Prop) (to : TE) : TE := fun σ H Q => to σ H fun x H1 => tyV K T x H1 ∧ r x [] H1 Q
noncomputable def tBM (K : PySem.W.Frag) (T : String) (r : V → List V → Hp → VK → Prop) (to : TE) (t : TA) : TE := fun σ H Q => to σ H fun x H1 => tyV K T x H1 ∧ t σ H1 fun xs H2 => r x xs H2 Q
variable {o e : Expr} {es : List Expr} {to : TE} {t : TA} {name : Str} {apos cpos : Pos} {T id : String} {r : V → List V → Hp → VK → Prop}
theorem pe_bm0 (pa : PlainAttrs T) (slot : Slot T name id) (hty : typeOf (.builtin id) = pure (.type "method_descriptor")) (hm : MtR X id r) (ho : PE X o to)
  (hbase : attributeBase o name X.env (eval o X.env) = eval o X.env := by rfl) (hline : (apos.endLine == cpos.line) = true := by rfl) : PE X (.Call (.Attribute o name apos) [] [] cpos) (tBM0 X.K T r to) := by
 intro pins s σ H Q I h
 refine wpAny_Call_method0_late hbase hline (thn (ho pins s σ H _ I h) fun v s1 ⟨x, H1, I1, r1, ty, q1⟩ => ?_)
 obtain ⟨h1, h2⟩ := tyV_is I1 r1 ty
 exact ⟨T, id, pa, slot, hty, h1, h2, Calls.callWith_builtin rfl (PySem.evalArgs_none (hm pins s1 σ H1 x [] v [] Q I1 r1 .nil q1))⟩
theorem pe_bm (pa : PlainAttrs T) (slot : Slot T name id) (hty : typeOf (.builtin id) = pure (.type "method_descriptor")) (hm : MtR X id r) (ho : PE X o to) (ha : PA X (e :: es) t)
  (hbase : attributeBase o name X.env (eval o X.env) = eval o X.env := by rfl)
  (hfew : ((backTo cpos (starEach (e :: es) X.env)).all (fun x => !x.1) && (backToKw cpos (keywordEach [] X.env)).all (fun x => x.1.isSome)
   && decide ((e :: es).length + ([] : List Keyword).length + (if ([] : List Keyword).isEmpty then 0 else 1) < 30)) = true := by rfl)
  (hline : (apos.endLine == cpos.line) = true := by rfl) (hs : starEach (e :: es) X.env = (false, eval e X.env) :: starEach es X.env := by rfl) (hplain : (backTo cpos (starEach es X.env)).any (·.1) = false := by rfl) :
  PE X (.Call (.Attribute o name apos) (e :: es) [] cpos) (tBM X.K T r to t) := by
 intro pins s σ H Q I h
 refine wpAny_Call_method_late hbase hfew hline rfl (thn (ho pins s σ H _ I h) fun v s1 ⟨x, H1, I1, r1, ty, q1⟩ => ?_)
 obtain ⟨h1, h2⟩ := tyV_is I1 r1 ty
 refine ⟨T, id, pa, slot, hty, h1, h2, ?_⟩
 have hA := ha cpos pins s1 σ H1 _ I1 q1
 rw [hs] at hA ⊢
 refine Calls.callWith_builtin (by show (false || (backTo cpos (starEach es X.env)).any (·.1)) = false; rw [hplain] <;> rfl) (Calls.evalArgs_plain ?_)
 exact thn hA fun us s2 ⟨vs, H2, I2, r2, q2⟩ => hm pins s2 σ H2 x vs v us Q I2 r1 r2 q2
end
end L2
namespace L2
open PySem PySem.Spec PyProof.Rows
noncomputable def MtM (X : Cx) (id : String) (r : V → List V → Hp → VK → Prop) : Prop :=
 ∀ (pins : List (Addr × Obj)) (s : Shared) (σ : St) (H : Hp) (x : V) (xs : List V) (v : Value) (us : List Value) (Q : VK), Inv X pins σ H s → RelV x v → Vals xs us → r x xs H Q →
  wpAny (model X.prog X.w) X.A (call (.builtin id) (v :: us)) (EP X pins σ Q) X.xe s
theorem Vals.one : ∀ {x : V} {us : List Value}, Vals [x] us → ∃ u, us = [u] ∧ RelV x u
 | _, _, .cons r .nil => ⟨_, rfl, r⟩
theorem Vals.two : ∀ {x y : V} {us : List Value}, Vals [x, y] us → ∃ u v, us = [u, v] ∧ RelV x u ∧ RelV y v
 | _, _, _, .cons r (.cons q .nil) => ⟨_, _, rfl, r, q⟩
theorem Vals.zero : ∀ {us : List Value}, Vals [] us → us = []
 | _, .nil => rfl
theorem Vals.dropLast {xs : List V} {us : List Value} (h : Vals xs us) : Vals xs.dropLast us.dropLast := by
 induction h with
 | nil => exact .nil
 | cons r t ih =>
  cases t with
  | nil => exact .nil
  | cons q t' => exact .cons r ih
theorem Vals.rep {xs : List V} {us : List Value} (h : Vals xs us) : ∀ k : Nat, Vals (List.replicate k xs).flatten (List.replicate k us).flatten
 | 0 => .nil
 | k + 1 => by
  rw [List.replicate_succ, List.replicate_succ, List.flatten_cons, List.flatten_cons]
  exact Vals.append h (Vals.rep h k)
theorem erase_last {α : Type} (l : List α) : l.eraseIdx (l.length - 1) = l.dropLast := by
 induction l with
 | nil => rfl
 | cons a r ih =>
  cases r with
  | nil => rfl
  | cons b r =>
   have e : (a :: b :: r).length - 1 = ((b :: r).length - 1) + 1 := by
    have h1 : (a :: b :: r).length = r.length + 2 := rfl
    have h2 : (b :: r).length = r.length + 1 := rfl
    omega
   rw [e, List.eraseIdx_cons_succ, ih]
   all_goals rfl
theorem foldl_rep (its : List Value) : ∀ (k : Nat) (acc : List Value),
  List.foldl (fun x1 x2 => x1 ++ x2) acc.toArray (List.replicate k its.toArray) = (acc ++ (List.replicate k its).flatten).toArray
 | 0, acc => by simp
 | k + 1, acc => by
  have e : acc.toArray ++ its.toArray = (acc ++ its).toArray := by simp
  have e2 : (acc ++ its) ++ (List.replicate k its).flatten = acc ++ (List.replicate (k + 1) its).flatten := by
   rw [List.replicate_succ, List.flatten_cons, List.append_assoc]
  rw [← e2, ← foldl_rep its k (acc ++ its), ← e, List.replicate_succ, List.foldl_cons]
section
variable {X : Cx} {pins : List (Addr × Obj)} {σ : St} {H : Hp} {s : Shared} {l b : Addr} {xs ys zs : List V}
theorem Inv.lset {its its' : List Value} {n : Nat} {f : Array Value → Array Value} {t' : Nat} (I : Inv X pins σ H s) (hH : H l = some (.lst xs))
  (e : s.heap.get? l = some { cls := .type "list", data := .seq its.toArray n }) (hf : f its.toArray = its'.toArray) (hv : Vals ys its') (hz : ys.length ≤ sizeLine) :
  Inv X pins σ (upd H l (.lst ys)) { s with heap := s.heap.update l (Obj.mapSeq f), toks := t' } := by
 have q := PySem.IsL.update e f
 rw [hf] at q
 refine I.write (x := l) (e := l) (by rw [hH]; exact trivial) (.inl rfl) (fun b' u hb hu => (Heap.get?_update_other s.heap (Obj.mapSeq f) (Ne.symm hb)).trans hu) ⟨_, q⟩ ?_
 exact ⟨hz, its', _, hv, q⟩
theorem Inv.lnew {its : List Value} {t' : Nat} (I : Inv X pins σ H s) (hv : Vals ys its) (hz : ys.length ≤ sizeLine) :
  Inv X pins σ (upd H s.heap.objs.size (.lst ys)) { s with heap := s.heap.push { cls := .type "list", data := .seq its.toArray }, toks := t' } :=
 I.laid (fun _ _ q => Heap.get?_push_of_some _ q) (Nat.le_refl _) ⟨hz, its, 0, hv, Heap.get?_push_size _ rfl⟩
theorem Inv.fresh (I : Inv X pins σ H s) : H s.heap.objs.size = none := I.hok.fresh (Nat.le_refl _)
theorem Inv.lstM (I : Inv X pins σ H s) (hH : H l = some (.lst xs)) : xs.length ≤ sizeLine ∧ ∃ (its : List Value) (n : Nat), Vals xs its ∧ xs.length = its.length ∧ s.heap.get? l = some { cls := .type "list", data := .seq its.toArray n } := by
 obtain ⟨z, its, n, r, e⟩ := I.hok l _ hH
 exact ⟨z, its, n, r, r.length, e⟩
theorem notLongL {n : Nat} (h : n ≤ sizeLine) : Builtin.List.listTooLong n = false := by
 unfold Builtin.List.listTooLong
 exact decide_eq_false (by omega)
end
section
variable {X : Cx}
noncomputable def rAppend : V → List V → Hp → VK → Prop := fun x vs H Q => ∃ l xs y, x = .ref l ∧ vs = [y] ∧ H l = some (.lst xs) ∧ xs.length < sizeLine ∧ Q .non (upd H l (.lst (xs ++ [y])))
theorem mt_append : MtM X "list.append" rAppend := by
 intro pins s σ H x vs v us Q I rx rv h
 obtain ⟨l, xs, y, rfl, rfl, hH, hz, q⟩ := h
 cases rx
 obtain ⟨u, rfl, ru⟩ := rv.one
 obtain ⟨z, its, n, r, hl, e⟩ := I.lstM hH
 refine call_meets F.slot_list_append ⟨_, e, rfl⟩ F.entry_list_append (F.args_list_append_2 _ _) (PySem.list_append l its.toArray n u (by rw [List.size_toArray]; omega)) ⟨e, ?_⟩
 refine ⟨.non, _, I.lset (its' := its ++ [u]) hH e (by simp) (r.append (.cons ru .nil)) ?_, rfl, q⟩
 rw [List.length_append, List.length_singleton]
 omega
noncomputable def rPop : V → List V → Hp → VK → Prop := fun x vs H Q => ∃ l xs y, x = .ref l ∧ vs = [] ∧ H l = some (.lst xs) ∧ xs[xs.length - 1]? = some y ∧ Q y (upd H l (.lst xs.dropLast))
theorem mt_pop : MtM X "list.pop" rPop := by
 intro pins s σ H x vs v us Q I rx rv h
 obtain ⟨l, xs, y, rfl, rfl, hH, hy, q⟩ := h
 cases rx
 have hus := rv.zero
 subst hus
 obtain ⟨z, its, n, r, hl, e⟩ := I.lstM hH
 obtain ⟨u, hu, ru⟩ := r.get hy
 have hy' : its.toArray[its.toArray.size - 1]? = some u := by
  show its.toArray[its.length - 1]? = some u
  rw [← Array.getElem?_toList, ← hl]
  exact hu
 refine call_meets F.slot_list_pop ⟨_, e, rfl⟩ F.entry_list_pop (F.args_list_pop_1 _) (MeetsSeq.list_pop_last l its.toArray n u hy' (by rw [List.size_toArray]; omega)) ⟨e, ?_⟩
 refine ⟨y, _, I.lset (its' := its.dropLast) hH e ?_ r.dropLast ?_, ru, q⟩
 ·show its.toArray.eraseIdxIfInBounds (its.toArray.size - 1) = its.dropLast.toArray
  rw [List.size_toArray, List.eraseIdxIfInBounds_toArray, erase_last]
 ·rw [List.length_dropLast]
  omega
noncomputable def rCat : R2 := fun x y H Q => ∃ l b xs zs, x = .ref l ∧ y = .ref b ∧ H l = some (.lst xs) ∧ H b = some (.lst zs) ∧ xs.length + zs.length ≤ sizeLine ∧ ∀ p, H p = none → Q (.ref p) (upd H p (.lst (xs ++ zs)))
theorem op_cat : OpR X (binaryOp .Add) rCat := by
 intro pins s σ H x y v u Q I rx ry h
 obtain ⟨l, b, xs, zs, rfl, rfl, hH, hB, hz, q⟩ := h
 cases rx
 cases ry
 obtain ⟨z, its, n, r, hl, e⟩ := I.lstM hH
 obtain ⟨z2, its2, n2, r2, hl2, e2⟩ := I.lstM hB
 refine PySem.P.add_list e e2 ?_ (by rw [List.size_toArray, List.size_toArray]; omega)
 have ea : its.toArray ++ its2.toArray = (its ++ its2).toArray := by simp
 rw [ea]
 exact ⟨.ref _, _, I.lnew (t' := s.toks) (r.append r2) (by rw [List.length_append]; omega), rfl, q _ I.fresh⟩
noncomputable def rRep : R2 := fun x y H Q => ∃ l k xs, x = .ref l ∧ y = .int k ∧ H l = some (.lst xs) ∧ -(2 ^ 63) ≤ k ∧ k < 2 ^ 63 ∧ xs.length * k.toNat ≤ sizeLine ∧
 ∀ p, H p = none → Q (.ref p) (upd H p (.lst (List.replicate k.toNat xs).flatten))
theorem len_rep {α : Type} (xs : List α) (k : Nat) : (List.replicate k xs).flatten.length = k * xs.length := by
 induction k with
 | zero => simp
 | succ k ih => rw [List.replicate_succ, List.flatten_cons, List.length_append, ih, Nat.succ_mul, Nat.add_comm]
theorem op_rep : OpR X (binaryOp .Mult) rRep := by
 intro pins s σ H x y v u Q I rx ry h
 obtain ⟨l, k, xs, rfl, rfl, hH, h1, h2, hz, q⟩ := h
 cases rx
 obtain ⟨t, rfl⟩ := ry
 obtain ⟨z, its, n, r, hl, e⟩ := I.lstM hH
 have hlen : its.toArray.size * k.toNat ≤ sizeLine := by rw [List.size_toArray, ← hl]; exact hz
 have hcap : ¬ its.toArray.size * k.toNat > (2 ^ 63 - 1) / 8 := by
  have : (sizeLine : Nat) ≤ (2 ^ 63 - 1) / 8 := by decide
  omega
 have hfit : ¬ (!Builtin.List.listFitsIndex k) = true := by
  rw [fitsIndex_both h1 h2]
  exact Bool.false_ne_true
 have hlong : ¬ Builtin.List.listTooLong (its.toArray.size * k.toNat) = true := by
  rw [notLongL hlen]
  exact Bool.false_ne_true
 have hnew : List.foldl (fun x1 x2 => x1 ++ x2) #[] (List.replicate (if its.toArray.isEmpty = true then 0 else k.toNat) its.toArray) = (List.replicate k.toNat its).flatten.toArray := by
  have f0 : ∀ m : Nat, List.foldl (fun x1 x2 => x1 ++ x2) #[] (List.replicate m its.toArray) = (List.replicate m its).flatten.toArray := fun m => by
   have := foldl_rep its m []
   rw [List.nil_append] at this
   exact this
  rw [f0]
  cases its with
  | nil => simp
  | cons a r' => rw [if_neg (by simp)]
 refine wpAny_binaryOp_repeat_ref (T := "list") (U := "int") (by decide) ⟨_, e, rfl⟩ (fun s' => typeIs_int s' k t) noFill_list_mul F.fills_int_mul F.slot_int_rmul repeat_list F.slot_int_index.lookup
  (call_meets F.slot_int_rmul (typeIs_int s k t) F.entry_int_rmul (F.args_int_rmul_2 _ _) (int___rmul___int_list k t l its.toArray n)
   ⟨e, rfl, ⟨_, e, rfl⟩, call_meets F.slot_list_mul ⟨_, e, rfl⟩ F.entry_list_mul (F.args_list_mul_2 _ _) (AutoListH.list___mul___list_int_3 l its.toArray n k t hfit hcap hlong) ⟨e, ?_⟩⟩)
 rw [hnew]
 exact ⟨.ref _, _, I.lnew (t' := s.toks) (r.rep k.toNat) (by rw [len_rep, Nat.mul_comm]; exact hz), rfl, q _ I.fresh⟩
end
section
variable {prog : Program} {w : World} {A : Around} {E : Value → Shared → Prop} {s : Shared}
end
section
variable {X : Cx}
end
end L2
namespace Att
open PySem PySem.W PySem.Calls PyProof.Rows
theorem ints_of_wellAll {P : Params} {h : Heap} : ∀ (ns : List Int) (vs : List Value), WellAll P h vs (ns.map WData.int) → IntsAre vs ns := by
 intro ns
 induction ns with
 | nil =>
  intro vs w
  rw [List.map_nil] at w
  cases w
  exact .nil
 | cons n ns ih =>
  intro vs w
  rw [List.map_cons] at w
  cases w with
  | cons a b =>
   cases a
   exact .cons _ _ (ih _ b)
theorem script_of {l : OpenLaw} {n : Nat} (hn : l.most = some n) {P : Params} {h : Heap} {args : List WData} {vals : List Value}
  (hpre : l.row.toRowW.claim.pre args = true) (hwl : WellAll P h vals args) :
  ∃ a vs ns, vals = [Value.ref a] ∧ args = [WData.list (ns.map WData.int)] ∧ h.get? a = some { cls := .type "list", data := .seq vs.toArray } ∧ IntsAre vs ns ∧ ns.length ≤ n := by
 have hsh : WShape.hasAll [] args [.list .int] = true := (pre_splitW hpre).1
 have hc : l.pre.holds [] { args := args } = true := (pre_splitW hpre).2
 obtain ⟨d, r, rfl, h1, h2⟩ := hasAllW_cons hsh
 obtain rfl := hasAllW_nil h2
 obtain ⟨xs, rfl, h3⟩ := hasW_list h1
 obtain ⟨ns, rfl⟩ := items_int h3
 have hlen : ns.length ≤ n := by
  unfold OpenLaw.pre at hc
  have h4 : (WTm.not (.lt (.lit (.int (n : Int))) (.len (.arg 0)))).holds [] { args := [.list (ns.map .int)] } = true := by
   have h4 := (holds_andW hc).1
   rw [hn] at h4
   exact h4
  have h5 := condW_of h4 (w_not (w_lt w_lit (w_len_list (w_arg rfl))))
  rw [List.length_map] at h5
  refine Nat.le_of_not_lt fun q => ?_
  have q' : (n : Int) < ((ns.length : Nat) : Int) := by omega
  first
   | (rw [decide_eq_true q'] at h5; exact absurd h5 (by decide))
   | (simp at h5; omega)
 cases hwl with
 | cons w1 w2 =>
  cases w2
  cases w1 with
  | list ho hall => exact ⟨_, _, ns, rfl, rfl, ho, ints_of_wellAll ns _ hall, hlen⟩
theorem post_true (l : OpenLaw) (args : List WData) : l.row.toRowW.claim.post args (.bool true) args = true :=
 postW_of (r := l.row.toRowW) (X := (true == true))
  (show WShape.has [] (.bool true) .bool = true by first | rfl | decide | simp [WShape.has, WShape.arms, WShape.armsAll])
  (show (WTm.eq .res (.lit (.bool true))).value [] { args := args, res := some (.bool true), after := args } = some (.bool (true == true)) from w_eq_bool (w_res rfl) w_lit) rfl
theorem attach_call {l : OpenLaw} {n : Nat} {q : Program} {loose : List Str} {XP : (Str → Option Value) → Heap → Prop} {YP : World → Heap → Prop} {d : DefRec}
  (hn : l.most = some n) (hdf : d.params.defaults = [])
  (call : ∀ (w : World) (s₀ s₁ : Shared) (mg mb : Str → Option Value) (fa : Addr) (o : Obj) (pm cd doc : Value) (a : Addr) (vs : List Value) (ns : List Int),
   Ground q loose [] XP w s₀ mg mb s₁.heap → YP w s₁.heap →
   s₁.heap.get? fa = some o → o.data = .func (docDef d.name d.params d.body d.scope pm cd doc) → s₁.heap.CodeRec cd d.name → mg d.name = some (.ref fa) →
   s₁.heap.get? a = some { cls := .type "list", data := .seq vs.toArray } → IntsAre vs ns → ns.length ≤ n → s₁.gens = #[] →
   codeAny (model l.prog w) callerA (.call (.ref fa) ⟨[.ref a], []⟩) (fun r s' => r = .ok (.ret (.bool true)) ∧ OldK s₁.heap s'.heap ∧ s'.os = s₁.os ∧ AllBare s'.gens) s₁) :
  WalkO q loose XP YP l.row.toRowW d [] (fun f vs => PySem.call f vs) := by
 intro w s₀ s₁ mg mb G Y fa o pm cd doc dV kV ho hd hcd hD hmg hg args vals as hpre hlay hrd hwl hlo
 obtain rfl : dV = .none := Dflts.none hD hdf
 obtain rfl : kV = .none := Dflts.noKw hD
 obtain ⟨a, vs, ns, rfl, rfl, hobj, hints, hlen⟩ := script_of hn hpre hwl
 refine enter_call (codeAny_mono (call w s₀ s₁ mg mb fa o pm cd doc a vs ns G Y ho (fd_plain hd) hcd hmg hobj hints hlen hg) fun r s' hq => ?_)
 obtain ⟨rfl, h2, h3, h4⟩ := hq
 exact ⟨.inl ⟨.bool true, .bool true, [], rfl, fun _ => rfl, .bool true, post_true l _, fun _ => ⟨List.Pairwise.nil, fun _ hm => (nomatch hm)⟩⟩, h2, h3, h4⟩
section
variable {prog : Program} {w : World} {A : Around} {E : Value → Shared → Prop} {s : Shared} {K : Frag}
end
end Att
namespace L2
open PySem PySem.Spec PyProof.Rows
theorem vals_ints : ∀ {vs : List Value} {ns : List Int}, IntsAre vs ns → Vals (ns.map V.int) vs
 | _, _, .nil => .nil
 | _, _, .cons n t h => .cons ⟨t, rfl⟩ (vals_ints h)
noncomputable def Only (H : Hp) : Prop := ∀ b, H b = none ∨ ∃ o xs, H b = some (.frz o (.lst xs))
theorem law_call {P : Program} {w : World} {K : PySem.W.Frag} {mg mb : Str → Option Value} {CX : CXT} {k : Nat} {fa a : Addr} {fd : FuncData} {x : Str} {sp : Sp} {s₁ : Shared} {vs : List Value} {ns : List Int}
  (KX : K.In s₁.heap) (hns : s₁.heap.Ns mainGlobals mg) (hb : s₁.heap.Ns builtinsNs mb) (hbb : ∀ x : Str, x ≠ "__name__" → mb x = bootBuiltins x) (hlim : s₁.heap.NoLimit) (hg : s₁.gens = #[])
  (ha : s₁.heap.get? a = some { cls := .type "list", data := .seq vs.toArray }) (hi : IntsAre vs ns) (hl : ns.length ≤ sizeLine) (hr : Room k callerA)
  (F : ∀ base : Heap, K.In base → base.Ns mainGlobals mg → FnOk P w K mg base CX k fa fd [x] sp) (hbind : ∀ (s : Shared) (u : Value), BindsTo s fd ⟨[u], []⟩ [(x, u)])
  (hsp : ∀ H : Hp, Only H → SqL K H a (ns.map V.int) → sp [.ref a] H (fun v _ => v = .bl true) fun _ _ _ => False)
  (hCX : ∀ H e s', CX [] H s₁ (fun _ _ _ => False) e s' → False) :
  codeAny (model P w) callerA (.call (.ref fa) ⟨[.ref a], []⟩) (fun r s' => r = .ok (.ret (.bool true)) ∧ OldK s₁.heap s'.heap ∧ s'.os = s₁.os ∧ AllBare s'.gens) s₁ := by
 have rv := vals_ints hi
 have lenV := hi.length
 have core : ∀ H : Hp, Only H → SqL K H a (ns.map V.int) → HOk P w H s₁.heap → (∀ b, H b ≠ none → b = a) → (H a ≠ none → K.lookup a = none) →
   codeAny (model P w) callerA (.call (.ref fa) ⟨[.ref a], []⟩) (fun r s' => r = .ok (.ret (.bool true)) ∧ OldK s₁.heap s'.heap ∧ s'.os = s₁.os ∧ AllBare s'.gens) s₁ := by
  intro H hO hS hok hA hK
  have base_of : ∀ {b : Addr} {o : Obj}, s₁.heap.get? b = some o → H b = none → (hidT s₁.heap H).get? b = some o := fun e n => hidT_get e n
  have noA : ∀ {b : Addr} {o : Obj} {es : Array DictEntry} {ep : Nat}, s₁.heap.get? b = some o → o.data = .dict es ep → H b = none := fun {b o es ep} e d => by
   cases q : H b with
   | none => rfl
   | some u =>
    have e' : b = a := hA b (by rw [q]; simp)
    subst e'
    rw [ha] at e; cases e
    have d' : Data.seq vs.toArray _ = Data.dict es ep := d
    cases d'
  have nsK : ∀ {b : Addr} {m : Str → Option Value}, s₁.heap.Ns b m → (hidT s₁.heap H).Ns b m := fun {b m} ⟨o, es, ep, e, d, r⟩ => ⟨o, es, ep, base_of e (noA e d), d, r⟩
  have hKb : K.In (hidT s₁.heap H) := fun b o e => base_of (KX b o e) (by
   cases q : H b with
   | none => rfl
   | some u =>
    have e' : b = a := hA b (by rw [q]; simp)
    subst e'
    rw [hK (by rw [q]; simp)] at e; cases e)
  have hM : Mod K mg (hidT s₁.heap H) := ⟨hKb, nsK hns, ⟨mb, nsK hb, hbb⟩, let ⟨mc, h1, h2⟩ := hlim; ⟨mc, nsK h1, h2⟩⟩
  have e0 : Env0 P w K mg (hidT s₁.heap H) callerA [] s₁ H := ⟨rfl, hM, fun b o e => of_hidT e, Nat.le_of_eq (hidT_size _ _), trivial, fun b hb => absurd (show b ∈ ([] : List Addr) from hb) (by simp), hok, .of_eq hg⟩
  refine codeAny_mono ((F _ hKb (nsK hns)).run callerA [] s₁ H ⟨[.ref a], []⟩ [.ref a] [.ref a] _ _ hr e0 (hbind s₁ (.ref a)) (.cons rfl .nil) (hsp H hO hS)) fun r s' h => ?_
  cases r with
  | error e => exact (hCX H e s' h).elim
  | ok fl =>
   cases fl with
   | next => exact False.elim h
   | brk => exact False.elim h
   | cont => exact False.elim h
   | ret u =>
    obtain ⟨v, H', os, bare, un, hok', r', q⟩ := h
    have q' : v = .bl true := q
    subst q'
    obtain rfl : u = Value.bool true := r'
    refine ⟨rfl, OldK.of_keep fun b o e => ?_, os, bare⟩
    cases q : H b with
    | none => exact un.keep b o e q (by intro z; exact absurd (show b ∈ ([] : List Addr) from z) (by simp)) (by simp)
    | some u =>
     rcases hO b with z | ⟨ob, xs, z⟩
     ·rw [q] at z; cases z
     ·have z2 := un.frzs b ob _ z
      obtain ⟨e1, _⟩ := hok b _ z
      obtain ⟨e2, _⟩ := hok' b _ z2
      rw [e] at e1; cases e1
      exact e2
 cases hk : K.lookup a with
 | some o =>
  have e := KX a o hk
  rw [ha] at e
  cases e
  refine core (fun _ => none) (fun _ => .inl rfl) (.inr ⟨_, vs.toArray, _, hk, rfl, rfl, rfl, by rw [List.size_toArray, lenV]; exact hl, by simpa using rv⟩) (fun b u z => by have z' : (none : Option HO) = some u := z; cases z') (fun b z => absurd rfl z) fun z => absurd rfl z
 | none =>
  refine core (fun b => if b = a then some (.frz { cls := .type "list", data := .seq vs.toArray } (.lst (ns.map V.int))) else none) (fun b => ?_) (.inl (.inr ⟨{ cls := .type "list", data := .seq vs.toArray }, if_pos rfl⟩)) (fun b u z => ?_) (fun b z => ?_) fun _ => hk
  ·by_cases hb : b = a
   ·exact .inr ⟨_, _, if_pos hb⟩
   ·exact .inl (if_neg hb)
  ·by_cases hb : b = a
   ·have z' := (if_pos hb).symm.trans z
    cases z'
    subst hb
    exact ⟨ha, by rw [List.length_map]; exact hl, vs, _, rv, ha⟩
   ·have z' := (if_neg hb).symm.trans z
    cases z'
  ·by_cases hb : b = a
   ·exact hb
   ·exact absurd (if_neg hb) z
end L2
namespace L2
open PySem PySem.Spec PyProof.Rows
theorem walk_of {l : PySem.W.OpenLaw} {n k : Nat} {q : Program} {loose : List Str} {XP : (Str → Option Value) → Heap → Prop} {YP : World → Heap → Prop} {d : DefRec} {K : Params → PySem.W.Frag} {CX : World → CXT} {sp : World → Sp} {x : Str}
  (hn : l.most = some n) (hn2 : n ≤ sizeLine) (hdf : d.params.defaults = []) (hr : Room k callerA)
  (hY : ∀ (w : World) (h : Heap), YP w h → (K w.params).In h)
  (F : ∀ (w : World) (mg : Str → Option Value) (fa : Addr) (h : Heap), (K w.params).In h → h.Ns mainGlobals mg → mg d.name = some (.ref fa) →
   ∃ fd : FuncData, (∀ (s : Shared) (u : Value), BindsTo s fd ⟨[u], []⟩ [(x, u)]) ∧
    ∀ base : Heap, (K w.params).In base → base.Ns mainGlobals mg → FnOk l.prog w (K w.params) mg base (CX w) k fa fd [x] (sp w))
  (hsp : ∀ (w : World) (H : Hp) (a : Addr) (ns : List Int), ns.length ≤ n → Only H → SqL (K w.params) H a (ns.map V.int) → sp w [.ref a] H (fun v _ => v = .bl true) fun _ _ _ => False)
  (hCX : ∀ (w : World) (H : Hp) (s : Shared) (e : Value) (s' : Shared), CX w [] H s (fun _ _ _ => False) e s' → False) :
  PySem.W.WalkO q loose XP YP l.row.toRowW d [] (fun f vs => PySem.call f vs) := by
 refine Att.attach_call hn hdf fun w s₀ s₁ mg mb fa o pm cd doc a vs ns G Y ho hd hcd hmg hobj hints hlen hg => ?_
 have KX := hY w _ Y
 obtain ⟨fd, hb, hF⟩ := F w mg fa _ KX G.T.g hmg
 exact law_call KX G.T.g G.T.b G.T.builtins G.T.nolimit hg hobj hints (Nat.le_trans hlen hn2) hr hF hb (fun H hO hS => hsp w H a ns hlen hO hS) fun H e s' => hCX w H s₁ e s'
end L2
namespace L2
open PySem PySem.Spec PyProof.Rows
noncomputable def defArgs (s : Stmt) : Arguments := match s with
 | .FunctionDef _ a _ _ _ _ _ _ _ _ => a
 | _ => { posonlyargs := [], args := [], vararg := none, kwonlyargs := [], kw_defaults := [], kwarg := none, defaults := [] }
noncomputable def defBody (s : Stmt) : List Stmt := match s with
 | .FunctionDef _ _ b _ _ _ _ _ _ _ => b
 | _ => []
noncomputable def defScope (s : Stmt) : Scope := match s with
 | .FunctionDef _ _ _ _ _ _ sc _ _ _ => sc
 | _ => { kind := .function, names := [], isGenerator := false, isCoroutine := false }
noncomputable abbrev CX0 : CXT := fun _ _ _ _ _ _ => False
noncomputable abbrev E0 : XK := fun _ _ _ => False
theorem pass0 {X : Cx} : Passes CX0 X E0 := fun _ _ _ _ _ _ _ h => h.elim
structure Fun (K : PySem.W.Frag) (x qual : Str) (st : Stmt) (f : Addr) (fd : FuncData) : Prop where
 ex : ∃ (oc : Value) (od : Option Addr) (kV doc pm : Value) (an : Option Addr) (cdv ct : Value) (osl : Array (Option Value)),
  fd = PySem.W.fnOf x qual (defArgs st) (defBody st) (defScope st) .none kV doc pm an cdv ct ∧ K.lookup f = some ⟨oc, od, .func fd, osl⟩ ∧ PySem.W.codeIn K cdv qual = true
 kp : PySem.W.keepIn K (.ref f) = true
section
variable {P : Program} {w : World} {K : PySem.W.Frag} {mg : Str → Option Value} {base : Heap}
theorem Fun.ok {x qual : Str} {st : Stmt} {f : Addr} {fd : FuncData} {N ps : List Str} {k : Nat} {sp : Sp} (F : Fun K x qual st f fd) (S : FnScope N ps (defScope st)) (len : ∀ vs H Q E, sp vs H Q E → vs.length = ps.length)
  (hbody : ∀ (cdv : Value) (A : Around) (outer : List Env) (s : Shared) (H : Hp) (vs : List V) (Q : VK) (E : XK), Room k (A.deeper (envOfC qual (defScope st) s.heap.objs.size f cdv)) → sp vs H Q E →
   ∃ t, PSs (cxOf CX0 P w K mg base N qual (defScope st) f cdv A outer s H E).nox (defBody st) t ∧ t { nx := fun _ H' => Q .non H', rt := Q } (start N vs) H) : FnOk P w K mg base CX0 (k + 1) f fd ps sp := by
 obtain ⟨oc, od, kV, doc, pm, an, cdv, ct, osl, rfl, lk, hcd⟩ := F.ex
 refine fn_of lk hcd S len fun A outer s H vs Q E hr hsp => ?_
 obtain ⟨t, h, q⟩ := hbody cdv A outer s H vs Q E hr hsp
 exact ⟨t, h.nox, q⟩
theorem Fun.binds {x qual : Str} {st : Stmt} {f : Addr} {fd : FuncData} {ps : List Str} (F : Fun K x qual st f fd)
  (h : ∀ (kV doc pm : Value) (an : Option Addr) (cdv ct : Value) (us : List Value), us.length = ps.length → bindArgs (PySem.W.fnOf x qual (defArgs st) (defBody st) (defScope st) .none kV doc pm an cdv ct) ⟨us, []⟩ = pure (ps.zip us)) : Binds K fd ps [] := by
 obtain ⟨oc, od, kV, doc, pm, an, cdv, ct, osl, rfl, lk, hcd⟩ := F.ex
 exact .all (h kV doc pm an cdv ct)
theorem fun_mk {x qual : Str} {st : Stmt} {f : Addr} {oc : Value} {od an : Option Addr} {osl : Array (Option Value)} {kV doc pm cdv ct : Value} (l : K.lookup f = some ⟨oc, od, .func (PySem.W.fnOf x qual (defArgs st) (defBody st) (defScope st) .none kV doc pm an cdv ct), osl⟩)
  (c : PySem.W.codeIn K cdv qual = true) (k : PySem.W.keepIn K (.ref f) = true) : Fun K x qual st f (PySem.W.fnOf x qual (defArgs st) (defBody st) (defScope st) .none kV doc pm an cdv ct) := ⟨⟨oc, od, kV, doc, pm, an, cdv, ct, osl, rfl, l, c⟩, k⟩
end
section
variable {X : Cx}
end
theorem iteF {A B : Prop} (h : B) : if false = true then A else B := by
 rw [if_neg Bool.false_ne_true]
 exact h
theorem iteT {A B : Prop} (h : A) : if true = true then A else B := by
 rw [if_pos rfl]
 exact h
theorem ite2 {c A B : Prop} [Decidable c] (h1 : c → A) (h2 : ¬ c → B) : if c then A else B := by
 by_cases h : c
 ·rw [if_pos h]
  exact h1 h
 ·rw [if_neg h]
  exact h2 h
noncomputable def Same (H H' : Hp) : Prop := ∀ b o, H b = some o → H' b = some o
theorem Same.refl (H : Hp) : Same H H := fun _ _ h => h
theorem Same.trans {H H1 H2 : Hp} (a : Same H H1) (b : Same H1 H2) : Same H H2 := fun c o h => b c o (a c o h)
theorem Same.free {H H' : Hp} (e : Same H H') {l : Addr} (h : H' l = Option.none) : H l = Option.none := by
 cases q : H l with
 | none => rfl
 | some o =>
  rw [e l o q] at h
  cases h
theorem Same.seq {K : PySem.W.Frag} {H H' : Hp} {a : Addr} {xs : List V} (e : Same H H') (h : SqL K H a xs) : SqL K H' a xs := by
 rcases h with (h | ⟨o, h⟩) | h
 ·exact .inl (.inl (e _ _ h))
 ·exact .inl (.inr ⟨o, e _ _ h⟩)
 ·exact .inr h
end L2
set_option maxHeartbeats 8000000
namespace L2
open PySem PySem.Spec PyProof.Rows
noncomputable def closL (env : Env) : List (Str × NameKind) → List (Str × Addr) → List (Str × Addr)
 | [], acc => acc
 | (n, k) :: r, acc => closL env r (if k == .free then (match env.cells.lookup n with | some a => (n, a) :: acc | none => acc) else acc)
theorem closL_sub {env : Env} : ∀ {ns : List (Str × NameKind)} {acc : List (Str × Addr)} {x : Str} {c : Addr}, (∀ x c, acc.lookup x = some c → env.cells.lookup x = some c) → (closL env ns acc).lookup x = some c → env.cells.lookup x = some c
 | [], acc, x, c, h, e => h x c e
 | (n, k) :: r, acc, x, c, h, e => by
  refine closL_sub (ns := r) ?_ e
  intro y d
  split
  ·split
   ·rename_i a ha
    intro q
    rw [List.lookup_cons] at q
    split at q
    ·rename_i hy
     have hy' : y = n := by simpa using hy
     subst hy'
     rw [ha]; exact q
    ·exact h y d q
   ·exact h y d
  ·exact h y d
theorem closL_acc {env : Env} : ∀ {ns : List (Str × NameKind)} {acc : List (Str × Addr)} {x : Str}, (acc.lookup x).isSome = true → ((closL env ns acc).lookup x).isSome = true
 | [], acc, x, h => h
 | (n, k) :: r, acc, x, h => by
  refine closL_acc (ns := r) ?_
  split
  ·split
   ·rw [List.lookup_cons]
    split
    ·rfl
    ·exact h
   ·exact h
  ·exact h
theorem closL_has {env : Env} : ∀ {ns : List (Str × NameKind)} {acc : List (Str × Addr)} {x : Str}, (x, NameKind.free) ∈ ns → (env.cells.lookup x).isSome = true → ((closL env ns acc).lookup x).isSome = true
 | [], acc, x, h, _ => by cases h
 | (n, k) :: r, acc, x, h, hc => by
  rcases List.mem_cons.mp h with e | e
  ·cases e
   refine closL_acc (ns := r) ?_
   obtain ⟨a, ha⟩ := Option.isSome_iff_exists.mp hc
   rw [if_pos (by rfl), ha]
   show (List.lookup n ((n, a) :: acc)).isSome = true
   rw [List.lookup_cons]
   simp
  ·exact closL_has (ns := r) e hc
theorem closureFor_eq {scope : Scope} {env : Env} (h : ∀ x ∈ scope.names, x.2 = .free → (env.cells.lookup x.1).isSome = true) : closureFor scope env = pure (closL env scope.names []) := by
 have all : ∀ (ns : List (Str × NameKind)) (acc : List (Str × Addr)), (∀ x ∈ ns, x.2 = .free → (env.cells.lookup x.1).isSome = true) →
   (forIn ns acc fun (x : Str × NameKind) (cs : List (Str × Addr)) => (if (x.2 == NameKind.free) = true then do let a ← cellOf env x.1; pure (ForInStep.yield ((x.1, a) :: cs)) else pure (ForInStep.yield cs) : Sem (ForInStep (List (Str × Addr))))) = pure (closL env ns acc) := by
  intro ns
  induction ns with
  | nil => intro acc _; rfl
  | cons x r ih =>
   intro acc hx
   obtain ⟨n, k⟩ := x
   rw [List.forIn_cons]
   by_cases hk : (k == NameKind.free) = true
   ·obtain ⟨a, ha⟩ := Option.isSome_iff_exists.mp (hx (n, k) List.mem_cons_self (by simpa using hk))
    have ha : env.cells.lookup n = some a := ha
    have hcell : cellOf env n = pure a := by unfold cellOf; rw [ha]
    simp only [hk, if_true, hcell]
    refine Eq.trans (ih ((n, a) :: acc) fun y hy => hx y (List.mem_cons_of_mem _ hy)) ?_
    conv => rhs; unfold closL
    simp only [hk, if_true, ha]
   ·simp only [hk]
    refine Eq.trans (ih acc fun y hy => hx y (List.mem_cons_of_mem _ hy)) ?_
    conv => rhs; unfold closL
    simp only [hk]
    rfl
 unfold closureFor
 exact (by
  have := all scope.names [] h
  first | exact this | (simp only [bind_pure] ; exact this) | simpa using this)
noncomputable def cmpCx (X : Cx) (scope : Scope) (C : Addr) (N : List Str) (s₀ : Shared) (H₀ : Hp) (ex : List Addr) : Cx where
 prog := X.prog
 w := X.w
 K := X.K
 mg := X.mg
 base := X.base
 A := X.A
 N := N
 s₀ := s₀
 H₀ := H₀
 env := compEnvC scope (closL X.env scope.names []) C X.env
 outer := X.stack
 stack := X.stack
 ex := ex
 fn := fun _ => false
 calm := X.calm
 pn := []
 xe := fun _ _ => False
structure CScope (sc : Scope) (env : Env) : Prop where
 kind : sc.kind = .function
 nocell : ∀ y ∈ sc.names, y.2 ≠ .cell
 loc : ∀ y ∈ sc.names, y.2 = .local → sc.names.lookup y.1 = some .local
 free : ∀ x ∈ sc.names, x.2 = .free → (env.cells.lookup x.1).isSome = true
theorem lookup_relabel {env : Env} : ∀ {names : List (Str × NameKind)} {x : Str} {k : NameKind}, ((names.map fun (n, k) => if (k == NameKind.free && env.scope.kind == .function && env.kindOf n == some .cell) then (n, NameKind.cell) else (n, k)).lookup x = some k) →
  ∃ k', names.lookup x = some k' ∧ (k' = k ∨ (k' = .free ∧ k = .cell))
 | [], x, k, h => by simp at h
 | (n, q) :: r, x, k, h => by
  have ih := @lookup_relabel env r x k
  have h : List.lookup x ((if (q == NameKind.free && env.scope.kind == .function && env.kindOf n == some .cell) = true then (n, NameKind.cell) else (n, q)) :: _) = some k := h
  rw [List.lookup_cons]
  cases hx : x == n with
  | true =>
   by_cases hc : (q == NameKind.free && env.scope.kind == .function && env.kindOf n == some .cell) = true
   ·rw [if_pos hc] at h
    simp only [List.lookup_cons, hx] at h
    refine ⟨q, rfl, .inr ⟨?_, (Option.some.inj h).symm⟩⟩
    simp only [Bool.and_eq_true] at hc
    simpa using hc.1.1
   ·rw [if_neg hc] at h
    simp only [List.lookup_cons, hx] at h
    exact ⟨q, rfl, .inl (Option.some.inj h)⟩
  | false =>
   by_cases hc : (q == NameKind.free && env.scope.kind == .function && env.kindOf n == some .cell) = true
   ·rw [if_pos hc] at h
    simp only [List.lookup_cons, hx] at h
    exact ih h
   ·rw [if_neg hc] at h
    simp only [List.lookup_cons, hx] at h
    exact ih h
noncomputable def Takes (X : Cx) (scope : Scope) (N : List Str) (σ σ0 : St) : Prop :=
 σ0.length = N.length ∧ ∀ (i : Nat) (x : Str) (v : V), N[i]? = some x → σ0[i]? = some (some v) → ∃ j : Nat, X.N[j]? = some x ∧ σ[j]? = some (some v) ∧ scope.names.lookup x = some .free ∧ (X.env.kindOf x = some .cell ∨ X.env.kindOf x = some .free)
section
variable {X : Cx}
theorem cmp_start {scope : Scope} {N : List Str} {pins : List (Addr × Obj)} {σ σ0 : St} {H : Hp} {s : Shared} {h' : Heap} {tk : Nat} {fp : List Addr} (I : Inv X pins σ H s) (S : CScope scope X.env) (hf : ∀ b ∈ fp, FpOk X pins H b) (hlt : ∀ b ∈ fp, b < s.heap.objs.size)
  (T : Takes X scope N σ σ0) (hn : h'.Ns s.heap.objs.size (fun _ => none)) (hk : ∀ b o, s.heap.get? b = some o → h'.get? b = some o) :
  Inv (cmpCx X scope s.heap.objs.size N s H fp) [] σ0 H { s with heap := h', toks := tk } := by
 have subC : ∀ x c, (closL X.env scope.names []).lookup x = some c → X.env.cells.lookup x = some c := fun x c e => closL_sub (ns := scope.names) (acc := []) (fun y d z => by simp at z) e
 have hasC : ∀ x, scope.names.lookup x = some .free → ∃ c, (closL X.env scope.names []).lookup x = some c := fun x e => by
  have m := PySem.mem_of_lookup e
  exact Option.isSome_iff_exists.mp (closL_has m (S.free _ m rfl))
 have fsN : ∀ b ∈ fp, b ∉ frs X.stack := fun b hb z => by
  obtain ⟨_, f1, f2, _⟩ := hf b hb
  rcases List.mem_cons.mp (I.stkSub b z) with e | e
  ·exact f1 e
  ·exact f2 e
 have kinds : ∀ x, ((relabel scope X.env).names.lookup x = some .cell ∨ (relabel scope X.env).names.lookup x = some .free) → scope.names.lookup x = some .free := fun x hx => by
  rcases hx with hx | hx
  ·obtain ⟨k', e, q⟩ := lookup_relabel hx
   rcases q with q | ⟨q, _⟩
   ·subst q
    exact absurd rfl (S.nocell _ (PySem.mem_of_lookup e))
   ·rw [e, q]
  ·obtain ⟨k', e, q⟩ := lookup_relabel hx
   rcases q with q | ⟨_, q⟩
   ·rw [e, q]
   ·cases q
 have noex : ∀ b o, X.base.get? b = some o → b ∉ fp := fun b o e hb => by
  obtain ⟨_, _, _, f3, _⟩ := hf b hb
  rcases f3 with z | z
  ·exact I.ok.noex b o e z
  ·exact absurd (Nat.lt_of_lt_of_le (Heap.lt_size e) (Nat.le_trans I.ok.bsz z)) (Nat.lt_irrefl _)
 refine ⟨⟨I.ok.mod, S.kind, I.ok.glob, I.ok.blt, Nat.le_refl _, fun x y c e1 e2 => I.ok.inj x y c (subC x c e1) (subC y c e2), fun x hx => hasC x (kinds x hx), fun x c z => absurd (show false = true from z) Bool.false_ne_true, I.ok.hd, I.ok.frames, .inl rfl,
   fun b hb => ⟨Nat.ne_of_lt (hlt b hb), fun x c e => (hf b hb).2.2.2.2.1 x c (subC x c e)⟩, I.bs, Nat.le_trans I.ok.bsz I.sz, noex, fsN, I.stack, I.stkFree⟩,
  rfl, I.bare, Un.kept hk, ⟨_, hn, fun i x v e1 e2 e3 => ?_⟩, fun x c e => ?_, I.hok.fresh (Nat.le_refl _), fun x c e => I.freeC x c (subC x c e), fun p hp => absurd (show p ∈ ([] : List (Addr × Obj)) from hp) (by simp), I.hok.kept hk, T.1⟩
 ·obtain ⟨j, hj, hs, hfr, hkd⟩ := T.2 i x v e1 e2
  obtain ⟨m, _, hl⟩ := I.loc
  obtain ⟨u, r, l⟩ := hl j x v hj hs (hkd.elim (fun z => Or.inr (Or.inl z)) fun z => Or.inr (Or.inr z))
  refine ⟨u, r, .inr ⟨?_, ?_⟩⟩
  ·show (relabel scope X.env).names.lookup x = some .cell ∨ (relabel scope X.env).names.lookup x = some .free
   rcases e3 with z | z | z
   ·obtain ⟨k', e, q⟩ := lookup_relabel (show (relabel scope X.env).names.lookup x = some .local from z)
    rw [hfr] at e
    cases e
    rcases q with q | ⟨_, q⟩ <;> cases q
   ·exact .inl z
   ·exact .inr z
  ·obtain ⟨c, hc⟩ := hasC x hfr
   refine ⟨c, hc, ?_⟩
   rcases l with ⟨k, _⟩ | ⟨_, c', e, z⟩
   ·rcases hkd with hkd | hkd <;> (rw [hkd] at k; cases k)
   ·have e' := subC x c hc
    rw [e] at e'
    cases e'
    obtain ⟨o, ho, hd⟩ := z
    exact ⟨o, hk _ o ho, hd⟩
 ·obtain ⟨v, o, ho, hd⟩ := I.cell x c (subC x c e)
  exact ⟨v, o, hk _ o ho, hd⟩
theorem cmp_end {scope : Scope} {N : List Str} {pins pins' : List (Addr × Obj)} {σ σ' : St} {H H' : Hp} {s s' : Shared} {h' : Heap} {fp : List Addr} (I : Inv X pins σ H s) (hf : ∀ b ∈ fp, FpOk X pins H b)
  (I' : Inv (cmpCx X scope s.heap.objs.size N s H fp) pins' σ' H' s') (hs : Heap.SameBut s.heap.objs.size s'.heap h') : Inv X pins σ H' { s' with heap := h' } := by
 have hC : H' s.heap.objs.size = none := I'.free
 have ne : ∀ b o, s.heap.get? b = some o → b ≠ s.heap.objs.size := fun b o e => Nat.ne_of_lt (Heap.lt_size e)
 have B : Un (frs X.stack) fp H H' s.heap s'.heap := I'.base
 refine I.call' (s' := { s' with heap := h' }) (ch := fp) I'.os ⟨fun b o e n hb hx => ?_, fun b o e n hb hx => ?_, B.free, fun b o e hx => ?_, B.tups, B.frzs, B.tbls⟩ (fun b o e => ?_) I'.bare (fun b hb => ?_)
 ·exact (hs.2 b (ne b o e)).trans (B.keep b o e n hb hx)
 ·obtain ⟨sl, q⟩ := B.slot b o e n hb hx
  exact ⟨sl, (hs.2 b (ne b o e)).trans q⟩
 ·obtain ⟨o', q⟩ := B.there b o e hx
  exact ⟨o', (hs.2 b (ne b o e)).trans q⟩
 ·refine (I'.hok b o e).stay (fun c w' hc q => (hs.2 c ?_).trans q) (fun _ q => q) fun _ _ q => q
  rintro rfl
  rcases hc with rfl | hc
  ·rw [hC] at e; cases e
  ·rw [hC] at hc; cases hc
 ·obtain ⟨_, f1, _, f3, f4, f5⟩ := hf b hb
  exact ⟨f3, f1, f4, f5⟩
end
end L2
namespace L2
open PySem PySem.Spec PyProof.Rows
section
variable {prog : Program} {w : World} {A : Around} {R : Result → Shared → Prop} {s : Shared}
theorem compLoop_any {elt target iter : Expr} {ifs : List Expr} {scope : Scope} {pos : Pos} {it acc : Value} {env : Env} (I : Nat → Shared → Prop)
  (turn : ∀ n s, I n s → wpAny (model prog w) A (pyNext it) (fun r s₁ => match r with
   | none => R (.ok .next) s₁
   | some v => wpAny (model prog w) A (letOwnedTupleGo target it v) (fun _ s₁' => wpAny (model prog w) A (assign target env v) (fun _ s₂ =>
     wpAny (model prog w) A (forIn ifs true fun c r => if r = true then do let ok ← isTrue c env (eval c env); pure (ForInStep.yield ok) else pure (ForInStep.yield r)) (fun ok s₃ =>
      if ok = true then wpAny (model prog w) A (eval elt env) (fun x s₄ =>
       wpAny (model prog w) A (call (.builtin "list.append") [acc, x]) (fun _ s₅ => ∃ m, m < n ∧ I m s₅) (fun _ _ => False) s₄) (fun _ _ => False) s₃
      else ∃ m, m < n ∧ I m s₃) (fun _ _ => False) s₂) (fun _ _ => False) s₁') (fun _ _ => False) s₁) (fun _ _ => False) s)
  (n : Nat) (h : I n s) : codeAny (model prog w) A (.compLoop (.ListComp elt [⟨target, iter, ifs, 0⟩] scope pos) 0 it acc env) R s := by
 refine codeAny_loop rfl I (fun n s hI => ?_) n h
 show wpAny _ A ((compTurn (.ListComp elt [⟨target, iter, ifs, 0⟩] scope pos) 0 it acc env).onRaise (fun x => do noteFrame x env; theTreesLotGoes x)) _ _ s
 refine wpAny_noted ?_
 rw [compTurn_list]
 have up : ∀ {α : Type} {t : Sem α} {Q : α → Shared → Prop} {s : Shared} {E : Value → Shared → Prop}, wpAny (model prog w) A t Q (fun _ _ => False) s → wpAny (model prog w) A t Q E s := fun h => wpAny_noRaise h
 refine wpAny_bind (wpAny_standAt (wpAny_bind (up (thn (turn n s hI) fun r s₁ h₁ => ?_))))
 cases r with
 | none => exact wpAny_pure h₁
 | some v =>
  refine wpAny_bind (up (thn h₁ fun _ s₁' h₁' => ?_))
  refine wpAny_bind (up (thn h₁' fun _ s₂ h₂ => wpAny_bind (up (thn h₂ fun ok s₃ h₃ => ?_))))
  cases ok with
  | false => exact wpAny_pure ⟨rfl, h₃⟩
  | true =>
   exact wpAny_bind (wpAny_bind (up (thn h₃ fun x s₄ h₄ => wpAny_bind (up (thn h₄ fun _ s₅ h₅ => wpAny_pure (wpAny_pure ⟨rfl, h₅⟩))))))
end
noncomputable def CompW (J : It) (g : TG) (tt : TT) (te : TE) (σ0 : St) (H1 : Hp) (D : Addr) (Q : VK) : Prop :=
 ∃ W : Nat → Nat → St → Hp → Prop, (∃ m, W 0 m σ0 (upd H1 D (.lst []))) ∧ ∀ i m σ' H', W i m σ' H' →
  (J.stop i H' ∧ Q (.ref D) H') ∨ (J.go i H' ∧ ∃ N : St → Hp → Prop, (∀ σ2 H2, N σ2 H2 → ∃ m', m' < m ∧ W (i + 1) m' σ2 H2) ∧ ∀ x H2, J.yld i H' x H2 → g x σ' H2 fun σ2 H3 => tt σ2 H3 fun b H4 =>
   if b = true then te σ2 H4 fun y H5 => ∃ ys, H5 D = some (.lst ys) ∧ ys.length < sizeLine ∧ N σ2 (upd H5 D (.lst (ys ++ [y]))) else N σ2 H4)
noncomputable def tComp (wi : TI) (σ0 : St → St) (g : TG) (tt : TT) (te : TE) : TE := fun σ H Q => wi σ H fun J H1 => ∀ D, H1 D = none → CompW J g tt te (σ0 σ) H1 D Q
noncomputable def PTs (X : Cx) (ifs : List Expr) (t : TT) : Prop :=
 ∀ (pins : List (Addr × Obj)) (s : Shared) (σ : St) (H : Hp) (Q : Bool → Hp → Prop), Inv X pins σ H s → t σ H Q →
  wpAny (model X.prog X.w) X.A (forIn ifs true fun c r => if r = true then do let ok ← isTrue c X.env (eval c X.env); pure (ForInStep.yield ok) else pure (ForInStep.yield r)) (TP X pins σ Q) X.xe s
noncomputable def tYes : TT := fun _ H Q => Q true H
theorem pts_nil {X : Cx} : PTs X [] tYes := fun _ _ _ H _ I h => wpAny_tests_nil ⟨H, I, h⟩
section
variable {X : Cx} {elt target iter : Expr} {ifs : List Expr} {scope : Scope} {pos : Pos} {N : List Str} {wi : TI} {σ0 : St → St} {g : TG} {tt : TT} {te : TE}
theorem comp_block {pins : List (Addr × Obj)} {σ : St} {H : Hp} {s : Shared} {it : Addr} {fp : List Addr} {tn : Nat → Heap → Prop} {J : It} {Q : Addr → Hp → Prop} {RR : Value → Addr → Result → Shared → Prop} {E : Value → Shared → Prop}
  (hc : X.calm = true) (S : CScope scope X.env) (T : Takes X scope N σ (σ0 σ)) (I : Inv X pins σ H s) (Tn : Turn X.prog X.w X.K target J fp it tn) (st : tn 0 s.heap) (hf : ∀ b ∈ fp, FpOk X pins H b)
  (hg : ∀ C s H fp, PG (cmpCx X scope C N s H fp) target g) (ht : ∀ C s H fp, PTs (cmpCx X scope C N s H fp) ifs tt) (he : ∀ C s H fp, PE (cmpCx X scope C N s H fp) elt te)
  (hw : ∀ D, H D = none → ∃ W : Nat → Nat → St → Hp → Prop, (∃ m, W 0 m (σ0 σ) (upd H D (.lst []))) ∧ ∀ i m σ' H', W i m σ' H' →
   (J.stop i H' ∧ Q D H') ∨ (J.go i H' ∧ ∃ N : St → Hp → Prop, (∀ σ2 H2, N σ2 H2 → ∃ m', m' < m ∧ W (i + 1) m' σ2 H2) ∧ ∀ x H2, J.yld i H' x H2 → g x σ' H2 fun σ2 H3 => tt σ2 H3 fun b H4 =>
    if b = true then te σ2 H4 fun y H5 => ∃ ys, H5 D = some (.lst ys) ∧ ys.length < sizeLine ∧ N σ2 (upd H5 D (.lst (ys ++ [y]))) else N σ2 H4))
  (hR : ∀ (D C : Addr) (H' : Hp) (s' : Shared) (m : Str → Option Value), s.heap.objs.size ≤ C → H' C = none → s'.heap.Ns C m → (∀ h', Heap.SameBut C s'.heap h' → Inv X pins σ H' { s' with heap := h' }) → Q D H' → RR (.ref D) C (.ok .next) s') :
  wpAny (model X.prog X.w) X.A (newList []) (fun acc s₃ => wpAny (model X.prog X.w) X.A (newFunctionEnv scope X.env.globals (closL X.env scope.names []) [] X.env.qual none .none (some X.env)) (fun cenv s₄ =>
   codeAny (model X.prog X.w) X.A (.compStart (.ListComp elt [⟨target, iter, ifs, 0⟩] scope pos) 0 (.ref it) acc { cenv with scope := relabel scope X.env }) (RR acc cenv.locals) s₄) E s₃) E s := by
 refine wpAny_newObj_type (wpAny_newFunctionEnv S.nocell (by intro y hy; simp at hy) (fun h₁ hns₁ hsb₁ => ?_) S.kind)
 have hD : H s.heap.objs.size = none := I.hok.fresh (Nat.le_refl _)
 have I3 : Inv X pins σ (upd H s.heap.objs.size (.lst [])) { s with heap := s.heap.push { cls := .type "list", dict := none, data := .seq ([] : List Value).toArray } } := I.lnew (ys := []) (its := []) (t' := s.toks) .nil (by simp)
 have hlt : ∀ b ∈ fp, b < s.heap.objs.size := fun b hb => by obtain ⟨o, e, _⟩ := Tn.obj _ _ st b hb; exact Heap.lt_size e
 have hf3 : ∀ b ∈ fp, FpOk X pins (upd H s.heap.objs.size (.lst [])) b := fun b hb => ⟨by rw [upd_ne (Nat.ne_of_lt (hlt b hb))]; exact (hf b hb).1, (hf b hb).2⟩
 have hlt3 : ∀ b ∈ fp, b < ({ s with heap := s.heap.push { cls := .type "list", dict := none, data := .seq ([] : List Value).toArray } } : Shared).heap.objs.size := fun b hb => by
  show b < (s.heap.push _).objs.size
  rw [Heap.size_push]
  exact Nat.lt_succ_of_lt (hlt b hb)
 have hk1 : ∀ b o, ({ s with heap := s.heap.push { cls := .type "list", dict := none, data := .seq ([] : List Value).toArray } } : Shared).heap.get? b = some o → h₁.get? b = some o := fun b o e =>
  hsb₁.extBut b o (Nat.ne_of_lt (Heap.lt_size e)) (Heap.get?_push_of_some _ e)
 have I4 := cmp_start (N := N) (tk := s.toks + ([] : List (Str × Value)).length) I3 S hf3 hlt3 T hns₁ hk1
 have st4 : tn 0 h₁ := Tn.keep _ _ _ st fun b hb o e => hk1 b o (Heap.get?_push_of_some _ e)
 obtain ⟨W, ⟨m0, w0⟩, turn⟩ := hw _ hD
 generalize hX : cmpCx X scope ({ s with heap := s.heap.push { cls := .type "list", dict := none, data := .seq ([] : List Value).toArray } } : Shared).heap.objs.size N { s with heap := s.heap.push { cls := .type "list", dict := none, data := .seq ([] : List Value).toArray } } (upd H s.heap.objs.size (.lst [])) fp = X' at I4
 have eP : X'.prog = X.prog := by rw [← hX]; rfl
 have eW : X'.w = X.w := by rw [← hX]; rfl
 have eK : X'.K = X.K := by rw [← hX]; rfl
 have eA : X'.A = X.A := by rw [← hX]; rfl
 have eC : X'.calm = true := by rw [← hX]; exact hc
 have eX : X'.xe = fun _ _ => False := by rw [← hX]; rfl
 have eEx : X'.ex = fp := by rw [← hX]; rfl
 have hg' : PG X' target g := by rw [← hX]; exact hg _ _ _ _
 have ht' : PTs X' ifs tt := by rw [← hX]; exact ht _ _ _ _
 have he' : PE X' elt te := by rw [← hX]; exact he _ _ _ _
 have eE : X'.env = compEnvC scope (closL X.env scope.names []) ({ s with heap := s.heap.push { cls := .type "list", dict := none, data := .seq ([] : List Value).toArray } } : Shared).heap.objs.size X.env := by rw [← hX]; rfl
 have fpIn : ∀ {H' : Hp}, (∀ b ∈ fp, H' b = none) → ∀ b ∈ fp, FpOk X' [] H' b := fun {H'} hn b hb => by
  obtain ⟨f0, f1, f2, f3, f4, f5⟩ := hf3 b hb
  rw [← hX]
  refine ⟨hn b hb, Nat.ne_of_lt (hlt3 b hb), fun z => ?_, .inl hb, fun x c e => f4 x c (closL_sub (ns := scope.names) (acc := []) (fun y d z => by simp at z) e), fun p hp => absurd (show p ∈ ([] : List (Addr × Obj)) from hp) (by simp)⟩
  rcases List.mem_cons.mp (I3.stkSub b z) with e | e
  ·exact f1 e
  ·exact f2 e
 have fr0 : ∀ b ∈ fp, upd H s.heap.objs.size (.lst []) b = none := fun b hb => (hf3 b hb).1
 have loop : codeAny (model X.prog X.w) X.A (.compLoop (.ListComp elt [⟨target, iter, ifs, 0⟩] scope pos) 0 (.ref it) (.ref s.heap.objs.size) X'.env)
   (RR (.ref s.heap.objs.size) ({ s with heap := s.heap.push { cls := .type "list", dict := none, data := .seq ([] : List Value).toArray } } : Shared).heap.objs.size)
   { s with heap := h₁, toks := s.toks + ([] : List (Str × Value)).length } := by
  refine compLoop_any (fun n s' => ∃ i σ' H', Inv X' [] σ' H' s' ∧ tn i s'.heap ∧ (∀ b ∈ fp, H' b = none) ∧ W i n σ' H') ?_ m0 ⟨0, σ0 σ, _, I4, st4, fr0, w0⟩
  rintro n s5 ⟨i, σ5, H5, I5, st5, fr5, w5⟩
  rcases turn i n σ5 H5 w5 with ⟨stop, qn⟩ | ⟨go, Nx, hN, step⟩
  ·have q := Tn.done X' eP eW eK eC i [] s5 σ5 H5 (fun _ _ => False) I5 (fpIn fr5) st5 stop
   rw [eA] at q
   refine thn q fun r s6 ⟨hr, I6⟩ => ?_
   subst hr
   obtain ⟨mm, hns6, _⟩ := I6.loc
   rw [eE] at hns6
   have fr6 := I6.free
   rw [eE] at fr6
   refine hR _ _ H5 s6 mm ?_ fr6 hns6 (fun h' hs => ?_) qn
   ·show s.heap.objs.size ≤ (s.heap.push _).objs.size
    rw [Heap.size_push]
    exact Nat.le_succ _
   ·rw [← hX] at I6
    exact cmp_end I3 hf3 I6 hs
  ·have q := Tn.item X' eP eW eK eC i [] s5 σ5 H5 (fun _ _ => False) I5 (fpIn fr5) st5 go
   rw [eA] at q
   refine thn q fun r s6 ⟨u, hr, h6⟩ => ?_
   subst hr
   refine thn h6 fun _ s7 ⟨x, H7, I7, r7, y7, st7, fr7⟩ => ?_
   have I7' := I7.pinned (fpIn fr7) (Tn.obj _ _ st7)
   have q8 := hg' _ s7 σ5 H7 x u _ I7' r7 (step x H7 y7)
   rw [eP, eW, eA, eX] at q8
   refine thn q8 fun _ s8 ⟨σ8, H8, I8, q8⟩ => ?_
   have q9 := ht' _ s8 σ8 H8 _ I8 q8
   rw [eP, eW, eA, eX] at q9
   refine thn q9 fun ok s9 ⟨H9, I9, q9⟩ => ?_
   have again : ∀ {σ10 : St} {H10 : Hp} {s10 : Shared}, Inv X' ([] ++ pinsAt fp s7.heap) σ10 H10 s10 → Nx σ10 H10 → ∃ m, m < n ∧ ∃ i σ' H', Inv X' [] σ' H' s10 ∧ tn i s10.heap ∧ (∀ b ∈ fp, H' b = none) ∧ W i m σ' H' := fun {σ10 H10 s10} J10 n10 => by
    obtain ⟨m', hm, w10⟩ := hN σ10 H10 n10
    refine ⟨m', hm, i + 1, σ10, H10, J10.unpinned, Tn.keep _ _ _ st7 fun b hb o e => (J10.pin (b, o) (List.mem_append_right _ (List.mem_append_right _ (mem_pinsAt hb e)))).1, fun b hb => ?_, w10⟩
    obtain ⟨o, e, d⟩ := Tn.obj _ _ st7 b hb
    exact (J10.pin (b, o) (List.mem_append_right _ (List.mem_append_right _ (mem_pinsAt hb e)))).2.1
   cases ok with
   | false =>
    have q9' : Nx σ8 H9 := q9
    exact again I9 q9'
   | true =>
    have q9' : te σ8 H9 _ := q9
    have q10 := he' _ s9 σ8 H9 _ I9 q9'
    rw [eP, eW, eA, eX] at q10
    refine thn q10 fun y s10 ⟨yv, H10, I10, r10, ys, hys, hz, n10⟩ => ?_
    have q11 := (mt_append (X := X')) _ s10 σ8 H10 (.ref s.heap.objs.size) [yv] (.ref s.heap.objs.size) [y] (fun _ H11 => Nx σ8 H11) I10 rfl (.cons r10 .nil) ⟨_, ys, yv, rfl, rfl, hys, hz, n10⟩
    rw [eP, eW, eA, eX] at q11
    exact thn q11 fun _ s11 ⟨_, H11, I11, _, n11⟩ => again I11 n11
 rw [eE] at loop
 exact codeAny_compStart_list loop (Tn.self _ 0 _ _ _ st4 loop)
theorem pe_comp (hc : X.calm = true) (S : CScope scope X.env) (hi : PI X target iter wi) (T : ∀ σ, σ.length = X.N.length → Takes X scope N σ (σ0 σ))
  (hg : ∀ C s H fp, PG (cmpCx X scope C N s H fp) target g) (ht : ∀ C s H fp, PTs (cmpCx X scope C N s H fp) ifs tt) (he : ∀ C s H fp, PE (cmpCx X scope C N s H fp) elt te)
  (hs : ∀ x, foldedSetIterable iter X.env x = pure x := by intro _; rfl) : PE X (.ListComp elt [⟨target, iter, ifs, 0⟩] scope pos) (tComp wi σ0 g tt te) := by
 intro pins s σ H Q I h
 rw [eval_ListComp]
 refine wpAny_comprehension_free (use := none) rfl hs (closureFor_eq S.free) S.kind S.loc (thn (hi pins s σ H _ I h) fun xv s₁ h₁ => thn h₁ fun itv s₂ h₂ => ?_)
 obtain ⟨it, fp, tn, J, H2, rfl, I2, Tn, st2, f2, hw⟩ := h₂
 refine comp_block (Q := fun D H' => Q (.ref D) H') (RR := fun acc C => compPost (model X.prog X.w) X.A X.xe none (EP X pins σ Q) acc C) hc S (T σ I.len) I2 Tn st2 f2 hg ht he hw ?_
 intro D C H' s' m hC _ hn hI hq
 exact ⟨m, hn, fun h' hs' => ⟨.ref D, H', hI h' hs', rfl, hq⟩⟩
theorem ps_setC {i : Nat} {y : Str} {py spos : Pos} (hc : X.calm = true) (S : CScope scope X.env) (hi : PI X target iter wi) (T : ∀ σ, σ.length = X.N.length → Takes X scope N σ (σ0 σ))
  (hg : ∀ C s H fp, PG (cmpCx X scope C N s H fp) target g) (ht : ∀ C s H fp, PTs (cmpCx X scope C N s H fp) ifs tt) (he : ∀ C s H fp, PE (cmpCx X scope C N s H fp) elt te)
  (hN : X.N.Nodup) (hy : X.N[i]? = some y) (hx : Loc X.env.scope y)
  (hsw : swapsWith (.ListComp elt [⟨target, iter, ifs, 0⟩] scope pos) (some (.Name y py)) spos.line X.env = pure true := by rfl)
  (hf : X.fn y = true ∨ X.env.scope.names.lookup y = some .local := by first | exact .inl rfl | exact .inr rfl | assumption)
  (hs : ∀ x, foldedSetIterable iter X.env x = pure x := by intro _; rfl) : PS X (.Assign [.Name y py] (.ListComp elt [⟨target, iter, ifs, 0⟩] scope pos) spos) (tAsg (tComp wi σ0 g tt te) (gName i)) := by
 intro pins s σ H D I h
 rw [exec_Assign_Name_used _ _ _ _ hsw]
 refine wpAny_bind (wpAny_standAt (wpAny_bind ?_))
 show wpAny _ X.A (do let _ ← comprehension (.ListComp elt [⟨target, iter, ifs, 0⟩] scope pos) scope X.env _ (newList []) false (eval iter X.env) (some (assign (.Name y py) X.env))) _ _ s
 refine wpAny_bind (thn (wpAny_comprehension_free (use := some (assign (.Name y py) X.env)) (Q := fun _ s' => SP X pins D .next s') rfl hs (closureFor_eq S.free) S.kind S.loc
  (thn (hi pins s σ H _ I h) fun xv s₁ h₁ => thn h₁ fun itv s₂ h₂ => ?_)) fun _ s' hq => wpAny_pure (wpAny_pure hq))
 obtain ⟨it, fp, tn, J, H2, rfl, I2, Tn, st2, f2, hw⟩ := h₂
 refine comp_block (Q := fun L H' => D.nx (σ.set i (some (.ref L))) H') (RR := fun acc C => compPost (model X.prog X.w) X.A X.xe (some (assign (.Name y py) X.env)) (fun _ s' => SP X pins D .next s') acc C) hc S (T σ I.len) I2 Tn st2 f2 hg ht he hw ?_
 intro L C H' s' m hC hfree hn hI hq
 have I3 : Inv X pins σ H' s' := hI s'.heap (.refl ..)
 refine wpAny_assign_Name (store_ok2 I3 hN hy hx (v := .ref L) rfl (fun s4 I4 hch => ?_) hf)
 obtain ⟨a, hsb, ha⟩ := hch
 have haC : C ≠ a := by
  rintro rfl
  rcases ha with e | e
  ·have := I2.lt
   rw [← e] at this
   exact absurd (Nat.lt_of_lt_of_le this hC) (Nat.lt_irrefl _)
  ·obtain ⟨v, z⟩ := I2.cell y _ e
   exact absurd (Nat.lt_of_lt_of_le z.lt hC) (Nat.lt_irrefl _)
 refine ⟨m, hn.sameBut hsb haC, fun h' hs' => ⟨_, H', ?_, hq⟩⟩
 have e4 : ({ s4 with heap := h' } : Shared) = { s4 with heap := h', toks := s4.toks } := rfl
 rw [e4]
 refine I4.turned (it := C) (fun b o hb e => (hs'.2 b hb).trans e) hfree ?_ (.inr (Nat.le_trans I2.sz hC)) ?_ ?_
 ·exact Nat.ne_of_gt (Nat.lt_of_lt_of_le I2.lt hC)
 ·rintro x c e rfl
  obtain ⟨v, z⟩ := I2.cell x _ e
  exact absurd (Nat.lt_of_lt_of_le z.lt hC) (Nat.lt_irrefl _)
 ·rintro p hp e
  exact absurd (Nat.lt_of_lt_of_le (Heap.lt_size (I2.pin p hp).1) (by rw [e]; exact hC)) (Nat.lt_irrefl _)
end
end L2
namespace L2
open PySem PySem.Spec PyProof.Rows
section
variable {X : Cx}
theorem kit_same {K : PySem.W.Frag} {T : String} : PySem.W.kitOne K (.type T) (.type T) = some true := by
 unfold PySem.W.kitOne
 rw [if_pos (by simp)]
theorem kit_of {K : PySem.W.Frag} {T U : String} {b : Bool} {l : List Value} (hm : PySem.W.kitMeta U = true) (hn : ¬ T = U) (hl : fastBuiltinMro T = some l) (hb : l.contains (.type U) = b) : PySem.W.kitOne K (.type T) (.type U) = some b := by
 unfold PySem.W.kitOne
 rw [if_neg (by simp [hn])]
 show (if PySem.W.kitMeta U = true then PySem.W.subIn K (.type T) (.type U) else none) = some b
 rw [if_pos hm]
 show (fastBuiltinMro T).map (·.contains (.type U)) = some b
 rw [hl, ← hb]
 rfl
theorem op_le_str : OpR X (compareOp .LtE) (fun x y H Q => ∃ i j, x = .str i ∧ y = .str j ∧ Q (.bl (!(decide (j.cps.toList < i.cps.toList)))) H) := by
 intro pins s σ H x y v u Q I rx ry h
 obtain ⟨i, j, rfl, rfl, q⟩ := h
 obtain ⟨t, rfl⟩ := rx
 obtain ⟨t', rfl⟩ := ry
 exact PySem.P.le_str (fin_bl I q rfl)
theorem op_in_sign : OpR X (compareOp .In) (fun x y H Q => ∃ (c : Nat) (j : Str), x = .str ⟨#[c]⟩ ∧ y = .str j ∧ Q (.bl (decide (c ∈ j.cps.toList))) H) := by
 intro pins s σ H x y v u Q I rx ry h
 obtain ⟨c, j, rfl, rfl, q⟩ := h
 exact op_in_str pins s σ H _ _ v u Q I rx ry ⟨_, _, rfl, rfl, by rw [StrLaws.found_one]; exact q⟩
theorem op_notin_sign : OpR X (compareOp .NotIn) (fun x y H Q => ∃ (c : Nat) (j : Str), x = .str ⟨#[c]⟩ ∧ y = .str j ∧ Q (.bl (!decide (c ∈ j.cps.toList))) H) := by
 intro pins s σ H x y v u Q I rx ry h
 obtain ⟨c, j, rfl, rfl, q⟩ := h
 exact op_notin_str pins s σ H _ _ v u Q I rx ry ⟨_, _, rfl, rfl, by rw [StrLaws.found_one]; exact q⟩
noncomputable def rSlS : V → Option Int → Option Int → Hp → VK → Prop := fun x lo hi H Q => ∃ z, x = .str z ∧ z.length ≤ sizeLine ∧ Q (.str (Txt.slice z lo hi)) H
theorem sl_str : SlR X rSlS := by
 intro pins s σ H x v vl vu lo hi sl Q I rx hs pl pu h
 obtain ⟨z, rfl, hz, q⟩ := h
 obtain ⟨t, rfl⟩ := rx
 obtain ⟨o, ho, hc, hd⟩ := hs
 refine ⟨"str", _, slot_str_getitem.lookup, typeIs_str _ _ _, ?_⟩
 cases pl with
 | none =>
  cases pu with
  | none => exact wpAny_getItem_str_slice (l := none) (u := none) (st := none) ⟨_, ho, hc, hd⟩ rfl (post_val_or_str ⟨Nat.le_trans (Txt.slice_le z _ _) hz, fun t' k => ⟨.str (Txt.slice z _ _), H, I.tok k, ⟨t', rfl⟩, q⟩⟩)
  | int j u => exact wpAny_getItem_str_slice (l := none) (u := some (j, u)) (st := none) ⟨_, ho, hc, hd⟩ rfl (post_val_or_str ⟨Nat.le_trans (Txt.slice_le z _ _) hz, fun t' k => ⟨.str (Txt.slice z _ _), H, I.tok k, ⟨t', rfl⟩, q⟩⟩)
 | int i ti =>
  cases pu with
  | none => exact wpAny_getItem_str_slice (l := some (i, ti)) (u := none) (st := none) ⟨_, ho, hc, hd⟩ rfl (post_val_or_str ⟨Nat.le_trans (Txt.slice_le z _ _) hz, fun t' k => ⟨.str (Txt.slice z _ _), H, I.tok k, ⟨t', rfl⟩, q⟩⟩)
  | int j u => exact wpAny_getItem_str_slice (l := some (i, ti)) (u := some (j, u)) (st := none) ⟨_, ho, hc, hd⟩ rfl (post_val_or_str ⟨Nat.le_trans (Txt.slice_le z _ _) hz, fun t' k => ⟨.str (Txt.slice z _ _), H, I.tok k, ⟨t', rfl⟩, q⟩⟩)
theorem slice_mem {z : Str} {lo hi : Option Int} {c : Nat} (h : c ∈ (Txt.slice z lo hi).cps.toList) : c ∈ z.cps.toList := by
 unfold Txt.slice at h
 split at h
 ·exact h
 ·obtain ⟨i, _, e⟩ := List.mem_filterMap.mp (by simpa using h)
  exact List.mem_of_getElem? (by simpa using e)
theorem strsAre_of : ∀ {ys : List Str} {us : List Value}, Vals (ys.map V.str) us → StrsAre us ys
 | [], _, .nil => .nil
 | y :: ys, _, .cons r t => by
  obtain ⟨tk, rfl⟩ := r
  exact .cons y tk (strsAre_of t)
noncomputable def rJoin (K : PySem.W.Frag) : V → List V → Hp → VK → Prop := fun x vs H Q => ∃ sep p ys, x = .str sep ∧ vs = [.ref p] ∧ SqL K H p (ys.map V.str) ∧ (ys.map (·.length)).sum + ys.length * sep.length ≤ 16777216 ∧ Q (.str (Txt.join sep ys)) H
theorem mt_join : MtR X "str.join" (rJoin X.K) := by
 intro pins s σ H x vs v us Q I rx rv h
 obtain ⟨sep, p, ys, rfl, rfl, hq, hz, q⟩ := h
 obtain ⟨t, rfl⟩ := rx
 obtain ⟨u, rfl, ru⟩ := rv.one
 cases ru
 obtain ⟨its, r, pl, _⟩ := I.list hq
 exact join_list pl.isList (by simpa using strsAre_of r) hz fun t' k => ⟨.str (Txt.join sep ys), H, I.tok k, ⟨t', rfl⟩, q⟩
theorem join_mem : ∀ {ys : List Str} {c : Nat}, c ∈ (Str.join Str.empty ys).cps.toList → ∃ y ∈ ys, c ∈ y.cps.toList
 | [], c, h => by simp [Str.join, Str.empty] at h
 | [y], c, h => ⟨y, List.mem_singleton.mpr rfl, h⟩
 | y :: z :: r, c, h => by
  have h : c ∈ ((y ++ Str.empty) ++ Str.join Str.empty (z :: r)).cps.toList := h
  have e : ∀ a b : Str, (a ++ b).cps.toList = a.cps.toList ++ b.cps.toList := fun a b => by
   show (a.cps ++ b.cps).toList = _
   simp
  rw [e, e] at h
  rcases List.mem_append.mp h with h | h
  ·rcases List.mem_append.mp h with h | h
   ·exact ⟨y, List.mem_cons_self, h⟩
   ·simp [Str.empty] at h
  ·obtain ⟨w, hw, hc⟩ := join_mem h
   exact ⟨w, List.mem_cons_of_mem _ hw, hc⟩
theorem joinT_mem {ys : List Str} {c : Nat} (h : c ∈ (Txt.join Str.empty ys).cps.toList) : ∃ y ∈ ys, c ∈ y.cps.toList := by
 unfold Txt.join at h
 rw [StrLaws.glued_eq_join] at h
 exact join_mem h
noncomputable def rUpper : V → List V → Hp → VK → Prop := fun x vs H Q => ∃ z, x = .str z ∧ vs = [] ∧ (∀ c ∈ z.cps.toList, c < 128) ∧ z.length ≤ 1000 ∧ Q (.str ⟨z.cps.map up1⟩) H
theorem mt_upper : MtR X "str.upper" rUpper := by
 intro pins s σ H x vs v us Q I rx rv h
 obtain ⟨z, rfl, rfl, ha, hz, q⟩ := h
 obtain ⟨t, rfl⟩ := rx
 obtain rfl := rv.zero
 have e := upper_ascii ha
 refine SC.upper ?_ ?_
 ·rw [e]
  have e2 : (⟨z.cps.map up1⟩ : Str).length = z.length := by simp [Str.length]
  rw [e2]
  unfold Builtin.Str.tooLong
  have h1 : 1000 ≤ sizeLine := by decide
  exact decide_eq_false (by omega)
 ·rw [e]
  exact ⟨.str ⟨z.cps.map up1⟩, H, I.tok _, ⟨_, rfl⟩, q⟩
end
end L2
namespace L2
open PySem PySem.Spec PyProof.Rows
noncomputable def Its (z : Str) : It := ⟨fun i _ => i < z.cps.size, fun i H x H' => H' = H ∧ ∃ c, z.cps.toList[i]? = some c ∧ x = .str ⟨#[c]⟩, fun i _ => i = z.cps.size⟩
theorem strIter_ty (z : Str) : ["enumerate", "zip", "dict_itemiterator", "dict_reverseitemiterator", "odict_iterator", "itertools.zip_longest", "itertools.pairwise"].contains (strIterType z) = false := by
 unfold strIterType
 cases z.cps.all (· < 128) <;> decide
theorem walks_str {P : Program} {w : World} {A : Around} (hh : A.handled = none) (it : Addr) (z : Str) (t : Tok) : Walks P w A it [it] [it] z.cps.size (SignAt z) (fun i h => h.IsStrIter it (strIterType z) z t i) := by
 unfold strIterType
 cases z.cps.all (· < 128)
 ·exact Walks.strWide hh it z t
 ·exact Walks.strAscii hh it z t
theorem turn_str {P : Program} {w : World} {K : PySem.W.Frag} {tg : Expr} (it : Addr) (z : Str) (t : Tok) : Turn P w K tg (Its z) [it] it (fun i h => h.IsStrIter it (strIterType z) z t i) where
 mem := by simp
 obj := fun i h st b hb => by
  have e : b = it := by simpa using hb
  subst e
  obtain ⟨o, e, c, d⟩ := st
  exact ⟨o, e, fun v z => by rw [d] at z; cases z⟩
 keep := fun i h h' st k => let ⟨o, e, r⟩ := st; ⟨o, k it (by simp) o e, r⟩
 item := by
  intro X hP hw hK hc i pins s σ H E I hf st hg
  subst hP hw hK
  obtain ⟨f0, f1, f2, f3, f4, f5⟩ := hf it (by simp)
  refine (walks_str (P := X.prog) (w := X.w) (I.ok.hd hc) it z t).item i s _ _ hg st fun v h' tk hv st' kk => ?_
  obtain ⟨c, u, hcu, rfl⟩ := hv
  have I1 : Inv X pins σ H { s with heap := h', toks := tk } := I.turned (fun b o hb e => kk b o (by simpa using hb) e) f0 f1 f3 f4 f5
  obtain ⟨o, e, cc, d⟩ := id st'
  exact ⟨_, rfl, go_of (s := { s with heap := h', toks := tk }) e cc d (strIter_ty z) ⟨.str ⟨#[c]⟩, H, I1, ⟨u, rfl⟩, ⟨rfl, c, by simpa using hcu, rfl⟩, st', fun b hb => (hf b hb).1⟩⟩
 done := by
  intro X hP hw hK hc i pins s σ H E I hf st hg
  subst hP hw hK
  obtain ⟨f0, f1, f2, f3, f4, f5⟩ := hf it (by simp)
  have hg : i = z.cps.size := hg
  subst hg
  exact (walks_str (P := X.prog) (w := X.w) (I.ok.hd hc) it z t).done s _ _ st fun h' tk kk => ⟨rfl, I.turned (fun b o hb e => kk b o (by simpa using hb) e) f0 f1 f3 f4 f5⟩
 self := fun A i s Q E st h => by
  obtain ⟨o, e, c, d⟩ := st
  unfold strIterType at c
  cases ha : z.cps.all (· < 128)
  ·rw [ha] at c; exact wpAny_pyIter_striter_wide ⟨o, e, c, d⟩ h
  ·rw [ha] at c; exact wpAny_pyIter_striter_ascii ⟨o, e, c, d⟩ h
section
variable {X : Cx} {tg : Expr}
end
section
variable {g : TG} {tt : TT} {te : TE} {σ0 : St} {H1 : Hp} {D : Addr} {Q : VK}
noncomputable def CompT (g : TG) (tt : TT) (te : TE) (D : Addr) (Nx : List V → St → Hp → Prop) (x : V) (σ : St) (H : Hp) : Prop :=
 g x σ H fun σ2 H3 => tt σ2 H3 fun b H4 => if b = true then te σ2 H4 fun y H5 => ∃ ys, H5 D = some (.lst ys) ∧ ys.length < sizeLine ∧ (∃ zs, upd H5 D (.lst (ys ++ [y])) D = some (.lst zs) ∧ Nx zs σ2 (upd H5 D (.lst (ys ++ [y])))) else ∃ zs, H4 D = some (.lst zs) ∧ Nx zs σ2 H4
theorem comp_range {lo : Int} {n : Nat} (Pv : Nat → List V → St → Hp → Prop) (h0 : Pv 0 [] σ0 (upd H1 D (.lst [])))
  (hs : ∀ i ys σ H, i < n → H D = some (.lst ys) → Pv i ys σ H → CompT g tt te D (Pv (i + 1)) (.int (lo + i)) σ H)
  (hd : ∀ ys σ H, H D = some (.lst ys) → Pv n ys σ H → Q (.ref D) H) : CompW (Itr lo n) g tt te σ0 H1 D Q := by
 refine ⟨fun i m σ H => m = n - i ∧ i ≤ n ∧ ∃ ys, H D = some (.lst ys) ∧ Pv i ys σ H, ⟨n, by simp, Nat.zero_le _, [], upd_same, h0⟩, ?_⟩
 rintro i m σ H ⟨rfl, hi, ys, hD, p⟩
 by_cases hlt : i < n
 ·refine .inr ⟨hlt, fun σ2 H2 => ∃ zs, H2 D = some (.lst zs) ∧ Pv (i + 1) zs σ2 H2, fun σ' H' p' => ⟨n - (i + 1), by omega, rfl, hlt, p'⟩, fun x H' y => ?_⟩
  obtain ⟨e, y⟩ := y
  subst e y
  exact hs i ys σ _ hlt hD p
 ·have e : i = n := by omega
  subst e
  exact .inl ⟨Nat.le_refl _, hd ys σ H hD p⟩
theorem comp_str {z : Str} (Pv : Nat → List V → St → Hp → Prop) (h0 : Pv 0 [] σ0 (upd H1 D (.lst [])))
  (hs : ∀ i c ys σ H, z.cps.toList[i]? = some c → H D = some (.lst ys) → Pv i ys σ H → CompT g tt te D (Pv (i + 1)) (.str ⟨#[c]⟩) σ H)
  (hd : ∀ ys σ H, H D = some (.lst ys) → Pv z.cps.size ys σ H → Q (.ref D) H) : CompW (Its z) g tt te σ0 H1 D Q := by
 refine ⟨fun i m σ H => m = z.cps.size - i ∧ i ≤ z.cps.size ∧ ∃ ys, H D = some (.lst ys) ∧ Pv i ys σ H, ⟨z.cps.size, by simp, Nat.zero_le _, [], upd_same, h0⟩, ?_⟩
 rintro i m σ H ⟨rfl, hi, ys, hD, p⟩
 by_cases hlt : i < z.cps.size
 ·refine .inr ⟨hlt, fun σ2 H2 => ∃ zs, H2 D = some (.lst zs) ∧ Pv (i + 1) zs σ2 H2, fun σ' H' p' => ⟨z.cps.size - (i + 1), by omega, rfl, hlt, p'⟩, fun x H' y => ?_⟩
  obtain ⟨e, c, hc, y⟩ := y
  subst e y
  exact hs i c ys σ _ hc hD p
 ·have e : i = z.cps.size := by omega
  subst e
  exact .inl ⟨rfl, hd ys σ H hD p⟩
end
section
variable {X : Cx}
theorem vals_bl : ∀ {bs : List Bool} {us : List Value}, Vals (bs.map V.bl) us → us = bs.map Value.bool
 | [], _, .nil => rfl
 | b :: bs, _, .cons r t => by
  cases r
  rw [vals_bl t]
  rfl
theorem range_all {bs : List Bool} : (List.range bs.length).all (fun i => bs.getD i true) = bs.all id := by
 induction bs with
 | nil => rfl
 | cons b r ih =>
  rw [List.length_cons, List.range_succ_eq_map, List.all_cons, List.all_map, List.all_cons]
  have : ((fun i => (b :: r).getD i true) ∘ Nat.succ) = fun i => r.getD i true := by
   funext i
   simp
  rw [this, ih]
  rfl
theorem call_all (hc : X.calm = true) : CallR X (.builtin "all") (fun xs H Q => ∃ (p : Addr) (bs : List Bool), xs = [.ref p] ∧ SqL X.K H p (bs.map V.bl) ∧ Q (.bl (bs.all id)) H) := by
 intro pins s σ H xs us Q I r h
 obtain ⟨p, bs, rfl, hq, q⟩ := h
 obtain ⟨u, rfl, ru⟩ := r.one
 cases ru
 obtain ⟨its, rv, pl, hz⟩ := I.list hq
 obtain rfl := vals_bl rv
 refine call_all_walk (wpAny_pyIter_list pl.isList ?_)
 have hlt : p < s.heap.objs.size := by obtain ⟨o, e, _⟩ := pl.isList; exact Heap.lt_size e
 have hl' : (s.heap.push { cls := .type "list_iterator", data := .fields #[.ref p, rawInt 0] }).IsList p (bs.map Value.bool).toArray := pl.isList.at fun o e => Heap.get?_push_of_some _ e
 refine ⟨s.heap.objs.size, _, _, _, _, _, fun i => bs.getD i true, rfl, Walks.list (A := X.A.in1) (show X.A.in1.handled = none from I.ok.hd hc) s.heap.objs.size p (Nat.ne_of_lt hlt) (bs.map Value.bool).toArray, ⟨⟨_, Heap.get?_push_size _ rfl, rfl, rfl⟩, ?_⟩, ?_, ?_⟩
 ·exact pl.isList.at fun o e => Heap.get?_push_of_some _ e
 ·intro i v s' Q' E' hv hQ
  have hv' : (bs.map Value.bool)[i]? = some v := by simpa using hv
  rw [List.getElem?_map] at hv'
  cases e : bs[i]? with
  | none => rw [e] at hv'; cases hv'
  | some b =>
   rw [e] at hv'
   cases hv'
   have : bs.getD i true = b := by simp [List.getD, e]
   have hQ : Q' (bs.getD i true) s' := hQ
   rw [this] at hQ
   exact wpAny_truthy_bool hQ
 ·intro h' tk hk
  have I1 : Inv X pins σ H { s with heap := s.heap.push { cls := .type "list_iterator", data := .fields #[.ref p, rawInt 0] } } := I.kept (t' := s.toks) fun b o e => Heap.get?_push_of_some _ e
  have F := I.fpOk (Nat.le_refl s.heap.objs.size) (I.hok.fresh (Nat.le_refl _))
  obtain ⟨f0, f1, f2, f3, f4, f5⟩ := F
  have I2 : Inv X pins σ H { s with heap := h', toks := tk } := Inv.turned (s := { s with heap := s.heap.push { cls := .type "list_iterator", data := .fields #[.ref p, rawInt 0] } }) (h' := h') (t' := tk) (it := s.heap.objs.size) I1 (fun b o hb e => hk b o (by simpa using hb) e) f0 f1 f3 f4 f5
  refine ⟨.bl (bs.all id), H, I2, ?_, q⟩
  show Value.bool _ = Value.bool _
  have : (bs.map Value.bool).toArray.size = bs.length := by simp
  rw [this, range_all]
end
end L2
namespace L2
open PySem PySem.Spec PyProof.Rows
theorem Same.upd {H : Hp} {p : Addr} {o : HO} (h : H p = none) : Same H (upd H p o) := fun b u e => by rw [upd_ne (ne_of_none e h)]; exact e
theorem Same.put {H0 H : Hp} {p : Addr} {o : HO} (s : Same H0 H) (h : H p = none) : Same H0 (L2.upd H p o) := s.trans (Same.upd h)
theorem Same.over {H0 H : Hp} {p : Addr} {o : HO} (s : Same H0 H) (h : H0 p = none) : Same H0 (L2.upd H p o) := fun b u e => by rw [upd_ne (ne_of_none e h)]; exact s b u e
theorem Same.tup {K : PySem.W.Frag} {H H' : Hp} {a : Addr} {xs : List V} (e : Same H H') (h : SqT K H a xs) : SqT K H' a xs := by
 rcases h with (h | ⟨o, h⟩) | h
 ·exact .inl (.inl (e _ _ h))
 ·exact .inl (.inr ⟨o, e _ _ h⟩)
 ·exact .inr h
theorem cscope_fn {sc out : Scope} {qual : Str} {n : Nat} {f : Addr} {cd : Value} (hk : sc.kind = .function) (hc : (sc.names.all fun y => y.2 != .cell) = true)
  (hl : (sc.names.all fun y => y.2 != .local || sc.names.lookup y.1 == some .local) = true) (hf : (sc.names.all fun y => y.2 != .free || out.names.lookup y.1 == some .cell) = true) : CScope sc (envOfC qual out n f cd) where
 kind := hk
 nocell := fun y hy e => by have := List.all_eq_true.mp hc y hy; rw [e] at this; cases this
 loc := fun y hy e => by
  have := List.all_eq_true.mp hl y hy
  rw [e] at this
  simpa using this
 free := fun y hy e => by
  have h := List.all_eq_true.mp hf y hy
  rw [e] at h
  have h : out.names.lookup y.1 = some .cell := by simpa using h
  obtain ⟨c, hc⟩ := cell_has (n := n + 1) h
  show ((cellsFrom (n + 1) out.names []).lookup y.1).isSome = true
  rw [hc]
  rfl
noncomputable def capSt (k : Nat) (cap : List Nat) (σ : St) : St := List.replicate k none ++ cap.map fun j => (σ[j]?).join
theorem takes_of {X : Cx} {scope : Scope} {N : List Str} {k : Nat} {cap : List Nat} {σ : St} (hl : k + cap.length = N.length)
  (h : ∀ (i j : Nat) (x : Str), cap[i]? = some j → N[k + i]? = some x → X.N[j]? = some x ∧ scope.names.lookup x = some .free ∧ (X.env.kindOf x = some .cell ∨ X.env.kindOf x = some .free)) : Takes X scope N σ (capSt k cap σ) := by
 refine ⟨by unfold capSt; simp [hl], fun i x v hx hv => ?_⟩
 unfold capSt at hv
 by_cases hi : i < k
 ·rw [List.getElem?_append_left (by simpa using hi), List.getElem?_replicate, if_pos hi] at hv
  cases hv
 ·rw [List.getElem?_append_right (by simpa using hi), List.length_replicate, List.getElem?_map] at hv
  cases hj : cap[i - k]? with
  | none => rw [hj] at hv; cases hv
  | some j =>
   rw [hj] at hv
   have hv : (σ[j]?).join = some v := Option.some.inj hv
   obtain ⟨h1, h2, h3⟩ := h (i - k) j x hj (by rw [show k + (i - k) = i by omega]; exact hx)
   refine ⟨j, h1, ?_, h2, h3⟩
   cases e : σ[j]? with
   | none => rw [e] at hv; cases hv
   | some o => rw [e] at hv; exact congrArg some hv
theorem takes_in {X : Cx} {scope : Scope} {N : List Str} {k : Nat} {cap : List Nat} (hl : k + cap.length = N.length)
  (h : ((cap.zip (N.drop k)).all fun p => X.N[p.1]? == some p.2 && scope.names.lookup p.2 == some .free && (X.env.kindOf p.2 == some .cell || X.env.kindOf p.2 == some .free)) = true) : ∀ σ, σ.length = X.N.length → Takes X scope N σ (capSt k cap σ) := fun σ _ =>
 takes_of hl fun i j x hj hx => by
  have m : (j, x) ∈ cap.zip (N.drop k) := by
   refine List.mem_of_getElem? (i := i) ?_
   rw [List.getElem?_zip_eq_some]
   exact ⟨hj, by rw [List.getElem?_drop]; exact hx⟩
  have := List.all_eq_true.mp h _ m
  simp only [Bool.and_eq_true, Bool.or_eq_true, beq_iff_eq] at this
  exact ⟨this.1.1, this.1.2, this.2⟩
theorem atI_in {α : Type} {xs : List α} {i : Int} (h0 : 0 ≤ i) (h1 : i < xs.length) : ∃ v, atI xs i = some v ∧ v ∈ xs := by
 have hj : i.toNat < xs.length := by omega
 refine ⟨xs[i.toNat], ?_, List.getElem_mem hj⟩
 have := atI_nat (xs := xs) (j := i.toNat) (v := xs[i.toNat]) (by simp [hj])
 rwa [Int.toNat_of_nonneg h0] at this
noncomputable def constV : Expr → Option V
 | .Constant (.str x) _ _ => some (.str x)
 | .Constant (.int i) _ _ => some (.int i)
 | .Constant (.bool b) _ _ => some (.bl b)
 | .Constant .none _ _ => some .non
 | _ => none
noncomputable def constsV : List Expr → Option (List V)
 | [] => some []
 | e :: es => match constV e, constsV es with
  | some v, some vs => some (v :: vs)
  | _, _ => none
noncomputable def tVals (xs : List V) : TA := fun _ H Q => Q xs H
theorem constV_ok {X : Cx} {e : Expr} {v : V} (h : constV e = some v) : PE X e (tC v) ∧ ∀ es, starEach (e :: es) X.env = (false, eval e X.env) :: starEach es X.env := by
 unfold constV at h
 split at h
 ·cases h; exact ⟨pe_str, fun _ => rfl⟩
 ·cases h; exact ⟨pe_int, fun _ => rfl⟩
 ·cases h; exact ⟨pe_bl, fun _ => rfl⟩
 ·cases h; exact ⟨pe_non, fun _ => rfl⟩
 ·cases h
theorem pa_consts {X : Cx} : ∀ {es : List Expr} {xs : List V}, constsV es = some xs → PA X es (tVals xs)
 | [], xs, h => by
  have h : some [] = some xs := h
  cases h
  exact pa_nil
 | e :: es, xs, h => by
  unfold constsV at h
  split at h
  ·rename_i v vs h1 h2
   cases h
   obtain ⟨p, hs⟩ := constV_ok (X := X) h1
   exact pa_cons p (pa_consts h2) (hs es)
  ·cases h
structure Callee (P : Program) (w : World) (K : PySem.W.Frag) (mg : Str → Option Value) (base : Heap) (k : Nat) (x : Str) (ps : List Str) (sp : Sp) : Prop where
 ex : ∃ (f : Addr) (fd : FuncData), FnOk P w K mg base CX0 k f fd ps sp ∧ mg x = some (.ref f) ∧ PySem.W.keepIn K (.ref f) = true ∧ Binds K fd ps []
section
variable {X : Cx} {k : Nat} {x : Str} {ps : List Str} {sp : Sp} {p pos : Pos} {e : Expr} {es : List Expr} {t : TA}
theorem pe_fn (C : Callee X.prog X.w X.K X.mg X.base k x ps sp) (hr : Room k X.A) (ha : PA X (e :: es) t) (hg : Gl X x := by rfl) (hdb : (x == ("__debug__" : Str)) = false := by decide)
  (he : starEach (e :: es) X.env = (false, eval e X.env) :: starEach es X.env := by rfl) (hpl : (backTo pos (starEach es X.env)).any (·.1) = false := by rfl) : PE X (.Call (.Name x p) (e :: es) [] pos) (tCall sp [] E0 t) := by
 obtain ⟨f, fd, F, hm, hk, hb⟩ := C.ex
 exact pe_call F hr hg hm hk hb .nil pass0 ha hdb he hpl
end
end L2
namespace L2
open PySem
theorem relV_abs {x : V} {u : Value} (h : absV u = some x) : RelV x u := by
 cases u <;> simp only [absV] at h <;> first | (cases h; first | rfl | exact ⟨_, rfl⟩) | cases h
noncomputable def absAll : List Value → Option (List V)
 | [] => some []
 | u :: r => match absV u, absAll r with
  | some x, some xs => some (x :: xs)
  | _, _ => none
theorem vals_abs : ∀ {us : List Value} {xs : List V}, absAll us = some xs → Vals xs us
 | [], xs, h => by
  have h : some [] = some xs := h
  cases h
  exact .nil
 | u :: r, xs, h => by
  unfold absAll at h
  split at h
  ·rename_i x ys h1 h2
   cases h
   exact .cons (relV_abs h1) (vals_abs h2)
  ·cases h
theorem top_tuple {K : PySem.W.Frag} {a : Addr} {od : Option Addr} {its : Array Value} {n : Nat} {sl : Array (Option Value)} {xs : List V} (l : K.lookup a = some ⟨.type "tuple", od, .seq its n, sl⟩) (h : absAll its.toList = some xs) (hz : xs.length ≤ 1000) : ∀ H, SqT K H a xs := fun H => by
 have v := vals_abs h
 refine .inr ⟨_, its, n, l, rfl, rfl, ?_, v⟩
 have e := v.length
 have b : 1000 ≤ sizeLine := by decide
 have e2 : its.toList.length = its.size := Array.length_toList
 omega
theorem callee_of {P : Program} {w : World} {K : PySem.W.Frag} {mg : Str → Option Value} {base : Heap} {k : Nat} {x : Str} {ps : List Str} {sp : Sp} {f : Addr} {fd : FuncData} (F : FnOk P w K mg base CX0 k f fd ps sp) (m : mg x = some (.ref f)) (kp : PySem.W.keepIn K (.ref f) = true) (b : Binds K fd ps []) : Callee P w K mg base k x ps sp := ⟨f, fd, F, m, kp, b⟩
section
variable {P : Program} {w : World} {K : PySem.W.Frag} {mg : Str → Option Value} {base : Heap}
end
end L2
set_option autoImplicit true
namespace L2
open PySem PySem.Spec PyProof.Rows
structure QE (X : Cx) (e : Expr) (t : TE) : Prop where
 run : PE X e t
structure QT (X : Cx) (e : Expr) (t : TT) : Prop where
 run : PT X e t
structure QW (X : Cx) (e : Expr) (t : TT) : Prop where
 run : PW X e t
structure QA (X : Cx) (es : List Expr) (t : TA) : Prop where
 run : PA X es t
structure QS (X : Cx) (st : Stmt) (t : TS) : Prop where
 run : PS X st t
structure QSs (X : Cx) (sts : List Stmt) (t : TS) : Prop where
 run : PSs X sts t
structure QG (X : Cx) (e : Expr) (g : TG) : Prop where
 run : PG X e g
structure QGs (X : Cx) (es : List Expr) (g : TGs) : Prop where
 run : PGs X es g
structure QI (X : Cx) (tg iter : Expr) (wi : TI) : Prop where
 run : PI X tg iter wi
structure QC (X : Cx) (op : CmpOp) (a b : Expr) (t : TE) : Prop where
 run : PC X op a b t
structure QO (X : Cx) (e : Option Expr) (t : TO) : Prop where
 run : PO X e t
structure QTs (X : Cx) (ifs : List Expr) (t : TT) : Prop where
 run : PTs X ifs t
theorem qe_int {i j pos} : QE X (.Constant (.int i) j pos) (tC (.int i)) := ⟨pe_int⟩
theorem qe_bl {b j pos} : QE X (.Constant (.bool b) j pos) (tC (.bl b)) := ⟨pe_bl⟩
theorem qe_non {j pos} : QE X (.Constant .none j pos) (tC .non) := ⟨pe_non⟩
theorem qe_str {x j pos} : QE X (.Constant (.str x) j pos) (tC (.str x)) := ⟨pe_str⟩
theorem qe_glob {x : Str} {v : V} {u : Value} {pos : Pos} (hg : Gl X x) (hm : X.mg x = some u) (r : RelV v u) (hd : (x == ("__debug__" : Str)) = false := by decide) : QE X (.Name x pos) (tC v) := ⟨pe_glob hg hm r hd⟩
theorem qe_bltn {x : Str} {v : V} {u : Value} {pos : Pos} (hg : Gl X x) (hm : X.mg x = none) (hv : bootBuiltins x = some u) (r : RelV v u) (hn : x ≠ "__name__" := by decide) (hd : (x == ("__debug__" : Str)) = false := by decide) : QE X (.Name x pos) (tC v) := ⟨pe_bltn hg hm hv r hn hd⟩
theorem qe_op {op : Operator} {r : R2} (ho : OpR X (binaryOp op) r) (ha : QE X a ta) (hb : QE X b tb) : QE X (.BinOp a op b pos) (tOp r ta tb) := ⟨pe_op ho ha.run hb.run⟩
theorem qe_un {op : UnaryOp} {r : V → Hp → VK → Prop} (ho : UnR X (unaryOp op) r) (ha : QE X a ta) : QE X (.UnaryOp op a pos) (tUn r ta) := ⟨pe_un ho ha.run⟩
theorem qe_cmp {op : CmpOp} {t : TE} (h : QC X op a b t) (h1 : behindInMarks op b = false := by first | exact nobehind _ (by decide) (by decide) | rfl) : QE X (.Compare a [op] [b] pos) t := ⟨pe_cmp h.run h1⟩
theorem qt_cmp {op : CmpOp} {t : TE} (h : QC X op a b t) (h1 : behindInMarks op b = false := by first | exact nobehind _ (by decide) (by decide) | rfl) : QT X (.Compare a [op] [b] pos) (tB t) := ⟨pt_cmp h.run h1⟩
theorem qe_cmpR {op : CmpOp} {r : R2} (ho : OpR X (compareOp op) r) (ha : QE X a ta) (hb : QE X b tb) (hm : behindInMarks op b = false) : QE X (.Compare a [op] [b] pos) (tOp r ta tb) := ⟨pe_cmpR ho ha.run hb.run hm⟩
theorem qt_cmpR {op : CmpOp} {r : R2} (ho : OpR X (compareOp op) r) (ha : QE X a ta) (hb : QE X b tb) (hm : behindInMarks op b = false) : QT X (.Compare a [op] [b] pos) (tTest (tOp r ta tb)) := ⟨pt_cmpR ho ha.run hb.run hm⟩
theorem qe_chain {op op' : CmpOp} {r r' : R2} (ho : OpR X (compareOp op) r) (ho' : OpR X (compareOp op') r') (ha : QE X a ta) (hb : QE X b tb) (hc : QE X c tc) (hm : lastMarks [op, op'] [b, c] = false := by with_unfolding_all rfl) : QE X (.Compare a [op, op'] [b, c] pos) (tChain r r' ta tb tc) := ⟨pe_chain ho ho' ha.run hb.run hc.run hm⟩
theorem qt_chain {op op' : CmpOp} {r r' : R2} (ho : OpR X (compareOp op) r) (ho' : OpR X (compareOp op') r') (ha : QE X a ta) (hb : QE X b tb) (hc : QE X c tc) (hm : lastMarks [op, op'] [b, c] = false := by with_unfolding_all rfl) : QT X (.Compare a [op, op'] [b, c] pos) (tTest (tChain r r' ta tb tc)) := ⟨pt_chain ho ho' ha.run hb.run hc.run hm⟩
theorem qt_val {e : Expr} {t : TE} (h : QE X e t) (he : ∀ whole, isTrue e X.env whole = (do let v ← whole; standAt e.pos; holding [v] (truthy v)) := by intro _; rfl) : QT X e (tB t) := ⟨pt_val h.run he⟩
theorem qw_and1 (ha : QT X a tA) : QW X (.BoolOp .And [a] pos) tA := ⟨pw_and1 ha.run⟩
theorem qw_or1 (ha : QT X a tA) : QW X (.BoolOp .Or [a] pos) tA := ⟨pw_or1 ha.run⟩
theorem qw_and {rest : List Expr} (ha : QT X a tA) (hb : QW X (.BoolOp .And (b :: rest) pos) tB') : QW X (.BoolOp .And (a :: b :: rest) pos) (tAnd tA tB') := ⟨pw_and ha.run hb.run⟩
theorem qw_or {rest : List Expr} (ha : QT X a tA) (hb : QW X (.BoolOp .Or (b :: rest) pos) tB') : QW X (.BoolOp .Or (a :: b :: rest) pos) (tOr tA tB') := ⟨pw_or ha.run hb.run⟩
theorem qt_not (ha : QT X a tA) : QT X (.UnaryOp .Not a pos) (tNot tA) := ⟨pt_not ha.run⟩
theorem qe_one {op} {t : TE} (h : QE X a t) : QE X (.BoolOp op [a] pos) t := ⟨pe_one h.run⟩
theorem qe_and {rest : List Expr} (ha : QE X a ta) (hb : QE X (.BoolOp .And (b :: rest) pos) tb) : QE X (.BoolOp .And (a :: b :: rest) pos) (tAndV ta tb) := ⟨pe_and ha.run hb.run⟩
theorem qe_or {rest : List Expr} (ha : QE X a ta) (hb : QE X (.BoolOp .Or (b :: rest) pos) tb) : QE X (.BoolOp .Or (a :: b :: rest) pos) (tOrV ta tb) := ⟨pe_or ha.run hb.run⟩
theorem qe_not (ha : QE X a ta) : QE X (.UnaryOp .Not a pos) (tNotV ta) := ⟨pe_not ha.run⟩
theorem qss_nil  : QSs X [] tNext := ⟨pss_nil⟩
theorem qss_cons {st : Stmt} {rest : List Stmt} {t u : TS} (h1 : QS X st t) (h2 : QSs X rest u) : QSs X (st :: rest) (tSeq t u) := ⟨pss_cons h1.run h2.run⟩
theorem qss_one {st : Stmt} {t : TS} (h1 : QS X st t) : QSs X [st] t := ⟨pss_one h1.run⟩
theorem qs_expr {e : Expr} {te : TE} (he : QE X e te) (hs : swapsWith e none pos.line X.env = pure false := by rfl) : QS X (.Expr e pos) (tDrop te) := ⟨ps_expr he.run hs⟩
theorem qs_ret {e : Expr} {te : TE} (he : QE X e te) : QS X (.Return (some e) pos) (tRet te) := ⟨ps_ret he.run⟩
theorem qs_if {t u : TS} {c : Expr} {a b : List Stmt} {tc : TT} (hc : QT X c tc) (ha : QSs X a t) (hb : QSs X b u) : QS X (.If c a b pos) (tIfS tc t u) := ⟨ps_if hc.run ha.run hb.run⟩
theorem qgs_nil  : QGs X [] gNil := ⟨pgs_nil⟩
theorem qgs_cons {e : Expr} {es : List Expr} {t : TG} {u : TGs} (h1 : QG X e t) (h2 : QGs X es u) (hs : (assignEach (e :: es) X.env).map (·.2) = assign e X.env :: (assignEach es X.env).map (·.2) := by rfl) : QGs X (e :: es) (gCons t u) := ⟨pgs_cons h1.run h2.run hs⟩
theorem qg_name {i : Nat} {x : Str} (hN : X.N.Nodup) (hi : X.N[i]? = some x) (hx : Loc X.env.scope x) (hf : X.fn x = true ∨ X.env.scope.names.lookup x = some .local := by first | exact .inl rfl | exact .inr rfl | assumption) : QG X (.Name x pos) (gName i) := ⟨pg_name hN hi hx hf⟩
theorem qg_tup {es : List Expr} {k : Nat} {t : TGs} {n : Nat} (hc : X.calm = true) (h : QGs X es t) (hn : (assignEach es X.env).length = n := by rfl) (hst : (assignEach es X.env).findIdx? (·.1) = none := by rfl) : QG X (.Tuple es k pos) (gTup X.K n t) := ⟨pg_tup hc h.run hn hst⟩
theorem qg_sub {o i : Expr} {to ti : TE} {t : TSet} (ho : QE X o to) (hi : QE X i ti) (hs : PSet X t) (ha : ∀ v, assign (.Subscript o i pos) X.env v = (do
   let ov ← holding [v] (eval o X.env)
   let iv ← holding [v, ov] (eval i X.env)
   standAt pos
   holding [v, ov, iv] (setItem ov iv v)
   release [v, ov, iv] []) := by intro _; rfl) : QG X (.Subscript o i pos) (gSub to ti t) := ⟨pg_sub ho.run hi.run hs ha⟩
theorem qs_asg {tg e : Expr} {te : TE} {g : TG} (he : QE X e te) (hg : QG X tg g) (hs : swapsWithSole [tg] e pos.line X.env = pure false := by rfl) (hw : swappedStores [tg] e X.env = pure none := by rfl) (h1 : (assignEach [tg] X.env).map (·.2) = [assign tg X.env] := by rfl) : QS X (.Assign [tg] e pos) (tAsg te g) := ⟨ps_asg he.run hg.run hs hw h1⟩
theorem qs_set {i : Nat} {x : Str} {e : Expr} {te : TE} {pos' : Pos} (hN : X.N.Nodup) (hi : X.N[i]? = some x) (hx : Loc X.env.scope x) (he : QE X e te) (hs : swapsWith e (some (.Name x pos')) pos.line X.env = pure false := by rfl) (hf : X.fn x = true ∨ X.env.scope.names.lookup x = some .local := by first | exact .inl rfl | exact .inr rfl | assumption) : QS X (.Assign [.Name x pos'] e pos) (tAsg te (gName i)) := ⟨ps_set hN hi hx he.run hs hf⟩
theorem qs_while {c : Expr} {body : List Stmt} {tc : TT} {tb : TS} (hp : PassesOwn (model X.prog X.w) X.A X.env X.xe) (hc : QT X c tc) (hb : QSs X body tb) : QS X (.While c body [] pos) (tWhile tc tb) := ⟨ps_while hp hc.run hb.run⟩
theorem qi_range1 {a : Expr} {ta : TA} {p pos : Pos} (hg : Gl X "range") (hm : X.mg "range" = none) (ha : QA X [a] ta) (hs : starEach [a] X.env = [(false, eval a X.env)] := by rfl) : QI X tg (.Call (.Name "range" p) [a] [] pos) (iRng1 ta) := ⟨pi_range1 hg hm ha.run hs⟩
theorem qs_for {iter : Expr} {body : List Stmt} {wi : TI} {g : TG} {tb : TS} {pos : Pos} (hp : PassesOwn (model X.prog X.w) X.A X.env X.xe) (hc : X.calm = true) (hi : QI X tg iter wi) (hg : QG X tg g) (hb : QSs X body tb) (hs : ∀ x, foldedSetIterable iter X.env x = pure x := by intro _; rfl) : QS X (.For tg iter body [] pos) (tFor wi g tb) := ⟨ps_for hp hc hi.run hg.run hb.run hs⟩
theorem qe_fld (he : QE X e ta) (hb : attributeBase e f X.env (eval e X.env) = eval e X.env) : QE X (.Attribute e f pos) (tFld X.K ta f) := ⟨pe_fld he.run hb⟩
theorem qs_fld (ha : QE X o ta) (hv : QE X value tv) (hs : swapsWith value (some (.Attribute o f pos')) pos.line X.env = pure false) : QS X (.Assign [.Attribute o f pos'] value pos) (sFld X.K ta tv f) := ⟨ps_fld ha.run hv.run hs⟩
theorem qa_nil  : QA X [] tNil := ⟨pa_nil⟩
theorem qa_cons (ha : QE X e te) (hr : QA X es t) (hs : starEach (e :: es) X.env = (false, eval e X.env) :: starEach es X.env := by rfl) : QA X (e :: es) (tCons te t) := ⟨pa_cons ha.run hr.run hs⟩
theorem qe_tup {x1} (h : QA X es t) : QE X (.Tuple es x1 pos) (tTup t) := ⟨pe_tup h.run⟩
theorem qe_lst (h : QA X es t) : QE X (.List es pos) (tLst t) := ⟨pe_lst h.run⟩
theorem qe_fn (C : Callee X.prog X.w X.K X.mg X.base k x ps sp) (hr : Room k X.A) (ha : QA X (e :: es) t) (hg : Gl X x := by rfl) (hdb : (x == ("__debug__" : Str)) = false := by decide) (he : starEach (e :: es) X.env = (false, eval e X.env) :: starEach es X.env := by rfl) (hpl : (backTo pos (starEach es X.env)).any (·.1) = false := by rfl) : QE X (.Call (.Name x p) (e :: es) [] pos) (tCall sp [] E0 t) := ⟨pe_fn C hr ha.run hg hdb he hpl⟩
theorem qe_callB {id : String} (hc : CallR X (.builtin id) r) (hg : Gl X x) (hm : X.mg x = none) (hv : bootBuiltins x = some (.builtin id)) (ha : QA X (e :: es) t) (hn : x ≠ "__name__" := by decide) (hdb : (x == ("__debug__" : Str)) = false := by decide) (he : starEach (e :: es) X.env = (false, eval e X.env) :: starEach es X.env := by rfl) (hpl : (backTo pos (starEach es X.env)).any (·.1) = false := by rfl) : QE X (.Call (.Name x p) (e :: es) [] pos) (tCB r t) := ⟨pe_callB hc hg hm hv ha.run hn hdb he hpl⟩
theorem qe_callTy {T : String} (hc : CallR X (.type T) r) (hg : Gl X x) (hm : X.mg x = none) (hv : bootBuiltins x = some (.type T)) (ha : QA X (e :: es) t) (hn : x ≠ "__name__" := by decide) (hdb : (x == ("__debug__" : Str)) = false := by decide) (he : starEach (e :: es) X.env = (false, eval e X.env) :: starEach es X.env := by rfl) (hpl : (backTo pos (starEach es X.env)).any (·.1) = false := by rfl) : QE X (.Call (.Name x p) (e :: es) [] pos) (tCB r t) := ⟨pe_callTy hc hg hm hv ha.run hn hdb he hpl⟩
theorem qo_none  : QO X none tNoPart := ⟨po_none⟩
theorem qo_some (h : QE X e te) : QO X (some e) (tPart te) := ⟨po_some h.run⟩
theorem qe_slice {lo hi : Option Expr} {r : V → Option Int → Option Int → Hp → VK → Prop} (hr : SlR X r) (he : QE X e te) (hl : QO X lo tl) (hu : QO X hi th) : QE X (.Subscript e (.Slice lo hi none p2) pos) (tSl r te tl th) := ⟨pe_slice hr he.run hl.run hu.run⟩
theorem qe_ix {r : R2} (hr : IxR X r) (ha : QE X a ta) (hb : QE X b tb) (hs : PlainIx b) : QE X (.Subscript a b pos) (tOp r ta tb) := ⟨pe_ix hr ha.run hb.run hs⟩
theorem qe_bm {T id : String} (pa : PlainAttrs T) (slot : Slot T name id) (hty : typeOf (.builtin id) = pure (.type "method_descriptor")) (hm : MtR X id r) (ho : QE X o to) (ha : QA X (e :: es) t) (hbase : attributeBase o name X.env (eval o X.env) = eval o X.env := by rfl) (hfew : ((backTo cpos (starEach (e :: es) X.env)).all (fun x => !x.1) && (backToKw cpos (keywordEach [] X.env)).all (fun x => x.1.isSome)
   && decide ((e :: es).length + ([] : List Keyword).length + (if ([] : List Keyword).isEmpty then 0 else 1) < 30)) = true := by rfl) (hline : (apos.endLine == cpos.line) = true := by rfl) (hs : starEach (e :: es) X.env = (false, eval e X.env) :: starEach es X.env := by rfl) (hplain : (backTo cpos (starEach es X.env)).any (·.1) = false := by rfl) : QE X (.Call (.Attribute o name apos) (e :: es) [] cpos) (tBM X.K T r to t) := ⟨pe_bm pa slot hty hm ho.run ha.run hbase hfew hline hs hplain⟩
theorem qe_bm0 {T id : String} (pa : PlainAttrs T) (slot : Slot T name id) (hty : typeOf (.builtin id) = pure (.type "method_descriptor")) (hm : MtR X id r) (ho : QE X o to) (hbase : attributeBase o name X.env (eval o X.env) = eval o X.env := by rfl) (hline : (apos.endLine == cpos.line) = true := by rfl) : QE X (.Call (.Attribute o name apos) [] [] cpos) (tBM0 X.K T r to) := ⟨pe_bm0 pa slot hty hm ho.run hbase hline⟩
theorem qe_comp (hc : X.calm = true) (S : CScope scope X.env) (hi : QI X target iter wi) (T : ∀ σ, σ.length = X.N.length → Takes X scope N σ (σ0 σ)) (hg : ∀ C s H fp, QG (cmpCx X scope C N s H fp) target g) (ht : ∀ C s H fp, QTs (cmpCx X scope C N s H fp) ifs tt) (he : ∀ C s H fp, QE (cmpCx X scope C N s H fp) elt te) (hs : ∀ x, foldedSetIterable iter X.env x = pure x := by intro _; rfl) : QE X (.ListComp elt [⟨target, iter, ifs, 0⟩] scope pos) (tComp wi σ0 g tt te) := ⟨pe_comp hc S hi.run T (fun C s H fp => (hg C s H fp).run) (fun C s H fp => (ht C s H fp).run) (fun C s H fp => (he C s H fp).run) hs⟩
theorem qs_setC {i : Nat} {y : Str} {py spos : Pos} (hc : X.calm = true) (S : CScope scope X.env) (hi : QI X target iter wi) (T : ∀ σ, σ.length = X.N.length → Takes X scope N σ (σ0 σ)) (hg : ∀ C s H fp, QG (cmpCx X scope C N s H fp) target g) (ht : ∀ C s H fp, QTs (cmpCx X scope C N s H fp) ifs tt) (he : ∀ C s H fp, QE (cmpCx X scope C N s H fp) elt te) (hN : X.N.Nodup) (hy : X.N[i]? = some y) (hx : Loc X.env.scope y) (hsw : swapsWith (.ListComp elt [⟨target, iter, ifs, 0⟩] scope pos) (some (.Name y py)) spos.line X.env = pure true := by rfl) (hf : X.fn y = true ∨ X.env.scope.names.lookup y = some .local := by first | exact .inl rfl | exact .inr rfl | assumption) (hs : ∀ x, foldedSetIterable iter X.env x = pure x := by intro _; rfl) : QS X (.Assign [.Name y py] (.ListComp elt [⟨target, iter, ifs, 0⟩] scope pos) spos) (tAsg (tComp wi σ0 g tt te) (gName i)) := ⟨ps_setC hc S hi.run T (fun C s H fp => (hg C s H fp).run) (fun C s H fp => (ht C s H fp).run) (fun C s H fp => (he C s H fp).run) hN hy hx hsw hf hs⟩
theorem qts_nil {X : Cx} : QTs X [] tYes := ⟨pts_nil⟩
theorem qc_isN {j pos'} (ha : QE X a ta) : QC X .Is a (.Constant .none j pos') (tIsN ta) := ⟨pc_isN ha.run⟩
theorem qc_notN {j pos'} (ha : QE X a ta) : QC X .IsNot a (.Constant .none j pos') (tNotN ta) := ⟨pc_notN ha.run⟩
end L2
namespace L2
open PySem PySem.Spec PyProof.Rows
theorem qa_consts {X : Cx} {es : List Expr} {xs : List V} (h : constsV es = some xs) : QA X es (tVals xs) := ⟨pa_consts h⟩
theorem qv {X : Cx} (i : Nat) {x : Str} {pos : Pos} (hN : X.N[i]? = some x := by rfl) (hv : Vis X.env.scope x := by first | exact Or.inl rfl | exact Or.inr (Or.inl rfl) | exact Or.inr (Or.inr rfl)) (hd : (x == ("__debug__" : Str)) = false := by decide)
  (hcd : (x == ("__classdict__" : Str)) = false := by decide) : QE X (.Name x pos) (tVar i) := ⟨pe_var hN hv hd hcd⟩
theorem QW.qt {X : Cx} {e : Expr} {t : TT} (h : QW X e t) : QT X e t := ⟨h.run.pt⟩
section
variable {P : Program} {w : World} {K : PySem.W.Frag} {mg : Str → Option Value} {base : Heap}
theorem Fun.okq {x qual : Str} {st : Stmt} {f : Addr} {fd : FuncData} {N ps : List Str} {k : Nat} {sp : Sp} (F : Fun K x qual st f fd) (S : FnScope N ps (defScope st)) (len : ∀ vs H Q E, sp vs H Q E → vs.length = ps.length)
  (hbody : ∀ (cdv : Value) (A : Around) (outer : List Env) (s : Shared) (H : Hp) (vs : List V) (Q : VK) (E : XK), Room k (A.deeper (envOfC qual (defScope st) s.heap.objs.size f cdv)) → sp vs H Q E →
   ∃ t, QSs (cxOf CX0 P w K mg base N qual (defScope st) f cdv A outer s H E).nox (defBody st) t ∧ t { nx := fun _ H' => Q .non H', rt := Q } (start N vs) H) : FnOk P w K mg base CX0 (k + 1) f fd ps sp :=
 F.ok S len fun cdv A outer s H vs Q E hr h => by
  obtain ⟨t, q, r⟩ := hbody cdv A outer s H vs Q E hr h
  exact ⟨t, q.run, r⟩
end
end L2
namespace L2
open PySem PySem.Spec PyProof.Rows
section
variable {X : Cx}
noncomputable def rAddS : R2 := fun x y H Q => ∃ i j, x = .str i ∧ y = .str j ∧ i.length + j.length ≤ sizeLine ∧ Q (.str (i ++ j)) H
noncomputable def rCatA (K : PySem.W.Frag) : R2 := fun x y H Q => ∃ a b xs ys, x = .ref a ∧ y = .ref b ∧ SqT K H a xs ∧ SqT K H b ys ∧ xs.length + ys.length ≤ sizeLine ∧
 ∀ r H', Same H H' → SqT K H' r (xs ++ ys) → Q (.ref r) H'
theorem op_catA : OpR X (binaryOp .Add) (rCatA X.K) := by
 intro pins s σ H x y v u Q I rx ry h
 obtain ⟨a, b, xs, ys, rfl, rfl, ha, hb, hz, q⟩ := h
 by_cases hx : xs = []
 ·subst hx
  cases rx
  cases ry
  obtain ⟨its, r1, p1, _⟩ := I.tuple ha
  obtain ⟨its2, r2, p2, _⟩ := I.tuple hb
  cases r1
  obtain ⟨⟨cls, dd, data, sl⟩, ho, hc, n, hd⟩ := id p1
  obtain ⟨⟨cls2, dd2, data2, sl2⟩, ho2, hc2, n2, hd2⟩ := id p2
  simp only at hc hd hc2 hd2
  subst hc hd hc2 hd2
  exact concat_meets ⟨_, ho, rfl⟩ ⟨_, ho2, rfl⟩ noFill_tuple_add seq_tuple_add PySem.F.slot_tuple_add PySem.F.entry_tuple_add (PySem.F.args_tuple_add_2 _ _)
   (tuple_addW0 a b _ _ n n2 dd dd2 sl sl2 (by simp)) ⟨ho, ho2, ⟨.ref b, H, I, rfl, q b H (Same.refl H) hb⟩⟩
 ·refine op_catT pins s σ H _ _ v u Q I rx ry ⟨a, b, xs, ys, rfl, rfl, ha, hb, hx, hz, fun e => ?_, fun _ p hp => q p _ (fun c o e => by rw [upd_ne (ne_of_none e hp)]; exact e) (.inl (.inl upd_same))⟩
  subst e
  exact q a H (Same.refl H) (by rw [List.append_nil]; exact ha)
noncomputable def rAddA (K : PySem.W.Frag) : R2 := fun x y H Q => rI0 (fun i j => .int (i + j)) x y H Q ∨ rAddS x y H Q ∨ rCat x y H Q ∨ rCatA K x y H Q
theorem op_addA : OpR X (binaryOp .Add) (rAddA X.K) := op_add.or (op_add_str.or (op_cat.or op_catA))
theorem s_add_int {K : PySem.W.Frag} {i j : Int} {H : Hp} {Q : VK} (h : Q (.int (i + j)) H) : rAddA K (.int i) (.int j) H Q := .inl ⟨i, j, rfl, rfl, h⟩
theorem s_add_str {K : PySem.W.Frag} {i j : Str} {H : Hp} {Q : VK} (hl : i.length + j.length ≤ sizeLine) (h : Q (.str (i ++ j)) H) : rAddA K (.str i) (.str j) H Q := .inr (.inl ⟨i, j, rfl, rfl, hl, h⟩)
theorem s_add_lst {K : PySem.W.Frag} {a b : Addr} {xs ys : List V} {H : Hp} {Q : VK} (ha : H a = some (.lst xs)) (hb : H b = some (.lst ys)) (hz : xs.length + ys.length ≤ sizeLine) (h : ∀ p, H p = none → Q (.ref p) (upd H p (.lst (xs ++ ys)))) : rAddA K (.ref a) (.ref b) H Q := .inr (.inr (.inl ⟨a, b, xs, ys, rfl, rfl, ha, hb, hz, h⟩))
theorem s_add_tup {K : PySem.W.Frag} {a b : Addr} {xs ys : List V} {H : Hp} {Q : VK} (ha : SqT K H a xs) (hb : SqT K H b ys) (hz : xs.length + ys.length ≤ sizeLine) (h : ∀ r H', Same H H' → SqT K H' r (xs ++ ys) → Q (.ref r) H') : rAddA K (.ref a) (.ref b) H Q := .inr (.inr (.inr ⟨a, b, xs, ys, rfl, rfl, ha, hb, hz, h⟩))
noncomputable def rMulA : R2 := fun x y H Q => rI CMul (fun i j => .int (i * j)) x y H Q ∨ rRep x y H Q
theorem op_mulA : OpR X (binaryOp .Mult) rMulA := op_mul.or op_rep
theorem s_mul_l {i j : Int} {H : Hp} {Q : VK} (h1 : -(2 ^ 64) < i) (h2 : i < 2 ^ 64) (h : Q (.int (i * j)) H) : rMulA (.int i) (.int j) H Q := .inl ⟨i, j, rfl, rfl, .inl ⟨h1, h2⟩, h⟩
theorem s_mul_r {i j : Int} {H : Hp} {Q : VK} (h1 : -(2 ^ 64) < j) (h2 : j < 2 ^ 64) (h : Q (.int (i * j)) H) : rMulA (.int i) (.int j) H Q := .inl ⟨i, j, rfl, rfl, .inr ⟨h1, h2⟩, h⟩
theorem s_rI {C : Int → Int → Prop} {g : Int → Int → V} {i j : Int} {H : Hp} {Q : VK} (hc : C i j) (h : Q (g i j) H) : rI C g (.int i) (.int j) H Q := ⟨i, j, rfl, rfl, hc, h⟩
theorem s_rI0 {g : Int → Int → V} {i j : Int} {H : Hp} {Q : VK} (h : Q (g i j) H) : rI0 g (.int i) (.int j) H Q := ⟨i, j, rfl, rfl, h⟩
theorem s_rU {g : Int → V} {i : Int} {H : Hp} {Q : VK} (h : Q (g i) H) : rU g (.int i) H Q := ⟨i, rfl, h⟩
noncomputable def rLtA : R2 := fun x y H Q => rI0 (fun i j => .bl (decide (i < j))) x y H Q ∨ ∃ i j, x = .str i ∧ y = .str j ∧ Q (.bl (decide (i.cps.toList < j.cps.toList))) H
theorem op_ltA : OpR X (compareOp .Lt) rLtA := op_lt.or op_lt_str
noncomputable def rLeA : R2 := fun x y H Q => rI0 (fun i j => .bl (decide (i ≤ j))) x y H Q ∨ ∃ i j, x = .str i ∧ y = .str j ∧ Q (.bl (!(decide (j.cps.toList < i.cps.toList)))) H
theorem op_leA : OpR X (compareOp .LtE) rLeA := op_le.or op_le_str
theorem s_lt {i j : Int} {H : Hp} {Q : VK} (h : Q (.bl (decide (i < j))) H) : rLtA (.int i) (.int j) H Q := .inl ⟨i, j, rfl, rfl, h⟩
theorem s_le {i j : Int} {H : Hp} {Q : VK} (h : Q (.bl (decide (i ≤ j))) H) : rLeA (.int i) (.int j) H Q := .inl ⟨i, j, rfl, rfl, h⟩
noncomputable def rInS (neg : Bool) : R2 := fun x y H Q => ∃ (c : Nat) (j : Str), x = .str ⟨#[c]⟩ ∧ y = .str j ∧ Q (.bl (if neg then !decide (c ∈ j.cps.toList) else decide (c ∈ j.cps.toList))) H
theorem op_inS : OpR X (compareOp .In) (rInS false) := op_in_sign
theorem op_notinS : OpR X (compareOp .NotIn) (rInS true) := op_notin_sign
noncomputable def rInA (K : PySem.W.Frag) (neg : Bool) : R2 := fun x y H Q => rIn K neg x y H Q ∨ rInS neg x y H Q
theorem op_inA : OpR X (compareOp .In) (rInA X.K false) := op_in_seq.or op_inS
theorem op_notinA : OpR X (compareOp .NotIn) (rInA X.K true) := op_notIn_seq.or op_notinS
theorem s_in_seq {K : PySem.W.Frag} {neg : Bool} {x : V} {p : Addr} {xs : List V} {H : Hp} {Q : VK} (hq : SqL K H p xs ∨ SqT K H p xs) (hx : flatV x = true) (hxs : xs.all flatV = true) (h : Q (.bl (if neg then !inV x xs else inV x xs)) H) : rInA K neg x (.ref p) H Q := .inl ⟨p, xs, rfl, hq, hx, hxs, h⟩
noncomputable def rSlA (K : PySem.W.Frag) : V → Option Int → Option Int → Hp → VK → Prop := fun x lo hi H Q => rSlL K x lo hi H Q ∨ rSlS x lo hi H Q ∨ rSlT K x lo hi H Q
theorem sl_any : SlR X (rSlA X.K) := sl_list.or (sl_str.or sl_tup)
theorem s_sl_lst {K : PySem.W.Frag} {a : Addr} {xs : List V} {lo hi : Option Int} {H : Hp} {Q : VK} (ha : SqL K H a xs) (h : ∀ p, H p = none → Q (.ref p) (upd H p (.lst (cutV xs lo hi)))) : rSlA K (.ref a) lo hi H Q := .inl ⟨a, xs, rfl, ha, h⟩
theorem s_sl_str {K : PySem.W.Frag} {z : Str} {lo hi : Option Int} {H : Hp} {Q : VK} (hl : z.length ≤ sizeLine) (h : Q (.str (Txt.slice z lo hi)) H) : rSlA K (.str z) lo hi H Q := .inr (.inl ⟨z, rfl, hl, h⟩)
theorem s_ix_lst {K : PySem.W.Frag} {a : Addr} {xs : List V} {i : Int} {v : V} {H : Hp} {Q : VK} (ha : SqL K H a xs) (hv : atI xs i = some v) (h : Q v H) : rIx K (.ref a) (.int i) H Q := .inl ⟨a, xs, i, v, rfl, rfl, ha, hv, h⟩
theorem s_ix_tup {K : PySem.W.Frag} {a : Addr} {xs : List V} {i : Int} {v : V} {H : Hp} {Q : VK} (ha : SqT K H a xs) (hv : atI xs i = some v) (h : Q v H) : rIx K (.ref a) (.int i) H Q := .inr (.inl ⟨a, xs, i, v, rfl, rfl, ha, hv, h⟩)
theorem s_ix_str {K : PySem.W.Frag} {z : Str} {i : Int} {c : Nat} {H : Hp} {Q : VK} (hl : z.length ≤ sizeLine) (hv : atI z.cps.toList i = some c) (h : Q (.str ⟨#[c]⟩) H) : rIx K (.str z) (.int i) H Q := .inr (.inr ⟨z, i, c, rfl, rfl, hl, hv, h⟩)
noncomputable def rLen (K : PySem.W.Frag) : List V → Hp → VK → Prop := fun xs H Q => ∃ x n, xs = [x] ∧ LenV K x H n ∧ Q (.int n) H
theorem call_lenA : CallR X (.builtin "len") (rLen X.K) := call_len
theorem s_len_lst {K : PySem.W.Frag} {a : Addr} {xs : List V} {H : Hp} {Q : VK} (ha : SqL K H a xs) (h : Q (.int xs.length) H) : rLen K [.ref a] H Q := ⟨_, _, rfl, .inl ⟨xs, ha, rfl⟩, h⟩
theorem s_len_tup {K : PySem.W.Frag} {a : Addr} {xs : List V} {H : Hp} {Q : VK} (ha : SqT K H a xs) (h : Q (.int xs.length) H) : rLen K [.ref a] H Q := ⟨_, _, rfl, .inr ⟨xs, ha, rfl⟩, h⟩
theorem s_len_str {K : PySem.W.Frag} {z : Str} {H : Hp} {Q : VK} (hl : z.length ≤ sizeLine) (h : Q (.int z.length) H) : rLen K [.str z] H Q := ⟨_, _, rfl, ⟨hl, rfl⟩, h⟩
structure Glob (mg : Str → Option Value) (x : Str) (v : V) : Prop where
 ex : ∃ u, mg x = some u ∧ RelV v u
theorem qe_gl {x : Str} {v : V} {pos : Pos} (G : Glob X.mg x v) (hg : Gl X x := by rfl) (hd : (x == ("__debug__" : Str)) = false := by decide) : QE X (.Name x pos) (tC v) := by
 obtain ⟨u, h, r⟩ := G.ex
 exact ⟨pe_glob hg h r hd⟩
noncomputable def iAny (K : PySem.W.Frag) (tl : TE) : TI := fun σ H R => tl σ H fun x H1 => (∃ a, x = .ref a ∧ (∃ xs, SqL K H1 a xs) ∧ R (Itl K a) H1) ∨ (∃ a, x = .ref a ∧ (∃ xs, SqT K H1 a xs) ∧ R (Itt K a) H1) ∨ ∃ z, x = .str z ∧ R (Its z) H1
theorem qi_any {tg l : Expr} {tl : TE} (hl : QE X l tl) : QI X tg l (iAny X.K tl) := by
 refine ⟨fun pins s σ H R I h => ?_⟩
 refine thn (hl.run pins s σ H _ I h) fun v s1 ⟨x, H1, I1, r1, q1⟩ => ?_
 have one : ∀ (l : Expr) (t : TE), PE X l t → True := fun _ _ _ => trivial
 rcases q1 with ⟨a, e, ⟨xs, hq⟩, q⟩ | ⟨a, e, ⟨xs, hq⟩, q⟩ | ⟨z, e, q⟩
 ·subst e
  cases r1
  obtain ⟨its, rv, p, hz⟩ := I1.list hq
  refine wpAny_pyIter_list p.isList ?_
  refine ⟨s1.heap.objs.size, [s1.heap.objs.size], _, _, H1, rfl, I1.kept (t' := s1.toks) fun b o e => Heap.get?_push_of_some _ e, turn_list a _, ⟨_, Heap.get?_push_size _ rfl, rfl, rfl⟩, fun b hb => ?_, q⟩
  have e : b = s1.heap.objs.size := by simpa using hb
  subst e
  exact I1.fpOk (Nat.le_refl _) (I1.hok.fresh (Nat.le_refl _))
 ·subst e
  cases r1
  obtain ⟨its, rv, p, hz⟩ := I1.tuple hq
  refine wpAny_pyIter_tuple (show s1.heap.IsTuple a its.toArray from p) ?_
  refine ⟨s1.heap.objs.size, [s1.heap.objs.size], _, _, H1, rfl, I1.kept (t' := s1.toks) fun b o e => Heap.get?_push_of_some _ e, turn_tuple a _, ⟨_, Heap.get?_push_size _ rfl, rfl, rfl⟩, fun b hb => ?_, q⟩
  have e : b = s1.heap.objs.size := by simpa using hb
  subst e
  exact I1.fpOk (Nat.le_refl _) (I1.hok.fresh (Nat.le_refl _))
 ·subst e
  obtain ⟨t, rfl⟩ := r1
  refine wpAny_pyIter_strU ?_
  refine ⟨s1.heap.objs.size, [s1.heap.objs.size], _, _, H1, rfl, I1.kept (t' := s1.toks) fun b o e => Heap.get?_push_of_some _ e, turn_str _ z t, ⟨_, Heap.get?_push_size _ rfl, rfl, rfl⟩, fun b hb => ?_, q⟩
  have e : b = s1.heap.objs.size := by simpa using hb
  subst e
  exact I1.fpOk (Nat.le_refl _) (I1.hok.fresh (Nat.le_refl _))
end
end L2
namespace L2
open PySem PySem.Spec PyProof.Rows
section
variable {X : Cx} {tg : Expr}
end
section
variable {X : Cx} {tg : Expr}
end
end L2
namespace L2
open PySem PySem.Spec PyProof.Rows
section
variable {prog : Program} {w : World} {A : Around} {E : Value → Shared → Prop} {s : Shared}
theorem nextOf_tup_item {it t : Addr} {i : Nat} {items : Array Value} {x : Value} {Q : Value → Shared → Prop} (hit : s.heap.IsTupleIter it t i) (ht : s.heap.IsTuple t items) (hx : items[i]? = some x)
  (hQ : ∀ h', h'.IsTupleIter it t (i + 1) → Heap.SameBut it s.heap h' → Q x { s with heap := h' }) : wpAny (model prog w) A (Builtin.SmallTypes.nextOf (.ref it)) Q E s := by
 obtain ⟨o, ho, hc, hd⟩ := id hit
 obtain ⟨ol, hol, _, nl, hdl⟩ := ht
 unfold Builtin.SmallTypes.nextOf
 refine wpAny_bind (wpAny_callSpecial?_slot (name := Str.ofString "__next__") hit.typeIs PySem.F.slot_tuple_iterator_next
  (wpAny_call_entry PySem.F.slot_tuple_iterator_next hit.typeIs PySem.F.entry_tuple_iterator_next ?_ (PySem.F.args_tuple_iterator_next_1 _)))
 show wpAny _ _ (field (.ref it) 0 >>= _) _ _ s
 refine wpAny_bind (wpAny_field ho hd (x := .ref t) rfl ?_)
 show wpAny _ _ (if (Value.ref t == Value.none) = true then _ else _) _ _ s
 rw [if_neg (show ¬ ((Value.ref t == Value.none) = true) from Bool.false_ne_true)]
 show wpAny _ _ (field (.ref it) 1 >>= _) _ _ s
 refine wpAny_bind (wpAny_field ho hd (x := .int i 0) rfl ?_)
 show wpAny _ _ (seqItems? (.ref t) >>= _) _ _ s
 refine wpAny_bind (wpAny_seqItems hol hdl ?_)
 simp only [Int.toNat_natCast, hx]
 refine wpAny_bind (wpAny_setField ho hd (by simp) (wpAny_pure ⟨x, rfl, wpAny_pure (hQ _ ?_ (Heap.SameBut.update ..))⟩))
 exact ⟨_, Heap.get?_update_self _ ho (Obj.isFreed_of_fields (Obj.data_mapFields hd _)), (Obj.cls_mapFields ..).trans hc, by
  rw [Obj.data_mapFields hd]; simp [rawInt]⟩
theorem nextOf_tup_end {it t : Addr} {i : Nat} {items : Array Value} {Q : Value → Shared → Prop} (hh : A.handled = none) (hit : s.heap.IsTupleIter it t i) (ht : s.heap.IsTuple t items) (hx : items[i]? = none)
  (hE : ∀ h' e, Heap.ExtBut it s.heap h' → (∃ o, h'.get? e = some o ∧ o.cls = .type "StopIteration") → E (.ref e) { s with heap := h' }) : wpAny (model prog w) A (Builtin.SmallTypes.nextOf (.ref it)) Q E s := by
 obtain ⟨o, ho, hc, hd⟩ := id hit
 obtain ⟨ol, hol, _, nl, hdl⟩ := ht
 unfold Builtin.SmallTypes.nextOf
 refine wpAny_bind (wpAny_callSpecial?_slot (name := Str.ofString "__next__") hit.typeIs PySem.F.slot_tuple_iterator_next
  (wpAny_call_entry PySem.F.slot_tuple_iterator_next hit.typeIs PySem.F.entry_tuple_iterator_next ?_ (PySem.F.args_tuple_iterator_next_1 _)))
 show wpAny _ _ (field (.ref it) 0 >>= _) _ _ s
 refine wpAny_bind (wpAny_field ho hd (x := .ref t) rfl ?_)
 show wpAny _ _ (if (Value.ref t == Value.none) = true then _ else _) _ _ s
 rw [if_neg (show ¬ ((Value.ref t == Value.none) = true) from Bool.false_ne_true)]
 show wpAny _ _ (field (.ref it) 1 >>= _) _ _ s
 refine wpAny_bind (wpAny_field ho hd (x := .int i 0) rfl ?_)
 show wpAny _ _ (seqItems? (.ref t) >>= _) _ _ s
 refine wpAny_bind (wpAny_seqItems hol hdl ?_)
 simp only [Int.toNat_natCast, hx]
 refine wpAny_bind (wpAny_rule (wpAny_bind (wpAny_setField ho hd (by simp) ?_)))
 show wpAny _ _ (newExc (.type "StopIteration") [] >>= _) _ _ _
 refine wpAny_bind ?_
 simp only [newExc, newTuple]
 refine wpAny_bind (wpAny_newObj_type ?_ (by size_fits))
 refine wpAny_bind (m := firstArgMember _ _) (wpAny_of_eq (a := Value.none) (by first | rfl | (simp only [firstArgMember]; rfl)) ?_)
 refine wpAny_newObj_type ?_ (by size_fits)
 simp only [raiseNew]
 refine wpAny_bind (wpAny_handled ?_)
 first | rw [show A.in1.handled = none from hh] | rw [hh]
 refine wpAny_bind (wpAny_pure (wpAny_throw ?_))
 exact hE _ _ (((Heap.SameBut.update ..).extBut.push _).push _) ⟨_, Heap.get?_push_size _ rfl, rfl⟩
end
theorem draws_tup {prog : Program} {w : World} {A : Around} (hh : A.handled = none) (it l : Addr) (hne : l ≠ it) (items : Array Value) :
  Draws prog w A it [it, l] items.size (fun i v => items[i]? = some v) (fun i h => h.IsTupleIter it l i ∧ h.IsTuple l items) where
 live := fun _ _ st => let ⟨o, ho, _⟩ := st.1; ⟨o, ho⟩
 frame := fun _ _ _ st hk => ⟨st.1.at fun o e => hk it (by simp) o e, let ⟨o, e, r⟩ := st.2; ⟨o, hk l (by simp) o e, r⟩⟩
 item := fun i s Q E hi st hQ => by
  refine nextOf_tup_item st.1 st.2 (x := items[i]) (by simp [hi]) fun h' hit' hs' => ?_
  exact hQ _ h' s.toks (by simp [hi]) ⟨hit', st.2.extBut hs'.extBut hne⟩ hs'
 done := fun s Q E st hE => nextOf_tup_end hh st.1 st.2 (by simp) hE
theorem meets_enum_newT (l : Addr) (items : Array Value) (n : Nat) (dct : Option Addr) (sl : Array (Option Value)) :
  Meets (Builtin.«enumerate.__new__» ⟨[.type "enumerate", .ref l], []⟩) (fun _ R s => s.heap.get? l = some { cls := .type "tuple", dict := dct, data := .seq items n, slots := sl } ∧
   R (.ok (.ret (.ref (s.heap.push { cls := .type "tuple_iterator", data := .fields #[.ref l, .int 0 0] }).objs.size)))
    { s with heap := (s.heap.push { cls := .type "tuple_iterator", data := .fields #[.ref l, .int 0 0] }).push { cls := .type "enumerate", data := .fields #[.none, .bool false, .ref s.heap.objs.size, rawInt 0, .none, .none] } }) :=
 .of_wp fun prog w A R s h => by
  obtain ⟨hp, g, d, tk, os⟩ := s; obtain ⟨hl, h⟩ := h
  have hsub := sub_enumerate
  have hL : Heap.IsTuple (Shared.heap ⟨hp, g, d, tk, os⟩) l items := ⟨_, hl, rfl, n, rfl⟩
  wp_walk using PySem.AutoSeq1.wpAny_loadPart' hl
  refine wpAny_stack_any fun st => wpAny_pure ?_
  split
  ·rename_i c _ _ _ _ _
   cases (c == Value.type "enumerate")
   ·wp_walk using PySem.AutoSeq1.wpAny_loadPart' hl, wpAny_pyIter_tuple hL
    exact ⟨_, rfl, h⟩
   ·wp_walk using PySem.AutoSeq1.wpAny_loadPart' hl, wpAny_pyIter_tuple hL
    exact ⟨_, rfl, h⟩
  ·wp_walk using PySem.AutoSeq1.wpAny_loadPart' hl, wpAny_pyIter_tuple hL
   exact ⟨_, rfl, h⟩
section
variable {prog : Program} {w : World} {A : Around} {E : Value → Shared → Prop} {s : Shared}
theorem call_enum_tup {l : Addr} {items : Array Value} {Q : Value → Shared → Prop} (hL : s.heap.IsTuple l items)
  (h : ∀ h', IsEnum h' (s.heap.objs.size + 1) s.heap.objs.size 0 .none → h'.IsTupleIter s.heap.objs.size l 0 → h'.objs.size = s.heap.objs.size + 2 →
   (∀ b o, s.heap.get? b = some o → h'.get? b = some o) → Q (.ref (s.heap.objs.size + 1)) { s with heap := h' }) :
  wpAny (model prog w) A (call (.type "enumerate") [.ref l]) Q E s := by
 obtain ⟨⟨c, dct, dt, sl⟩, hl, hc, n, hd⟩ := hL
 replace hc : c = .type "tuple" := hc
 replace hd : dt = .seq items n := hd
 subst hc hd
 refine callType_new PySem.F.called_enumerate (by decide) (PySem.F.typeCall_enumerate_1 _) (PySem.F.newCall_enumerate_1 _) (fun obj => PySem.F.args_object_init_2 obj _) PySem.F.entry_enumerate_new
  (meets_enum_newT l items n dct sl) ⟨hl, ?_⟩
 have hz : (s.heap.push { cls := .type "tuple_iterator", data := .fields #[.ref l, .int 0 0] }).objs.size = s.heap.objs.size + 1 := Heap.size_push ..
 show _ ∧ _
 rw [hz]
 have he : IsEnum ((s.heap.push { cls := .type "tuple_iterator", data := .fields #[.ref l, .int 0 0] }).push
   { cls := .type "enumerate", data := .fields #[.none, .bool false, .ref s.heap.objs.size, rawInt 0, .none, .none] }) (s.heap.objs.size + 1) s.heap.objs.size 0 .none := by
  unfold IsEnum
  rw [← hz]
  exact Heap.get?_push_size _ rfl
 refine ⟨⟨_, he, rfl⟩, h _ he ⟨_, Heap.get?_push_of_some _ (Heap.get?_push_size _ rfl), rfl, rfl⟩ (by rw [Heap.size_push, hz]) fun b o e => Heap.get?_push_of_some _ (Heap.get?_push_of_some _ e)⟩
end
end L2
namespace L2
open PySem PySem.Spec PyProof.Rows
section
variable {prog : Program} {w : World} {A : Around} {E : Value → Shared → Prop} {s : Shared}
end
end L2
namespace L2
open PySem PySem.Spec PyProof.Rows
section
variable {X : Cx} {pins : List (Addr × Obj)} {σ : St} {it : Addr} {T : String} {n : Nat} {H0 : Hp} {J : Nat → List V → Hp → Heap → Prop}
end
end L2
namespace L2
open PySem PySem.Spec PyProof.Rows
section
variable {X : Cx} {pins : List (Addr × Obj)} {σ : St} {H : Hp} {s : Shared} {h' : Heap}
theorem Inv.turned2 {t' : Nat} {i1 i2 : Addr} (I : Inv X pins σ H s) (k : ∀ b o, b ≠ i1 → b ≠ i2 → s.heap.get? b = some o → h'.get? b = some o) (f1 : FpOk X pins H i1) (f2 : FpOk X pins H i2) : Inv X pins σ H { s with heap := h', toks := t' } := by
 obtain ⟨n1, l1, _, e1, c1, p1⟩ := f1
 obtain ⟨n2, l2, _, e2, c2, p2⟩ := f2
 have nit : ∀ b u, H b = some u → b ≠ i1 ∧ b ≠ i2 := fun b u e => ⟨(fun z => by rw [z, n1] at e; exact nomatch e), (fun z => by rw [z, n2] at e; exact nomatch e)⟩
 refine I.step (g' := s.gens) (d' := s.drawn) (ch := [i1, i2]) (fun b hb => ?_) (fun b o _ _ hc e _ => k b o (fun z => hc (by simp [z])) (fun z => hc (by simp [z])) e) (fun b o _ _ hc e _ => ⟨o.slots, k b o (fun z => hc (by simp [z])) (fun z => hc (by simp [z])) e⟩) (fun _ _ _ _ n => n)
  (fun b o hc e => ⟨o, k b o (fun z => hc (by simp [z])) (fun z => hc (by simp [z])) e⟩) (fun _ _ e => e) (fun _ _ _ e => e) (fun b ps e => ⟨#[], by rw [e]; simp⟩) (fun m hm => ?_) (fun b u e => ?_) I.bare
 ·rcases List.mem_cons.mp hb with rfl | hb
  ·exact ⟨e1, l1, c1, p1⟩
  ·rw [List.mem_singleton.mp hb]
   exact ⟨e2, l2, c2, p2⟩
 ·obtain ⟨o, es, ep, ho, r⟩ := hm
  exact ⟨o, es, ep, k _ o (Ne.symm l1) (Ne.symm l2) ho, r⟩
 ·refine (I.hok b u e).stay (fun c v hc q => k c v ?_ ?_ q) (fun _ q => q) fun _ _ q => q
  ·rcases hc with z | z
   ·rw [z]; exact (nit b u e).1
   ·exact (nit c _ z).1
  ·rcases hc with z | z
   ·rw [z]; exact (nit b u e).2
   ·exact (nit c _ z).2
end
section
variable {X : Cx}
end
end L2
namespace L2
open PySem PySem.Spec PyProof.Rows
noncomputable def Ite (K : PySem.W.Frag) (a : Addr) (n : Nat) : It :=
 ⟨fun i H => ∃ xs, SqL K H a xs ∧ xs.length = n ∧ i < n, fun i H x H' => ∃ (t : Addr) (y : V), H t = none ∧ (∀ xs, SqL K H a xs → xs[i]? = some y) ∧ x = .ref t ∧ H' = upd H t (.tup [.int i, y]), fun i H => i = n ∧ ∃ xs, SqL K H a xs ∧ xs.length = n⟩
theorem Inv.pair {X : Cx} {pins : List (Addr × Obj)} {σ : St} {H : Hp} {s : Shared} {h' : Heap} {tk : Nat} {i1 i2 T : Addr} {xs : List V} {its : List Value} (I : Inv X pins σ H s) (f1 : FpOk X pins H i1) (f2 : FpOk X pins H i2)
  (kk : ∀ b o, b ≠ i1 → b ≠ i2 → s.heap.get? b = some o → h'.get? b = some o) (hT : s.heap.objs.size ≤ T) (rv : Vals xs its) (hz : xs.length ≤ sizeLine) (ht : h'.IsTuple T its.toArray) : Inv X pins σ (upd H T (.tup xs)) { s with heap := h', toks := tk } := by
 have hf : H T = none := I.hok.fresh hT
 have I1 : Inv X pins σ H { s with heap := h', toks := tk } := I.turned2 kk f1 f2
 have hokN : HOk X.prog X.w (upd H T (.tup xs)) h' := fun b o e => by
  by_cases hb : b = T
  ·subst hb
   rw [upd_same] at e
   cases e
   exact ⟨hz, its, rv, ht⟩
  ·rw [upd_ne hb] at e
   refine (I1.hok b o e).stay (fun c v _ q => q) (fun c q => ?_) fun c zs q => ?_
   ·rw [upd_ne (ne_of_none q hf)]; exact q
   ·rw [upd_ne (ne_of_none q hf)]; exact q
 have u : Un (frs X.stack) [i1, i2] H (upd H T (.tup xs)) s.heap h' := {
  keep := fun b o e n _ hx => kk b o (fun z => hx (by simp [z])) (fun z => hx (by simp [z])) e
  slot := fun b o e n _ hx => ⟨o.slots, kk b o (fun z => hx (by simp [z])) (fun z => hx (by simp [z])) e⟩
  free := fun b o e n _ => by rw [upd_ne (Nat.ne_of_lt (Nat.lt_of_lt_of_le (Heap.lt_size e) hT))]; exact n
  there := fun b o e hx => ⟨o, kk b o (fun z => hx (by simp [z])) (fun z => hx (by simp [z])) e⟩
  tups := fun b zs e => by rw [upd_ne (ne_of_none e hf)]; exact e
  frzs := fun b o u e => by rw [upd_ne (ne_of_none e hf)]; exact e
  tbls := fun b ps e => ⟨#[], by rw [upd_ne (ne_of_none e hf), e]; simp⟩ }
 refine I.call (g' := s.gens) (d' := s.drawn) (t' := tk) u hokN I.bare fun b hb => ?_
 rcases List.mem_cons.mp hb with rfl | hb
 ·exact ⟨f1.2.2.2.1, f1.2.1, f1.2.2.2.2.1, f1.2.2.2.2.2⟩
 ·rw [List.mem_singleton.mp hb]
  exact ⟨f2.2.2.2.1, f2.2.1, f2.2.2.2.2.1, f2.2.2.2.2.2⟩
theorem turn_enum {P : Program} {w : World} {K : PySem.W.Frag} {elts : List Expr} {kt : Nat} {pt : Pos} (a en it : Addr) (n : Nat) (hne : en ≠ it) (hae : a ≠ en) (hai : a ≠ it) : Turn P w K (.Tuple elts kt pt) (Ite K a n) [en, it] en (fun i h => (∃ old, IsEnum h en it i old) ∧ h.IsListIter it a i) where
 mem := by simp
 obj := fun i h st b hb => by
  rcases List.mem_cons.mp hb with rfl | hb
  ·obtain ⟨old, e⟩ := st.1
   exact ⟨_, e, fun v z => by
    have z' : Data.fields _ = Data.cell v := z
    cases z'⟩
  ·rw [List.mem_singleton.mp hb]
   obtain ⟨o, e, c, d⟩ := st.2
   exact ⟨o, e, fun v z => by rw [d] at z; cases z⟩
 keep := fun i h h' st k => ⟨let ⟨old, e⟩ := st.1; ⟨old, k en (by simp) _ e⟩, st.2.at fun o e => k it (by simp) o e⟩
 item := by
  intro X hP hw hK hc i pins s σ H E I hf st hg
  subst hP hw hK
  obtain ⟨xs, hq, hl, hi⟩ := hg
  obtain ⟨its, rv, p, hz⟩ := I.list hq
  have hlen := rv.length
  have fe := hf en (by simp)
  have fi := hf it (by simp)
  have W := WalksT.enumerateD (prog := X.prog) (w := X.w) (A := X.A) (Draws.list (A := X.A.in1) (I.ok.hd hc) it a hai its.toArray) en hne (by simp [hne, Ne.symm hae]) (by simp)
  refine W.item i s _ _ (by rw [List.size_toArray]; omega) ⟨st.1, st.2, p.isList⟩ fun T vals h1 tk hP hT ht mid k1 => ?_
  obtain ⟨t, x, hx, rfl⟩ := hP
  refine ⟨_, rfl, W.go elts kt pt i T _ _ _ mid fun h2 st2 k2 => ?_⟩
  have hx' : its[i]? = some x := by simpa using hx
  have hxs : i < xs.length := by omega
  obtain ⟨u, hu, ru⟩ := rv.get (List.getElem?_eq_getElem hxs)
  rw [hx'] at hu
  cases hu
  have hTw : T ∉ [en, it] := W.apart i T _ mid
  have ht2 : h2.IsTuple T ([.int i t, x] : List Value).toArray := by
   obtain ⟨o, eo, r⟩ := ht
   exact ⟨o, k2 T o hTw eo, r⟩
  have kk : ∀ b o, b ≠ en → b ≠ it → s.heap.get? b = some o → h2.get? b = some o := fun b o h1 h3 e => k2 b o (by simp [h1, h3]) (k1 b o (by simp [h1, h3]) e)
  have I2 := I.pair (tk := tk) (T := T) (xs := [.int i, xs[i]]) fe fi kk hT (.cons ⟨t, rfl⟩ (.cons ru .nil)) (by show 2 ≤ sizeLine; decide) ht2
  refine ⟨.ref T, _, I2, rfl, ⟨T, xs[i], I.hok.fresh hT, fun ys hy => by rw [I.list_inj hy hq]; exact List.getElem?_eq_getElem hxs, rfl, rfl⟩, ⟨st2.1, st2.2.1⟩, fun b hb => ?_⟩
  have hb' : b ≠ T := fun z => hTw (z ▸ hb)
  rw [upd_ne hb']
  exact (hf b hb).1
 done := by
  intro X hP hw hK hc i pins s σ H E I hf st hg
  subst hP hw hK
  obtain ⟨rfl, xs, hq, hl⟩ := hg
  obtain ⟨its, rv, p, hz⟩ := I.list hq
  have hlen := rv.length
  have fe := hf en (by simp)
  have fi := hf it (by simp)
  have W := WalksT.enumerateD (prog := X.prog) (w := X.w) (A := X.A) (Draws.list (A := X.A.in1) (I.ok.hd hc) it a hai its.toArray) en hne (by simp [hne, Ne.symm hae]) (by simp)
  have e : i = its.toArray.size := by rw [List.size_toArray]; omega
  rw [e] at st
  exact W.done s _ _ ⟨st.1, st.2, p.isList⟩ fun h' tk kk => ⟨rfl, I.turned2 (fun b o h1 h2 e => kk b o (by simp [h1, h2]) e) fe fi⟩
 self := fun A i s Q E st h => by
  obtain ⟨old, e⟩ := st.1
  exact wpAny_pyIter_enum e h
section
variable {X : Cx}
noncomputable def iEnum (K : PySem.W.Frag) (ta : TA) : TI := fun σ H R => ta σ H fun vs H1 => ∃ a xs, vs = [.ref a] ∧ SqL K H1 a xs ∧ R (Ite K a xs.length) H1
theorem qi_enum {elts : List Expr} {kt : Nat} {pt : Pos} {e : Expr} {ta : TA} {p pos : Pos} (hg : Gl X "enumerate") (hm : X.mg "enumerate" = none) (ha : QA X [e] ta) (hs : starEach [e] X.env = [(false, eval e X.env)] := by rfl) : QI X (.Tuple elts kt pt) (.Call (.Name "enumerate" p) [e] [] pos) (iEnum X.K ta) := by
 refine ⟨fun pins s σ H R I h => ?_⟩
 refine Call_ (ld_blt I hg hm PyProof.Rows.boot_enumerate (PyProof.Rows.callWith_type1 (thn (ha.run pos pins s σ H _ I h) fun us s1 ⟨vs, H1, I1, r1, q1⟩ => ?_) hs rfl))
 obtain ⟨l, xs, e1, hq, q⟩ := q1
 subst e1
 cases r1 with
 | cons r rr =>
  cases rr
  cases r
  obtain ⟨its, rv, pl, hz⟩ := I1.list hq
  have hlt : l < s1.heap.objs.size := by obtain ⟨o, e, _⟩ := pl.isList; exact Heap.lt_size e
  refine call_enumerate_list pl.isList fun h' hen hit hsz hk => ?_
  refine wpAny_pyIter_enum hen ?_
  have fe := I1.fpOk (b := s1.heap.objs.size + 1) (Nat.le_succ _) (I1.hok.fresh (Nat.le_succ _))
  have fi := I1.fpOk (b := s1.heap.objs.size) (Nat.le_refl _) (I1.hok.fresh (Nat.le_refl _))
  refine ⟨s1.heap.objs.size + 1, [s1.heap.objs.size + 1, s1.heap.objs.size], _, _, H1, rfl, I1.kept (t' := s1.toks) hk, turn_enum l _ _ xs.length (Nat.succ_ne_self _) (Nat.ne_of_lt (Nat.lt_succ_of_lt hlt)) (Nat.ne_of_lt hlt), ⟨⟨_, hen⟩, hit⟩, fun b hb => ?_, q⟩
  rcases List.mem_cons.mp hb with rfl | hb
  ·exact fe
  ·rw [List.mem_singleton.mp hb]
   exact fi
theorem for_enum {K : PySem.W.Frag} {a : Addr} {xs : List V} {g : TG} {tb : TS} {D : Ends} {σ : St} {H : Hp} (Pv : Nat → St → Hp → Prop) (h0 : Pv 0 σ H) (hl : ∀ i σ H, i ≤ xs.length → Pv i σ H → SqL K H a xs)
  (hs : ∀ i x t σ H, xs[i]? = some x → H t = none → Pv i σ H → g (.ref t) σ (upd H t (.tup [.int i, x])) fun σ2 H2 => tb { D with nx := Pv (i + 1), ct := Pv (i + 1), bk := D.nx } σ2 H2) (hd : ∀ σ H, Pv xs.length σ H → D.nx σ H) :
  ∃ W : Nat → Nat → St → Hp → Prop, (∃ m, W 0 m σ H) ∧ ∀ i m σ H, W i m σ H →
   ((Ite K a xs.length).stop i H ∧ D.nx σ H) ∨ ((Ite K a xs.length).go i H ∧ ∃ N : St → Hp → Prop, (∀ σ' H', N σ' H' → ∃ m', m' < m ∧ W (i + 1) m' σ' H') ∧ ∀ x H', (Ite K a xs.length).yld i H x H' → g x σ H' fun σ2 H2 => tb { D with nx := N, ct := N, bk := D.nx } σ2 H2) := by
 refine ⟨fun i m σ H => m = xs.length - i ∧ i ≤ xs.length ∧ Pv i σ H, ⟨xs.length, by simp, Nat.zero_le _, h0⟩, ?_⟩
 rintro i m σ H ⟨rfl, hi, p⟩
 have q := hl i σ H hi p
 by_cases hlt : i < xs.length
 ·refine .inr ⟨⟨xs, q, rfl, hlt⟩, Pv (i + 1), fun σ' H' p' => ⟨xs.length - (i + 1), by omega, rfl, hlt, p'⟩, fun x H' y => ?_⟩
  obtain ⟨t, y, ht, hy, rfl, rfl⟩ := y
  exact hs i y t σ _ (hy xs q) ht p
 ·have e : i = xs.length := by omega
  subst e
  exact .inl ⟨⟨rfl, xs, q, rfl⟩, hd σ H p⟩
end
end L2
namespace L2
open PySem PySem.SeqAt
open PySem.AutoSeq1 (wpAny_loadPart')
open PySem.MeetsSeq PySem.MeetsSeq2 PySem.MeetsSeq3 PySem.SeqRoads2
theorem ne_loopAt (l b : Addr) (items items2 : Array Value) (n n2 : Nat) (dd dd2 : Option Addr) (sl sl2 : Array (Option Value)) (hsz : items.size = items2.size) (e : Nat → Bool) (k : Nat) :
  ∀ i : Nat, items.size - i = k → Meets (Builtin.«list.__eq__.loop» ⟨[.ref l, .ref b, rawInt i, rawInt 3], []⟩)
   (fun A R s => s.heap.get? l = some { cls := .type "list", dict := dd, data := .seq items n, slots := sl } ∧ s.heap.get? b = some { cls := .type "list", dict := dd2, data := .seq items2 n2, slots := sl2 } ∧
    (∀ j (h1 : j < items.size) (h2 : j < items2.size), EqAt A.in1 s items[j] items2[j] (e j)) ∧
    R (.ok (.ret (.bool (!((List.range items.size).drop i).all e)))) s) := by
 induction k with
 | zero =>
  intro i hk prog w A R s h
  obtain ⟨hp, g, d, tk, os⟩ := s; obtain ⟨hl, hb, he, h⟩ := h
  wp_walk using wpAny_loadPart' hl, wpAny_loadPart' hb
  have hi1 : items[((i : Nat) : Int).toNat]? = none := by simp; omega
  have hi2 : items2[((i : Nat) : Int).toNat]? = none := by simp; omega
  have hd : (List.range items.size).drop i = [] := by simp; omega
  rw [hd] at h
  rw [hi1, hi2]
  wp_walk using wpAny_loadPart' hl, wpAny_loadPart' hb
  show R (.ok (.ret (.bool (items.size != items2.size)))) _
  rw [hsz]
  simpa using h
 | succ k ih =>
  intro i hk prog w A R s h
  obtain ⟨hp, g, d, tk, os⟩ := s; obtain ⟨hl, hb, he, h⟩ := h
  wp_walk using wpAny_loadPart' hl, wpAny_loadPart' hb
  have hlt : i < items.size := by omega
  have hlt2 : i < items2.size := by omega
  have hi1 : items[((i : Nat) : Int).toNat]? = some items[i] := by simp [hlt]
  have hi2 : items2[((i : Nat) : Int).toNat]? = some items2[i] := by simp [hlt2]
  have hd : (List.range items.size).drop i = i :: (List.range items.size).drop (i + 1) := by simp [List.drop_eq_getElem_cons, hlt]
  have hc : ((i : Int) + 1) = ((i + 1 : Nat) : Int) := by push_cast; rfl
  rw [hd, List.all_cons] at h
  rw [hi1, hi2]
  refine wpAny_bind (he i hlt hlt2 prog w _ _ ?_)
  cases hb' : e i with
  | true =>
   rw [hb'] at h
   wp_walk
   rw [hc]
   exact ⟨plainId_quiet plain_eq_loop _, codeAny_builtin entry_eq_loop (by
    rw [Around.under_plainId plain_eq_loop _]
    exact ih (i + 1) (by omega) prog w A R _ ⟨hl, hb, he, by simpa using h⟩)⟩
  | false =>
   rw [hb'] at h
   wp_walk using wpAny_loadPart' hl, wpAny_loadPart' hb
   rw [hi1, hi2]
   wp_walk
   simpa using h
theorem list_neAt (l b : Addr) (items items2 : Array Value) (n n2 : Nat) (dd dd2 : Option Addr) (sl sl2 : Array (Option Value)) (hsz : items.size = items2.size) (e : Nat → Bool) :
  Meets (Builtin.«list.__ne__» ⟨[.ref l, .ref b], []⟩)
   (fun A R s => s.heap.get? l = some { cls := .type "list", dict := dd, data := .seq items n, slots := sl } ∧ s.heap.get? b = some { cls := .type "list", dict := dd2, data := .seq items2 n2, slots := sl2 } ∧
    (∀ j (h1 : j < items.size) (h2 : j < items2.size), EqAt A.in1 s items[j] items2[j] (e j)) ∧
    R (.ok (.ret (.bool (!(List.range items.size).all e)))) s) := by
 intro prog w A R s h
 obtain ⟨hp, g, d, tk, os⟩ := s; obtain ⟨hl, hb, he, h⟩ := h
 have f3 := PySem.AutoSeq1.sub_list_list
 have hne : ¬ (items.size != items2.size) = true := by simp [hsz]
 wp_walk using wpAny_loadPart' hl, wpAny_loadPart' hb
 exact ⟨plainId_quiet plain_eq_loop _, codeAny_builtin entry_eq_loop (by
  rw [Around.under_plainId plain_eq_loop _]
  exact ne_loopAt l b items items2 n n2 dd dd2 sl sl2 hsz e _ 0 rfl prog w A R _ ⟨hl, hb, he, by simpa using h⟩)⟩
theorem tuple_neAt (l b : Addr) (items items2 : Array Value) (n n2 : Nat) (dd dd2 : Option Addr) (sl sl2 : Array (Option Value)) (e : Nat → Bool) :
  Meets (Builtin.«tuple.__ne__» ⟨[.ref l, .ref b], []⟩)
   (fun A R s => s.heap.get? l = some { cls := .type "tuple", dict := dd, data := .seq items n, slots := sl } ∧ s.heap.get? b = some { cls := .type "tuple", dict := dd2, data := .seq items2 n2, slots := sl2 } ∧
    (∀ j (h1 : j < items.size) (h2 : j < items2.size), EqAt A.in1 s items[j] items2[j] (e j)) ∧
    R (.ok (.ret (.bool (!((List.range (min items.size items2.size)).all e && items.size == items2.size))))) s) :=
 .of_wp fun prog w A R s h => by
  obtain ⟨hp, g, d, tk, os⟩ := s; obtain ⟨hl, hb, he, h⟩ := h
  have f2 := PySem.AutoSeq1.sub_tuple_tuple
  have hZ : (items.toList.zip items2.toList).length = min items.size items2.size := by simp
  wp_walk using wpAny_loadPart' hl, wpAny_loadPart' hb, wpAny_forIn_list _ (fun rest b s' => b.1 = none ∧ s' = ⟨hp, g, d, tk, os⟩ ∧ ∃ i, rest = (items.toList.zip items2.toList).drop i ∧
   R (.ok (.ret (.bool (!(((List.range (min items.size items2.size)).drop i).all e && items.size == items2.size))))) ⟨hp, g, d, tk, os⟩) _
  case turn =>
   rintro ⟨y, x⟩ rest b s' ⟨hb', rfl, i, hz, hR⟩
   have hlt : i < (items.toList.zip items2.toList).length := by
    rcases Nat.lt_or_ge i (items.toList.zip items2.toList).length with h' | h'
    ·exact h'
    ·rw [List.drop_of_length_le h'] at hz; cases hz
   have hm : i < min items.size items2.size := hZ ▸ hlt
   have h1 : i < items.size := Nat.lt_of_lt_of_le hm (Nat.min_le_left _ _)
   have h2 : i < items2.size := Nat.lt_of_lt_of_le hm (Nat.min_le_right _ _)
   rw [List.drop_eq_getElem_cons hlt] at hz
   injection hz with hyx hrest
   have hy : y = items[i] := by have := congrArg Prod.fst hyx; simpa using this
   have hx : x = items2[i] := by have := congrArg Prod.snd hyx; simpa using this
   subst hy hx
   have hd : (List.range (min items.size items2.size)).drop i = i :: (List.range (min items.size items2.size)).drop (i + 1) := by simp [List.drop_eq_getElem_cons, hm]
   rw [hd, List.all_cons] at hR
   refine wpAny_bind (he i h1 h2 prog w _ _ ?_)
   cases hy : e i with
   | true =>
    rw [hy] at hR
    wp_walk
    exact ⟨rfl, rfl, i + 1, hrest, by simpa using hR⟩
   | false =>
    rw [hy] at hR
    wp_walk
    exact ⟨_, rfl, by simpa using hR⟩
  case fin =>
   rintro ⟨b1, b2⟩ s' ⟨hb', rfl, i, hz, hR⟩
   simp only at hb'
   subst hb'
   have hge : min items.size items2.size ≤ i := by
    rcases Nat.lt_or_ge i (items.toList.zip items2.toList).length with h' | h'
    ·rw [List.drop_eq_getElem_cons h'] at hz; cases hz
    ·exact hZ ▸ h'
   rw [List.drop_of_length_le (by simpa using hge)] at hR
   wp_walk
   exact ⟨_, rfl, by simpa [Builtin.Tuple.tupleCompareSizes, bne] using hR⟩
  case h =>
   exact ⟨rfl, rfl, 0, rfl, by simpa using h⟩
section
variable {prog : Program} {w : World} {A : Around} {E : Value → Shared → Prop} {s : Shared}
theorem ne_listsAt {l b : Addr} {items items2 : Array Value} {e : Nat → Bool} {Q : Value → Shared → Prop} (hl : s.heap.IsList l items) (hb : s.heap.IsList b items2) (hsz : items.size = items2.size) (hu : A.units < cLine)
  (he : ∀ j (h1 : j < items.size) (h2 : j < items2.size), EqAt A.in1 s items[j] items2[j] (e j)) (h : Q (.bool (!(List.range items.size).all e)) s) : wpAny (model prog w) A (compareOp .NotEq (.ref l) (.ref b)) Q E s := by
 obtain ⟨⟨cls, dd, data, sl⟩, ho, hc, n, hd⟩ := id hl
 obtain ⟨⟨cls2, dd2, data2, sl2⟩, ho2, hc2, n2, hd2⟩ := id hb
 simp only at hc hd hc2 hd2
 subst hc hd hc2 hd2
 exact richCompare_meets_room (op := .NotEq) ⟨_, ho, rfl⟩ ⟨_, ho2, rfl⟩ F.slot_list_ne F.entry_list_ne (F.args_list_ne_2 _ _) (list_neAt l b items items2 n n2 dd dd2 sl sl2 hsz e)
  ⟨ho, ho2, he, show Value.bool (!(List.range items.size).all e) ≠ Value.notImplemented ∧ Q (.bool (!(List.range items.size).all e)) s from ⟨(fun x => nomatch x), h⟩⟩ hu
theorem ne_tuplesAt {l b : Addr} {items items2 : Array Value} {e : Nat → Bool} {Q : Value → Shared → Prop} (hl : s.heap.IsTuple l items) (hb : s.heap.IsTuple b items2) (hu : A.units < cLine)
  (he : ∀ j (h1 : j < items.size) (h2 : j < items2.size), EqAt A.in1 s items[j] items2[j] (e j)) (h : Q (.bool (!((List.range (min items.size items2.size)).all e && items.size == items2.size))) s) : wpAny (model prog w) A (compareOp .NotEq (.ref l) (.ref b)) Q E s := by
 obtain ⟨⟨cls, dd, data, sl⟩, ho, hc, n, hd⟩ := id hl
 obtain ⟨⟨cls2, dd2, data2, sl2⟩, ho2, hc2, n2, hd2⟩ := id hb
 simp only at hc hd hc2 hd2
 subst hc hd hc2 hd2
 exact richCompare_meets_room (op := .NotEq) ⟨_, ho, rfl⟩ ⟨_, ho2, rfl⟩ F.slot_tuple_ne F.entry_tuple_ne (F.args_tuple_ne_2 _ _) (tuple_neAt l b items items2 n n2 dd dd2 sl sl2 e)
  ⟨ho, ho2, he, show Value.bool (!((List.range (min items.size items2.size)).all e && items.size == items2.size)) ≠ Value.notImplemented ∧ Q (.bool (!((List.range (min items.size items2.size)).all e && items.size == items2.size))) s from ⟨(fun x => nomatch x), h⟩⟩ hu
end
end L2
namespace L2
open PySem PySem.Spec PyProof.Rows
inductive Dt where
 | flat (v : V)
 | tup (ds : List Dt)
 | lst (ds : List Dt)
inductive IsD (K : PySem.W.Frag) (H : Hp) : Nat → V → Dt → Prop where
 | flat {n : Nat} {v : V} (h : flatV v = true) : IsD K H n v (.flat v)
 | tup {n : Nat} {a : Addr} {vs : List V} {ds : List Dt} (q : SqT K H a vs) (l : vs.length = ds.length) (h : ∀ (j : Nat) (v : V) (d : Dt), vs[j]? = some v → ds[j]? = some d → IsD K H n v d) : IsD K H (n + 1) (.ref a) (.tup ds)
 | lst {n : Nat} {a : Addr} {vs : List V} {ds : List Dt} (q : SqL K H a vs) (l : vs.length = ds.length) (h : ∀ (j : Nat) (v : V) (d : Dt), vs[j]? = some v → ds[j]? = some d → IsD K H n v d) : IsD K H (n + 1) (.ref a) (.lst ds)
theorem IsD.up {K : PySem.W.Frag} {H : Hp} {n m : Nat} {v : V} {d : Dt} (h : IsD K H n v d) (hm : n ≤ m) : IsD K H m v d := by
 induction h generalizing m with
 | flat h => exact .flat h
 | tup q l _ ih =>
  obtain ⟨k, rfl⟩ : ∃ k, m = k + 1 := ⟨m - 1, by omega⟩
  exact .tup q l fun j v d e1 e2 => ih j v d e1 e2 (by omega)
 | lst q l _ ih =>
  obtain ⟨k, rfl⟩ : ∃ k, m = k + 1 := ⟨m - 1, by omega⟩
  exact .lst q l fun j v d e1 e2 => ih j v d e1 e2 (by omega)
theorem eqV_self {v : V} (h : flatV v = true) : eqV v v = true := by
 cases v with
 | non => rfl
 | bl b => simp [eqV]
 | int i => simp [eqV]
 | str x => simp [eqV]
 | byt _ => cases h
 | flt _ => cases h
 | ref _ => cases h
 | ty _ => cases h
section
variable {X : Cx} {pins : List (Addr × Obj)} {σ : St} {H : Hp} {s : Shared}
theorem eqAt_same (I : Inv X pins σ H s) : ∀ {n : Nat} {x y : V} {d : Dt}, IsD X.K H n x d → IsD X.K H n y d → ∀ {A : Around} {u v : Value}, RelV x u → RelV y v → A.units + n < cLine → SeqAt.EqAt A s u v true := by
 intro n
 induction n with
 | zero =>
  intro x y d hx hy A u v rx ry hu
  cases hx with
  | flat fx =>
   cases hy with
   | flat fy =>
    have := eqAt_V (A := A) (s := s) rx ry fx fy
    rw [eqV_self fx] at this
    exact this
 | succ n ih =>
  intro x y d hx hy A u v rx ry hu
  cases hx with
  | flat fx =>
   cases hy with
   | flat fy =>
    have := eqAt_V (A := A) (s := s) rx ry fx fy
    rw [eqV_self fx] at this
    exact this
  | @tup _ a vs ds q l h =>
   cases hy with
   | @tup _ b ws _ q' l' h' =>
    cases rx
    cases ry
    by_cases hab : a = b
    ·subst hab
     exact SeqAt.EqAt.same _
    obtain ⟨its, r1, p1, _⟩ := I.tuple q
    obtain ⟨its2, r2, p2, _⟩ := I.tuple q'
    have l1 := r1.length
    have l2 := r2.length
    have := SeqAt.RcAt.tuples (A := A) (e := fun _ => true) (show s.heap.IsTuple a its.toArray from p1) (show s.heap.IsTuple b its2.toArray from p2) (by omega) fun j h1 h2 => by
     have h1' : j < vs.length := by simp only [List.size_toArray] at h1; omega
     have h2' : j < ws.length := by simp only [List.size_toArray] at h2; omega
     obtain ⟨u1, g1, k1⟩ := r1.get (List.getElem?_eq_getElem h1')
     obtain ⟨u2, g2, k2⟩ := r2.get (List.getElem?_eq_getElem h2')
     have e1 : its.toArray[j] = u1 := by
      have : its[j]? = some its[j] := by simp
      rw [this] at g1
      simpa using g1
     have e2 : its2.toArray[j] = u2 := by
      have : its2[j]? = some its2[j] := by simp
      rw [this] at g2
      simpa using g2
     rw [e1, e2]
     have hd : j < ds.length := by omega
     exact ih (h j _ _ (List.getElem?_eq_getElem h1') (List.getElem?_eq_getElem hd)) (h' j _ _ (List.getElem?_eq_getElem h2') (List.getElem?_eq_getElem hd)) k1 k2 (by show A.units + 1 + n < cLine; omega)
    have e : ((List.range (min its.toArray.size its2.toArray.size)).all (fun _ => true) && its.toArray.size == its2.toArray.size) = true := by
     have : its.toArray.size = its2.toArray.size := by simp only [List.size_toArray]; omega
     rw [this]
     simp
    rw [e] at this
    exact SeqAt.EqAt.of_refs hab this
  | @lst _ a vs ds q l h =>
   cases hy with
   | @lst _ b ws _ q' l' h' =>
    cases rx
    cases ry
    by_cases hab : a = b
    ·subst hab
     exact SeqAt.EqAt.same _
    obtain ⟨its, r1, p1, _⟩ := I.list q
    obtain ⟨its2, r2, p2, _⟩ := I.list q'
    have l1 := r1.length
    have l2 := r2.length
    have := SeqAt.RcAt.lists (A := A) (e := fun _ => true) p1.isList p2.isList (by simp only [List.size_toArray]; omega) (by omega) fun j h1 h2 => by
     have h1' : j < vs.length := by simp only [List.size_toArray] at h1; omega
     have h2' : j < ws.length := by simp only [List.size_toArray] at h2; omega
     obtain ⟨u1, g1, k1⟩ := r1.get (List.getElem?_eq_getElem h1')
     obtain ⟨u2, g2, k2⟩ := r2.get (List.getElem?_eq_getElem h2')
     have e1 : its.toArray[j] = u1 := by
      have : its[j]? = some its[j] := by simp
      rw [this] at g1
      simpa using g1
     have e2 : its2.toArray[j] = u2 := by
      have : its2[j]? = some its2[j] := by simp
      rw [this] at g2
      simpa using g2
     rw [e1, e2]
     have hd : j < ds.length := by omega
     exact ih (h j _ _ (List.getElem?_eq_getElem h1') (List.getElem?_eq_getElem hd)) (h' j _ _ (List.getElem?_eq_getElem h2') (List.getElem?_eq_getElem hd)) k1 k2 (by show A.units + 1 + n < cLine; omega)
    have e : (List.range its.toArray.size).all (fun _ => true) = true := by simp
    rw [e] at this
    exact SeqAt.EqAt.of_refs hab this
theorem itemsAt (I : Inv X pins σ H s) {n : Nat} {A : Around} {vs ws : List V} {its its2 : List Value} {ds : List Dt} (r1 : Vals vs its) (r2 : Vals ws its2) (l : vs.length = ds.length) (l' : ws.length = ds.length)
  (h : ∀ (j : Nat) (v : V) (d : Dt), vs[j]? = some v → ds[j]? = some d → IsD X.K H n v d) (h' : ∀ (j : Nat) (v : V) (d : Dt), ws[j]? = some v → ds[j]? = some d → IsD X.K H n v d) (hu : A.units + n < cLine) :
  ∀ j (h1 : j < its.toArray.size) (h2 : j < its2.toArray.size), SeqAt.EqAt A s its.toArray[j] its2.toArray[j] ((fun _ => true) j) := fun j h1 h2 => by
 have l1 := r1.length
 have l2 := r2.length
 have h1' : j < vs.length := by simp only [List.size_toArray] at h1; omega
 have h2' : j < ws.length := by simp only [List.size_toArray] at h2; omega
 obtain ⟨u1, g1, k1⟩ := r1.get (List.getElem?_eq_getElem h1')
 obtain ⟨u2, g2, k2⟩ := r2.get (List.getElem?_eq_getElem h2')
 have e1 : its.toArray[j] = u1 := by
  have : its[j]? = some its[j] := by simp
  rw [this] at g1
  simpa using g1
 have e2 : its2.toArray[j] = u2 := by
  have : its2[j]? = some its2[j] := by simp
  rw [this] at g2
  simpa using g2
 rw [e1, e2]
 have hd : j < ds.length := by omega
 exact eqAt_same I (h j _ _ (List.getElem?_eq_getElem h1') (List.getElem?_eq_getElem hd)) (h' j _ _ (List.getElem?_eq_getElem h2') (List.getElem?_eq_getElem hd)) k1 k2 hu
end
section
variable {X : Cx}
noncomputable def rEqD (K : PySem.W.Frag) (b : Bool) : R2 := fun x y H Q => ∃ (a c : Addr) (n : Nat) (d : Dt), x = .ref a ∧ y = .ref c ∧ n ≤ 190 ∧ IsD K H n x d ∧ IsD K H n y d ∧ Q (.bl b) H
theorem op_eqD (hu : X.A.units + 200 < cLine) : OpR X (compareOp .Eq) (rEqD X.K true) := by
 intro pins s σ H x y v u Q I rx ry h
 obtain ⟨a, c, n, d, rfl, rfl, hn, hx, hy, q⟩ := h
 cases rx
 cases ry
 cases hx with
 | flat fx => cases fx
 | @tup n _ vs ds qx l hd =>
  cases hy with
  | @tup _ _ ws _ qy l' hd' =>
   obtain ⟨its, r1, p1, _⟩ := I.tuple qx
   obtain ⟨its2, r2, p2, _⟩ := I.tuple qy
   have l1 := r1.length
   have l2 := r2.length
   refine SeqAt.eq_tupleAt (e := fun _ => true) (show s.heap.IsTuple a its.toArray from p1) (show s.heap.IsTuple c its2.toArray from p2) (by omega) (itemsAt I r1 r2 l l' hd hd' (by show X.A.units + 1 + n < cLine; omega)) ?_
   have e : ((List.range (min its.toArray.size its2.toArray.size)).all (fun _ => true) && its.toArray.size == its2.toArray.size) = true := by
    have : its.toArray.size = its2.toArray.size := by simp only [List.size_toArray]; omega
    rw [this]
    simp
   rw [e]
   exact ⟨.bl true, H, I, rfl, q⟩
 | @lst n _ vs ds qx l hd =>
  cases hy with
  | @lst _ _ ws _ qy l' hd' =>
   obtain ⟨its, r1, p1, _⟩ := I.list qx
   obtain ⟨its2, r2, p2, _⟩ := I.list qy
   have l1 := r1.length
   have l2 := r2.length
   refine SeqAt.eq_listAt (e := fun _ => true) p1.isList p2.isList (by simp only [List.size_toArray]; omega) (by omega) (itemsAt I r1 r2 l l' hd hd' (by show X.A.units + 1 + n < cLine; omega)) ?_
   have e : (List.range its.toArray.size).all (fun _ => true) = true := by simp
   rw [e]
   exact ⟨.bl true, H, I, rfl, q⟩
theorem op_neD (hu : X.A.units + 200 < cLine) : OpR X (compareOp .NotEq) (rEqD X.K false) := by
 intro pins s σ H x y v u Q I rx ry h
 obtain ⟨a, c, n, d, rfl, rfl, hn, hx, hy, q⟩ := h
 cases rx
 cases ry
 cases hx with
 | flat fx => cases fx
 | @tup n _ vs ds qx l hd =>
  cases hy with
  | @tup _ _ ws _ qy l' hd' =>
   obtain ⟨its, r1, p1, _⟩ := I.tuple qx
   obtain ⟨its2, r2, p2, _⟩ := I.tuple qy
   have l1 := r1.length
   have l2 := r2.length
   refine ne_tuplesAt (e := fun _ => true) (show s.heap.IsTuple a its.toArray from p1) (show s.heap.IsTuple c its2.toArray from p2) (by omega) (itemsAt I r1 r2 l l' hd hd' (by show X.A.units + 1 + n < cLine; omega)) ?_
   have e : (!((List.range (min its.toArray.size its2.toArray.size)).all (fun _ => true) && its.toArray.size == its2.toArray.size)) = false := by
    have : its.toArray.size = its2.toArray.size := by simp only [List.size_toArray]; omega
    rw [this]
    simp
   rw [e]
   exact ⟨.bl false, H, I, rfl, q⟩
 | @lst n _ vs ds qx l hd =>
  cases hy with
  | @lst _ _ ws _ qy l' hd' =>
   obtain ⟨its, r1, p1, _⟩ := I.list qx
   obtain ⟨its2, r2, p2, _⟩ := I.list qy
   have l1 := r1.length
   have l2 := r2.length
   refine ne_listsAt (e := fun _ => true) p1.isList p2.isList (by simp only [List.size_toArray]; omega) (by omega) (itemsAt I r1 r2 l l' hd hd' (by show X.A.units + 1 + n < cLine; omega)) ?_
   have e : (!(List.range its.toArray.size).all (fun _ => true)) = false := by simp
   rw [e]
   exact ⟨.bl false, H, I, rfl, q⟩
noncomputable def rEqA (K : PySem.W.Frag) : R2 := fun x y H Q => rEq x y H Q ∨ rEqD K true x y H Q
noncomputable def rNeA (K : PySem.W.Frag) : R2 := fun x y H Q => rNe x y H Q ∨ rEqD K false x y H Q
theorem op_eqA (hu : X.A.units + 200 < cLine) : OpR X (compareOp .Eq) (rEqA X.K) := op_eq.or (op_eqD hu)
theorem op_neA (hu : X.A.units + 200 < cLine) : OpR X (compareOp .NotEq) (rNeA X.K) := op_ne.or (op_neD hu)
theorem s_eq {K : PySem.W.Frag} {x y : V} {H : Hp} {Q : VK} (hs : scal x y = true) (h : Q (.bl (decide (x = y))) H) : rEqA K x y H Q := .inl ⟨hs, h⟩
theorem s_ne {K : PySem.W.Frag} {x y : V} {H : Hp} {Q : VK} (hs : scal x y = true) (h : Q (.bl (!decide (x = y))) H) : rNeA K x y H Q := .inl ⟨hs, h⟩
theorem s_eqD {K : PySem.W.Frag} {a c : Addr} {H : Hp} {Q : VK} {n : Nat} {d : Dt} (hn : n ≤ 190) (hx : IsD K H n (.ref a) d) (hy : IsD K H n (.ref c) d) (h : Q (.bl true) H) : rEqA K (.ref a) (.ref c) H Q := .inr ⟨a, c, n, d, rfl, rfl, hn, hx, hy, h⟩
theorem s_neD {K : PySem.W.Frag} {a c : Addr} {H : Hp} {Q : VK} {n : Nat} {d : Dt} (hn : n ≤ 190) (hx : IsD K H n (.ref a) d) (hy : IsD K H n (.ref c) d) (h : Q (.bl false) H) : rNeA K (.ref a) (.ref c) H Q := .inr ⟨a, c, n, d, rfl, rfl, hn, hx, hy, h⟩
theorem Room.u200 {k : Nat} {A : Around} (r : Room k A) : A.units + 200 < cLine := by have := r.un; omega
end
end L2
namespace L2
open PySem PySem.Spec PyProof.Rows
section
variable {t u : TS} {c d : TT} {te ta tb tc : TE} {g : TG} {gs : TGs} {ts : TA} {D : Ends} {σ : St} {H : Hp} {Q : VK} {QB : Bool → Hp → Prop} {QA' : List V → Hp → Prop}
theorem s_seq (h : t { D with nx := u D } σ H) : tSeq t u D σ H := h
theorem s_asg (h : te σ H fun x H1 => g x σ H1 D.nx) : tAsg te g D σ H := h
theorem s_ret (h : te σ H D.rt) : tRet te D σ H := h
theorem s_drop (h : te σ H fun _ H1 => D.nx σ H1) : tDrop te D σ H := h
theorem s_next (h : D.nx σ H) : tNext D σ H := h
theorem s_ifS (h : c σ H fun b H1 => if b = true then t D σ H1 else u D σ H1) : tIfS c t u D σ H := h
theorem s_var {i : Nat} {v : V} (e : σ[i]? = some (some v)) (h : Q v H) : tVar i σ H Q := ⟨v, e, h⟩
theorem s_c {v : V} (h : Q v H) : tC v σ H Q := h
theorem s_op {r : R2} (h : ta σ H fun x H1 => tb σ H1 fun y H2 => r x y H2 Q) : tOp r ta tb σ H Q := h
theorem s_un {r : V → Hp → VK → Prop} (h : ta σ H fun x H1 => r x H1 Q) : tUn r ta σ H Q := h
theorem s_test (h : te σ H fun x H' => ∃ k, x = .bl k ∧ QB k H') : tTest te σ H QB := h
theorem s_tB (h : te σ H fun x H' => ∃ k, x = .bl k ∧ QB k H') : tB te σ H QB := h
theorem s_ex {b : Bool} {P : Bool → Prop} (h : P b) : ∃ k, V.bl b = V.bl k ∧ P k := ⟨b, rfl, h⟩
theorem s_exi {i : Int} {P : Int → Prop} (h : P i) : ∃ k, V.int i = V.int k ∧ P k := ⟨i, rfl, h⟩
theorem s_not (h : c σ H fun b H1 => QB (!b) H1) : tNot c σ H QB := h
theorem s_and (h : c σ H fun b H1 => if b = true then d σ H1 QB else QB false H1) : tAnd c d σ H QB := h
theorem s_or (h : c σ H fun b H1 => if b = true then QB true H1 else d σ H1 QB) : tOr c d σ H QB := h
theorem s_andV (h : ta σ H fun x H1 => ∃ k, x = .bl k ∧ if k = true then tb σ H1 Q else Q (.bl false) H1) : tAndV ta tb σ H Q := h
theorem s_orV (h : ta σ H fun x H1 => ∃ k, x = .bl k ∧ if k = true then Q (.bl true) H1 else tb σ H1 Q) : tOrV ta tb σ H Q := h
theorem s_notV (h : ta σ H fun x H1 => ∃ k, x = .bl k ∧ Q (.bl (!k)) H1) : tNotV ta σ H Q := h
theorem s_nil (h : QA' [] H) : tNil σ H QA' := h
theorem s_cons (h : te σ H fun x H1 => ts σ H1 fun xs H2 => QA' (x :: xs) H2) : tCons te ts σ H QA' := h
theorem s_vals {xs : List V} (h : QA' xs H) : tVals xs σ H QA' := h
theorem s_tup (h : ts σ H fun xs H1 => xs.length ≤ sizeLine ∧ ∀ p, H1 p = none → Q (.ref p) (upd H1 p (.tup xs))) : tTup ts σ H Q := h
theorem s_lst (h : ts σ H fun xs H1 => xs.length ≤ sizeLine ∧ ∀ p, H1 p = none → Q (.ref p) (upd H1 p (.lst xs))) : tLst ts σ H Q := h
theorem s_call {sp : Sp} {dvs : List V} {E : XK} (h : ts σ H fun vs H1 => sp (vs ++ dvs) H1 Q E) : tCall sp dvs E ts σ H Q := h
theorem s_cb {r : List V → Hp → VK → Prop} (h : ts σ H fun vs H1 => r vs H1 Q) : tCB r ts σ H Q := h
theorem s_bm {K : PySem.W.Frag} {T : String} {r : V → List V → Hp → VK → Prop} (h : te σ H fun x H1 => tyV K T x H1 ∧ ts σ H1 fun xs H2 => r x xs H2 Q) : tBM K T r te ts σ H Q := h
theorem s_bm0 {K : PySem.W.Frag} {T : String} {r : V → List V → Hp → VK → Prop} (h : te σ H fun x H1 => tyV K T x H1 ∧ r x [] H1 Q) : tBM0 K T r te σ H Q := h
theorem s_sl {r : V → Option Int → Option Int → Hp → VK → Prop} {tl th : TO} (h : te σ H fun x H1 => tl σ H1 fun l H2 => th σ H2 fun u H3 => r x l u H3 Q) : tSl r te tl th σ H Q := h
theorem s_po {QO' : Option Int → Hp → Prop} (h : te σ H fun x H1 => ∃ i, x = .int i ∧ QO' (some i) H1) : tPart te σ H QO' := h
theorem s_po0 {QO' : Option Int → Hp → Prop} (h : QO' none H) : tNoPart σ H QO' := h
theorem s_gname {i : Nat} {v : V} {QS' : St → Hp → Prop} (h : QS' (σ.set i (some v)) H) : gName i v σ H QS' := h
theorem s_gtup {K : PySem.W.Frag} {n : Nat} {a : Addr} {xs : List V} {QS' : St → Hp → Prop} (q : SqT K H a xs) (l : xs.length = n) (h : gs xs σ H QS') : gTup K n gs (.ref a) σ H QS' := ⟨a, xs, rfl, q, l, h⟩
theorem s_gcons {v : V} {r : List V} {QS' : St → Hp → Prop} (h : g v σ H fun σ' H' => gs r σ' H' QS') : gCons g gs (v :: r) σ H QS' := ⟨v, r, rfl, h⟩
theorem s_gnil {QS' : St → Hp → Prop} (h : QS' σ H) : gNil [] σ H QS' := ⟨rfl, h⟩
theorem s_gsub {to ti : TE} {tt : TSet} {v : V} {QS' : St → Hp → Prop} (h : to σ H fun o H1 => ti σ H1 fun i H2 => tt o i v H2 fun H3 => QS' σ H3) : gSub to ti tt v σ H QS' := h
theorem s_isN (h : ta σ H fun x H1 => Q (.bl (decide (x = .non))) H1) : tIsN ta σ H Q := h
theorem s_notN (h : ta σ H fun x H1 => Q (.bl (!decide (x = .non))) H1) : tNotN ta σ H Q := h
end
section
variable {wi : TI} {σ0 : St → St} {g : TG} {tt : TT} {te : TE} {ta : TA} {tb : TS} {D : Ends} {σ : St} {H : Hp} {Q : VK} {R : It → Hp → Prop} {K : PySem.W.Frag}
theorem s_comp (h : wi σ H fun J H1 => ∀ L, H1 L = none → CompW J g tt te (σ0 σ) H1 L Q) : tComp wi σ0 g tt te σ H Q := h
theorem s_for (h : wi σ H fun J H1 => ∃ W : Nat → Nat → St → Hp → Prop, (∃ m, W 0 m σ H1) ∧ ∀ i m σ H, W i m σ H →
 (J.stop i H ∧ D.nx σ H) ∨ (J.go i H ∧ ∃ N : St → Hp → Prop, (∀ σ' H', N σ' H' → ∃ m', m' < m ∧ W (i + 1) m' σ' H') ∧ ∀ x H', J.yld i H x H' → g x σ H' fun σ2 H2 => tb { D with nx := N, ct := N, bk := D.nx } σ2 H2)) : tFor wi g tb D σ H := h
theorem s_rng1 (h : ta σ H fun vs H1 => ∃ j : Int, vs = [.int j] ∧ -(2 ^ 62) ≤ j ∧ j < 2 ^ 62 ∧ R (Itr 0 j.toNat) H1) : iRng1 ta σ H R := h
theorem s_exr {i : Int} {P : Int → Prop} (h : P i) : ∃ j, ([V.int i] : List V) = [.int j] ∧ P j := ⟨i, rfl, h⟩
theorem s_iany (h : te σ H fun x H1 => (∃ a, x = .ref a ∧ (∃ xs, SqL K H1 a xs) ∧ R (Itl K a) H1) ∨ (∃ a, x = .ref a ∧ (∃ xs, SqT K H1 a xs) ∧ R (Itt K a) H1) ∨ ∃ z, x = .str z ∧ R (Its z) H1) : iAny K te σ H R := h
theorem s_ienum (h : ta σ H fun vs H1 => ∃ a xs, vs = [.ref a] ∧ SqL K H1 a xs ∧ R (Ite K a xs.length) H1) : iEnum K ta σ H R := h
theorem s_yes {QB : Bool → Hp → Prop} (h : QB true H) : tYes σ H QB := h
theorem s_turn {L : Addr} {Nx : List V → St → Hp → Prop} {x : V} (h : g x σ H fun σ2 H3 => tt σ2 H3 fun b H4 => if b = true then te σ2 H4 fun y H5 => ∃ ys, H5 L = some (.lst ys) ∧ ys.length < sizeLine ∧ (∃ zs, upd H5 L (.lst (ys ++ [y])) L = some (.lst zs) ∧ Nx zs σ2 (upd H5 L (.lst (ys ++ [y])))) else ∃ zs, H4 L = some (.lst zs) ∧ Nx zs σ2 H4) : CompT g tt te L Nx x σ H := h
theorem s_app {l : Addr} {xs : List V} {y : V} (e : H l = some (.lst xs)) (z : xs.length < sizeLine) (h : Q .non (upd H l (.lst (xs ++ [y])))) : rAppend (.ref l) [y] H Q := ⟨l, xs, y, rfl, rfl, e, z, h⟩
theorem s_pop {l : Addr} {xs : List V} {y : V} (e : H l = some (.lst (xs ++ [y]))) (h : Q y (upd H l (.lst xs))) : rPop (.ref l) [] H Q := ⟨l, xs ++ [y], y, rfl, rfl, e, by simp, by simpa using h⟩
theorem s_join {sep : Str} {p : Addr} {ys : List Str} (hq : SqL K H p (ys.map V.str)) (hz : (ys.map (·.length)).sum + ys.length * sep.length ≤ 16777216) (h : Q (.str (Txt.join sep ys)) H) : rJoin K (.str sep) [.ref p] H Q := ⟨sep, p, ys, rfl, rfl, hq, hz, h⟩
theorem s_setL {p : Addr} {xs : List V} {k : Int} {j : Nat} {v : V} {QH : Hp → Prop} (e : H p = some (.lst xs)) (hj : ixN xs.length k = some j) (h : QH (upd H p (.lst (xs.set j v)))) : rSetL (.ref p) (.int k) v H QH := ⟨p, xs, k, j, rfl, rfl, e, hj, h⟩
end
end L2
namespace L2
open PySem PySem.Spec PyProof.Rows
section
variable {X : Cx} (K : PySem.W.Frag)
theorem k_add (hK : X.K = K := by rfl) : OpR X (binaryOp .Add) (rAddA K) := by subst hK; exact op_addA
theorem k_eq (hu : X.A.units + 200 < cLine) (hK : X.K = K := by rfl) : OpR X (compareOp .Eq) (rEqA K) := by subst hK; exact op_eqA hu
theorem k_ne (hu : X.A.units + 200 < cLine) (hK : X.K = K := by rfl) : OpR X (compareOp .NotEq) (rNeA K) := by subst hK; exact op_neA hu
theorem k_in (hK : X.K = K := by rfl) : OpR X (compareOp .In) (rInA K false) := by subst hK; exact op_inA
theorem k_notin (hK : X.K = K := by rfl) : OpR X (compareOp .NotIn) (rInA K true) := by subst hK; exact op_notinA
theorem k_ix (hK : X.K = K := by rfl) : IxR X (rIx K) := by subst hK; exact ix_seq
theorem k_sl (hK : X.K = K := by rfl) : SlR X (rSlA K) := by subst hK; exact sl_any
theorem k_len (hK : X.K = K := by rfl) : CallR X (.builtin "len") (rLen K) := by subst hK; exact call_lenA
theorem k_join (hK : X.K = K := by rfl) : MtR X "str.join" (rJoin K) := by subst hK; exact mt_join
inductive TyQ (K : PySem.W.Frag) (H : Hp) : V → Value → Prop where
 | ty {x : V} {t : Value} (h : TyOf K H x t) : TyQ K H x t
 | tup {a : Addr} {xs : List V} (q : SqT K H a xs) : TyQ K H (.ref a) (.type "tuple")
 | lst {a : Addr} {xs : List V} (q : SqL K H a xs) : TyQ K H (.ref a) (.type "list")
noncomputable def rIsi (K : PySem.W.Frag) (T : String) : List V → Hp → VK → Prop := fun xs H Q => ∃ x t b, xs = [x, .ty T] ∧ TyQ K H x t ∧ PySem.W.kitOne K t (.type T) = some b ∧ Q (.bl b) H
theorem call_isiQ {T : String} : CallR X (.builtin "isinstance") (rIsi X.K T) := by
 intro pins s σ H xs us Q I r h
 obtain ⟨x, t, b, rfl, ty, e, q⟩ := h
 obtain ⟨u, v, rfl, ru, rv⟩ := r.two
 obtain rfl : v = Value.type T := rv
 cases ty with
 | ty ty => exact isinst_ok I ru ty e fun tk => ⟨.bl b, H, I.tok tk, rfl, q⟩
 | tup hq =>
  cases ru
  obtain ⟨its, _, p, _⟩ := I.tuple hq
  obtain ⟨o, h1, h2, _⟩ := p
  exact PySem.W.kia_one PySem.W.kitx_tuple I.kIn ⟨o, h1, h2⟩ e (fun z => nomatch z) fun tk => ⟨.bl b, H, I.tok tk, rfl, q⟩
 | lst hq =>
  cases ru
  obtain ⟨its, _, p, _⟩ := I.list hq
  obtain ⟨o, n, h1, h2, _⟩ := p
  exact PySem.W.kia_one PySem.W.kitx_list I.kIn ⟨o, h1, h2⟩ e (fun z => nomatch z) fun tk => ⟨.bl b, H, I.tok tk, rfl, q⟩
theorem k_isi (T : String) (hK : X.K = K := by rfl) : CallR X (.builtin "isinstance") (rIsi K T) := by subst hK; exact call_isiQ
noncomputable def rAll (K : PySem.W.Frag) : List V → Hp → VK → Prop := fun xs H Q => ∃ (p : Addr) (bs : List Bool), xs = [.ref p] ∧ SqL K H p (bs.map V.bl) ∧ Q (.bl (bs.all id)) H
theorem k_all (hc : X.calm = true) (hK : X.K = K := by rfl) : CallR X (.builtin "all") (rAll K) := by subst hK; exact call_all hc
noncomputable def rTupOf (K : PySem.W.Frag) : List V → Hp → VK → Prop := fun xs H Q => ∃ p ys, xs = [.ref p] ∧ ((SqL K H p ys ∧ ∀ l, H l = none → Q (.ref l) (upd H l (.tup ys))) ∨ (SqT K H p ys ∧ Q (.ref p) H))
theorem k_tuple (hK : X.K = K := by rfl) : CallR X (.type "tuple") (rTupOf K) := by subst hK; exact call_tuple_of
noncomputable def rInt : List V → Hp → VK → Prop := fun xs H Q => (∃ i, xs = [.int i] ∧ Q (.int i) H) ∨ ∃ k, xs = [.bl k] ∧ Q (.int (if k then 1 else 0)) H
theorem k_int : CallR X (.type "int") rInt := call_int1
theorem s_intb {k : Bool} {H : Hp} {Q : VK} (h : Q (.int (if k = true then 1 else 0)) H) : rInt [.bl k] H Q := .inr ⟨k, rfl, h⟩
theorem qi_anyK {tg l : Expr} {tl : TE} (hl : QE X l tl) (hK : X.K = K := by rfl) : QI X tg l (iAny K tl) := by subst hK; exact qi_any hl
theorem qi_enumK {elts : List Expr} {kt : Nat} {pt : Pos} {e : Expr} {ta : TA} {p pos : Pos} (hg : Gl X "enumerate") (hm : X.mg "enumerate" = none) (ha : QA X [e] ta) (hK : X.K = K := by rfl) (hs : starEach [e] X.env = [(false, eval e X.env)] := by rfl) : QI X (.Tuple elts kt pt) (.Call (.Name "enumerate" p) [e] [] pos) (iEnum K ta) := by subst hK; exact qi_enum hg hm ha hs
theorem qg_tupK {es : List Expr} {k : Nat} {pos : Pos} {t : TGs} {n : Nat} (hc : X.calm = true) (h : QGs X es t) (hK : X.K = K := by rfl) (hn : (assignEach es X.env).length = n := by rfl) (hst : (assignEach es X.env).findIdx? (·.1) = none := by rfl) : QG X (.Tuple es k pos) (gTup K n t) := by subst hK; exact qg_tup hc h hn hst
noncomputable def tTruth (K : PySem.W.Frag) (ta : TE) : TT := fun σ H Q => ta σ H fun x H' => ∃ k, TruV K x H' k ∧ Q k H'
theorem qt_truthK {a : Expr} {ta : TE} (ha : QE X a ta) (he : ∀ whole, isTrue a X.env whole = (do let v ← whole; standAt a.pos; holding [v] (truthy v))) (hK : X.K = K := by rfl) : QT X a (tTruth K ta) := by subst hK; exact ⟨pt_truth ha.run he⟩
theorem qe_bmK {o e : Expr} {es : List Expr} {to : TE} {t : TA} {name : Str} {apos cpos : Pos} {T id : String} {r : V → List V → Hp → VK → Prop} (pa : PlainAttrs T) (slot : Slot T name id) (hty : typeOf (.builtin id) = pure (.type "method_descriptor")) (hm : MtR X id r) (ho : QE X o to) (ha : QA X (e :: es) t) (hK : X.K = K := by rfl)
  (hbase : attributeBase o name X.env (eval o X.env) = eval o X.env := by rfl) (hfew : ((backTo cpos (starEach (e :: es) X.env)).all (fun x => !x.1) && (backToKw cpos (keywordEach [] X.env)).all (fun x => x.1.isSome)
   && decide ((e :: es).length + ([] : List Keyword).length + (if ([] : List Keyword).isEmpty then 0 else 1) < 30)) = true := by rfl) (hline : (apos.endLine == cpos.line) = true := by rfl) (hs : starEach (e :: es) X.env = (false, eval e X.env) :: starEach es X.env := by rfl) (hplain : (backTo cpos (starEach es X.env)).any (·.1) = false := by rfl) : QE X (.Call (.Attribute o name apos) (e :: es) [] cpos) (tBM K T r to t) := by subst hK; exact qe_bm pa slot hty hm ho ha hbase hfew hline hs hplain
theorem qe_bm0K {o : Expr} {to : TE} {name : Str} {apos cpos : Pos} {T id : String} {r : V → List V → Hp → VK → Prop} (pa : PlainAttrs T) (slot : Slot T name id) (hty : typeOf (.builtin id) = pure (.type "method_descriptor")) (hm : MtR X id r) (ho : QE X o to) (hK : X.K = K := by rfl) (hbase : attributeBase o name X.env (eval o X.env) = eval o X.env := by rfl) (hline : (apos.endLine == cpos.line) = true := by rfl) : QE X (.Call (.Attribute o name apos) [] [] cpos) (tBM0 K T r to) := by subst hK; exact qe_bm0 pa slot hty hm ho hbase hline
end
section
variable {K : PySem.W.Frag} {σ : St} {H : Hp} {Q : VK} {QB : Bool → Hp → Prop} {ta : TE}
theorem s_truth (h : ta σ H fun x H' => ∃ k, TruV K x H' k ∧ QB k H') : tTruth K ta σ H QB := h
theorem s_tru_lst {a : Addr} {xs : List V} {P : Bool → Prop} (q : SqL K H a xs) (h : P (!xs.isEmpty)) : ∃ k, TruV K (.ref a) H k ∧ P k := ⟨_, .inl ⟨xs, q, rfl⟩, h⟩
theorem s_isiT {T : String} {a : Addr} {xs : List V} {b : Bool} (q : SqT K H a xs) (e : PySem.W.kitOne K (.type "tuple") (.type T) = some b) (h : Q (.bl b) H) : rIsi K T [.ref a, .ty T] H Q := ⟨_, _, b, rfl, .tup q, e, h⟩
theorem s_tupL {p : Addr} {ys : List V} (q : SqL K H p ys) (h : ∀ l, H l = none → Q (.ref l) (upd H l (.tup ys))) : rTupOf K [.ref p] H Q := ⟨p, ys, rfl, .inl ⟨q, h⟩⟩
theorem s_tyL {a : Addr} {xs : List V} {P : Prop} (q : SqL K H a xs) (h : P) : tyV K "list" (.ref a) H ∧ P := ⟨.inl ⟨rfl, _, q⟩, h⟩
end
theorem s_nt {A B : Prop} (h : B) : if (!true) = true then A else B := by simpa using h
theorem s_nf {A B : Prop} (h : A) : if (!false) = true then A else B := by simpa using h
end L2
namespace L2
open PySem
inductive Tr where
 | mk (wd : Str) (note : Dt) (ps : List Tr)
noncomputable def Tr.wd : Tr → Str
 | .mk w _ _ => w
noncomputable def Tr.ps : Tr → List Tr
 | .mk _ _ ps => ps
mutual
noncomputable def Tr.size : Tr → Nat
 | .mk _ _ ps => 1 + sizes ps
noncomputable def sizes : List Tr → Nat
 | [] => 0
 | t :: r => t.size + sizes r
end
theorem Tr.size_eq (t : Tr) : t.size = 1 + sizes t.ps := by
 cases t with
 | mk w n ps => rw [Tr.size]; rfl
theorem sizes_append (a b : List Tr) : sizes (a ++ b) = sizes a + sizes b := by
 induction a with
 | nil => simp [sizes]
 | cons t r ih => rw [List.cons_append, sizes, sizes, ih]; omega
theorem sizes_get {ts : List Tr} {j : Nat} {t : Tr} (h : ts[j]? = some t) : t.size ≤ sizes ts := by
 induction ts generalizing j with
 | nil => simp at h
 | cons x r ih =>
  rw [sizes]
  cases j with
  | zero => simp at h; subst h; omega
  | succ j => have := ih (j := j) (by simpa using h); omega
theorem sizes_len (ts : List Tr) : ts.length ≤ sizes ts := by
 induction ts with
 | nil => simp [sizes]
 | cons t r ih =>
  have := t.size_eq
  rw [sizes, List.length_cons]
  omega
noncomputable def SameT (H H' : Hp) : Prop := ∀ b, (∀ xs, H b = some (.tup xs) → H' b = some (.tup xs)) ∧ ∀ o u, H b = some (.frz o u) → H' b = some (.frz o u)
theorem Same.t {H H' : Hp} (e : Same H H') : SameT H H' := fun b => ⟨fun xs h => e b _ h, fun o u h => e b _ h⟩
theorem SameT.refl (H : Hp) : SameT H H := fun _ => ⟨fun _ h => h, fun _ _ h => h⟩
theorem SameT.trans {H H1 H2 : Hp} (a : SameT H H1) (b : SameT H1 H2) : SameT H H2 := fun c => ⟨fun xs h => (b c).1 xs ((a c).1 xs h), fun o u h => (b c).2 o u ((a c).2 o u h)⟩
theorem SameT.set {H : Hp} {S : Addr} {zs : List V} {o : HO} (h : H S = some (.lst zs)) : SameT H (upd H S o) := fun b =>
 ⟨fun xs e => by rw [upd_ne (ne_of e h (by intro z; cases z))]; exact e, fun o' u e => by rw [upd_ne (ne_of e h (by intro z; cases z))]; exact e⟩
theorem SameT.new {H : Hp} {S : Addr} {o : HO} (h : H S = none) : SameT H (upd H S o) := (Same.upd h).t
theorem SameT.tup {K : PySem.W.Frag} {H H' : Hp} {a : Addr} {xs : List V} (e : SameT H H') (h : SqT K H a xs) : SqT K H' a xs := by
 rcases h with (h | ⟨o, h⟩) | h
 ·exact .inl (.inl ((e a).1 _ h))
 ·exact .inl (.inr ⟨o, (e a).2 _ _ h⟩)
 ·exact .inr h
noncomputable def IsN (K : PySem.W.Frag) (H : Hp) (v : V) (n : Dt) : Prop := (flatV v = true ∧ n = .flat v) ∨ ∃ (a : Addr) (vs : List V), v = .ref a ∧ SqT K H a vs ∧ vs.all flatV = true ∧ n = .tup (vs.map .flat)
theorem IsN.same {K : PySem.W.Frag} {H H' : Hp} {v : V} {n : Dt} (h : IsN K H v n) (e : SameT H H') : IsN K H' v n := by
 rcases h with h | ⟨a, vs, h1, h2, h3⟩
 ·exact .inl h
 ·exact .inr ⟨a, vs, h1, e.tup h2, h3⟩
theorem IsN.d {K : PySem.W.Frag} {H : Hp} {v : V} {n : Dt} (h : IsN K H v n) : IsD K H 1 v n := by
 rcases h with ⟨h, rfl⟩ | ⟨a, vs, rfl, h2, h3, rfl⟩
 ·exact .flat h
 ·refine .tup h2 (by simp) fun j v d e1 e2 => ?_
  rw [List.getElem?_map, e1] at e2
  cases e2
  exact .flat (List.all_eq_true.mp h3 v (List.mem_of_getElem? e1))
inductive TrAt (K : PySem.W.Frag) (H : Hp) : V → Tr → Prop where
 | mk {a p : Addr} {wd : Str} {nv : V} {n : Dt} {vs : List V} {ts : List Tr} (q : SqT K H a [.str wd, nv, .ref p]) (hn : IsN K H nv n) (qp : SqT K H p vs) (l : vs.length = ts.length)
   (h : ∀ (j : Nat) (v : V) (t : Tr), vs[j]? = some v → ts[j]? = some t → TrAt K H v t) : TrAt K H (.ref a) (.mk wd n ts)
theorem TrAt.sameT {K : PySem.W.Frag} {H H' : Hp} {v : V} {t : Tr} (h : TrAt K H v t) (e : SameT H H') : TrAt K H' v t := by
 induction h with
 | mk q hn qp l _ ih => exact .mk (e.tup q) (hn.same e) (e.tup qp) l ih
theorem TrAt.same {K : PySem.W.Frag} {H H' : Hp} {v : V} {t : Tr} (h : TrAt K H v t) (e : Same H H') : TrAt K H' v t := h.sameT e.t
noncomputable def Al {α : Type} (R : V → α → Prop) (vs : List V) (xs : List α) : Prop := vs.length = xs.length ∧ ∀ (j : Nat) (v : V) (x : α), vs[j]? = some v → xs[j]? = some x → R v x
section
variable {α : Type} {R R' : V → α → Prop} {vs : List V} {xs : List α} {v : V} {x : α}
theorem Al.mono (h : Al R vs xs) (f : ∀ v x, R v x → R' v x) : Al R' vs xs := ⟨h.1, fun j v x a b => f v x (h.2 j v x a b)⟩
theorem Al.nil : Al R [] [] := ⟨rfl, fun j v x a _ => by simp at a⟩
theorem Al.snoc (h : Al R vs xs) (a : R v x) : Al R (vs ++ [v]) (xs ++ [x]) := by
 refine ⟨by simp [h.1], fun j y z e1 e2 => ?_⟩
 by_cases hj : j < vs.length
 ·rw [List.getElem?_append_left hj] at e1
  rw [List.getElem?_append_left (by have := h.1; omega)] at e2
  exact h.2 j y z e1 e2
 ·have hl := (List.getElem?_eq_some_iff.mp e1).1
  rw [List.length_append, List.length_singleton] at hl
  have hj' : j = vs.length := by omega
  subst hj'
  rw [List.getElem?_append_right (Nat.le_refl _), Nat.sub_self] at e1
  rw [h.1, List.getElem?_append_right (Nat.le_refl _), Nat.sub_self] at e2
  have e1 : v = y := by simpa using e1
  have e2 : x = z := by simpa using e2
  rw [← e1, ← e2]
  exact a
theorem Al.split (h : Al R (vs ++ [v]) xs) : ∃ ys x, xs = ys ++ [x] ∧ Al R vs ys ∧ R v x := by
 have hl : xs.length = vs.length + 1 := by have := h.1; simp at this; omega
 have hne : xs ≠ [] := fun z => by rw [z] at hl; simp at hl
 refine ⟨xs.dropLast, xs.getLast hne, (List.dropLast_concat_getLast hne).symm, ⟨by simp [hl], fun j y z e1 e2 => ?_⟩, ?_⟩
 ·have hj := (List.getElem?_eq_some_iff.mp e1).1
  refine h.2 j y z (by rw [List.getElem?_append_left hj]; exact e1) ?_
  rw [List.getElem?_dropLast] at e2
  split at e2
  ·exact e2
  ·cases e2
 ·refine h.2 vs.length v _ (by simp) ?_
  rw [List.getLast_eq_getElem, List.getElem?_eq_getElem (by omega)]
  congr 1
  simp [hl]
theorem Al.last (h : Al R vs xs) (hn : vs ≠ []) : ∃ vs' v xs' x, vs = vs' ++ [v] ∧ xs = xs' ++ [x] ∧ Al R vs' xs' ∧ R v x := by
 have e := (List.dropLast_concat_getLast hn).symm
 rw [e] at h
 obtain ⟨ys, x, e2, a, r⟩ := h.split
 exact ⟨_, _, ys, x, e, e2, a, r⟩
theorem Al.get {j : Nat} (h : Al R vs xs) (e : vs[j]? = some v) : ∃ x, xs[j]? = some x ∧ R v x := by
 have hj := (List.getElem?_eq_some_iff.mp e).1
 have hx : j < xs.length := by have := h.1; omega
 exact ⟨xs[j], List.getElem?_eq_getElem hx, h.2 j v _ e (List.getElem?_eq_getElem hx)⟩
end
noncomputable def gapT : Tr := .mk "gap" (.flat .non) []
theorem TrAt.gap {K : PySem.W.Frag} {H : Hp} {a p : Addr} (q : SqT K H a [.str "gap", .non, .ref p]) (qp : SqT K H p []) : TrAt K H (.ref a) gapT := .mk q (.inl ⟨rfl, rfl⟩) qp rfl fun j v t e _ => by simp at e
theorem gapT_size : gapT.size = 1 := by unfold gapT; rw [Tr.size, sizes]
end L2
namespace L2
open PySem PySem.Spec PyProof.Rows
section
open PySem.AutoSeq1
theorem meets_extend_tup (l : Addr) (items : Array Value) (n : Nat) (b : Addr) (items2 : Array Value) (n2 : Nat) (od : Option Addr) (sl : Array (Option Value)) (hs0 : ¬(!items.isEmpty && Builtin.List.listTooLong (items.size + items2.size)) = true) (hs1 : items.size ≤ sizeLine) (hs2 : items.size + items2.size ≤ sizeLine + 1) :
  Meets (Builtin.«list.extend» ⟨[.ref l, .ref b], []⟩) (fun _ R s => s.heap.get? l = some { cls := .type "list", dict := none, data := .seq items n, slots := #[] } ∧ s.heap.get? b = some { cls := .type "tuple", dict := od, data := .seq items2 n2, slots := sl } ∧ R (.ok (.ret Value.none)) { s with heap := s.heap.update l (Obj.mapSeq fun x => x ++ items2), toks := s.toks }) :=
 .of_wp fun prog w A R s h => by
  obtain ⟨hp, g, d, tk, os⟩ := s; obtain ⟨hl, hb, h⟩ := h; have f1 := AutoSeq1.idx_int; have f2 := AutoSeq1.sub_tuple_tuple; have f3 := AutoSeq1.sub_list_list; have f4 := AutoSeq1.sub_tuple_list; have f5 := AutoSeq1.sub_list_tuple;
  have hz' : (items ++ items2).size ≤ sizeLine + 1 := by rw [Array.size_append]; exact hs2
  wp_walk using (wpAny_updateSeq hl rfl (hz := hs1) (_hz' := hz')), AutoSeq1.wpAny_loadPart' hl, AutoSeq1.wpAny_loadPart' hb; exact ⟨_, rfl, h⟩
end
noncomputable def rExtT (K : PySem.W.Frag) : V → List V → Hp → VK → Prop := fun x vs H Q => ∃ l b xs zs, x = .ref l ∧ vs = [.ref b] ∧ H l = some (.lst xs) ∧ SqT K H b zs ∧ xs.length + zs.length ≤ sizeLine ∧ Q .non (upd H l (.lst (xs ++ zs)))
section
variable {X : Cx}
theorem mt_extT : MtM X "list.extend" (rExtT X.K) := by
 intro pins s σ H x vs v us Q I rx rv h
 obtain ⟨l, b, xs, zs, rfl, rfl, hH, hB, hz, q⟩ := h
 cases rx
 obtain ⟨u, rfl, ru⟩ := rv.one
 cases ru
 obtain ⟨z, its, n, r, hl, e⟩ := I.lstM hH
 obtain ⟨its2, r2, ⟨o2, e2, hc2, n2, hd2⟩, hz2⟩ := I.tuple hB
 obtain ⟨oc, od, odata, sl⟩ := o2
 simp only at hc2 hd2
 subst hc2 hd2
 have hl2 := r2.length
 have hsz : its.toArray.size + its2.toArray.size ≤ sizeLine := by rw [List.size_toArray, List.size_toArray]; omega
 have hlong : ¬ (!its.toArray.isEmpty && Builtin.List.listTooLong (its.toArray.size + its2.toArray.size)) = true := by
  rw [notLongL hsz, Bool.and_false]
  exact Bool.false_ne_true
 refine call_meets F.slot_list_extend ⟨_, e, rfl⟩ F.entry_list_extend (F.args_list_extend_2 _ _)
  (meets_extend_tup l its.toArray n b its2.toArray n2 od sl hlong (by rw [List.size_toArray]; omega) (by omega)) ⟨e, e2, ?_⟩
 refine ⟨.non, _, I.lset (its' := its ++ its2) hH e (by simp) (r.append r2) ?_, rfl, q⟩
 rw [List.length_append]
 omega
noncomputable def lookD (kvs : List (Str × V)) (k : Str) : Option V := (kvs.find? fun kv => kv.1 = k).map (·.2)
inductive VPs : List (Str × V) → List (Str × Value) → Prop
 | nil : VPs [] []
 | cons {k : Str} {x : V} {v : Value} {r : List (Str × V)} {q : List (Str × Value)} : RelV x v → VPs r q → VPs ((k, x) :: r) ((k, v) :: q)
theorem VPs.look {kvs : List (Str × V)} {vs : List (Str × Value)} (h : VPs kvs vs) (k : Str) : (valueAt vs k).isSome = (lookD kvs k).isSome ∧ ∀ x, lookD kvs k = some x → ∃ v, valueAt vs k = some v ∧ RelV x v := by
 induction h with
 | nil => exact ⟨rfl, fun x e => nomatch e⟩
 | @cons k' x v r q rx _ ih =>
  unfold valueAt lookD at ih ⊢
  by_cases z : k' = k
  ·simp only [List.find?_cons, z, decide_true, Option.map_some, Option.isSome_some]
   exact ⟨trivial, fun y e => ⟨v, rfl, by cases e; exact rx⟩⟩
  ·simp only [List.find?_cons, z, decide_false]
   exact ih
noncomputable def DkK (P : Program) (w : World) (K : PySem.W.Frag) (a : Addr) (kvs : List (Str × V)) : Prop :=
 ∃ (o : Obj) (vs : List (Str × Value)), K.lookup a = some o ∧ o.IsDictOf (strKind P w) vs ∧ (a == sysModules) = false ∧ VPs kvs vs
noncomputable def rInD (P : Program) (w : World) (K : PySem.W.Frag) : R2 := fun x y H Q => ∃ s a kvs, x = .str s ∧ y = .ref a ∧ DkK P w K a kvs ∧ Q (.bl (lookD kvs s).isSome) H
theorem op_inD : OpR X (compareOp .In) (rInD X.prog X.w X.K) := by
 intro pins s σ H x y v u Q I rx ry h
 obtain ⟨z, a, kvs, rfl, rfl, ⟨o, vs, hk, hd, lo, vp⟩, q⟩ := h
 obtain ⟨t, rfl⟩ := rx
 cases ry
 have D : s.heap.DictOf (strKind X.prog X.w) a vs := Heap.dictOf_iff.mpr ⟨o, I.kIn a o hk, hd⟩
 exact wpAny_in_of (knd := strKind X.prog X.w) (k := z) (strKind_is _ _ _ _) lo D.mapOf (fin_bl (I.tok _) q (vp.look z).1.symm)
noncomputable def rIxD (P : Program) (w : World) (K : PySem.W.Frag) : R2 := fun x y H Q => ∃ a kvs s v, x = .ref a ∧ y = .str s ∧ DkK P w K a kvs ∧ lookD kvs s = some v ∧ Q v H
theorem ix_D : IxR X (rIxD X.prog X.w X.K) := by
 intro value slice pins s σ H x y v u Q I rx ry h hs
 obtain ⟨a, kvs, z, v', rfl, rfl, ⟨o, vs, hk, hd, lo, vp⟩, hv, q⟩ := h
 cases rx
 obtain ⟨t, rfl⟩ := ry
 have D : s.heap.DictOf (strKind X.prog X.w) a vs := Heap.dictOf_iff.mpr ⟨o, I.kIn a o hk, hd⟩
 obtain ⟨u', e, r⟩ := (vp.look z).2 _ hv
 exact tail_any D.typeIs slot_dict_getitem.lookup (wpAny_getItem_of (knd := strKind X.prog X.w) (k := z) (strKind_is _ _ _ _) D.mapOf e ⟨v', H, I.tok _, r, q⟩) hs
noncomputable def rIsB : R2 := fun x y H Q => ∃ b, y = .bl b ∧ Q (.bl (decide (x = .bl b))) H
theorem op_isB : OpR X (compareOp .Is) rIsB := by
 intro pins s σ H x y v u Q I rx ry h
 obtain ⟨b, rfl, q⟩ := h
 cases ry
 refine wpAny_is_plain ?_ (fin_bl I q ?_)
 ·cases x <;> first | (cases rx; rfl) | (obtain ⟨t, rfl⟩ := rx; rfl)
 ·cases x <;> first
   | (cases rx; rfl)
   | (obtain ⟨t, rfl⟩ := rx; rfl)
   | (rename_i c; cases rx; cases c <;> cases b <;> rfl)
end
section
variable {X : Cx} (P : Program) (w : World) (K : PySem.W.Frag)
theorem k_inD (hP : X.prog = P := by rfl) (hw : X.w = w := by rfl) (hK : X.K = K := by rfl) : OpR X (compareOp .In) (rInD P w K) := by subst hP hw hK; exact op_inD
theorem k_ixD (hP : X.prog = P := by rfl) (hw : X.w = w := by rfl) (hK : X.K = K := by rfl) : IxR X (rIxD P w K) := by subst hP hw hK; exact ix_D
theorem k_extT (hK : X.K = K := by rfl) : MtM X "list.extend" (rExtT K) := by subst hK; exact mt_extT
end
theorem s_chain {r r' : R2} {ta tb tc : TE} {σ : St} {H : Hp} {Q : VK} (h : ta σ H fun x H1 => tb σ H1 fun y H2 => r x y H2 fun z H3 => ∃ k, z = .bl k ∧ (if k = true then tc σ H3 fun w' H4 => r' y w' H4 Q else Q (.bl false) H3)) : tChain r r' ta tb tc σ H Q := h
inductive Ents (p : Params) : List DictEntry → List (Str × V) → Prop
 | nil : Ents p [] []
 | cons {k : Str} {t : Tok} {x : V} {v : Value} {r : List DictEntry} {q : List (Str × V)} : RelV x v → Ents p r q → Ents p (⟨PyData.keyHash p k, .str k t, v⟩ :: r) ((k, x) :: q)
theorem Ents.pairs {P : Program} {w : World} {es : List DictEntry} {kvs : List (Str × V)} (h : Ents w.params es kvs) : ∃ vs, VPs kvs vs ∧ PySem.Pairs (PySem.strKind P w) es vs ∧ vs.map (·.1) = kvs.map (·.1) ∧ ∀ e ∈ es, ∃ k, (PySem.strKind P w).is k e.key = true ∧ e.hash = (PySem.strKind P w).hash k := by
 induction h with
 | nil => exact ⟨[], .nil, .nil, rfl, fun e he => nomatch he⟩
 | @cons k t x v r q rx _ ih =>
  obtain ⟨vs, a, b, c, d⟩ := ih
  refine ⟨(k, v) :: vs, .cons rx a, .cons (strKind_is _ _ _ _) rfl b, by simp [c], fun e he => ?_⟩
  rcases List.mem_cons.mp he with rfl | he
  ·exact ⟨k, strKind_is _ _ _ _, rfl⟩
  ·exact d e he
theorem dk_mk {P : Program} {w : World} {K : PySem.W.Frag} {a : Addr} {es : Array DictEntry} {n : Nat} {kvs : List (Str × V)} (l : K.lookup a = some ⟨.type "dict", none, .dict es n, #[]⟩) (hs : (a == sysModules) = false)
  (e : Ents w.params es.toList kvs) (nd : (kvs.map (·.1)).Nodup) : DkK P w K a kvs := by
 obtain ⟨vs, a1, a2, a3, a4⟩ := e.pairs (P := P)
 exact ⟨_, vs, l, ⟨es, n, ⟨rfl, rfl, rfl⟩, rfl, fun e he => a4 e (by simpa using he), a2, by rw [a3]; exact nd⟩, hs, a1⟩
end L2
namespace L2
open PySem PySem.Spec PyProof.Rows
end L2
namespace L2
open PySem PySem.Spec PyProof.Rows
section
variable {X : Cx} {pins : List (Addr × Obj)} {σ : St} {it : Addr} {n : Nat} {H0 : Hp} {J : Nat → List V → Hp → Heap → Prop}
end
section
variable {X : Cx}
end
end L2
namespace L2
open PySem PySem.Spec PyProof.Rows
section
variable {prog : Program} {w : World} {A : Around} {E : Value → Shared → Prop} {s : Shared} {z TI TO i1 i2 : Addr} {fp1 fp2 : List Addr} {n1 n2 i : Nat} {P1 P2 : Nat → Value → Prop} {St1 St2 : Nat → Heap → Prop} {a b : Value}
end
section
variable {prog : Program} {w : World} {A : Around} {E : Value → Shared → Prop} {s : Shared}
end
section
variable {X : Cx} {pins : List (Addr × Obj)} {σ : St} {H : Hp} {s : Shared} {h' : Heap}
end
section
variable {X : Cx}
end
end L2
namespace L2
open PySem PySem.Spec PyProof.Rows
theorem tuple_whole {prog : Program} {w : World} {A : Around} {E : Value → Shared → Prop} {s : Shared} {t sl : Addr} {items : Array Value} {vl vu : Value} {lo hi : Option Int} {Q : Value → Shared → Prop} (ht : IsTup s.heap t items) (hs : s.heap.IsSliceOf sl vl vu .none) (pl : IsPart vl lo) (pu : IsPart vu hi)
  (hw : HT.sIx items.size 0 lo = 0 ∧ HT.sIx items.size items.size hi = items.size) (h : Q (.ref t) s) : wpAny (model prog w) A (getItem (.ref t) (.ref sl)) Q E s := by
 obtain ⟨os, hos, hcs, hds⟩ := id hs
 have hTs : s.TypeIs (.ref sl) "slice" := ⟨os, hos, hcs⟩
 unfold getItem
 try with_reducible refine wpAny_holding ?_
 first | refine wpAny_bind (wpAny_pure ?_) | skip
 refine wpAny_bind (wpAny_sequenceKey ht.typeIs (by decide) ?_)
 refine wpAny_bind (wpAny_callSpecial?_slot (name := Str.ofString "__getitem__") ht.typeIs PyProof.Rows.slot_tuple_getitem
  (wpAny_call_entry PyProof.Rows.slot_tuple_getitem ht.typeIs PyProof.Rows.entry_tuple_getitem ?_ (PyProof.Rows.args_tuple_getitem _ _)))
 show wpAny _ _ (Builtin.Tuple.tupleItemsOf (.ref t) >>= _) _ _ s
 refine wpAny_bind (PyProof.Rows.tupleItemsOf_ ht ?_)
 refine wpAny_bind (wpAny_typeOf hTs ?_)
 rw [if_pos (by decide)]
 refine wpAny_bind (HT.sliceApplied_gen hs pl pu ?_)
 have hyes : (((HT.sIx items.size 0 lo : Nat) : Int) == 0 && (1 : Int) == 1 && (HT.sIx items.size items.size hi - HT.sIx items.size 0 lo) == items.size) = true := by
  rw [hw.1, hw.2]
  simp
 show wpAny _ _ (if (((HT.sIx items.size 0 lo : Nat) : Int) == 0 && (1 : Int) == 1 && (HT.sIx items.size items.size hi - HT.sIx items.size 0 lo) == items.size) = true then _ else _) _ _ s
 rw [if_pos hyes]
 refine wpAny_bind (m := Builtin.Tuple.tupleIsExact (.ref t)) ?_
 unfold Builtin.Tuple.tupleIsExact
 refine wpAny_bind (wpAny_typeOf ht.typeIs (wpAny_pure ?_))
 rw [if_pos (by decide)]
 refine wpAny_bind (wpAny_rule ?_)
 exact wpAny_pure ⟨_, rfl, wpAny_pure h⟩
noncomputable def rSlU (K : PySem.W.Frag) : V → Option Int → Option Int → Hp → VK → Prop := fun x lo hi H Q => ∃ a xs, x = .ref a ∧ SqT K H a xs ∧ ∀ r H', Same H H' → SqT K H' r (cutV xs lo hi) → Q (.ref r) H'
theorem sl_tupA {X : Cx} : SlR X (rSlU X.K) := by
 intro pins s σ H x v vl vu lo hi sl Q I rx hs pl pu h
 obtain ⟨a, xs, rfl, hx, q⟩ := h
 by_cases hw : HT.sIx xs.length 0 lo = 0 ∧ HT.sIx xs.length xs.length hi = xs.length
 ·cases rx
  obtain ⟨its, r, ht, hz⟩ := I.tuple hx
  have hlen : its.toArray.size = xs.length := by rw [List.size_toArray]; exact r.length.symm
  refine ⟨"tuple", _, PyProof.Rows.slot_tuple_getitem.lookup, ht.typeIs, ?_⟩
  refine tuple_whole ht hs pl pu (by rw [hlen]; exact hw) ⟨.ref a, H, I, rfl, q a H (Same.refl H) ?_⟩
  have e : cutV xs lo hi = xs := by unfold cutV; rw [hw.1, hw.2]; simp
  rw [e]
  exact hx
 ·exact sl_tup pins s σ H _ v vl vu lo hi sl Q I rx hs pl pu ⟨a, xs, rfl, hx, hw, fun p hp => q p _ (Same.upd hp) (.of upd_same)⟩
noncomputable def rSlB (K : PySem.W.Frag) : V → Option Int → Option Int → Hp → VK → Prop := fun x lo hi H Q => rSlL K x lo hi H Q ∨ rSlS x lo hi H Q ∨ rSlU K x lo hi H Q
theorem k_slB {X : Cx} (K : PySem.W.Frag) (hK : X.K = K := by rfl) : SlR X (rSlB K) := by subst hK; exact sl_list.or (sl_str.or sl_tupA)
theorem s_slb_tup {K : PySem.W.Frag} {a : Addr} {xs : List V} {lo hi : Option Int} {H : Hp} {Q : VK} (ha : SqT K H a xs) (h : ∀ r H', Same H H' → SqT K H' r (cutV xs lo hi) → Q (.ref r) H') : rSlB K (.ref a) lo hi H Q := .inr (.inr ⟨a, xs, rfl, ha, h⟩)
theorem cutV_to (xs : List V) (k : Nat) : cutV xs none (some (k : Int)) = xs.take k := by
 unfold cutV
 rw [HT.sIx_none, HT.sIx_nat, Nat.sub_zero, List.drop_zero]
 by_cases h : k ≤ xs.length
 ·rw [Nat.min_eq_left h]
 ·rw [Nat.min_eq_right (by omega), List.take_of_length_le (Nat.le_refl _), List.take_of_length_le (by omega)]
theorem cutV_from (xs : List V) (k : Nat) : cutV xs (some (k : Int)) none = xs.drop k := by
 unfold cutV
 rw [HT.sIx_none, HT.sIx_nat]
 by_cases h : k ≤ xs.length
 ·rw [Nat.min_eq_left h, List.take_of_length_le (by simp)]
 ·rw [Nat.min_eq_right (by omega), List.drop_of_length_le (Nat.le_refl _), List.drop_of_length_le (by omega)]
  simp
theorem cutV_fromto (xs : List V) (j k : Nat) : cutV xs (some (j : Int)) (some (k : Int)) = (xs.drop j).take (k - j) := by
 unfold cutV
 rw [HT.sIx_nat, HT.sIx_nat]
 by_cases hj : j ≤ xs.length
 ·rw [Nat.min_eq_left hj]
  by_cases hk : k ≤ xs.length
  ·rw [Nat.min_eq_left hk]
  ·rw [Nat.min_eq_right (by omega), List.take_of_length_le (by simp), List.take_of_length_le (by simp; omega)]
 ·rw [Nat.min_eq_right (Nat.le_of_lt (Nat.lt_of_not_le hj)), List.drop_of_length_le (Nat.le_refl _), List.drop_of_length_le (by omega)]
  simp
end L2
namespace L2
open PySem PySem.Spec PyProof.Rows
structure Mvd (fs xs : List Addr) (h h' : Heap) : Prop where
 keep : ∀ b o, b ∉ xs → b ∉ fs → h.get? b = some o → h'.get? b = some o
 slot : ∀ b o, b ∉ xs → h.get? b = some o → ∃ sl, h'.get? b = some { o with slots := sl }
theorem Mvd.trans {fs xs : List Addr} {h h1 h2 : Heap} (a : Mvd fs xs h h1) (b : Mvd fs xs h1 h2) : Mvd fs xs h h2 :=
 ⟨fun c o n1 n2 e => b.keep c o n1 n2 (a.keep c o n1 n2 e), fun c o n e => by
  obtain ⟨sl, e1⟩ := a.slot c o n e
  obtain ⟨sl', e2⟩ := b.slot c _ n e1
  exact ⟨sl', e2⟩⟩
theorem Mvd.mono {fs xs ys : List Addr} {h h1 : Heap} (a : Mvd fs xs h h1) (s : ∀ b ∈ xs, b ∈ ys) : Mvd fs ys h h1 :=
 ⟨fun c o n1 n2 e => a.keep c o (fun z => n1 (s c z)) n2 e, fun c o n e => a.slot c o (fun z => n (s c z)) e⟩
theorem Mvd.upd {fs : List Addr} {h : Heap} {a : Addr} (f : Obj → Obj) : Mvd fs [a] h (h.update a f) :=
 ⟨fun c o n _ e => by rw [Heap.get?_update_other _ _ (fun z => n (by simp [z]))]; exact e, fun c o n e => ⟨o.slots, by rw [Heap.get?_update_other _ _ (fun z => n (by simp [z]))]; exact e⟩⟩
theorem Mvd.push {fs xs : List Addr} {h : Heap} (o : Obj) : Mvd fs xs h (h.push o) := ⟨fun _ _ _ _ e => Heap.get?_push_of_some _ e, fun _ o _ e => ⟨o.slots, Heap.get?_push_of_some _ e⟩⟩
theorem Mvd.fun {fs xs : List Addr} {h h1 base : Heap} {l : List Env} (a : Mvd fs xs h h1) (hl : h.FunFrames base l) (nx : ∀ b ∈ xs, ∃ o vs, h.get? b = some o ∧ o.data = .fields vs) : h1.FunFrames base l :=
 hl.of_keeps fun b o e hd => by
  obtain ⟨sl, e1⟩ := a.slot b o (fun z => by
   obtain ⟨o', vs, e', d'⟩ := nx b z
   rw [e] at e'
   cases e'
   exact hd vs d') e
  exact ⟨_, e1, rfl⟩
noncomputable def LiesF (h : Heap) (e T : Addr) (cls : Value) (od : Option Addr) (fl : Value) : Prop :=
 ∃ oe vs oT ts, h.get? e = some oe ∧ oe.cls = cls ∧ oe.dict = od ∧ oe.data = .fields vs ∧ vs[1]? = some (.ref T) ∧ T ≠ e ∧ h.get? T = some oT ∧ oT.data = .fields ts ∧ ts[3]? = some fl
noncomputable abbrev Lies (h : Heap) (e T : Addr) (cls : Value) (od : Option Addr) : Prop := LiesF h e T cls od .none
noncomputable def Made (h : Heap) (e : Addr) (cls : Value) (od : Option Addr) : Prop := ∃ oe vs, h.get? e = some oe ∧ oe.cls = cls ∧ oe.dict = od ∧ oe.data = .fields vs ∧ vs[1]? = some .none
section
variable {M : Model} {A : Around} {E : Value → Shared → Prop} {s : Shared}
theorem entry_at {base : Heap} {env : Env} {outer : List Env} {L e : Addr} {oe : Obj} {vs : Array Value} {head : Value} {hadNext : Bool} {Q : Unit → Shared → Prop}
  (hfr : A.frames = some (env :: outer)) (hl : s.heap.FunFrames base (env :: outer)) (hf : env.frame = some L) (he : s.heap.get? e = some oe) (hd : oe.data = .fields vs) (hsz : 1 < vs.size)
  (h : ∀ h' T, s.heap.objs.size ≤ T → LiesF h' e T oe.cls oe.dict (rawInt L) → Mvd (frs (env :: outer)) [e] s.heap h' → Q () { s with heap := h' }) :
  wpAny M A (do let a ← frameOf env; let pl ← entryPlaceOf L hadNext; let b ← EntryCells.newEntry head a .none (rawInt L) .none pl; setField (.ref e) 1 b) Q E s := by
 have hene : e ∉ frs (env :: outer) := fun hm => by
  obtain ⟨_, o, ho, hnf⟩ := hl.mem hm
  rw [he] at ho
  cases ho
  exact hnf vs hd
 refine wpAny_bind (wpAny_frameOf_fun hfr hl hf fun h₁ s1 => ?_)
 refine wpAny_bind (wpAny_entryPlaceOf fun pl hpl => ?_)
 unfold EntryCells.newEntry newFields
 refine wpAny_bind (wpAny_newObj_type ?_ (hpl.sizeOk5 _ _ _ _ _))
 have e1 : h₁.get? e = some oe := (s1.2.1 e hene).trans he
 generalize hoT : ({ cls := .type "traceback", dict := none, data := .fields ([head, .ref L, .none, rawInt L, .none] ++ (if pl.isEmpty then List.replicate 6 Value.none else pl)).toArray } : Obj) = oT
 have e2 : (h₁.push oT).get? e = some oe := Heap.get?_push_of_some _ e1
 refine wpAny_setField e2 hd hsz (h _ h₁.objs.size (by rw [s1.1]; exact Nat.le_refl _) ?_ ?_)
 ·have nT : h₁.objs.size ≠ e := Nat.ne_of_gt (Heap.lt_size e1)
  have d3 := Obj.data_mapFields hd (·.setIfInBounds 1 (Value.ref h₁.objs.size))
  have e3 := Heap.get?_update_self (Obj.mapFields (·.setIfInBounds 1 (Value.ref h₁.objs.size))) e2 (Obj.isFreed_of_fields d3)
  have fT : oT.isFreed = false := by rw [← hoT]; rfl
  have e4 := (Heap.get?_update_other (h₁.push oT) (Obj.mapFields (·.setIfInBounds 1 (Value.ref h₁.objs.size))) (Ne.symm nT)).trans (Heap.get?_push_size h₁ fT)
  refine ⟨_, _, _, _, e3, Obj.cls_mapFields _ _, ?_, d3, by simp [hsz], nT, e4, by rw [← hoT], ?_⟩
  ·obtain ⟨c0, d0, t0, s0⟩ := oe
   cases t0 <;> rfl
  ·first | (simp; done) | (rcases hpl with rfl | ⟨_, _, _, _, _, _, _, rfl⟩ <;> simp)
 ·have m1 : Mvd (frs (env :: outer)) [e] s.heap h₁ := ⟨fun b o _ n e => (s1.2.1 b n).trans e, fun b o _ e => s1.2.2 b o e⟩
  exact (m1.trans (Mvd.push oT)).trans (Mvd.upd _)
theorem flight_none {e T : Addr} {cls fl : Value} {od : Option Addr} {fs : List Addr} {Q : Unit → Shared → Prop} (x : LiesF s.heap e T cls od fl) (h : ∀ h', Lies h' e T cls od → Mvd fs [T] s.heap h' → Q () { s with heap := h' }) : wpAny M A (setFlight (.ref e) none) Q E s := by
 obtain ⟨oe, vs, oT, ts, a1, a2, a3, a4, a5, a6, a7, a8, a9⟩ := x
 have hz : 3 < ts.size := (Array.getElem?_eq_some_iff.mp a9).1
 unfold setFlight
 refine wpAny_bind (wpAny_field a1 a4 a5 ?_)
 rw [if_pos (show (Value.ref T != Value.none) = true from by simp)]
 refine wpAny_setField a7 a8 hz (h _ ?_ (Mvd.upd _))
 have d := Obj.data_mapFields a8 (·.setIfInBounds 3 ((none : Option Addr).elim Value.none fun f => rawInt f))
 exact ⟨oe, vs, _, _, by rw [Heap.get?_update_other _ _ a6]; exact a1, a2, a3, a4, a5, a6, Heap.get?_update_self _ a7 (Obj.isFreed_of_fields d), d, by simp [hz]⟩
theorem note_first {base : Heap} {env : Env} {outer : List Env} {L e : Addr} {cls : Value} {od : Option Addr} {Q : Unit → Shared → Prop}
  (hfr : A.frames = some (env :: outer)) (hl : s.heap.FunFrames base (env :: outer)) (hf : env.frame = some L) (x : Made s.heap e cls od)
  (h : ∀ h' T, s.heap.objs.size ≤ T → LiesF h' e T cls od (rawInt L) → Mvd (frs (env :: outer)) [e] s.heap h' → Q () { s with heap := h' }) : wpAny M A (noteFrame (.ref e) env) Q E s := by
 obtain ⟨oe, vs, he, rfl, rfl, hd, h1⟩ := x
 unfold noteFrame
 simp only [hf]
 refine wpAny_bind (wpAny_field he hd h1 ?_)
 rw [if_neg (by decide)]
 exact entry_at hfr hl hf he hd (Array.getElem?_eq_some_iff.mp h1).1 h
theorem note_next {base : Heap} {env : Env} {outer : List Env} {L e T : Addr} {cls : Value} {od : Option Addr} {Q : Unit → Shared → Prop}
  (hfr : A.frames = some (env :: outer)) (hl : s.heap.FunFrames base (env :: outer)) (hf : env.frame = some L) (x : Lies s.heap e T cls od)
  (h : ∀ h' T', s.heap.objs.size ≤ T' → LiesF h' e T' cls od (rawInt L) → Mvd (frs (env :: outer)) [e, T] s.heap h' → Q () { s with heap := h' }) : wpAny M A (noteFrame (.ref e) env) Q E s := by
 obtain ⟨oe, vs, oT, ts, he, rfl, rfl, hd, h1, nT, hT, dT, h3⟩ := x
 unfold noteFrame
 simp only [hf]
 refine wpAny_bind (wpAny_field he hd h1 ?_)
 rw [if_pos (show (Value.ref T != Value.none) = true from by simp)]
 refine wpAny_bind (wpAny_field hT dT h3 ?_)
 rw [if_neg (show ¬ ((Value.none == rawInt L) = true) from by simp [rawInt])]
 refine wpAny_bind (wpAny_setField hT dT (Array.getElem?_eq_some_iff.mp h3).1 ?_)
 have m1 : Mvd (frs (env :: outer)) [T] s.heap (s.heap.update T (Obj.mapFields (·.setIfInBounds 3 Value.none))) := Mvd.upd _
 have he' : (s.heap.update T (Obj.mapFields (·.setIfInBounds 3 Value.none))).get? e = some oe := (Heap.get?_update_other _ _ nT).trans he
 refine entry_at hfr (m1.fun hl fun b hb => by rw [List.mem_singleton.mp hb]; exact ⟨oT, ts, hT, dT⟩) hf he' hd (Array.getElem?_eq_some_iff.mp h1).1 fun h' T' hz x m => ?_
 refine h h' T' ?_ x ((m1.mono (by simp)).trans (m.mono (by simp)))
 have : (s.heap.update T (Obj.mapFields (·.setIfInBounds 3 Value.none))).objs.size = s.heap.objs.size := Heap.size_after_update ..
 have hz : (s.heap.update T (Obj.mapFields (·.setIfInBounds 3 Value.none))).objs.size ≤ T' := hz
 omega
theorem leave_first {base : Heap} {env : Env} {outer : List Env} {L e : Addr} {cls : Value} {od : Option Addr} {Q : Unit → Shared → Prop}
  (hfr : A.frames = some (env :: outer)) (hl : s.heap.FunFrames base (env :: outer)) (hf : env.frame = some L) (x : Made s.heap e cls od)
  (h : ∀ h' T, s.heap.objs.size ≤ T → Lies h' e T cls od → Mvd (frs (env :: outer)) [e, T] s.heap h' → Q () { s with heap := h' }) : wpAny M A (leaving env (.ref e)) Q E s := by
 unfold leaving
 refine wpAny_bind (note_first hfr hl hf x fun h1 T hz y m => ?_)
 refine flight_none (fs := frs (env :: outer)) y fun h2 y2 m2 => h h2 T hz y2 ((m.mono (by simp)).trans (m2.mono (by simp)))
theorem leave_next {base : Heap} {env : Env} {outer : List Env} {L e T : Addr} {cls : Value} {od : Option Addr} {Q : Unit → Shared → Prop}
  (hfr : A.frames = some (env :: outer)) (hl : s.heap.FunFrames base (env :: outer)) (hf : env.frame = some L) (x : Lies s.heap e T cls od)
  (h : ∀ h' T', s.heap.objs.size ≤ T' → Lies h' e T' cls od → Mvd (frs (env :: outer)) [e, T, T'] s.heap h' → Q () { s with heap := h' }) : wpAny M A (leaving env (.ref e)) Q E s := by
 unfold leaving
 refine wpAny_bind (note_next hfr hl hf x fun h1 T' hz y m => ?_)
 refine flight_none (fs := frs (env :: outer)) y fun h2 y2 m2 => h h2 T' hz y2 ((m.mono (by simp)).trans (m2.mono (by simp)))
end
end L2
namespace L2
open PySem PySem.Spec PyProof.Rows
section
variable {prog : Program} {w : World} {A : Around} {E : Value → Shared → Prop} {s : Shared} {z TI TO i1 i2 : Addr} {fp1 fp2 : List Addr} {n1 n2 i : Nat} {P1 P2 : Nat → Value → Prop} {St1 St2 : Nat → Heap → Prop} {a b : Value}
end
section
variable {X : Cx}
end
end L2
namespace L2
open PySem PySem.Spec PyProof.Rows
section
variable {X : Cx}
end
end L2
namespace L2
open PySem PySem.Spec PyProof.Rows
noncomputable def IteT (K : PySem.W.Frag) (a : Addr) (n : Nat) : It :=
 ⟨fun i H => ∃ xs, SqT K H a xs ∧ xs.length = n ∧ i < n, fun i H x H' => ∃ (t : Addr) (y : V), H t = none ∧ (∀ xs, SqT K H a xs → xs[i]? = some y) ∧ x = .ref t ∧ H' = upd H t (.tup [.int i, y]), fun i H => i = n ∧ ∃ xs, SqT K H a xs ∧ xs.length = n⟩
theorem turn_enumT {P : Program} {w : World} {K : PySem.W.Frag} {elts : List Expr} {kt : Nat} {pt : Pos} (a en it : Addr) (n : Nat) (hne : en ≠ it) (hae : a ≠ en) (hai : a ≠ it) : Turn P w K (.Tuple elts kt pt) (IteT K a n) [en, it] en (fun i h => (∃ old, IsEnum h en it i old) ∧ h.IsTupleIter it a i) where
 mem := by simp
 obj := fun i h st b hb => by
  rcases List.mem_cons.mp hb with rfl | hb
  ·obtain ⟨old, e⟩ := st.1
   exact ⟨_, e, fun v z => by
    have z' : Data.fields _ = Data.cell v := z
    cases z'⟩
  ·rw [List.mem_singleton.mp hb]
   obtain ⟨o, e, c, d⟩ := st.2
   exact ⟨o, e, fun v z => by rw [d] at z; cases z⟩
 keep := fun i h h' st k => ⟨let ⟨old, e⟩ := st.1; ⟨old, k en (by simp) _ e⟩, st.2.at fun o e => k it (by simp) o e⟩
 item := by
  intro X hP hw hK hc i pins s σ H E I hf st hg
  subst hP hw hK
  obtain ⟨xs, hq, hl, hi⟩ := hg
  obtain ⟨its, rv, p, hz⟩ := I.tuple hq
  have hlen := rv.length
  have fe := hf en (by simp)
  have fi := hf it (by simp)
  have W := WalksT.enumerateD (prog := X.prog) (w := X.w) (A := X.A) (draws_tup (prog := X.prog) (w := X.w) (A := X.A.in1) (I.ok.hd hc) it a hai its.toArray) en hne (by simp [hne, Ne.symm hae]) (by simp)
  refine W.item i s _ _ (by rw [List.size_toArray]; omega) ⟨st.1, st.2, p⟩ fun T vals h1 tk hP hT ht mid k1 => ?_
  obtain ⟨t, x, hx, rfl⟩ := hP
  refine ⟨_, rfl, W.go elts kt pt i T _ _ _ mid fun h2 st2 k2 => ?_⟩
  have hx' : its[i]? = some x := by simpa using hx
  have hxs : i < xs.length := by omega
  obtain ⟨u, hu, ru⟩ := rv.get (List.getElem?_eq_getElem hxs)
  rw [hx'] at hu
  cases hu
  have hTw : T ∉ [en, it] := W.apart i T _ mid
  have ht2 : h2.IsTuple T ([.int i t, x] : List Value).toArray := by
   obtain ⟨o, eo, r⟩ := ht
   exact ⟨o, k2 T o hTw eo, r⟩
  have kk : ∀ b o, b ≠ en → b ≠ it → s.heap.get? b = some o → h2.get? b = some o := fun b o h1 h3 e => k2 b o (by simp [h1, h3]) (k1 b o (by simp [h1, h3]) e)
  have I2 := I.pair (tk := tk) (T := T) (xs := [.int i, xs[i]]) fe fi kk hT (.cons ⟨t, rfl⟩ (.cons ru .nil)) (by show 2 ≤ sizeLine; decide) ht2
  refine ⟨.ref T, _, I2, rfl, ⟨T, xs[i], I.hok.fresh hT, fun ys hy => by rw [I.tuple_inj hy hq]; exact List.getElem?_eq_getElem hxs, rfl, rfl⟩, ⟨st2.1, st2.2.1⟩, fun b hb => ?_⟩
  have hb' : b ≠ T := fun z => hTw (z ▸ hb)
  rw [upd_ne hb']
  exact (hf b hb).1
 done := by
  intro X hP hw hK hc i pins s σ H E I hf st hg
  subst hP hw hK
  obtain ⟨rfl, xs, hq, hl⟩ := hg
  obtain ⟨its, rv, p, hz⟩ := I.tuple hq
  have hlen := rv.length
  have fe := hf en (by simp)
  have fi := hf it (by simp)
  have W := WalksT.enumerateD (prog := X.prog) (w := X.w) (A := X.A) (draws_tup (prog := X.prog) (w := X.w) (A := X.A.in1) (I.ok.hd hc) it a hai its.toArray) en hne (by simp [hne, Ne.symm hae]) (by simp)
  have e : i = its.toArray.size := by rw [List.size_toArray]; omega
  rw [e] at st
  exact W.done s _ _ ⟨st.1, st.2, p⟩ fun h' tk kk => ⟨rfl, I.turned2 (fun b o h1 h2 e => kk b o (by simp [h1, h2]) e) fe fi⟩
 self := fun A i s Q E st h => by
  obtain ⟨old, e⟩ := st.1
  exact wpAny_pyIter_enum e h
section
variable {X : Cx}
noncomputable def iEnumT (K : PySem.W.Frag) (ta : TA) : TI := fun σ H R => ta σ H fun vs H1 => ∃ a xs, vs = [.ref a] ∧ SqT K H1 a xs ∧ R (IteT K a xs.length) H1
theorem qi_enumT {elts : List Expr} {kt : Nat} {pt : Pos} {e : Expr} {ta : TA} {p pos : Pos} (hg : Gl X "enumerate") (hm : X.mg "enumerate" = none) (ha : QA X [e] ta) (hs : starEach [e] X.env = [(false, eval e X.env)] := by rfl) : QI X (.Tuple elts kt pt) (.Call (.Name "enumerate" p) [e] [] pos) (iEnumT X.K ta) := by
 refine ⟨fun pins s σ H R I h => ?_⟩
 refine Call_ (ld_blt I hg hm PyProof.Rows.boot_enumerate (PyProof.Rows.callWith_type1 (thn (ha.run pos pins s σ H _ I h) fun us s1 ⟨vs, H1, I1, r1, q1⟩ => ?_) hs rfl))
 obtain ⟨l, xs, e1, hq, q⟩ := q1
 subst e1
 cases r1 with
 | cons r rr =>
  cases rr
  cases r
  obtain ⟨its, rv, pl, hz⟩ := I1.tuple hq
  have hlt : l < s1.heap.objs.size := by obtain ⟨o, e, _⟩ := id pl; exact Heap.lt_size e
  refine call_enum_tup (show s1.heap.IsTuple l its.toArray from pl) fun h' hen hit hsz hk => ?_
  refine wpAny_pyIter_enum hen ?_
  have fe := I1.fpOk (b := s1.heap.objs.size + 1) (Nat.le_succ _) (I1.hok.fresh (Nat.le_succ _))
  have fi := I1.fpOk (b := s1.heap.objs.size) (Nat.le_refl _) (I1.hok.fresh (Nat.le_refl _))
  refine ⟨s1.heap.objs.size + 1, [s1.heap.objs.size + 1, s1.heap.objs.size], _, _, H1, rfl, I1.kept (t' := s1.toks) hk, turn_enumT l _ _ xs.length (Nat.succ_ne_self _) (Nat.ne_of_lt (Nat.lt_succ_of_lt hlt)) (Nat.ne_of_lt hlt), ⟨⟨_, hen⟩, hit⟩, fun b hb => ?_, q⟩
  rcases List.mem_cons.mp hb with rfl | hb
  ·exact fe
  ·rw [List.mem_singleton.mp hb]
   exact fi
theorem for_enumT {K : PySem.W.Frag} {a : Addr} {xs : List V} {g : TG} {tb : TS} {D : Ends} {σ : St} {H : Hp} (Pv : Nat → St → Hp → Prop) (h0 : Pv 0 σ H) (hl : ∀ i σ H, i ≤ xs.length → Pv i σ H → SqT K H a xs)
  (hs : ∀ i x t σ H, xs[i]? = some x → H t = none → Pv i σ H → g (.ref t) σ (upd H t (.tup [.int i, x])) fun σ2 H2 => tb { D with nx := Pv (i + 1), ct := Pv (i + 1), bk := D.nx } σ2 H2) (hd : ∀ σ H, Pv xs.length σ H → D.nx σ H) :
  ∃ W : Nat → Nat → St → Hp → Prop, (∃ m, W 0 m σ H) ∧ ∀ i m σ H, W i m σ H →
   ((IteT K a xs.length).stop i H ∧ D.nx σ H) ∨ ((IteT K a xs.length).go i H ∧ ∃ N : St → Hp → Prop, (∀ σ' H', N σ' H' → ∃ m', m' < m ∧ W (i + 1) m' σ' H') ∧ ∀ x H', (IteT K a xs.length).yld i H x H' → g x σ H' fun σ2 H2 => tb { D with nx := N, ct := N, bk := D.nx } σ2 H2) := by
 refine ⟨fun i m σ H => m = xs.length - i ∧ i ≤ xs.length ∧ Pv i σ H, ⟨xs.length, by simp, Nat.zero_le _, h0⟩, ?_⟩
 rintro i m σ H ⟨rfl, hi, p⟩
 have q := hl i σ H hi p
 by_cases hlt : i < xs.length
 ·refine .inr ⟨⟨xs, q, rfl, hlt⟩, Pv (i + 1), fun σ' H' p' => ⟨xs.length - (i + 1), by omega, rfl, hlt, p'⟩, fun x H' y => ?_⟩
  obtain ⟨t, y, ht, hy, rfl, rfl⟩ := y
  exact hs i y t σ _ (hy xs q) ht p
 ·have e : i = xs.length := by omega
  subst e
  exact .inl ⟨⟨rfl, xs, q, rfl⟩, hd σ H p⟩
end
section
variable {X : Cx}
theorem qi_enumTK (K : PySem.W.Frag) {elts : List Expr} {kt : Nat} {pt : Pos} {e : Expr} {ta : TA} {p pos : Pos} (hg : Gl X "enumerate") (hm : X.mg "enumerate" = none) (ha : QA X [e] ta) (hK : X.K = K := by rfl) (hs : starEach [e] X.env = [(false, eval e X.env)] := by rfl) : QI X (.Tuple elts kt pt) (.Call (.Name "enumerate" p) [e] [] pos) (iEnumT K ta) := by subst hK; exact qi_enumT hg hm ha hs
theorem s_ienumT {K : PySem.W.Frag} {ta : TA} {σ : St} {H : Hp} {R : It → Hp → Prop} (h : ta σ H fun vs H1 => ∃ a xs, vs = [.ref a] ∧ SqT K H1 a xs ∧ R (IteT K a xs.length) H1) : iEnumT K ta σ H R := h
end
end L2
namespace L2
open PySem PySem.Spec PyProof.Rows
noncomputable def CXR (P : Program) (w : World) : CXT := fun outer H s E ev s' => ∃ (e T : Addr) (cls : Value) (od : Option Addr) (H' : Hp), ev = .ref e ∧ s'.os = s.os ∧ AllBare s'.gens ∧ Un (frs outer) [] H H' s.heap s'.heap ∧ HOk P w H' s'.heap ∧
 s.heap.get? e = none ∧ s.heap.get? T = none ∧ H' e = none ∧ H' T = none ∧ Lies s'.heap e T cls od ∧ E cls od H'
section
variable {X : Cx} {pins : List (Addr × Obj)} {σ : St} {H : Hp} {s : Shared}
theorem Inv.old (I : Inv X pins σ H s) (hex : X.ex = []) {b : Addr} (h : s.heap.get? b = none) : X.s₀.heap.get? b = none := by
 cases q : X.s₀.heap.get? b with
 | none => rfl
 | some o =>
  obtain ⟨o', e⟩ := I.base.there b o q (by rw [hex]; simp)
  rw [h] at e
  cases e
theorem Inv.mvd (I : Inv X pins σ H s) {h' : Heap} {xs : List Addr} (m : Mvd (frs X.stack) xs s.heap h') (hx : ∀ b ∈ xs, X.s₀.heap.get? b = none ∧ H b = none) (hex : X.ex = []) : Un X.fs [] X.H₀ H X.s₀.heap h' ∧ HOk X.prog X.w H h' := by
 have low : ∀ b o, X.s₀.heap.get? b = some o → b ∉ xs := fun b o e hb => by rw [(hx b hb).1] at e; cases e
 have neL : ∀ b o, X.s₀.heap.get? b = some o → b ≠ X.env.locals := fun b o e => Nat.ne_of_lt (Nat.lt_of_lt_of_le (Heap.lt_size e) I.ok.above)
 have nst : ∀ b o, X.s₀.heap.get? b = some o → b ∉ X.fs → b ∉ frs X.stack := fun b o e hf hs => by
  rcases I.ok.stk with z | ⟨z, z2⟩
  ·rw [z] at hs; exact hf hs
  ·rw [z] at hs
   unfold frs at hs
   rw [List.filterMap_cons, z2] at hs
   rcases List.mem_cons.mp hs with q | q
   ·exact neL b o e q
   ·exact hf q
 have B := I.base
 rw [hex] at B
 refine ⟨⟨fun b o e n hf _ => ?_, fun b o e n hf _ => ?_, fun b o e n _ => B.free b o e n (by simp), fun b o e _ => ?_, B.tups, B.frzs, B.tbls⟩, fun b u e => ?_⟩
 ·exact m.keep b o (low b o e) (nst b o e hf) (B.keep b o e n hf (by simp))
 ·obtain ⟨sl, e1⟩ := B.slot b o e n hf (by simp)
  obtain ⟨sl', e2⟩ := m.slot b _ (low b o e) e1
  exact ⟨sl', e2⟩
 ·obtain ⟨o', e1⟩ := B.there b o e (by simp)
  obtain ⟨sl, e2⟩ := m.slot b o' (low b o e) e1
  exact ⟨_, e2⟩
 ·have tr : ∀ c v, H c = some v → c ∉ xs ∧ c ∉ frs X.stack := fun c v q => ⟨(fun z => by rw [(hx c z).2] at q; cases q), (fun z => by rw [I.stkFree c z] at q; cases q)⟩
  refine (I.hok b u e).stay (fun c v hc q => m.keep c v ?_ ?_ q) (fun _ q => q) fun _ _ q => q
  ·rcases hc with z | z
   ·rw [z]; exact (tr b u e).1
   ·exact (tr c _ z).1
  ·rcases hc with z | z
   ·rw [z]; exact (tr b u e).2
   ·exact (tr c _ z).2
end
section
variable {P : Program} {w : World} {K : PySem.W.Frag} {mg : Str → Option Value} {base : Heap} {N : List Str} {qual : Str} {scope : Scope} {f : Addr} {cd : Value} {A : Around} {outer : List Env} {s0 : Shared} {H0 : Hp} {E : XK}
theorem passes_cx {E' : XK} (h : ∀ cls od H', E' cls od H' → E cls od H') : Passes (CXR P w) (cxOf (CXR P w) P w K mg base N qual scope f cd A outer s0 H0 E) E' := by
 intro pins σ H s ev s' I c
 obtain ⟨e, T, cls, od, H', rfl, h1, h2, h3, h4, h5, h6, h7, h8, h9, h10⟩ := c
 have J : Inv (cxOf (CXR P w) P w K mg base N qual scope f cd A outer s0 H0 E) pins σ H' s' := I.call' (ch := []) h1 h3 h4 h2 (fun b z => absurd z (by simp))
 refine leave_next (base := base) (outer := outer) (L := s0.heap.objs.size) J.ok.frames J.stack rfl h9 fun h' T' hT' y m => ?_
 obtain ⟨u, ok⟩ := J.mvd (h' := h') m (fun b hb => by
  simp only [List.mem_cons, List.not_mem_nil, or_false] at hb
  rcases hb with rfl | rfl | rfl
  ·exact ⟨I.old rfl h5, h7⟩
  ·exact ⟨I.old rfl h6, h8⟩
  ·exact ⟨J.old rfl (Heap.get?_none_of_le hT'), J.hok.fresh hT'⟩) rfl
 exact ⟨e, T', cls, od, H', rfl, J.os, J.bare, u, ok, I.old rfl h5, J.old rfl (Heap.get?_none_of_le hT'), h7, J.hok.fresh hT', y, h _ _ _ h10⟩
theorem raises_cx {pins : List (Addr × Obj)} {σ : St} {H : Hp} {s : Shared} {e : Addr} {cls : Value} {od : Option Addr} (I : Inv (cxOf (CXR P w) P w K mg base N qual scope f cd A outer s0 H0 E) pins σ H s) (x : Made s.heap e cls od) (he : s0.heap.get? e = none) (hn : H e = none) (h : E cls od H) :
  (cxOf (CXR P w) P w K mg base N qual scope f cd A outer s0 H0 E).xe (.ref e) s := by
 refine leave_first (base := base) (outer := outer) (L := s0.heap.objs.size) I.ok.frames I.stack rfl x fun h' T hT y m => ?_
 obtain ⟨u, ok⟩ := I.mvd (h' := h') m (fun b hb => by
  simp only [List.mem_cons, List.not_mem_nil, or_false] at hb
  rcases hb with rfl | rfl
  ·exact ⟨he, hn⟩
  ·exact ⟨I.old rfl (Heap.get?_none_of_le hT), I.hok.fresh hT⟩) rfl
 exact ⟨e, T, cls, od, H, rfl, I.os, I.bare, u, ok, he, I.old rfl (Heap.get?_none_of_le hT), hn, I.hok.fresh hT, y, h⟩
end
end L2
namespace L2
open PySem PySem.Spec PyProof.Rows
section
variable {P : Program} {w : World} {K : PySem.W.Frag} {mg : Str → Option Value} {base : Heap}
theorem Fun.okx {x qual : Str} {st : Stmt} {f : Addr} {fd : FuncData} {N ps : List Str} {k : Nat} {sp : Sp} (F : Fun K x qual st f fd) (S : FnScope N ps (defScope st)) (len : ∀ vs H Q E, sp vs H Q E → vs.length = ps.length)
  (hbody : ∀ (cdv : Value) (A : Around) (outer : List Env) (s : Shared) (H : Hp) (vs : List V) (Q : VK) (E : XK), Room k (A.deeper (envOfC qual (defScope st) s.heap.objs.size f cdv)) → sp vs H Q E →
   ∃ t, QSs (cxOf (CXR P w) P w K mg base N qual (defScope st) f cdv A outer s H E) (defBody st) t ∧ t { nx := fun _ H' => Q .non H', rt := Q } (start N vs) H) : FnOk P w K mg base (CXR P w) (k + 1) f fd ps sp := by
 obtain ⟨oc, od, kV, doc, pm, an, cdv, ct, osl, rfl, lk, hcd⟩ := F.ex
 refine fn_of lk hcd S len fun A outer s H vs Q E hr hsp => ?_
 obtain ⟨t, h, q⟩ := hbody cdv A outer s H vs Q E hr hsp
 exact ⟨t, h.run, q⟩
structure CalleeX (P : Program) (w : World) (K : PySem.W.Frag) (mg : Str → Option Value) (base : Heap) (k : Nat) (x : Str) (ps : List Str) (sp : Sp) : Prop where
 ex : ∃ (f : Addr) (fd : FuncData), FnOk P w K mg base (CXR P w) k f fd ps sp ∧ mg x = some (.ref f) ∧ PySem.W.keepIn K (.ref f) = true ∧ Binds K fd ps []
theorem calleex_of {k : Nat} {x : Str} {ps : List Str} {sp : Sp} {f : Addr} {fd : FuncData} (F : FnOk P w K mg base (CXR P w) k f fd ps sp) (m : mg x = some (.ref f)) (kp : PySem.W.keepIn K (.ref f) = true) (b : Binds K fd ps []) : CalleeX P w K mg base k x ps sp := ⟨f, fd, F, m, kp, b⟩
end
section
variable {X : Cx} {k : Nat} {x : Str} {ps : List Str} {sp : Sp} {p pos np cpos : Pos} {e : Expr} {es : List Expr} {t : TA} {E : XK}
theorem qe_fnx (C : CalleeX X.prog X.w X.K X.mg X.base k x ps sp) (hr : Room k X.A) (hx : Passes (CXR X.prog X.w) X E) (ha : QA X (e :: es) t) (hg : Gl X x := by rfl) (hdb : (x == ("__debug__" : Str)) = false := by decide)
  (he : starEach (e :: es) X.env = (false, eval e X.env) :: starEach es X.env := by rfl) (hpl : (backTo pos (starEach es X.env)).any (·.1) = false := by rfl) : QE X (.Call (.Name x p) (e :: es) [] pos) (tCall sp [] E t) := by
 obtain ⟨f, fd, F, hm, hk, hb⟩ := C.ex
 exact ⟨pe_call F hr hg hm hk hb .nil hx ha.run hdb he hpl⟩
noncomputable abbrev VE : List Value := [.type "ValueError", .type "Exception", .type "BaseException", .type "object"]
noncomputable def Raises (X : Cx) (E : XK) : Prop := ∀ (pins : List (Addr × Obj)) (σ : St) (H : Hp) (s : Shared) (a : Addr) (cls : Value) (od : Option Addr), Inv X pins σ H s → Made s.heap a cls od → X.s₀.heap.get? a = none → H a = none → E cls od H → X.xe (.ref a) s
theorem exc_in {K : PySem.W.Frag} {h0 : Heap} {C : Addr} (kin0 : K.In h0) (q : PySem.W.excIn K C VE "ValueError.__new__" = true) :
  ∃ bm N nm q bs hdct sn sub ab col dd k0 k1 k2 k3 k5 mN, mN "__init__" = none ∧ ∀ h : Heap, K.In h → h.get? C = some (excClassObj nm q C N bs bm hdct sn sub ab col dd k0 k1 k2 k3 k5 "ValueError.__new__") ∧ h.Ns N mN ∧ OwnTail h VE bm := by
 unfold PySem.W.excIn at q
 split at q
 ·rename_i dd cd sl ho
  split at q
  ·rename_i C' bm k0 k1 k2 k3 n k5 hm hs
   simp only [Bool.and_eq_true, beq_iff_eq, Bool.not_eq_true'] at q
   obtain ⟨⟨⟨⟨⟨rfl, rfl⟩, hdel⟩, ht⟩, hok⟩, hni⟩ := q
   obtain ⟨nm, bs, mro, ns, qn, hd, sn, sub, ab, col, del⟩ := cd
   dsimp only at hm hdel hok hni
   subst hm hdel
   have hsl : sl = #[k0, k1, k2, k3, some (.builtin "ValueError.__new__"), k5] := by
    obtain ⟨l⟩ := sl
    simp only at hs
    rw [hs]
   subst hsl
   have n0 : h0.Ns ns (h0.nsMap ns) := .of_isNs (PySem.W.isNs_of_in kin0 hok)
   refine ⟨bm, ns, nm, qn, bs, hd, sn, sub, ab, col, dd, k0, k1, k2, k3, k5, h0.nsMap ns, PySem.W.nsMap_none_of_in kin0 hok hni, fun h kin => ⟨kin _ _ ho, ?_, PySem.W.tail_of_in kin ht⟩⟩
   obtain ⟨o, es, ep, e, r⟩ := n0
   refine ⟨o, es, ep, ?_, r⟩
   unfold PySem.W.nsOkIn at hok
   split at hok
   ·rename_i hl
    have := kin0 _ _ hl
    rw [e] at this
    cases this
    exact kin _ _ hl
   ·cases hok
  ·cases q
 ·cases q
theorem ObjOk.there {P : Program} {w : World} {H : Hp} {h : Heap} {a : Addr} {o : HO} (x : ObjOk P w H h a o) : ∃ u, h.get? a = some u := by
 induction o with
 | lst xs => obtain ⟨_, _, _, _, e⟩ := x; exact ⟨_, e⟩
 | tup xs => obtain ⟨_, _, _, o, e, _⟩ := x; exact ⟨_, e⟩
 | dK kvs => obtain ⟨_, _, vs, _, d⟩ := x; obtain ⟨o, e, _⟩ := Heap.dictOf_iff.mp d; exact ⟨_, e⟩
 | dT kvs => obtain ⟨_, _, _, _, o, _, _, e, _⟩ := x; exact ⟨_, e⟩
 | set S n => obtain ⟨o, _, _, _, e, _⟩ := x; exact ⟨_, e⟩
 | ins C dx fs => obtain ⟨_, _, _, e, _⟩ := x; exact ⟨_, e⟩
 | own y => exact x
 | xd fs => obtain ⟨_, ⟨o, _, _, e, _⟩, _⟩ := x; exact ⟨_, e⟩
 | met f y => exact ⟨_, x⟩
 | rng lo hi => obtain ⟨_, _, _, e⟩ := x; exact ⟨_, e⟩
 | frz o u _ => exact ⟨_, x.1⟩
 | tbl ps => exact ⟨_, x⟩
 | ext φ => exact x.2.1
theorem HOk.no {P : Program} {w : World} {H : Hp} {h : Heap} (x : HOk P w H h) {a : Addr} (e : h.get? a = none) : H a = none := by
 cases q : H a with
 | none => rfl
 | some u =>
  have z := (x a u q).there
  rw [e] at z
  obtain ⟨o, z⟩ := z
  cases z
theorem qs_raise {C : Addr} {a : Expr} (hc : X.calm = true) (hC : PySem.W.excIn X.K C VE "ValueError.__new__" = true) (G : X.mg x = some (.ref C)) (ha : QA X [a] t) (hx : Raises X E) (hex : X.ex = []) (hg : Gl X x := by rfl) (hdb : (x == ("__debug__" : Str)) = false := by decide)
  (he : starEach [a] X.env = [(false, eval a X.env)] := by rfl) : QS X (.Raise (some (.Call (.Name x np) [a] [] cpos)) none pos) (fun D σ H => t σ H fun vs H1 => vs.length ≤ sizeLine ∧ E (.ref C) none H1) := by
 refine ⟨fun pins s σ H D I h => ?_⟩
 obtain ⟨bm, N, nm, q, bs, hdct, sn, sub, ab, col, dd, k0, k1, k2, k3, k5, mN, cni, cl⟩ := exc_in I.kIn hC
 obtain ⟨cC, cN, cT⟩ := cl _ I.kIn
 refine wpAny_Raise_call_subU (C := C) (nm := nm) (q := q) (N := N) (bs := bs) (bm := bm) (hdct := hdct) (sn := sn) (sub := sub) (ab := ab) (col := col) (dd := dd) (k0 := k0) (k1 := k1) (k2 := k2) (k3 := k3) (k5 := k5)
  PySem.F.excBase_ValueError (by decide) PySem.F.excBase_ValueError (mN := mN) (cT.hasType PySem.F.excBase_ValueError.hasBase) (I.ok.hd hc) (by rw [he]; rfl) cni (ld_glob I hg G ⟨rfl, ?_⟩ hdb)
 rw [he]
 have ar := ha.run cpos pins s σ H _ I h
 rw [he] at ar
 refine Calls.evalArgs_plain (wpAny_mono ar (fun us s2 h2 => ?_) fun _ _ y => y)
 obtain ⟨vs, H1, I1, r1, z, q1⟩ := h2
 obtain ⟨cC', cN', cT'⟩ := cl _ I1.kIn
 refine ⟨rfl, by rw [← r1.length]; exact z, cC', cN', cT', fun h' a' hm => ?_⟩
 obtain ⟨t', e1, _, _⟩ := hm.there
 have I2 : Inv X pins σ H1 { s2 with heap := h' } := I1.kept (t' := s2.toks) hm.keeps
 exact hx pins σ H1 _ a' (.ref C) none I2 ⟨_, _, e1, rfl, rfl, rfl, rfl⟩ (I1.old hex hm.new) (I1.hok.no hm.new) q1
end
end L2
namespace L2
open PySem PySem.Spec PyProof.Rows
noncomputable def exk (a : Addr) (cls : Value) (od : Option Addr) : HO := .ext fun h => ∃ o vs, h.get? a = some o ∧ o.cls = cls ∧ o.dict = od ∧ o.data = .fields vs
theorem exk_ok {P : Program} {w : World} {H : Hp} {h : Heap} {a T : Addr} {cls : Value} {od : Option Addr} (x : Lies h a T cls od) : ObjOk P w H h a (exk a cls od) := by
 obtain ⟨oe, vs, oT, ts, a1, a2, a3, a4, a5, a6, a7, a8, a9⟩ := x
 refine ⟨⟨oe, vs, a1, a2, a3, a4⟩, ⟨oe, a1⟩, fun h1 h2 q k => ?_⟩
 obtain ⟨o, vs, q1, q2⟩ := q
 exact ⟨o, vs, k o q1, q2⟩
theorem Un.land {fs xs : List Addr} {H H' : Hp} {h h1 h2 : Heap} {e : Addr} {o : HO} (u : Un fs [] H H' h h1) (m : Mvd fs xs h1 h2) (hx : ∀ b ∈ xs, h.get? b = none) (he : h.get? e = none) (hn : H' e = none) : Un fs [] H (upd H' e o) h h2 := by
 have low : ∀ b ob, h.get? b = some ob → b ∉ xs := fun b ob q z => by rw [hx b z] at q; cases q
 have ne : ∀ b ob, h.get? b = some ob → b ≠ e := fun b ob q z => by rw [z, he] at q; cases q
 have ne' : ∀ b ob, H' b = some ob → b ≠ e := fun b ob q z => by rw [z, hn] at q; cases q
 refine ⟨fun b ob q n hf _ => m.keep b ob (low b ob q) hf (u.keep b ob q n hf (by simp)), fun b ob q n hf _ => ?_, fun b ob q n _ => ?_, fun b ob q _ => ?_, fun b ys q => ?_, fun b ob v q => ?_, fun b ps q => ?_⟩
 ·obtain ⟨sl, e1⟩ := u.slot b ob q n hf (by simp)
  obtain ⟨sl', e2⟩ := m.slot b _ (low b ob q) e1
  exact ⟨sl', e2⟩
 ·rw [upd_ne (ne b ob q)]; exact u.free b ob q n (by simp)
 ·obtain ⟨o', e1⟩ := u.there b ob q (by simp)
  obtain ⟨sl, e2⟩ := m.slot b o' (low b ob q) e1
  exact ⟨_, e2⟩
 ·have z := u.tups b ys q
  rw [upd_ne (ne' b _ z)]; exact z
 ·have z := u.frzs b ob v q
  rw [upd_ne (ne' b _ z)]; exact z
 ·obtain ⟨more, z⟩ := u.tbls b ps q
  exact ⟨more, by rw [upd_ne (ne' b _ z)]; exact z⟩
theorem HOk.land {P : Program} {w : World} {fs xs : List Addr} {H : Hp} {h1 h2 : Heap} {e : Addr} {o : HO} (x : HOk P w H h1) (m : Mvd fs xs h1 h2) (hx : ∀ b ∈ xs, H b = none) (hf : ∀ b ∈ fs, H b = none) (hn : H e = none) (new : ObjOk P w (upd H e o) h2 e o) : HOk P w (upd H e o) h2 := by
 intro b u q
 by_cases hb : b = e
 ·subst hb
  rw [upd_same] at q
  cases q
  exact new
 ·rw [upd_ne hb] at q
  have tr : ∀ c v, H c = some v → c ∉ xs ∧ c ∉ fs := fun c v q => ⟨(fun z => by rw [hx c z] at q; cases q), (fun z => by rw [hf c z] at q; cases q)⟩
  have ne' : ∀ b ob, H b = some ob → b ≠ e := fun b ob q z => by rw [z, hn] at q; cases q
  refine (x b u q).stay (fun c v hc z => ?_) (fun c z => by rw [upd_ne (ne' c _ z)]; exact z) fun c ys z => by rw [upd_ne (ne' c _ z)]; exact z
  rcases hc with r | r
  ·rw [r] at z ⊢
   exact m.keep b v (tr b u q).1 (tr b u q).2 z
  ·exact m.keep c v (tr c _ r).1 (tr c _ r).2 z
noncomputable abbrev TX := St → Hp → VK → XK → Prop
noncomputable abbrev TXS := Ends → (St → XK) → St → Hp → Prop
noncomputable def XP (X : Cx) (pins : List (Addr × Obj)) (σ : St) (E : XK) (ev : Value) (s' : Shared) : Prop := ∃ H0 s0, Inv X pins σ H0 s0 ∧ CXR X.prog X.w X.stack H0 s0 E ev s'
structure QX (X : Cx) (e : Expr) (t : TX) : Prop where
 run : ∀ (pins : List (Addr × Obj)) (s : Shared) (σ : St) (H : Hp) (Q : VK) (E : XK), Inv X pins σ H s → t σ H Q E → wpAny (model X.prog X.w) X.A (eval e X.env) (EP X pins σ Q) (XP X pins σ E) s
structure QXS (X : Cx) (sts : List Stmt) (t : TXS) : Prop where
 run : ∀ (pins : List (Addr × Obj)) (s : Shared) (σ : St) (H : Hp) (D : Ends) (E : St → XK), Inv X pins σ H s → t D E σ H → wpAny (model X.prog X.w) X.A (execs sts X.env) (SP X pins D) (fun ev s' => ∃ σ', XP X pins σ' (E σ') ev s') s
noncomputable abbrev Cx.to (X : Cx) (A : Around) (c : Bool) (XE : Value → Shared → Prop) : Cx := { X with A := A, calm := c, xe := XE }
section
variable {X : Cx} {pins : List (Addr × Obj)} {σ : St} {H : Hp} {s : Shared}
theorem Inv.to (I : Inv X pins σ H s) {A : Around} {c : Bool} {XE : Value → Shared → Prop} (hA : A.frames = X.A.frames) (hc : c = true → A.handled = none) : Inv (X.to A c XE) pins σ H s :=
 ⟨⟨I.ok.mod, I.ok.kind, I.ok.glob, I.ok.blt, I.ok.above, I.ok.inj, I.ok.has, I.ok.cab, hc, hA.trans I.ok.frames, I.ok.stk, I.ok.exf, I.ok.bs, I.ok.bsz, I.ok.noex, I.ok.exfs, I.ok.funs, I.ok.frf⟩, I.os, I.bare, I.base, I.loc, I.cell, I.free, I.freeC, I.pin, I.hok, I.len⟩
theorem Inv.back {A : Around} {c : Bool} {XE : Value → Shared → Prop} (I : Inv (X.to A c XE) pins σ H s) (ok : X.Ok) : Inv X pins σ H s :=
 ⟨ok, I.os, I.bare, I.base, I.loc, I.cell, I.free, I.freeC, I.pin, I.hok, I.len⟩
end
section
variable {X : Cx} {k : Nat} {x : Str} {ps : List Str} {sp : Sp} {p pos np cpos : Pos} {e : Expr} {es : List Expr} {t : TA}
theorem qxs_set {i : Nat} {t : TX} {pos' : Pos} (hN : X.N.Nodup) (hi : X.N[i]? = some x) (hx : Loc X.env.scope x) (he : QX X e t) (hs : swapsWith e (some (.Name x pos')) pos.line X.env = pure false := by rfl) (hf : X.fn x = true ∨ X.env.scope.names.lookup x = some .local := by first | exact .inl rfl | exact .inr rfl | assumption) :
  QXS X [.Assign [.Name x pos'] e pos] (fun D E σ H => t σ H (fun v H1 => D.nx (σ.set i (some v)) H1) (E σ)) := by
 refine ⟨fun pins s σ H D E I h => ?_⟩
 refine wpAny_execs_cons (wpAny_mono (wpAny_Assign_Name (Q := SP X pins D) (thn (he.run pins s σ H _ (E σ) I h) fun v s1 ⟨y, H1, I1, r1, q1⟩ => store_ok I1 hN hi hx r1 (fun s2 I2 => ⟨_, H1, I2, q1⟩) hf) hs) (fun f s1 q => ?_) fun ev s1 q => ⟨σ, q⟩)
 cases f with
 | next => exact wpAny_execs_nil q
 | ret v => exact q
 | brk => exact q
 | cont => exact q
end
end L2
namespace L2
open PySem PySem.Spec PyProof.Rows
structure ExcC (K : PySem.W.Frag) (C : Addr) : Prop where
 ty : PySem.W.typeIn K (.ref C) = some (.type "type")
 cl : (PySem.W.clsIn K C).isSome = true
 bs : PySem.W.subIn K (.ref C) (.type "BaseException") = some true
theorem looks_isType {K : PySem.W.Frag} {M : Model} {h : Heap} {C : Addr} (X : K.In h) (e : (PySem.W.clsIn K C).isSome = true) : PySem.W.Looks M h (isType (.ref C)) true := by
 unfold PySem.W.clsIn at e
 split at e
 ·rename_i c' d' cd' sl' ho
  intro A' Q' E' s' k q
  unfold isType loadHead
  exact wpAny_bind (wpAny_loadPart (k _ _ (X _ _ ho)) (wpAny_pure q))
 ·cases e
theorem exc_matches {K : PySem.W.Frag} {M : Model} {A : Around} {E : Value → Shared → Prop} {s : Shared} {Q : Bool → Shared → Prop} {e C C' : Addr} {oe : Obj} (X : K.In s.heap) (c : ExcC K C) (he : s.heap.get? e = some oe) (hcls : oe.cls = .ref C') (hs : PySem.W.subIn K (.ref C') (.ref C) = some true) (h : Q true s) :
  wpAny M A (excMatches (.ref e) (.ref C)) Q E s := by
 have L1 : PySem.W.Looks M s.heap (typeOf (.ref C)) (.type "type") := PySem.W.looks_typeIn X c.ty
 have L2 : PySem.W.Looks M s.heap (isType (.ref C)) true := looks_isType X c.cl
 have L3 := PySem.W.looks_subIn (M := M) X c.bs
 have L4 : PySem.W.Looks M s.heap (typeOf (.ref e)) (.ref C') := by
  intro A' Q' E' s' k q
  unfold typeOf
  exact wpAny_bind (wpAny_loadPart (k _ _ he) (wpAny_pure (by rw [hcls]; exact q)))
 have L5 := PySem.W.looks_subIn (M := M) X hs
 have f := tc_notTuple
 unfold excMatches
 unfold isInstance isExcClass
 repeat (first | with_reducible refine L1.here ?_ | with_reducible refine L2.here ?_ | with_reducible refine L3.here ?_ | with_reducible refine L4.here ?_ | with_reducible refine L5.here ?_ | wp_step)
 exact h
section
variable {X : Cx} {pins : List (Addr × Obj)} {σ : St} {H : Hp} {s : Shared}
theorem goes_ok {M : Model} {A : Around} {E : Value → Shared → Prop} {i : Nat} {n : Str} {hpos : Pos} {Q : Unit → Shared → Prop} (I : Inv X pins σ H s) (hN : X.N.Nodup) (hi : X.N[i]? = some n) (hk : X.env.scope.names.lookup n = some .local)
  (h : ∀ s', Inv X pins (σ.set i none) H s' → Q () s') : wpAny M A (do bindName X.env n .none; unbindBehindTheSuite X.env n hpos) Q E s := by
 obtain ⟨m, hn, hl⟩ := id I.loc
 have hcls : (X.env.scope.kind == .class || (X.env.scope.kind == .module && X.env.locals != X.env.globals)) = false := by rw [I.ok.kind]; rfl
 have cne := I.cne
 obtain ⟨oL, _, _, hoL, _⟩ := id hn
 refine wpAny_nameGoes_keeps hk hn hcls fun h' v hn' hs => ?_
 have hok : HOk X.prog X.w H h' := fun b ob e => by
  refine (I.hok b ob e).stay (fun c w' hc q => (hs.2 c ?_).trans q) (fun _ q => q) fun _ _ q => q
  rintro rfl
  rcases hc with rfl | hc
  ·rw [I.free] at e; cases e
  ·rw [I.free] at hc; cases hc
 refine h _ ⟨I.ok, I.os, I.bare, ⟨fun b o e n hb hx => ?_, fun b o e n hb hx => ?_, I.base.free, fun b o e hx => ?_, I.base.tups, I.base.frzs, I.base.tbls⟩, ⟨_, hn', fun j y v' e1 e2 e3 => ?_⟩, fun y c e => ?_, I.free, I.freeC, fun p hp => ?_, hok, by simpa using I.len⟩
 ·exact (hs.2 b (Nat.ne_of_lt (Nat.lt_of_lt_of_le (Heap.lt_size e) I.ok.above))).trans (I.base.keep b o e n hb hx)
 ·obtain ⟨sl, e1⟩ := I.base.slot b o e n hb hx
  exact ⟨sl, (hs.2 b (Nat.ne_of_lt (Nat.lt_of_lt_of_le (Heap.lt_size e) I.ok.above))).trans e1⟩
 ·obtain ⟨o', e1⟩ := I.base.there b o e hx
  exact ⟨o', (hs.2 b (Nat.ne_of_lt (Nat.lt_of_lt_of_le (Heap.lt_size e) I.ok.above))).trans e1⟩
 ·by_cases hj : j = i
  ·subst hj
   have hiσ : j < σ.length := by rw [I.len]; exact (List.getElem?_eq_some_iff.mp hi).1
   rw [List.getElem?_set_self hiσ] at e2
   cases e2
  ·rw [List.getElem?_set_ne (Ne.symm hj)] at e2
   obtain ⟨u', r', q⟩ := hl j y v' e1 e2 e3
   refine ⟨u', r', ?_⟩
   rcases q with ⟨k, e⟩ | ⟨k, c, e, z⟩
   ·refine .inl ⟨k, ?_⟩
    have : y ≠ n := fun e => hj (nodup_ix hN e1 (e ▸ hi))
    simp [this, e]
   ·exact .inr ⟨k, c, e, z.sameBut hs (cne y c e)⟩
 ·obtain ⟨w', z⟩ := I.cell y c e
  exact ⟨w', z.sameBut hs (cne y c e)⟩
 ·obtain ⟨e, n, ne, nf, d⟩ := I.pin p hp
  exact ⟨(hs.2 p.1 ne).trans e, n, ne, nf, d⟩
end
section
variable {X : Cx} {c n : Str} {np hpos pos : Pos} {body hbody : List Stmt} {b₀ : Stmt} {tb : TXS} {th : TS} {i : Nat} {C : Addr}
noncomputable def Ends.gone (D : Ends) (i : Nat) : Ends := { nx := fun σ H => D.nx (σ.set i none) H, rt := D.rt, bk := fun σ H => D.bk (σ.set i none) H, ct := fun σ H => D.ct (σ.set i none) H }
noncomputable def tTry (K : PySem.W.Frag) (C : Addr) (i : Nat) (tb : TXS) (th : TS) : TS := fun D σ H => tb D (fun σ1 cls od H2 => (∃ C', cls = .ref C' ∧ PySem.W.subIn K (.ref C') (.ref C) = some true) ∧ ∀ a, H2 a = none → th (D.gone i) (σ1.set i (some (.ref a))) (upd H2 a (exk a cls od))) σ H
theorem qs_tryM (hN : X.N.Nodup) (hi : X.N[i]? = some n) (hk : X.env.scope.names.lookup n = some .local) (hC : ExcC X.K C) (G : X.mg c = some (.ref C)) (hf : X.env.frame = some X.env.locals) (hst : X.stack = X.env :: X.outer) (hb : QXS X body tb) (hh : ∀ e XE, QSs (X.to (X.A.mark (some e)) false XE) (b₀ :: hbody) th) (hg : Gl X c := by rfl) (hdb : (c == ("__debug__" : Str)) = false := by decide) :
  QS X (.Try body [.ExceptHandler (some (.Name c np)) (some n) (b₀ :: hbody) hpos] [] [] pos) (tTry X.K C i tb th) := by
 refine ⟨fun pins s σ H D I h => ?_⟩
 refine wpAny_Try_except (wpAny_mono (hb.run pins s σ H D _ I h) (fun f s1 q => ?_) fun ev s1 q => ?_)
 ·cases f with
  | next => exact wpAny_execs_nil q
  | ret v => exact q
  | brk => exact q
  | cont => exact q
 ·obtain ⟨σ1, H0, s0, I0, e, T, cls, od, H', rfl, h1, h2, h3, h4, h5, h6, h7, h8, h9, ⟨C', rfl, hsub⟩, h10⟩ := q
  have J : Inv X pins σ1 H' s1 := I0.call' (ch := []) h1 h3 h4 h2 (fun b z => absurd z (by simp))
  have hfr : X.A.frames = some (X.env :: X.outer) := by rw [← hst]; exact J.ok.frames
  have hstk := J.stack
  rw [hst] at hstk
  refine note_next (base := X.base) hfr hstk hf h9 fun h' T' hT' y m => flight_none (fs := frs (X.env :: X.outer)) y fun h'' y' m' => ?_
  have M1 : Mvd (frs X.stack) [e, T, T'] s1.heap h'' := by rw [hst]; exact (m.mono (by simp)).trans (m'.mono (by simp))
  have fT' : s0.heap.get? T' = none := by
   cases q : s0.heap.get? T' with
   | none => rfl
   | some o =>
    obtain ⟨o', z⟩ := h3.there T' o q (by simp)
    exact absurd (Heap.lt_size z) (Nat.not_lt.mpr hT')
  have hT'n : H' T' = none := J.hok.fresh hT'
  have fx : ∀ b ∈ [e, T, T'], s0.heap.get? b = none ∧ H' b = none := by
   intro b hb
   simp only [List.mem_cons, List.not_mem_nil, or_false] at hb
   rcases hb with rfl | rfl | rfl
   ·exact ⟨h5, h7⟩
   ·exact ⟨h6, h8⟩
   ·exact ⟨fT', hT'n⟩
  have land : ∀ {h3' : Heap}, Mvd (frs X.stack) [e, T, T'] s1.heap h3' → Lies h3' e T' (.ref C') od → Inv X pins σ1 (upd H' e (exk e (.ref C') od)) { s1 with heap := h3' } := fun {h3'} mm ll =>
   I0.call' (s' := { s1 with heap := h3' }) (ch := []) h1 (h3.land mm (fun b hb => (fx b hb).1) h5 h7) (h4.land mm (fun b hb => (fx b hb).2) (fun b hb => J.stkFree b hb) h7 (exk_ok ll)) h2 (fun b z => absurd z (by simp))
  have I1 := land M1 y'
  refine wpAny_handleBy_cons (codeAny_handlers_test ?_) (by intro q; cases q)
  have I1' : Inv (X.to (X.A.mark (some (.ref e))) false (notedBy (model X.prog X.w) (X.A.mark (some (.ref e))) X.env fun x s₁ => True)) pins σ1 (upd H' e (exk e (.ref C') od)) { s1 with heap := h'' } := I1.to rfl (by simp)
  refine ld_glob I1' hg G ?_ hdb
  obtain ⟨oe, vs, oT, ts, a1, a2, a3, a4, a5, a6, a7, a8, a9⟩ := id y'
  refine exc_matches I1.kIn hC a1 a2 hsub ?_
  refine codeAny_handlers_suite_as (flight_none (fs := frs X.stack) y' fun h4' y4 m4 => ?_)
  have I2 := land (M1.trans (m4.mono (by simp))) y4
  refine store_ok (v := .ref e) I2 hN hi (.inl hk) rfl (fun s3 I3 => ?_) (.inr hk)
  refine wpAny_mono ((hh (.ref e) _).run pins s3 _ _ (D.gone i) (I3.to rfl (by simp)) (h10 e h7)) (fun f s4 q => ?_) fun ev s4 q => q
  cases f with
  | next =>
   obtain ⟨σ', H4, I4, q⟩ := q
   exact goes_ok (I4.back I.ok) hN hi hk fun s5 I5 => ⟨_, H4, I5, q⟩
  | ret v =>
   obtain ⟨u, σ', H4, I4, r, q⟩ := q
   exact goes_ok (I4.back I.ok) hN hi hk fun s5 I5 => ⟨u, _, H4, I5, r, q⟩
  | brk =>
   obtain ⟨σ', H4, I4, q⟩ := q
   exact goes_ok (I4.back I.ok) hN hi hk fun s5 I5 => ⟨_, H4, I5, q⟩
  | cont =>
   obtain ⟨σ', H4, I4, q⟩ := q
   exact goes_ok (I4.back I.ok) hN hi hk fun s5 I5 => ⟨_, H4, I5, q⟩
end
end L2
namespace L2
open PySem PySem.Spec PyProof.Rows
noncomputable def overVE : List Value → Bool
 | .ref _ :: r => overVE r
 | l => l == VE
theorem over_has : ∀ {l : List Value}, overVE l = true → l.contains (.type "object") = true ∧ l.contains (.type "BaseException") = true := by
 intro l
 induction l with
 | nil => intro e; cases e
 | cons c r ih =>
  intro e
  cases c with
  | ref a => obtain ⟨x, y⟩ := ih e; exact ⟨by rw [List.contains_cons, x, Bool.or_true], by rw [List.contains_cons, y, Bool.or_true]⟩
  | _ => rw [beq_iff_eq.mp (show (_ == _) = true from e)]; decide
structure ExC (K : PySem.W.Frag) (C : Addr) : Prop where
 ov : ((PySem.W.clsIn K C).any fun cd => overVE cd.mro) = true
 hd : PySem.W.hasDictIn K C = true
 ga : PySem.W.findIn K (.ref C) "__getattribute__" = some (some (.builtin "BaseException.__getattribute__"))
 gt : PySem.W.findIn K (.ref C) "__getattr__" = some none
 sa : PySem.W.findIn K (.ref C) "__setattr__" = some (some (.builtin "object.__setattr__"))
 dc : PySem.W.typeIn K (.ref C) = some (.type "type")
section
open PySem.W PySem.Builtin PySem.Builtin.ObjectAttr
variable {prog : Program} {w : World} {A : Around} {E : Value → Shared → Prop} {s : Shared} {K : Frag} {x C : Addr} {ox : Obj} {od : Option Obj} {name : Str} {R : Result → Shared → Prop}
end
end L2
namespace L2
open PySem PySem.Spec PyProof.Rows
theorem exk_at {P : Program} {w : World} {H : Hp} {h : Heap} {a : Addr} {cls : Value} {od : Option Addr} (x : ObjOk P w H h a (exk a cls od)) : ∃ o vs, h.get? a = some o ∧ o.cls = cls ∧ o.dict = od ∧ o.data = .fields vs := x.1
section
variable {X : Cx} {pins : List (Addr × Obj)} {σ : St} {H : Hp} {s : Shared}
end
section
variable {X : Cx} {pins : List (Addr × Obj)} {σ : St} {H : Hp} {s : Shared} {a C : Addr} {f : Str} {A : Around} {E : Value → Shared → Prop}
open PySem.W PySem.Builtin PySem.Builtin.ObjectAttr
end
section
variable {X : Cx} {o e value : Expr} {f : Str} {pos pos' : Pos} {ta tv : TE}
end
section
open PySem.W
end
end L2
namespace L2
open PySem PySem.Spec PyProof.Rows
noncomputable def excI (K : PySem.W.Frag) (C : Addr) : Bool := match K.lookup C with
 | some ⟨.type "type", _, .cls cd, sl⟩ => (match cd.mro, sl.toList with
  | .ref C' :: bm, [_, _, _, _, some (.builtin n), _] => C' == C && n == "ValueError.__new__" && !cd.hasDel && PySem.W.tailIn K VE bm
  | _, _ => false)
 | _ => false
section
variable {prog : Program} {w : World} {A : Around} {E : Value → Shared → Prop} {h : Heap} {g : Array GenState} {d : Drawn} {t : Nat} {os : OsState}
variable {nm q : Str} {C N : Addr} {bs bm bmB : List Value} {hdct : Bool} {sn : List Str} {sub : List Value} {ab : Bool} {col : Option Bool} {dd : Option Addr} {k0 k1 k2 k3 k5 : Option Value} {B Bn newId nid initId inN : String} {bmN : List Value}
end
section
variable {X : Cx} {k : Nat} {x : Str} {sp : Sp} {ps : List Str} {C f : Addr} {fd : FuncData} {np cpos pos : Pos} {a : Expr} {t : TA} {E : XK}
end
end L2
namespace L2
open PySem PySem.Spec PyProof.Rows
end L2
namespace L2
open PySem PySem.Spec PyProof.Rows
structure RoomN (k : Nat) (A : Around) : Prop where
 dp : A.depth + 3 * k + 5 < recursionLimit
 un : A.units + 16 * k + 200 < cLine
theorem Room.n {k : Nat} {A : Around} (r : Room k A) : RoomN k A := ⟨r.dp, r.un⟩
theorem RoomN.mono {j k : Nat} {A : Around} (r : RoomN k A) (h : j ≤ k) : RoomN j A := ⟨by have := r.dp; omega, by have := r.un; omega⟩
theorem RoomN.deeper {k : Nat} {A : Around} (r : RoomN (k + 1) A) (env : Env) : RoomN k (A.deeper env) :=
 ⟨by have := r.dp; show A.depth + 1 + 3 * k + 5 < _; omega, by have := r.un; show A.units + 3 + 16 * k + 200 < _; omega⟩
theorem RoomN.mark {k : Nat} {A : Around} (r : RoomN k A) (e : Value) : RoomN k (A.mark (some e)) := ⟨r.dp, r.un⟩
structure FnOkN (P : Program) (w : World) (K : PySem.W.Frag) (mg : Str → Option Value) (base : Heap) (k : Nat) (f : Addr) (fd : FuncData) (ps : List Str) (sp : Sp) : Prop where
 len : ∀ vs H Q E, sp vs H Q E → vs.length = ps.length
 run : ∀ (A : Around) (outer : List Env) (s : Shared) (H : Hp) (args : Args) (us : List Value) (vs : List V) (Q : VK) (E : XK), RoomN k A → Env0 P w K mg base A outer s H → BindsTo s fd args (ps.zip us) → Vals vs us → sp vs H Q E →
  codeAny (model P w) A (.call (.ref f) args) (CR CX0 outer P w H s Q E) s
section
variable {P : Program} {w : World} {K : PySem.W.Frag} {mg : Str → Option Value} {base : Heap}
theorem fn_ofN {k : Nat} {f : Addr} {name qual : Str} {params : Arguments} {body : List Stmt} {scope : Scope} {dV kV doc pm cdv ct oc : Value} {an od : Option Addr}
  {osl : Array (Option Value)} {N ps : List Str} {sp : Sp} (lk : K.lookup f = some ⟨oc, od, .func (PySem.W.fnOf name qual params body scope dV kV doc pm an cdv ct), osl⟩) (hcd : PySem.W.codeIn K cdv qual = true) (S : FnScope N ps scope)
  (len : ∀ vs H Q E, sp vs H Q E → vs.length = ps.length)
  (hbody : ∀ (A : Around) (outer : List Env) (s : Shared) (H : Hp) (vs : List V) (Q : VK) (E : XK), RoomN k (A.deeper (envOfC qual scope s.heap.objs.size f cdv)) → sp vs H Q E →
   ∃ t, PSs ((cxOf CX0 P w K mg base N qual scope f cdv A outer s H E).to (A.deeper (envOfC qual scope s.heap.objs.size f cdv)) false (fun _ _ => False)) body t ∧ t { nx := fun _ H' => Q .non H', rt := Q } (start N vs) H) :
  FnOkN P w K mg base (k + 1) f (PySem.W.fnOf name qual params body scope dV kV doc pm an cdv ct) ps sp := by
 refine ⟨len, fun A outer s H args us vs Q E hr e0 hb r hsp => ?_⟩
 have hl := len _ _ _ _ hsp
 have KX : K.In s.heap := e0.mod.kin.keeps fun b o e => (e0.bs b o e).1
 have lim : s.heap.NoLimit := e0.mod.nolimit.keeps fun b o e => (e0.bs b o e).1
 have hkind : ∀ y ∈ ps.zip us, scope.names.lookup y.1 = some .local ∨ (scope.names.lookup y.1 = some .cell ∧ ((cellsFrom (s.heap.objs.size + 1) scope.names []).lookup y.1).isSome = true) := fun ⟨n, v⟩ hy => by
  rcases S.par n (List.of_mem_zip hy).1 with q | q
  ·exact .inl q
  ·exact .inr ⟨q, PySem.W.cellsFrom_some _ _ _ (.inl q)⟩
 refine codeAny_call_function (by have := hr.dp; omega) (KX _ _ lk) rfl S.co S.gen rfl (PySem.W.codeRec_of KX hcd) (hb _ _ _ _ ?_)
 refine wpAny_newFunctionEnv_cells S.kind hkind fun env he s1 x => ?_
 subst he
 refine ⟨lim.keeps x.toInCall.keep, codeAny_func ?_⟩
 obtain ⟨t, ht, hq⟩ := hbody A outer s H vs Q E (hr.deeper _) hsp
 have e0' : Env0 P w K mg base { A with handled := none } outer s H := ⟨e0.frames, e0.mod, e0.bs, e0.bsz, e0.funs, e0.frf, e0.hok, e0.bare⟩
 have I0 : Inv (cxOf CX0 P w K mg base N qual scope f cdv { A with handled := none } outer s H E) [] (start N vs) H s1 := inv_start S rfl e0' hl r x
 have I : Inv ((cxOf CX0 P w K mg base N qual scope f cdv A outer s H E).to (A.deeper (envOfC qual scope s.heap.objs.size f cdv)) false (fun _ _ => False)) [] (start N vs) H s1 := I0.to (A := A.deeper (envOfC qual scope s.heap.objs.size f cdv)) (c := false) (XE := fun _ _ => False) rfl (by simp)
 refine wpAny_mono (ht [] s1 (start N vs) H _ I hq) (fun fl s' hs => ?_) fun e s' hs => False.elim hs
 have fin : ∀ {σ' : St} {H' : Hp} {v : V} {u : Value}, Inv ((cxOf CX0 P w K mg base N qual scope f cdv A outer s H E).to (A.deeper (envOfC qual scope s.heap.objs.size f cdv)) false (fun _ _ => False)) [] σ' H' s' → RelV v u → Q v H' → CE outer P w H s Q u s' :=
  fun {σ' H' v u} J rv q => ⟨v, H', J.os, J.bare, J.base, J.hok, rv, q⟩
 cases fl with
 | ret u =>
  obtain ⟨v, σ', H', J, rv, q⟩ := hs
  exact fin J rv q
 | next =>
  obtain ⟨σ', H', J, q⟩ := hs
  exact fin (v := V.non) (u := Value.none) J rfl q
 | brk =>
  obtain ⟨_, _, _, q⟩ := hs
  exact False.elim q
 | cont =>
  obtain ⟨_, _, _, q⟩ := hs
  exact False.elim q
theorem Fun.okN {x qual : Str} {st : Stmt} {f : Addr} {fd : FuncData} {N ps : List Str} {k : Nat} {sp : Sp} (F : Fun K x qual st f fd) (S : FnScope N ps (defScope st)) (len : ∀ vs H Q E, sp vs H Q E → vs.length = ps.length)
  (hbody : ∀ (cdv : Value) (A : Around) (outer : List Env) (s : Shared) (H : Hp) (vs : List V) (Q : VK) (E : XK), RoomN k (A.deeper (envOfC qual (defScope st) s.heap.objs.size f cdv)) → sp vs H Q E →
   ∃ t, QSs ((cxOf CX0 P w K mg base N qual (defScope st) f cdv A outer s H E).to (A.deeper (envOfC qual (defScope st) s.heap.objs.size f cdv)) false (fun _ _ => False)) (defBody st) t ∧ t { nx := fun _ H' => Q .non H', rt := Q } (start N vs) H) : FnOkN P w K mg base (k + 1) f fd ps sp := by
 obtain ⟨oc, od, kV, doc, pm, an, cdv, ct, osl, rfl, lk, hcd⟩ := F.ex
 refine fn_ofN lk hcd S len fun A outer s H vs Q E hr hsp => ?_
 obtain ⟨t, h, q⟩ := hbody cdv A outer s H vs Q E hr hsp
 exact ⟨t, h.run, q⟩
structure CalleeN (P : Program) (w : World) (K : PySem.W.Frag) (mg : Str → Option Value) (base : Heap) (k : Nat) (x : Str) (ps : List Str) (sp : Sp) : Prop where
 ex : ∃ (f : Addr) (fd : FuncData), FnOkN P w K mg base k f fd ps sp ∧ mg x = some (.ref f) ∧ PySem.W.keepIn K (.ref f) = true ∧ Binds K fd ps []
theorem calleen_of {k : Nat} {x : Str} {ps : List Str} {sp : Sp} {f : Addr} {fd : FuncData} (F : FnOkN P w K mg base k f fd ps sp) (m : mg x = some (.ref f)) (kp : PySem.W.keepIn K (.ref f) = true) (b : Binds K fd ps []) : CalleeN P w K mg base k x ps sp := ⟨f, fd, F, m, kp, b⟩
end
section
variable {X : Cx} {k : Nat} {x : Str} {ps : List Str} {sp : Sp} {p pos : Pos} {e : Expr} {es : List Expr} {t : TA}
theorem qe_fnN (C : CalleeN X.prog X.w X.K X.mg X.base k x ps sp) (hr : RoomN k X.A) (ha : QA X (e :: es) t) (hg : Gl X x := by rfl) (hdb : (x == ("__debug__" : Str)) = false := by decide)
  (he : starEach (e :: es) X.env = (false, eval e X.env) :: starEach es X.env := by rfl) (hpl : (backTo pos (starEach es X.env)).any (·.1) = false := by rfl) : QE X (.Call (.Name x p) (e :: es) [] pos) (tCall sp [] E0 t) := by
 obtain ⟨f, fd, F, hm, hk, hb⟩ := C.ex
 refine ⟨fun pins s σ H Q I h => ?_⟩
 refine wpAny_Call_Name_kw (ld_glob I hg hm ?_ hdb)
 refine PySem.W.callWith_K (h₀ := X.base) I.ok.mod.kin hk (thn (ha.run pos pins s σ H _ I h) fun us s1 ⟨vs, H1, I1, r, q⟩ => ⟨I1.kIn, ?_⟩) he hpl
 have q : sp (vs ++ []) H1 Q E0 := q
 rw [List.append_nil] at q
 have hl : us.length = ps.length := by rw [← r.length]; exact F.len _ _ _ _ q
 have hb' := hb s1 us I1.kIn (by simpa using hl)
 rw [List.append_nil] at hb'
 refine wpAny_call (codeAny_mono (F.run X.A X.stack s1 H1 ⟨us, []⟩ us vs Q _ hr I1.env0 hb' r q) fun r s' hq => ?_)
 cases r with
 | error e => exact False.elim hq
 | ok fl =>
  cases fl with
  | ret u => exact I1.after hq
  | next => exact False.elim hq
  | brk => exact False.elim hq
  | cont => exact False.elim hq
end
end L2
namespace L2
open PySem PySem.Spec PyProof.Rows
structure ExN (K : PySem.W.Frag) (D : Addr) : Prop extends ExC K D where
 ca : PySem.W.findIn K (.ref D) "__class__" = some (some (.builtin "object.__class__"))
 cg : PySem.W.specialIn K (.builtin "object.__class__") "__get__" = some (some (.builtin "getset_descriptor.__get__"))
 ct : PySem.W.takesIn K (.builtin "object.__class__") = some true
section
open PySem.W PySem.Builtin PySem.Builtin.ObjectAttr
variable {prog : Program} {w : World} {A : Around} {E : Value → Shared → Prop} {s : Shared} {K : Frag} {x D : Addr} {ox : Obj} {od : Option Obj}
theorem exc_class {Q : Option Value → Shared → Prop} (X : K.In s.heap) (I : PySem.W.InstAt s.heap x ox D od) (c : ExN K D) (h : Q (some (.ref D)) { s with toks := s.toks + 1 }) : wpAny (model prog w) A (getAttr? (.ref x) "__class__") Q E s := by
 obtain ⟨cd, hc, ho⟩ := any_some c.ov
 have ne : cd.mro.isEmpty = false := by cases q : cd.mro with | nil => rw [q] at ho; cases ho | cons _ _ => rfl
 have hf : findObj K D od "__class__" = some (.bind (.builtin "getset_descriptor.__get__") (.builtin "object.__class__")) := by
  unfold findObj
  rw [hc, Option.bind_some, c.ca, Option.bind_some]
  dsimp only
  rw [c.cg, Option.bind_some]
  dsimp only
  rw [c.ct]
  rfl
 have hm : mroIn K D (.type "object") = some true := by unfold mroIn; rw [hc, Option.bind_some, if_neg (by rw [ne]; decide), (over_has ho).1]
 obtain ⟨hp, g, d, t, os⟩ := s
 have L0 := I.type (M := model prog w)
 have L1 := looks_findIn (M := model prog w) X c.ga
 have L2 := looks_findIn (M := model prog w) X c.gt
 have L3 := looks_find (M := model prog w) X I hf
 have L4 : Looks (model prog w) hp (isInstance (.ref x) (.type "BaseException")) true := I.type.andThen (looks_mroIn X (by unfold mroIn; rw [hc, Option.bind_some, if_neg (by rw [ne]; decide), (over_has ho).2]))
 have f3 := PySem.F.attr_ValueError.ga.bind (.ref x)
 have hx2 : (Value.builtin "BaseException.__getattribute__" == Value.builtin "object.__getattribute__") = false := by decide +kernel
 have hx1 : (onTheHeap (Value.ref D) && Value.builtin "BaseException.__getattribute__" == Value.builtin "object.__getattribute__") = false := by rw [hx2]; rfl
 have hk : builtinKind "BaseException.__getattribute__" = some .slot := by decide +kernel
 have hsplit : splitId "BaseException.__getattribute__" = some ("BaseException", "__getattribute__") := by decide +kernel
 unfold getAttr? getAttrBy? getAttrBy
 refine wpAny_bind (wpAny_mkText (wpAny_bind (wpAny_attempt (wpAny_holding (wpAny_bind (L0.at (wpAny_bind (L1.at ?_))))))))
 dsimp only
 rw [hx1]
 simp only [Bool.false_eq_true, if_false]
 unfold getAttrByItsOwn hookBefore callGetattribute
 rw [if_pos (show onTheHeap (Value.ref D) = true from rfl)]
 refine wpAny_bind (L2.at ?_)
 simp only [Bool.false_and, Bool.false_eq_true, if_false]
 unfold boundAndCalled
 rw [f3]
 refine wpAny_bind (wpAny_attempt (wpAny_holding (wpAny_bind (wpAny_pure (wpAny_call (codeAny_call_builtin PySem.F.attr_ValueError.ga.plain PySem.F.entry_bexc_ga (@check_slot (model prog w) _ _ ⟨hp, g, d, t + 1, os⟩ "BaseException.__getattribute__" "BaseException" "__getattribute__" (.ref x) [.str "__class__" t] [] _ hk hsplit L4 (PySem.F.args_bexc_ga (.ref x) (.str "__class__" t)) ?_)))))))
 show wpAny _ _ (Builtin.«object.__getattribute__» ⟨[.ref x, .str "__class__" t], []⟩) _ _ _
 refine wpAny_bind (wpAny_pure (wpAny_bind (wpAny_pure (wpAny_bind (L0.at (wpAny_bind (L3.at ?_)))))))
 show wpAny _ _ (holding [.builtin "object.__class__"] (call (.builtin "getset_descriptor.__get__") [.builtin "object.__class__", .ref x, .ref D]) >>= ret) _ _ _
 refine wpAny_bind (wpAny_holding (wpAny_call (class_get (s := ⟨hp, g, d, t + 1, os⟩) (ox := ox) (od := od) X I hm (wpAny_pure ?_))))
 show wpAny _ _ (handedOut (.ref D)) _ _ _
 rw [handedOut_of rfl]
 exact wpAny_pure (wpAny_pure h)
theorem kitx_exc (c : ExN K D) : KitX K (.ref x) (.ref D) (fun h => PySem.W.InstAt h x ox D od) where
 ty := fun _ _ _ I => I.type
 it := fun _ _ X _ => by
  obtain ⟨cd, hc, _⟩ := any_some c.ov
  exact looks_isType X (by rw [hc]; rfl)
 ne := fun h tp dd its n sl X htp => by
  obtain ⟨cdD, hcD, _⟩ := any_some c.ov
  refine Bool.eq_false_iff.mpr fun q => ?_
  have e : D = tp := Value.ref.inj (beq_iff_eq.mp q)
  subst e
  unfold clsIn at hcD
  split at hcD
  ·rename_i c' d' cd' sl' ho
   have z := (X _ _ ho).symm.trans htp
   cases z
  ·cases hcD
 ca := fun X I k => exc_class X I c k
end
noncomputable def rIsY (K : PySem.W.Frag) : List V → Hp → VK → Prop := fun xs H Q => ∃ a C C' od b, xs = [.ref a, .ref C] ∧ H a = some (exk a (.ref C') od) ∧ (∀ d, od = some d → ∃ fs, H d = some (.xd fs)) ∧ ExN K C' ∧ PySem.W.kitOne K (.ref C') (.ref C) = some b ∧ Q (.bl b) H
noncomputable def rIsYT (K : PySem.W.Frag) (T : String) : List V → Hp → VK → Prop := fun xs H Q => ∃ a C' od b, xs = [.ref a, .ty T] ∧ H a = some (exk a (.ref C') od) ∧ (∀ d, od = some d → ∃ fs, H d = some (.xd fs)) ∧ ExN K C' ∧ PySem.W.kitOne K (.ref C') (.type T) = some b ∧ Q (.bl b) H
section
variable {X : Cx} {pins : List (Addr × Obj)} {σ : St} {H : Hp} {s : Shared} {a C' : Addr} {od : Option Addr}
theorem exk_inst (I : Inv X pins σ H s) (ea : H a = some (exk a (.ref C') od)) (hd : ∀ d, od = some d → ∃ fs, H d = some (.xd fs)) : ∃ ox oo, PySem.W.InstAt s.heap a ox C' oo := by
 obtain ⟨oe, vs, a1, a2, a3, a4⟩ := exk_at (I.hok a _ ea)
 cases od with
 | none => exact ⟨oe, none, a1, a2, by unfold PySem.W.notCls; rw [a4], by rw [a3]; trivial⟩
 | some d =>
  obtain ⟨fs, ed⟩ := hd d rfl
  obtain ⟨mA, nA, r⟩ := I.hok d _ ed
  obtain ⟨oD, hoD, hl⟩ := lookIn_ns nA
  exact ⟨oe, some oD, a1, a2, by unfold PySem.W.notCls; rw [a4], by rw [a3]; exact hoD⟩
theorem k_isY {K : PySem.W.Frag} (hK : X.K = K := by rfl) : CallR X (.builtin "isinstance") (rIsY K) := by
 subst hK
 intro pins s σ H xs us Q I r h
 obtain ⟨a, C, C', od, b, rfl, ea, hd, c, e, q⟩ := h
 obtain ⟨u, v, rfl, ru, rv⟩ := r.two
 obtain rfl : u = Value.ref a := ru
 obtain rfl : v = Value.ref C := rv
 obtain ⟨ox, oo, J⟩ := exk_inst I ea hd
 exact PySem.W.kia_one (kitx_exc (ox := ox) (od := oo) c) I.kIn J e (fun z => nomatch z) fun tk => ⟨.bl b, H, I.tok tk, rfl, q⟩
theorem k_isYT {K : PySem.W.Frag} (T : String) (hK : X.K = K := by rfl) : CallR X (.builtin "isinstance") (rIsYT K T) := by
 subst hK
 intro pins s σ H xs us Q I r h
 obtain ⟨a, C', od, b, rfl, ea, hd, c, e, q⟩ := h
 obtain ⟨u, v, rfl, ru, rv⟩ := r.two
 obtain rfl : u = Value.ref a := ru
 obtain rfl : v = Value.type T := rv
 obtain ⟨ox, oo, J⟩ := exk_inst I ea hd
 exact PySem.W.kia_one (kitx_exc (ox := ox) (od := oo) c) I.kIn J e (fun z => nomatch z) fun tk => ⟨.bl b, H, I.tok tk, rfl, q⟩
end
end L2
namespace L2
open PySem PySem.Spec PyProof.Rows
section
variable {X : Cx}
end
end L2
namespace L2
open PySem
section
variable {g : TG} {tt : TT} {te : TE} {σ0 : St} {H1 : Hp} {D : Addr} {Q : VK}
end
end L2
namespace L2
open PySem PySem.Spec PyProof.Rows
section
variable {X : Cx}
end
end L2
namespace L2
open PySem PySem.Spec PyProof.Rows
section
variable {prog : Program} {w : World} {A : Around} {E : Value → Shared → Prop} {s : Shared}
end
section
variable {X : Cx}
end
section
variable {g : TG} {tt : TT} {te : TE} {σ0 : St} {H1 : Hp} {D : Addr} {Q : VK}
end
end L2
namespace L2
open PySem PySem.Spec PyProof.Rows
section
variable {X : Cx}
end
theorem noFill_tuple_mul : fillsNumberSlot (.type "tuple") "mul" = pure false :=
 PySem.fillsNumberSlot_seq (id := "tuple.__mul__") (r := some (.builtin "tuple.__rmul__")) PySem.F.slot_tuple_mul.lookup (by decide +kernel) PySem.F.slot_tuple_rmul.lookup (by decide +kernel)
theorem repeat_tuple : seqRepeat? (.type "tuple") = pure (some (.builtin "tuple.__mul__")) := by
 unfold seqRepeat?
 rw [PySem.seqSlot_of (T := "tuple") (name := "__mul__") (id := "tuple.__mul__") PySem.F.slot_tuple_mul.lookup (by decide +kernel), PySem.seqSlot_of (T := "tuple") (name := "__rmul__") (id := "tuple.__rmul__") PySem.F.slot_tuple_rmul.lookup (by decide +kernel)]
 rfl
theorem int_rmul_tup (a : Int) (t : Tok) (l : Addr) (items : Array Value) (n : Nat) (dd : Option Addr) (sl : Array (Option Value)) :
  Meets (Builtin.«int.__rmul__» ⟨[.int a t, .ref l], []⟩) (fun _ R s => s.heap.get? l = some { cls := .type "tuple", dict := dd, data := .seq items n, slots := sl } ∧ R (.ok (.ret Value.notImplemented)) s) :=
 .of_wp fun prog w A R s h => by obtain ⟨hp, g, d, tk, os⟩ := s; obtain ⟨hl, h⟩ := h; wp_walk; exact ⟨_, rfl, h⟩
theorem tmul_one (l : Addr) (items : Array Value) (n : Nat) (dd : Option Addr) (sl : Array (Option Value)) (u : Tok) :
  Meets (Builtin.«tuple.__mul__» ⟨[.ref l, .int 1 u], []⟩) (fun _ R s => s.heap.get? l = some { cls := .type "tuple", dict := dd, data := .seq items n, slots := sl } ∧ R (.ok (.ret (.ref l))) s) :=
 .of_wp fun prog w A R s h => by obtain ⟨hp, g, d, tk, os⟩ := s; obtain ⟨hl, h⟩ := h; wp_walk; exact ⟨_, rfl, h⟩
theorem tmul_zero (l : Addr) (items : Array Value) (n : Nat) (dd : Option Addr) (sl : Array (Option Value)) (u : Tok) (hne : ¬ items.isEmpty = true) :
  Meets (Builtin.«tuple.__mul__» ⟨[.ref l, .int 0 u], []⟩) (fun _ R s => s.heap.get? l = some { cls := .type "tuple", dict := dd, data := .seq items n, slots := sl } ∧ R (.ok (.ret (.ref s.heap.objs.size))) { s with heap := s.heap.push { cls := .type "tuple", data := .seq #[] } }) :=
 .of_wp fun prog w A R s h => by obtain ⟨hp, g, d, tk, os⟩ := s; obtain ⟨hl, h⟩ := h; wp_walk; exact ⟨_, rfl, h⟩
end L2
namespace L2
open PySem PySem.Spec PyProof.Rows
theorem tmul_many (l : Addr) (items : Array Value) (n : Nat) (dd : Option Addr) (sl : Array (Option Value)) (u : Tok) (x : Int) (h2 : 2 ≤ x) (hx : x < 2 ^ 62) (hne : items.isEmpty = false) (hz : (items.size : Int) * x ≤ 1000) (hs : ¬ ((List.replicate x.toNat items).foldl (· ++ ·) #[]).size > sizeLine) :
  Meets (Builtin.«tuple.__mul__» ⟨[.ref l, .int x u], []⟩) (fun _ R s => s.heap.get? l = some { cls := .type "tuple", dict := dd, data := .seq items n, slots := sl } ∧ R (.ok (.ret (.ref s.heap.objs.size))) { s with heap := s.heap.push { cls := .type "tuple", data := .seq ((List.replicate x.toNat items).foldl (· ++ ·) #[]) } }) :=
 .of_wp fun prog w A R s h => by
  obtain ⟨hp, g, d, tk, os⟩ := s; obtain ⟨hl, h⟩ := h
  have c0 : (decide (x < -2 ^ 63) || decide (x ≥ 2 ^ 63)) = false := by
   have a : ¬ x < -2 ^ 63 := by omega
   have b : ¬ x ≥ 2 ^ 63 := by omega
   rw [decide_eq_false a, decide_eq_false b]; rfl
  have c1 : (items.isEmpty || x == 1) = false := by
   have b : ¬ x = 1 := by omega
   rw [hne]
   simp [b]
  have c2 : (decide (x ≤ 0) || items.isEmpty) = false := by
   have b : ¬ x ≤ 0 := by omega
   rw [hne, decide_eq_false b]; rfl
  have c3 : ¬ ((items.size : Int) * x > (2 ^ 63 - 1) / 8) := by omega
  have c4 : Builtin.Tuple.tupleTooMany ((items.size : Int) * x) = false := by
   unfold Builtin.Tuple.tupleTooMany
   have : (100000 : Nat) ≤ sizeLine := by decide
   exact decide_eq_false (by omega)
  wp_walk
  refine wpAny_ite_false (by rw [c0]; rfl) ?_
  wp_walk
  refine wpAny_ite_false (by rw [c1]; rfl) ?_
  wp_walk
  refine wpAny_ite_false (by rw [c2]; rfl) ?_
  wp_walk
  refine wpAny_ite_false (decide_eq_false c3) ?_
  wp_walk
  exact ⟨_, rfl, h⟩
section
variable {X : Cx}
noncomputable def rMulT (K : PySem.W.Frag) : R2 := fun x y H Q => ∃ l k xs, x = .ref l ∧ y = .int k ∧ SqT K H l xs ∧ xs ≠ [] ∧ 0 ≤ k ∧ k < 2 ^ 62 ∧ (xs.length : Int) * k ≤ 1000 ∧ ∀ r H', Same H H' → SqT K H' r (List.replicate k.toNat xs).flatten → Q (.ref r) H'
theorem k_mulT (K : PySem.W.Frag) (hK : X.K = K := by rfl) : OpR X (binaryOp .Mult) (rMulT K) := by
 subst hK
 intro pins s σ H x y v u Q I rx ry h
 obtain ⟨l, k, xs, rfl, rfl, hH, hne, h0, h1, hz, q⟩ := h
 cases rx
 obtain ⟨t, rfl⟩ := ry
 obtain ⟨its, r, p, _⟩ := I.tuple hH
 have hl := r.length
 obtain ⟨⟨cls, dd, data, sl⟩, e, hc, n, hd⟩ := id p
 simp only at hc hd
 subst hc hd
 have hz' : (its.toArray.size : Int) * k ≤ 1000 := by rw [List.size_toArray, ← hl]; exact hz
 have hem : its.toArray.isEmpty = false := by
  cases its with
  | nil => cases xs with | nil => exact absurd rfl hne | cons a b => simp at hl
  | cons a b => simp
 have go : ∀ Q' : Value → Shared → Prop, wpAny (model X.prog X.w) X.A (call (.builtin "tuple.__mul__") [.ref l, .int k t]) Q' X.xe s → wpAny (model X.prog X.w) X.A (binaryOp .Mult (.ref l) (.int k t)) Q' X.xe s := fun Q' hh =>
  wpAny_binaryOp_repeat_ref (T := "tuple") (U := "int") (by decide) ⟨_, e, rfl⟩ (fun s' => typeIs_int s' k t) noFill_tuple_mul PySem.F.fills_int_mul PySem.F.slot_int_rmul repeat_tuple PySem.F.slot_int_index.lookup
   (call_meets PySem.F.slot_int_rmul (typeIs_int s k t) PySem.F.entry_int_rmul (PySem.F.args_int_rmul_2 _ _) (int_rmul_tup k t l its.toArray n dd sl) ⟨e, rfl, ⟨_, e, rfl⟩, hh⟩)
 by_cases k1 : k = 1
 ·subst k1
  refine go _ (call_meets PySem.F.slot_tuple_mul ⟨_, e, rfl⟩ PySem.F.entry_tuple_mul (PySem.F.args_tuple_mul_2 _ _) (tmul_one l its.toArray n dd sl t) ⟨e, ?_⟩)
  exact ⟨.ref l, H, I, rfl, q l H (Same.refl _) (by show SqT X.K H l (List.replicate 1 xs).flatten; simpa using hH)⟩
 by_cases k0 : k = 0
 ·subst k0
  refine go _ (call_meets PySem.F.slot_tuple_mul ⟨_, e, rfl⟩ PySem.F.entry_tuple_mul (PySem.F.args_tuple_mul_2 _ _) (tmul_zero l its.toArray n dd sl t (by rw [hem]; exact Bool.false_ne_true)) ⟨e, ?_⟩)
  refine ⟨.ref _, _, I.laid (t' := s.toks) (o := .tup []) (fun b ob q => Heap.get?_push_of_some _ q) (Nat.le_refl _) ⟨by show 0 ≤ sizeLine; decide, [], .nil, ⟨_, Heap.get?_push_size _ rfl, rfl, _, rfl⟩⟩, rfl, q _ _ (Same.upd I.fresh) (SqT.of upd_same)⟩
 ·have hnew : List.foldl (fun x1 x2 => x1 ++ x2) #[] (List.replicate k.toNat its.toArray) = (List.replicate k.toNat its).flatten.toArray := by
   have := foldl_rep its k.toNat []
   rw [List.nil_append] at this
   exact this
  have hlen : (List.replicate k.toNat xs).flatten.length ≤ sizeLine := by
   rw [len_rep]
   have : (100000 : Nat) ≤ sizeLine := by decide
   have e : ((k.toNat * xs.length : Nat) : Int) = (xs.length : Int) * k := by rw [Int.natCast_mul, Int.toNat_of_nonneg h0, Int.mul_comm]
   omega
  have hs : ¬ ((List.replicate k.toNat its.toArray).foldl (· ++ ·) #[]).size > sizeLine := by
   have h' : List.foldl (fun x1 x2 => x1 ++ x2) #[] (List.replicate k.toNat its.toArray) = (List.replicate k.toNat its).flatten.toArray := hnew
   rw [h', List.size_toArray, len_rep, ← hl]
   rw [len_rep] at hlen
   omega
  refine go _ (call_meets PySem.F.slot_tuple_mul ⟨_, e, rfl⟩ PySem.F.entry_tuple_mul (PySem.F.args_tuple_mul_2 _ _) (tmul_many l its.toArray n dd sl t k (by omega) h1 hem hz' hs) ⟨e, ?_⟩)
  rw [hnew]
  exact ⟨.ref _, _, I.laid (t' := s.toks) (o := .tup (List.replicate k.toNat xs).flatten) (fun b ob q => Heap.get?_push_of_some _ q) (Nat.le_refl _) ⟨hlen, _, r.rep k.toNat, ⟨_, Heap.get?_push_size _ rfl, rfl, _, rfl⟩⟩, rfl, q _ _ (Same.upd I.fresh) (SqT.of upd_same)⟩
theorem s_mulT {K : PySem.W.Frag} {l : Addr} {k : Int} {xs : List V} {H : Hp} {Q : VK} (hq : SqT K H l xs) (hne : xs ≠ []) (h0 : 0 ≤ k) (h1 : k < 2 ^ 62) (hz : (xs.length : Int) * k ≤ 1000) (h : ∀ r H', Same H H' → SqT K H' r (List.replicate k.toNat xs).flatten → Q (.ref r) H') : rMulT K (.ref l) (.int k) H Q := ⟨l, k, xs, rfl, rfl, hq, hne, h0, h1, hz, h⟩
end
end L2
namespace L2
open PySem PySem.Spec PyProof.Rows
section
variable {X : Cx}
open PySem.Builtin PySem.Builtin.Str in
end
end L2
namespace L2
open PySem PySem.Spec PyProof.Rows
section
variable {prog : Program} {w : World} {A : Around} {E : Value → Shared → Prop} {s : Shared}
end
section
variable {X : Cx}
end
section
variable {X : Cx} {k : Nat} {x : Str} {ps : List Str} {sp : Sp} {p pos : Pos}
end
end L2
namespace L2
open PySem PySem.Spec PyProof.Rows
structure MethX (CX : CXT) (P : Program) (w : World) (K : PySem.W.Frag) (mg : Str → Option Value) (base : Heap) (k : Nat) (C : Addr) (m : Str) (ps : List Str) (sp : Sp) : Prop where
 ex : ∃ (g : Addr) (fd : FuncData), FnOk P w K mg base CX k g fd ps sp ∧ Cls K C ∧ Meth K C m g ∧ Binds K fd ps []
structure MakeX (CX : CXT) (P : Program) (w : World) (K : PySem.W.Frag) (mg : Str → Option Value) (base : Heap) (k : Nat) (x : Str) (C : Addr) (ps : List Str) (sp : Sp) : Prop where
 ex : ∃ (f : Addr) (fd : FuncData), FnOk P w K mg base CX k f fd ps sp ∧ Mk K C f ∧ mg x = some (.ref C) ∧ Binds K fd ps []
structure Make0 (K : PySem.W.Frag) (mg : Str → Option Value) (x : Str) (C : Addr) : Prop where
 makes : PySem.W.makesIn K C = true
 init : PySem.W.findIn K (.ref C) "__init__" = some (some (.builtin "object.__init__"))
 kp : PySem.W.keepIn K (.ref C) = true
 at_ : mg x = some (.ref C)
noncomputable def tMethD (CX : CXT) (P : Program) (w : World) (K : PySem.W.Frag) (mg : Str → Option Value) (base : Heap) (k : Nat) (m : Str) (ps : List Str) (E : XK) (ta : TE) (t : TA) : TE := fun σ H Q => ta σ H fun x H1 => ∃ a C dx fs sp, x = .ref a ∧ H1 a = some (.ins C dx fs) ∧ fs.lookup m = none ∧ MethX CX P w K mg base k C m ps sp ∧
 t σ H1 fun vs H2 => sp (.ref a :: vs) H2 Q E
noncomputable def tNew (C : Addr) (sp : Sp) (E : XK) (t : TA) : TE := fun σ H Q => t σ H fun vs H1 => ∀ x dx, H1 x = none → H1 dx = none → dx ≠ x → sp (.ref x :: vs) (upd (upd H1 dx (.own x)) x (.ins C dx [])) (fun v H2 => v = .non ∧ Q (.ref x) H2) E
noncomputable def tNew0 (C : Addr) : TE := fun σ H Q => ∀ x dx, H x = none → H dx = none → dx ≠ x → Q (.ref x) (upd (upd H dx (.own x)) x (.ins C dx []))
section
variable {X : Cx} {k : Nat} {x m : Str} {ps : List Str} {sp : Sp} {E : XK} {C : Addr} {p pos apos : Pos} {e o : Expr} {es : List Expr} {ta : TE} {t : TA} {CX : CXT} {P : Program} {w : World} {mg : Str → Option Value} {base : Heap}
theorem qe_methD (K : PySem.W.Frag) (CX : CXT) (ps : List Str) {pl : Sem Bool} (he : QE X o ta) (hr : Room k X.A) (hx : Passes CX X E) (ha : QA X (e :: es) t) (hP : X.prog = P := by rfl) (hw : X.w = w := by rfl) (hK : X.K = K := by rfl) (hmg : X.mg = mg := by rfl) (hbs : X.base = base := by rfl)
  (hst : starEach (e :: es) X.env = (false, eval e X.env) :: starEach es X.env := by rfl) (hpl : (backTo pos (starEach es X.env)).any (·.1) = false := by rfl)
  (ht : eval (.Call (.Attribute o m apos) (e :: es) [] pos) X.env = (do
   let ov ← eval o X.env
   standAt apos.atName
   let (f, first) ← holding [ov] (getMethod ov m pl)
   callWith pos f first (backTo pos (starEach (e :: es) X.env)) (backToKw pos (keywordEach [] X.env))) := by rfl) :
  QE X (.Call (.Attribute o m apos) (e :: es) [] pos) (tMethD CX P w K mg base k m ps E ta t) := by
 subst hP hw hK hmg hbs
 refine ⟨fun pins s σ H Q I h => ?_⟩
 refine PySem.W.methodCall_KW (pl := pl) (thn (he.run pins s σ H _ I h) fun u s1 ⟨x, H1, I1, rx, a, C, dx, fs, sp, ex, ea, l, M, q⟩ => ?_) ht
 obtain ⟨g, fd, F, c, hm, hb⟩ := M.ex
 subst ex
 obtain rfl : u = Value.ref a := rx
 refine getmeth_ok I1 ea c hm l ?_
 refine PySem.W.callWith_K (first := [.ref a]) (h₀ := X.base) I.ok.mod.kin hm.kp (thn (ha.run pos pins s1 σ H1 _ I1 q) fun us s2 ⟨vs, H2, I2, r, q2⟩ => ⟨I2.kIn, ?_⟩) hst hpl
 exact run_fn (us := .ref a :: us) (vs := .ref a :: vs) (dvs := []) F hr hb .nil hx I2 (.cons rfl r) (by rw [List.append_nil]; exact q2)
theorem qx_methD (K : PySem.W.Frag) (ps : List Str) {pl : Sem Bool} (he : ∀ XE, QE (X.to X.A X.calm XE) o ta) (hr : Room k X.A) (ha : ∀ XE, QA (X.to X.A X.calm XE) (e :: es) t) (hP : X.prog = P := by rfl) (hw : X.w = w := by rfl) (hK : X.K = K := by rfl) (hmg : X.mg = mg := by rfl) (hbs : X.base = base := by rfl)
  (hst : starEach (e :: es) X.env = (false, eval e X.env) :: starEach es X.env := by rfl) (hpl : (backTo pos (starEach es X.env)).any (·.1) = false := by rfl)
  (ht : eval (.Call (.Attribute o m apos) (e :: es) [] pos) X.env = (do
   let ov ← eval o X.env
   standAt apos.atName
   let (f, first) ← holding [ov] (getMethod ov m pl)
   callWith pos f first (backTo pos (starEach (e :: es) X.env)) (backToKw pos (keywordEach [] X.env))) := by rfl) :
  QX X (.Call (.Attribute o m apos) (e :: es) [] pos) (fun σ H Q E => tMethD (CXR P w) P w K mg base k m ps E ta t σ H Q) := by
 subst hP hw hK hmg hbs
 refine ⟨fun pins s σ H Q E I h => ?_⟩
 refine PySem.W.methodCall_KW (pl := pl) (thn ((he (XP X pins σ E)).run pins s σ H _ (I.to rfl I.ok.hd) h) fun u s1 ⟨x, H1, I1, rx, a, C, dx, fs, sp, ex, ea, l, M, q⟩ => ?_) ht
 obtain ⟨g, fd, F, c, hm, hb⟩ := M.ex
 subst ex
 obtain rfl : u = Value.ref a := rx
 refine getmeth_ok (I1.back I.ok) ea c hm l ?_
 refine PySem.W.callWith_K (first := [.ref a]) (h₀ := X.base) I.ok.mod.kin hm.kp (thn ((ha (XP X pins σ E)).run pos pins s1 σ H1 _ I1 q) fun us s2 ⟨vs, H2, I2, r, q2⟩ => ⟨(I2.back I.ok).kIn, ?_⟩) hst hpl
 have I2 := I2.back I.ok
 have r2 : Vals (.ref a :: vs) (.ref a :: us) := .cons rfl r
 have hl : (Value.ref a :: us).length = ps.length := by rw [← r2.length]; exact F.len _ _ _ _ q2
 have hb' := hb s2 (.ref a :: us) I2.kIn (by simpa using hl)
 rw [List.append_nil] at hb'
 refine wpAny_call (codeAny_mono (F.run X.A X.stack s2 H2 ⟨.ref a :: us, []⟩ (.ref a :: us) (.ref a :: vs) Q E hr I2.env0 hb' r2 q2) fun r s' hq => ?_)
 cases r with
 | error e => exact ⟨H2, s2, I2, hq⟩
 | ok fl =>
  cases fl with
  | ret u => exact I2.after hq
  | next => exact False.elim hq
  | brk => exact False.elim hq
  | cont => exact False.elim hq
theorem qe_new (M : MakeX CX X.prog X.w X.K X.mg X.base k x C ps sp) (hr : Room (k + 1) X.A) (hx : Passes CX X E) (ha : QA X (e :: es) t) (hg : Gl X x := by rfl) (hdb : (x == ("__debug__" : Str)) = false := by decide)
  (he : starEach (e :: es) X.env = (false, eval e X.env) :: starEach es X.env := by rfl) (hpl : (backTo pos (starEach es X.env)).any (·.1) = false := by rfl) : QE X (.Call (.Name x p) (e :: es) [] pos) (tNew C sp E t) := by
 obtain ⟨f, fd, F, mk, hm, hb⟩ := M.ex
 refine ⟨fun pins s σ H Q I h => ?_⟩
 refine wpAny_Call_Name_kw (ld_glob I hg hm ?_ hdb)
 refine PySem.W.callWith_K (h₀ := X.base) I.ok.mod.kin mk.kp (thn (ha.run pos pins s σ H _ I h) fun us s1 ⟨vs, H1, I1, r, q⟩ => ⟨I1.kIn, ?_⟩) he hpl
 exact run_make (dvs := []) mk F hr hb .nil hx I1 r (fun x dx h1 h2 h3 => by rw [List.append_nil]; exact q x dx h1 h2 h3)
theorem qe_new0 (M : Make0 X.K X.mg x C) (hg : Gl X x := by rfl) (hdb : (x == ("__debug__" : Str)) = false := by decide) : QE X (.Call (.Name x p) [] [] pos) (tNew0 C) := by
 refine ⟨fun pins s σ H Q I h => ?_⟩
 refine wpAny_Call_Name_kw (ld_glob I hg M.at_ ?_ hdb)
 refine PySem.W.callWith_K0 I.kIn M.kp ?_
 have hq := h (s.heap.objs.size + 1) s.heap.objs.size (I.hok.fresh (Nat.le_succ _)) (I.hok.fresh (Nat.le_refl _)) (Nat.ne_of_lt (Nat.lt_succ_self _))
 have I2 := Inv.made (C := C) I
 have Y := PySem.W.makes_of (M := model X.prog X.w) I.kIn M.makes
 refine wpAny_call (make_map0 I.kIn M.makes M.init (fun self => PySem.W.Looks.of_pure (PySem.W.oi_bind self)) ?_)
 have t1 : PySem.W.Looks (model X.prog X.w) ((s.heap.push PySem.W.emptyDict).push (PySem.W.instObj C s.heap.objs.size)) (typeOf (.ref (s.heap.objs.size + 1))) (.ref C) := (PySem.W.Looks.ld (by have := Heap.get?_push_size (s.heap.push PySem.W.emptyDict) (o := PySem.W.instObj C s.heap.objs.size) rfl; rw [Heap.size_push] at this; exact this)).andThen .now
 have t2 : PySem.W.Looks (model X.prog X.w) ((s.heap.push PySem.W.emptyDict).push (PySem.W.instObj C s.heap.objs.size)) (isInstance (.ref (s.heap.objs.size + 1)) (.type "object")) true := t1.andThen (Y.top.keeps fun b o e => Heap.get?_push_of_some _ (Heap.get?_push_of_some _ e))
 refine codeAny_call_builtin PySem.W.oi_plain PySem.W.entry_oi (@PySem.W.check_slot (model X.prog X.w) _ _ _ "object.__init__" "object" "__init__" (.ref (s.heap.objs.size + 1)) [] [] _ PySem.W.oi_kind PySem.W.oi_split t2 (PySem.W.oi_args (.ref (s.heap.objs.size + 1))) ?_)
 rw [PySem.W.oi_run]
 exact wpAny_pure (And.intro rfl ⟨V.ref (s.heap.objs.size + 1), _, I2, rfl, hq⟩)
end
end L2
namespace L2
open PySem PySem.Spec PyProof.Rows
section
variable {X : Cx} {e o value : Expr} {f : Str} {pos pos' : Pos} {ta tv : TE} {pins : List (Addr × Obj)} {σ : St} {H : Hp} {s : Shared}
theorem qe_fldK (K : PySem.W.Frag) (he : QE X e ta) (hb : attributeBase e f X.env (eval e X.env) = eval e X.env := by rfl) (hK : X.K = K := by rfl) : QE X (.Attribute e f pos) (tFld K ta f) := by subst hK; exact qe_fld he hb
theorem qs_fldK (K : PySem.W.Frag) (ha : QE X o ta) (hv : QE X value tv) (hs : swapsWith value (some (.Attribute o f pos')) pos.line X.env = pure false := by rfl) (hK : X.K = K := by rfl) : QS X (.Assign [.Attribute o f pos'] value pos) (sFld K ta tv f) := by subst hK; exact qs_fld ha hv hs
noncomputable def rIsI (K : PySem.W.Frag) : List V → Hp → VK → Prop := fun xs H Q => ∃ x C t b, xs = [x, .ref C] ∧ TyQ K H x t ∧ PySem.W.kitOne K t (.ref C) = some b ∧ Q (.bl b) H
theorem k_isI (K : PySem.W.Frag) (hK : X.K = K := by rfl) : CallR X (.builtin "isinstance") (rIsI K) := by
 subst hK
 intro pins s σ H xs us Q I r h
 obtain ⟨x, C, t, b, rfl, ty, e, q⟩ := h
 obtain ⟨u, v, rfl, ru, rv⟩ := r.two
 obtain rfl : v = Value.ref C := rv
 cases ty with
 | ty ty => exact isinst_ok I ru ty e fun tk => ⟨.bl b, H, I.tok tk, rfl, q⟩
 | tup hq =>
  cases ru
  obtain ⟨its, _, p, _⟩ := I.tuple hq
  obtain ⟨o, h1, h2, _⟩ := p
  exact PySem.W.kia_one PySem.W.kitx_tuple I.kIn ⟨o, h1, h2⟩ e (fun z => nomatch z) fun tk => ⟨.bl b, H, I.tok tk, rfl, q⟩
 | lst hq =>
  cases ru
  obtain ⟨its, _, p, _⟩ := I.list hq
  obtain ⟨o, n, h1, h2, _⟩ := p
  exact PySem.W.kia_one PySem.W.kitx_list I.kIn ⟨o, h1, h2⟩ e (fun z => nomatch z) fun tk => ⟨.bl b, H, I.tok tk, rfl, q⟩
theorem s_isI {K : PySem.W.Frag} {x : V} {C : Addr} {t : Value} {b : Bool} {Q : VK} (ty : TyQ K H x t) (e : PySem.W.kitOne K t (.ref C) = some b) (h : Q (.bl b) H) : rIsI K [x, .ref C] H Q := ⟨x, C, t, b, rfl, ty, e, h⟩
noncomputable def tIfX (tc : TT) (t u : TXS) : TXS := fun D E σ H => tc σ H fun d H1 => if d then t D E σ H1 else u D E σ H1
theorem qxs_if {c : Expr} {a b : List Stmt} {tc : TT} {t u : TXS} (hc : ∀ XE, QT (X.to X.A X.calm XE) c tc) (ha : QXS X a t) (hb : QXS X b u) : QXS X [.If c a b pos] (tIfX tc t u) := by
 refine ⟨fun pins s σ H D E I h => ?_⟩
 refine wpAny_execs_cons (wpAny_mono (wpAny_If (Q := SP X pins D) (E := fun ev s' => ∃ σ', XP X pins σ' (E σ') ev s') (thn ((hc (fun ev s' => ∃ σ', XP X pins σ' (E σ') ev s')).run pins s σ H _ (I.to rfl I.ok.hd) h) fun d s1 ⟨H1, I1, q1⟩ => ?_)) (fun f s1 q => ?_) fun ev s1 q => q)
 ·have I1 := I1.back I.ok
  cases d with
  | true => exact ha.run pins s1 σ H1 D E I1 q1
  | false => exact hb.run pins s1 σ H1 D E I1 q1
 ·cases f with
  | next => exact wpAny_execs_nil q
  | ret v => exact q
  | brk => exact q
  | cont => exact q
end
end L2
namespace L2
open PySem PySem.Spec PyProof.Rows
section
variable {X : Cx} {pins : List (Addr × Obj)} {σ : St} {H : Hp} {s : Shared}
theorem eqAt_none (I : Inv X pins σ H s) {v : V} {u : Value} (r : RelV v u) {A : Around} (hu : A.units < cLine) (h : flatV v = true ∨ ∃ (b : Addr) (xs : List V), v = .ref b ∧ SqT X.K H b xs) : ∃ b, SeqAt.EqAt A s u .none b := by
 rcases h with h | ⟨b, xs, rfl, q⟩
 ·cases v with
  | non => cases (show u = Value.none from r); exact ⟨_, SeqAt.EqAt.same _⟩
  | bl x => cases (show u = Value.bool x from r); exact ⟨_, SeqAt.EqAt.bool_none x⟩
  | int i => obtain ⟨t, e⟩ := (show ∃ t, u = Value.int i t from r); cases e; exact ⟨_, SeqAt.EqAt.int_none i t⟩
  | str x => obtain ⟨t, e⟩ := (show ∃ t, u = Value.str x t from r); cases e; exact ⟨_, SeqAt.EqAt.str_none x t⟩
  | _ => cases h
 ·cases (show u = Value.ref b from r)
  obtain ⟨its, _, p, _⟩ := I.tuple q
  exact ⟨_, SeqAt.EqAt.tuple_none (show s.heap.IsTuple b its.toArray from p) hu⟩
theorem eqAt_empty (I : Inv X pins σ H s) {p e : Addr} {vs : List V} (q : SqT X.K H p vs) (q' : SqT X.K H e []) {A : Around} (hu : A.units < cLine) : ∃ b, SeqAt.EqAt A s (.ref p) (.ref e) b := by
 by_cases z : p = e
 ·subst z
  exact ⟨_, SeqAt.EqAt.same _⟩
 ·obtain ⟨its, r1, p1, _⟩ := I.tuple q
  obtain ⟨its2, r2, p2, _⟩ := I.tuple q'
  have l2 : its2.length = 0 := r2.length.symm
  exact ⟨_, SeqAt.EqAt.of_refs z (SeqAt.RcAt.tuples (e := fun _ => true) (show s.heap.IsTuple p its.toArray from p1) (show s.heap.IsTuple e its2.toArray from p2) hu (fun j h1 h2 => by simp only [List.size_toArray] at h2; omega))⟩
end
end L2
namespace L2
open PySem PySem.Spec PyProof.Rows
structure FunD (K : PySem.W.Frag) (x qual : Str) (st : Stmt) (T f : Addr) (fd : FuncData) : Prop where
 ex : ∃ oc od kV doc pm an cdv ct osl, fd = PySem.W.fnOf x qual (defArgs st) (defBody st) (defScope st) (.ref T) kV doc pm an cdv ct ∧ K.lookup f = some ⟨oc, od, .func (PySem.W.fnOf x qual (defArgs st) (defBody st) (defScope st) (.ref T) kV doc pm an cdv ct), osl⟩ ∧ PySem.W.codeIn K cdv qual = true
 kp : PySem.W.keepIn K (.ref f) = true
section
variable {P : Program} {w : World} {K : PySem.W.Frag} {mg : Str → Option Value} {base : Heap}
theorem FunD.okx {x qual : Str} {st : Stmt} {T f : Addr} {fd : FuncData} {N ps : List Str} {k : Nat} {sp : Sp} (F : FunD K x qual st T f fd) (S : FnScope N ps (defScope st)) (len : ∀ vs H Q E, sp vs H Q E → vs.length = ps.length)
  (hbody : ∀ (cdv : Value) (A : Around) (outer : List Env) (s : Shared) (H : Hp) (vs : List V) (Q : VK) (E : XK), Room k (A.deeper (envOfC qual (defScope st) s.heap.objs.size f cdv)) → sp vs H Q E →
   ∃ t, QSs (cxOf (CXR P w) P w K mg base N qual (defScope st) f cdv A outer s H E) (defBody st) t ∧ t { nx := fun _ H' => Q .non H', rt := Q } (start N vs) H) : FnOk P w K mg base (CXR P w) (k + 1) f fd ps sp := by
 obtain ⟨oc, od, kV, doc, pm, an, cdv, ct, osl, rfl, lk, hcd⟩ := F.ex
 refine fn_of lk hcd S len fun A outer s H vs Q E hr hsp => ?_
 obtain ⟨t, h, q⟩ := hbody cdv A outer s H vs Q E hr hsp
 exact ⟨t, h.run, q⟩
theorem funD_mk {x qual : Str} {st : Stmt} {T f : Addr} {oc : Value} {od an : Option Addr} {osl : Array (Option Value)} {kV doc pm cdv ct : Value} (l : K.lookup f = some ⟨oc, od, .func (PySem.W.fnOf x qual (defArgs st) (defBody st) (defScope st) (.ref T) kV doc pm an cdv ct), osl⟩)
  (c : PySem.W.codeIn K cdv qual = true) (k : PySem.W.keepIn K (.ref f) = true) : FunD K x qual st T f (PySem.W.fnOf x qual (defArgs st) (defBody st) (defScope st) (.ref T) kV doc pm an cdv ct) := ⟨⟨oc, od, kV, doc, pm, an, cdv, ct, osl, rfl, l, c⟩, k⟩
end
structure QK (X : Cx) (kws : List Keyword) (t : TA) : Prop where
 run : PK X kws t
structure MakeK (CX : CXT) (P : Program) (w : World) (K : PySem.W.Frag) (mg : Str → Option Value) (base : Heap) (k : Nat) (x : Str) (C : Addr) (ps ks : List Str) (gV : List V → List V → List V) (sp : Sp) : Prop where
 ex : ∃ (f : Addr) (fd : FuncData) (g : List Value → List Value → List Value), FnOk P w K mg base CX k f fd ps sp ∧ Mk K C f ∧ mg x = some (.ref C) ∧ KBinds K fd ps ks g gV
noncomputable def tNewK (C : Addr) (gV : List V → List V → List V) (sp : Sp) (E : XK) (t tk : TA) : TE := fun σ H Q => t σ H fun vs H1 => tk σ H1 fun zs H2 => ∀ x dx, H2 x = none → H2 dx = none → dx ≠ x → sp (gV (.ref x :: vs) zs) (upd (upd H2 dx (.own x)) x (.ins C dx [])) (fun v H3 => v = .non ∧ Q (.ref x) H3) E
section
variable {X : Cx} {k : Nat} {x : Str} {ps ks : List Str} {gV : List V → List V → List V} {sp : Sp} {E : XK} {C : Addr} {p pos kpos : Pos} {e : Expr} {es : List Expr} {kws : List Keyword} {te : TE} {t tk : TA} {CX : CXT} {nm : Option Str} {f : Addr} {fd : FuncData} {g : List Value → List Value → List Value}
theorem qk_nil : QK X [] tNil := ⟨pk_nil⟩
theorem qk_cons (ha : QE X e te) (hr : QK X kws t) : QK X (⟨nm, e, kpos⟩ :: kws) (tCons te t) := ⟨pk_cons ha.run hr.run⟩
theorem run_makeK {pins : List (Addr × Obj)} {σ : St} {H : Hp} {s : Shared} {Q : VK} {us ws : List Value} {vs zs : List V} {XE : Value → Shared → Prop} (M : Mk X.K C f) (F : FnOk X.prog X.w X.K X.mg X.base CX k f fd ps sp) (hr : Room (k + 1) X.A) (hb : KBinds X.K fd ps ks g gV)
  (I : Inv X pins σ H s) (r : Vals vs us) (rz : Vals zs ws)
  (hx : ∀ H0 s0 ev s', Inv X pins σ H0 s0 → CX X.stack H0 s0 E ev s' → XE ev s')
  (h : ∀ x dx, H x = none → H dx = none → dx ≠ x → sp (gV (.ref x :: vs) zs) (upd (upd H dx (.own x)) x (.ins C dx [])) (fun v H2 => v = .non ∧ Q (.ref x) H2) E) :
  wpAny (model X.prog X.w) X.A (call (.ref C) us (ks.zip ws)) (EP X pins σ Q) XE s := by
 have hq := h (s.heap.objs.size + 1) s.heap.objs.size (I.hok.fresh (Nat.le_succ _)) (I.hok.fresh (Nat.le_refl _)) (Nat.ne_of_lt (Nat.lt_succ_self _))
 have I2 := Inv.made (C := C) I
 have r1 : Vals (V.ref (s.heap.objs.size + 1) :: vs) (Value.ref (s.heap.objs.size + 1) :: us) := .cons rfl r
 have r2 := hb.rel r1 rz
 have hl : (g (Value.ref (s.heap.objs.size + 1) :: us) ws).length = ps.length := by
  rw [← r2.length]
  exact F.len _ _ _ _ hq
 have hb' := hb.to _ (Value.ref (s.heap.objs.size + 1) :: us) ws I2.kIn hl
 refine wpAny_call (make_map (f := f) I.kIn M.makes M.init (beq_iff_eq.mp M.fn) (codeAny_mono (F.run _ X.stack _ _ ⟨Value.ref (s.heap.objs.size + 1) :: us, ks.zip ws⟩ (g (Value.ref (s.heap.objs.size + 1) :: us) ws) _ _ E (hr.make C us (ks.zip ws))
  (I2.env0.make C us (ks.zip ws)) hb' r2 hq) fun r s' hq' => ?_))
 cases r with
 | error e => exact hx _ _ _ _ I2 hq'
 | ok fl =>
  cases fl with
  | ret u =>
   obtain ⟨v, H', I3, rv, ev, q3⟩ := I2.after hq'
   subst ev
   exact ⟨rv, ⟨V.ref (s.heap.objs.size + 1), H', I3, rfl, q3⟩⟩
  | next => exact False.elim hq'
  | brk => exact False.elim hq'
  | cont => exact False.elim hq'
theorem qe_newK (M : MakeK CX X.prog X.w X.K X.mg X.base k x C ps ks gV sp) (hr : Room (k + 1) X.A) (hx : Passes CX X E) (ha : QA X (e :: es) t) (hkw : QK X kws tk) (hg : Gl X x := by rfl) (hdb : (x == ("__debug__" : Str)) = false := by decide)
  (hall : (backToKw pos (keywordEach kws X.env)).all (·.1.isSome) = true := by rfl) (hks : (backToKw pos (keywordEach kws X.env)).filterMap (·.1) = ks := by rfl)
  (he : starEach (e :: es) X.env = (false, eval e X.env) :: starEach es X.env := by rfl)
  (hpl : ((backTo pos (starEach (e :: es) X.env)).any (·.1) || (backToKw pos (keywordEach kws X.env)).any (·.1.isNone)) = false := by rfl) : QE X (.Call (.Name x p) (e :: es) kws pos) (tNewK C gV sp E t tk) := by
 obtain ⟨f, fd, g, F, mk, hm, hb⟩ := M.ex
 refine ⟨fun pins s σ H Q I h => ?_⟩
 refine wpAny_Call_Name_kw (ld_glob I hg hm ?_ hdb)
 refine PySem.W.callWith_KW (h₀ := X.base) I.ok.mod.kin mk.kp hall (thn (ha.run pos pins s σ H _ I h) fun us s1 ⟨vs, H1, I1, r, q⟩ => ?_) hpl he
 refine thn (hkw.run pos pins s1 σ H1 _ I1 q) fun ws s2 ⟨zs, H2, I2, rz, q2⟩ => ⟨I2.kIn, ?_⟩
 rw [hks]
 exact run_makeK mk F hr hb I2 r rz (fun H0 s0 ev s' I0 c => hx pins σ H0 s0 ev s' I0 c) q2
theorem qe_newK0 (M : MakeK CX X.prog X.w X.K X.mg X.base k x C ps ks gV sp) (hr : Room (k + 1) X.A) (hx : Passes CX X E) (hkw : QK X kws tk) (hg : Gl X x := by rfl) (hdb : (x == ("__debug__" : Str)) = false := by decide)
  (hall : (backToKw pos (keywordEach kws X.env)).all (·.1.isSome) = true := by rfl) (hks : (backToKw pos (keywordEach kws X.env)).filterMap (·.1) = ks := by rfl)
  (hpl : ((backTo pos (starEach [] X.env)).any (·.1) || (backToKw pos (keywordEach kws X.env)).any (·.1.isNone)) = false := by rfl) : QE X (.Call (.Name x p) [] kws pos) (tNewK C gV sp E tNil tk) := by
 obtain ⟨f, fd, g, F, mk, hm, hb⟩ := M.ex
 refine ⟨fun pins s σ H Q I h => ?_⟩
 refine wpAny_Call_Name_kw (ld_glob I hg hm ?_ hdb)
 refine PySem.W.callWith_KW0 (h₀ := X.base) I.ok.mod.kin mk.kp hall ?_ hpl
 refine thn (hkw.run pos pins s σ H _ I h) fun ws s2 ⟨zs, H2, I2, rz, q2⟩ => ⟨I2.kIn, ?_⟩
 rw [hks]
 exact run_makeK (vs := []) mk F hr hb I2 .nil rz (fun H0 s0 ev s' I0 c => hx pins σ H0 s0 ev s' I0 c) q2
theorem qx_newK (M : MakeK (CXR X.prog X.w) X.prog X.w X.K X.mg X.base k x C ps ks gV sp) (hr : Room (k + 1) X.A) (ha : ∀ XE, QA (X.to X.A X.calm XE) (e :: es) t) (hkw : ∀ XE, QK (X.to X.A X.calm XE) kws tk) (hg : Gl X x := by rfl) (hdb : (x == ("__debug__" : Str)) = false := by decide)
  (hall : (backToKw pos (keywordEach kws X.env)).all (·.1.isSome) = true := by rfl) (hks : (backToKw pos (keywordEach kws X.env)).filterMap (·.1) = ks := by rfl)
  (he : starEach (e :: es) X.env = (false, eval e X.env) :: starEach es X.env := by rfl)
  (hpl : ((backTo pos (starEach (e :: es) X.env)).any (·.1) || (backToKw pos (keywordEach kws X.env)).any (·.1.isNone)) = false := by rfl) : QX X (.Call (.Name x p) (e :: es) kws pos) (fun σ H Q E => tNewK C gV sp E t tk σ H Q) := by
 obtain ⟨f, fd, g, F, mk, hm, hb⟩ := M.ex
 refine ⟨fun pins s σ H Q E I h => ?_⟩
 refine wpAny_Call_Name_kw (ld_glob I hg hm ?_ hdb)
 refine PySem.W.callWith_KW (h₀ := X.base) I.ok.mod.kin mk.kp hall (thn ((ha (XP X pins σ E)).run pos pins s σ H _ (I.to rfl I.ok.hd) h) fun us s1 ⟨vs, H1, I1, r, q⟩ => ?_) hpl he
 refine thn ((hkw (XP X pins σ E)).run pos pins s1 σ H1 _ I1 q) fun ws s2 ⟨zs, H2, I2, rz, q2⟩ => ⟨(I2.back I.ok).kIn, ?_⟩
 rw [hks]
 exact run_makeK mk F hr hb (I2.back I.ok) r rz (fun H0 s0 ev s' I0 c => ⟨H0, s0, I0, c⟩) q2
end
end L2
namespace L2
open PySem PySem.Spec PyProof.Rows
section
variable {X : Cx} {pins : List (Addr × Obj)} {σ : St} {H : Hp} {s : Shared}
noncomputable def rNeG (K : PySem.W.Frag) : R2 := fun x y H Q => ∃ (a c p e : Addr) (w1 w2 : Str) (n : V) (vs : List V), x = .ref a ∧ y = .ref c ∧ SqT K H a [.str w1, n, .ref p] ∧ (flatV n = true ∨ ∃ (b : Addr) (xs : List V), n = .ref b ∧ SqT K H b xs) ∧ SqT K H p vs ∧ SqT K H c [.str w2, .non, .ref e] ∧ SqT K H e [] ∧ w1 ≠ w2 ∧ Q (.bl true) H
theorem op_neG (hu : X.A.units + 200 < cLine) : OpR X (compareOp .NotEq) (rNeG X.K) := by
 intro pins s σ H x y v u Q I rx ry h
 obtain ⟨a, c, p, e, w1, w2, n, vs, rfl, rfl, hx, hn, hp, hy, he, hw, q⟩ := h
 cases rx
 cases ry
 obtain ⟨its, r1, p1, _⟩ := I.tuple hx
 obtain ⟨its2, r2, p2, _⟩ := I.tuple hy
 have l1 : its.length = 3 := r1.length.symm
 have l2 : its2.length = 3 := r2.length.symm
 obtain ⟨u0, g0, k0⟩ := r1.get (i := 0) (x := .str w1) rfl
 obtain ⟨u1, g1, k1⟩ := r1.get (i := 1) (x := n) rfl
 obtain ⟨u2, g2, k2⟩ := r1.get (i := 2) (x := .ref p) rfl
 obtain ⟨y0, m0, j0⟩ := r2.get (i := 0) (x := .str w2) rfl
 obtain ⟨y1, m1, j1⟩ := r2.get (i := 1) (x := .non) rfl
 obtain ⟨y2, m2, j2⟩ := r2.get (i := 2) (x := .ref e) rfl
 obtain ⟨t0, rfl⟩ := (show ∃ t, u0 = Value.str w1 t from k0)
 obtain ⟨t1, rfl⟩ := (show ∃ t, y0 = Value.str w2 t from j0)
 cases (show y1 = Value.none from j1)
 cases (show u2 = Value.ref p from k2)
 cases (show y2 = Value.ref e from j2)
 have hu1 : X.A.in1.units < cLine := by show X.A.units + 1 < cLine; omega
 obtain ⟨b1, E1⟩ := eqAt_none I k1 hu1 hn
 obtain ⟨b2, E2⟩ := eqAt_empty I hp he hu1
 refine ne_tuplesAt (e := fun j => if j = 0 then w1 == w2 else if j = 1 then b1 else b2) (show s.heap.IsTuple a its.toArray from p1) (show s.heap.IsTuple c its2.toArray from p2) (by omega) (fun j h1 h2 => ?_) ?_
 ·simp only [List.size_toArray] at h1 h2
  have f1 : its[j]? = some its[j] := List.getElem?_eq_getElem h1
  have f2 : its2[j]? = some its2[j] := List.getElem?_eq_getElem h2
  simp only [List.getElem_toArray]
  match j, h1, h2, f1, f2 with
  | 0, h1, h2, f1, f2 =>
   rw [f1] at g0; rw [f2] at m0
   rw [Option.some.inj g0, Option.some.inj m0]
   exact SeqAt.EqAt.str_str _ _ _ _
  | 1, h1, h2, f1, f2 =>
   rw [f1] at g1; rw [f2] at m1
   rw [Option.some.inj g1, Option.some.inj m1]
   exact E1
  | 2, h1, h2, f1, f2 =>
   rw [f1] at g2; rw [f2] at m2
   rw [Option.some.inj g2, Option.some.inj m2]
   exact E2
  | j + 3, h1, _, _, _ => omega
 ·have hb : (w1 == w2) = false := by simpa using hw
  have e : (!((List.range (min its.toArray.size its2.toArray.size)).all (fun j => if j = 0 then w1 == w2 else if j = 1 then b1 else b2) && its.toArray.size == its2.toArray.size)) = true := by
   rw [List.size_toArray, List.size_toArray, l1, l2, show List.range (min 3 3) = [0, 1, 2] from rfl]
   simp [hb]
  rw [e]
  exact ⟨.bl _, H, I, rfl, q⟩
noncomputable def rNeF (K : PySem.W.Frag) : R2 := fun x y H Q => rNeA K x y H Q ∨ rNeG K x y H Q
theorem k_neG (K : PySem.W.Frag) (hu : X.A.units + 200 < cLine) (hK : X.K = K := by rfl) : OpR X (compareOp .NotEq) (rNeF K) := by subst hK; exact (op_neA hu).or (op_neG hu)
theorem s_nefD {K : PySem.W.Frag} {a c : Addr} {Q : VK} {n : Nat} {d : Dt} (hn : n ≤ 190) (hx : IsD K H n (.ref a) d) (hy : IsD K H n (.ref c) d) (h : Q (.bl false) H) : rNeF K (.ref a) (.ref c) H Q := .inl (s_neD hn hx hy h)
theorem s_nefG {K : PySem.W.Frag} {a c p e : Addr} {w1 w2 : Str} {n : V} {vs : List V} {Q : VK} (hx : SqT K H a [.str w1, n, .ref p]) (hn : flatV n = true ∨ ∃ (b : Addr) (xs : List V), n = .ref b ∧ SqT K H b xs) (hp : SqT K H p vs) (hy : SqT K H c [.str w2, .non, .ref e]) (he : SqT K H e []) (hw : w1 ≠ w2) (h : Q (.bl true) H) : rNeF K (.ref a) (.ref c) H Q := .inr ⟨a, c, p, e, w1, w2, n, vs, rfl, rfl, hx, hn, hp, hy, he, hw, h⟩
end
end L2
namespace K10
open PySem L2
noncomputable def LET : Str := "abcdefghijklmnopqrstuvwxyz_"
noncomputable def DIG : Str := "0123456789"
noncomputable def W9 : List Str := ["let", "in", "if", "then", "else", "fn", "rec", "yes", "no"]
noncomputable def W10 : List Str := ["let", "if", "fn", "rec", "yes", "no", "?", "+", "-", "<"]
noncomputable def S4 : List Str := ["?", "+", "-", "<"]
noncomputable def BR : Str := "()"
noncomputable def isIn (t : Str) (ws : List Str) : Bool := ws.any fun a => a == t
noncomputable def allIn (t s : Str) : Bool := t.cps.toList.all fun c => decide (c ∈ s.cps.toList)
noncomputable def hd0 (t : Str) : Bool := t.cps.toList.head? == some 48
noncomputable def oddC (c : Nat) : Bool := decide (33 ≤ c) && decide (c ≤ 126) && !decide (c ∈ BR.cps.toList)
noncomputable def nameB (t : Str) : Bool := decide (1 ≤ t.length) && decide (t.length ≤ 8) && allIn t LET && !isIn t W9
noncomputable def figB (t : Str) : Bool := decide (1 ≤ t.length) && decide (t.length ≤ 18) && allIn t DIG && (t == ("0" : Str) || !hd0 t)
noncomputable def oddB (t : Str) : Bool := decide (1 ≤ t.length) && decide (t.length ≤ 60) && t.cps.toList.all oddC && !nameB t && !isIn t W10 && !figB t
theorem isIn_mem {t : Str} {ws : List Str} (h : isIn t ws = true) : t ∈ ws := by
 obtain ⟨a, ha, e⟩ := List.any_eq_true.mp h
 have e : a = t := by simpa using e
 rw [← e]; exact ha
theorem not_isIn {t : Str} {ws : List Str} (h : ¬ t ∈ ws) : isIn t ws = false := by
 cases e : isIn t ws
 ·rfl
 ·exact absurd (isIn_mem e) h
theorem mem_isIn {t : Str} {ws : List Str} (h : t ∈ ws) : isIn t ws = true := List.any_eq_true.mpr ⟨t, h, by simp⟩
end K10
namespace K22
open PySem L2
noncomputable def top (i : Nat) : Stmt := PySem.Challenge.pw_gapscribe_k22_puts_wraps_keeps.main.body.getD i (.Pass ⟨0, 0, 0, 0⟩)
noncomputable abbrev s_is_whole : Stmt := top 12
noncomputable abbrev s_is_name : Stmt := top 13
noncomputable abbrev s_is_figures : Stmt := top 14
noncomputable abbrev s_is_odd_sign : Stmt := top 15
noncomputable abbrev s_is_odd : Stmt := top 16
noncomputable abbrev s_is_word : Stmt := top 17
noncomputable abbrev s_is_two_names : Stmt := top 18
noncomputable abbrev s_is_note : Stmt := top 19
noncomputable abbrev s_is_top_of_form : Stmt := top 20
noncomputable abbrev s_is_form : Stmt := top 21
noncomputable abbrev s_many_parts : Stmt := top 22
noncomputable abbrev s_bare : Stmt := top 23
noncomputable abbrev s_has_part : Stmt := top 25
noncomputable abbrev s_with_part : Stmt := top 26
noncomputable abbrev s_refuse_no_form : Stmt := top 28
noncomputable abbrev s_refuse_no_gap : Stmt := top 29
noncomputable abbrev s_Put_init : Stmt := match top 31 with
 | .ClassDef _ _ _ b _ _ _ _ _ _ _ => b.getD 0 (.Pass ⟨0, 0, 0, 0⟩)
 | s => s
noncomputable abbrev s_Put_done : Stmt := match top 31 with
 | .ClassDef _ _ _ b _ _ _ _ _ _ _ => b.getD 1 (.Pass ⟨0, 0, 0, 0⟩)
 | s => s
noncomputable abbrev s_Put_back : Stmt := match top 31 with
 | .ClassDef _ _ _ b _ _ _ _ _ _ _ => b.getD 2 (.Pass ⟨0, 0, 0, 0⟩)
 | s => s
noncomputable abbrev s_Cut_done : Stmt := match top 33 with
 | .ClassDef _ _ _ b _ _ _ _ _ _ _ => b.getD 0 (.Pass ⟨0, 0, 0, 0⟩)
 | s => s
noncomputable abbrev s_Wrap_init : Stmt := match top 34 with
 | .ClassDef _ _ _ b _ _ _ _ _ _ _ => b.getD 0 (.Pass ⟨0, 0, 0, 0⟩)
 | s => s
noncomputable abbrev s_Wrap_done : Stmt := match top 34 with
 | .ClassDef _ _ _ b _ _ _ _ _ _ _ => b.getD 1 (.Pass ⟨0, 0, 0, 0⟩)
 | s => s
noncomputable abbrev s_Wrap_back : Stmt := match top 34 with
 | .ClassDef _ _ _ b _ _ _ _ _ _ _ => b.getD 2 (.Pass ⟨0, 0, 0, 0⟩)
 | s => s
noncomputable abbrev s_Keep_init : Stmt := match top 35 with
 | .ClassDef _ _ _ b _ _ _ _ _ _ _ => b.getD 0 (.Pass ⟨0, 0, 0, 0⟩)
 | s => s
noncomputable abbrev s_Keep_done : Stmt := match top 35 with
 | .ClassDef _ _ _ b _ _ _ _ _ _ _ => b.getD 1 (.Pass ⟨0, 0, 0, 0⟩)
 | s => s
noncomputable abbrev s_Keep_back : Stmt := match top 35 with
 | .ClassDef _ _ _ b _ _ _ _ _ _ _ => b.getD 2 (.Pass ⟨0, 0, 0, 0⟩)
 | s => s
noncomputable abbrev s_Change_init : Stmt := match top 36 with
 | .ClassDef _ _ _ b _ _ _ _ _ _ _ => b.getD 0 (.Pass ⟨0, 0, 0, 0⟩)
 | s => s
noncomputable abbrev s_Change_done : Stmt := match top 36 with
 | .ClassDef _ _ _ b _ _ _ _ _ _ _ => b.getD 1 (.Pass ⟨0, 0, 0, 0⟩)
 | s => s
noncomputable abbrev s_law_cell : Stmt := top 38
noncomputable abbrev s_law_names : Stmt := top 39
noncomputable abbrev s_law_odd : Stmt := top 40
noncomputable abbrev s_law_number : Stmt := top 41
noncomputable abbrev s_law_head : Stmt := top 42
noncomputable abbrev s_law_many : Stmt := top 43
noncomputable abbrev s_law_tree : Stmt := top 44
noncomputable abbrev s_law_sort : Stmt := top 45
noncomputable abbrev s_law_class : Stmt := top 46
noncomputable abbrev s_law_wrapped : Stmt := top 47
noncomputable abbrev s_law_put : Stmt := top 48
noncomputable abbrev s_law_bare : Stmt := top 49
noncomputable abbrev s_law_done : Stmt := top 50
noncomputable abbrev s_law_back : Stmt := top 51
noncomputable abbrev s_law_both : Stmt := top 52
noncomputable abbrev s_law_no_deed : Stmt := top 53
noncomputable abbrev s_law_puts : Stmt := top 54
noncomputable abbrev s_law_wraps : Stmt := top 55
noncomputable abbrev s_law_keeps : Stmt := top 56
noncomputable abbrev s_law : Stmt := top 57
structure Txt (K : W.Frag) (mg : Str → Option Value) : Prop where
 isinstance : mg "isinstance" = none
 int : mg "int" = none
 bool : mg "bool" = none
 str : mg "str" = none
 len : mg "len" = none
 all : mg "all" = none
 tuple : mg "tuple" = none
 range : mg "range" = none
 enumerate : mg "enumerate" = none
 ValueError : mg "ValueError" = none
end K22
namespace K22
open PySem L2 K10
structure Script (K : W.Frag) (H : Hp) (a : Addr) : Prop where
 ex : ∃ ns : List Int, SqL K H a (ns.map V.int) ∧ ns.length ≤ 63
theorem Script.same {K : W.Frag} {H H' : Hp} {a : Addr} (S : Script K H a) (h : Same H H') : Script K H' a := by
 obtain ⟨ns, q, l⟩ := S.ex
 exact ⟨ns, h.seq q, l⟩
inductive TyN (K : W.Frag) (H : Hp) : V → String → Prop where
 | non : TyN K H .non "NoneType"
 | bl (x : Bool) : TyN K H (.bl x) "bool"
 | int (i : Int) : TyN K H (.int i) "int"
 | str (x : Str) (h : x.length ≤ 1000) : TyN K H (.str x) "str"
 | tup {a : Addr} {xs : List V} (q : SqT K H a xs) : TyN K H (.ref a) "tuple"
 | lst {a : Addr} {xs : List V} (q : SqL K H a xs) : TyN K H (.ref a) "list"
 | dK {a : Addr} {kvs : List (Key × V)} (e : H a = some (.dK kvs)) : TyN K H (.ref a) "dict"
noncomputable def kitT (t T : String) : Bool := t == T || (t == "bool" && T == "int")
theorem TyN.q {K : W.Frag} {H : Hp} {v : V} {t : String} (h : TyN K H v t) : TyQ K H v (.type t) := by
 cases h with
 | non => exact .ty .non
 | bl x => exact .ty (.bl x)
 | int x => exact .ty (.int x)
 | str x => exact .ty (.str x)
 | tup q => exact .tup q
 | lst q => exact .lst q
 | dK e => exact .ty (.dK e)
theorem kit_all {K : W.Frag} {t T : String} (ht : t ∈ ["NoneType", "bool", "int", "str", "tuple", "list", "dict"]) (hT : T ∈ ["str", "int", "bool", "tuple"]) : W.kitOne K (.type t) (.type T) = some (kitT t T) := by
 have one : ∀ (t T : String), t ≠ T → (W.kitMeta T && (match fastBuiltinMro t with | some l => l.contains (.type T) == kitT t T | none => false)) = true → W.kitOne K (.type t) (.type T) = some (kitT t T) := by
  intro t T hne h
  rw [Bool.and_eq_true] at h
  obtain ⟨h1, h2⟩ := h
  split at h2
  ·rename_i l hl
   exact kit_of h1 hne hl (by simpa using h2)
  ·cases h2
 simp only [List.mem_cons, List.not_mem_nil, or_false] at ht hT
 rcases hT with rfl | rfl | rfl | rfl <;> rcases ht with rfl | rfl | rfl | rfl | rfl | rfl | rfl <;> first | (exact kit_same) | (exact one _ _ (by decide) (by decide +kernel))
theorem TyN.mem {K : W.Frag} {H : Hp} {v : V} {t : String} (h : TyN K H v t) : t ∈ ["NoneType", "bool", "int", "str", "tuple", "list", "dict"] := by
 cases h <;> simp
theorem s_isiN {K : W.Frag} {H : Hp} {Q : VK} {v : V} {t T : String} (h : TyN K H v t) (hT : T ∈ ["str", "int", "bool", "tuple"]) (q : Q (.bl (kitT t T)) H) : rIsi K T [v, .ty T] H Q :=
 ⟨v, .type t, _, rfl, h.q, kit_all h.mem hT, q⟩
theorem TyN.same {K : W.Frag} {H H' : Hp} {v : V} {t : String} (h : TyN K H v t) (e : Same H H') : TyN K H' v t := by
 cases h with
 | non => exact .non
 | bl x => exact .bl x
 | int x => exact .int x
 | str x h => exact .str x h
 | tup q => exact .tup (e.t.tup q)
 | lst q => exact .lst (e.seq q)
 | dK h => exact .dK (e _ _ h)
noncomputable def Has (K : W.Frag) (H : Hp) (v : V) : Prop := ∃ t, TyN K H v t
theorem Has.same {K : W.Frag} {H H' : Hp} {v : V} (h : Has K H v) (e : Same H H') : Has K H' v := by
 obtain ⟨t, h⟩ := h
 exact ⟨t, h.same e⟩
noncomputable def PARTS : List (Str × V) := [("gap", .int 0), ("odd", .int 0), ("num", .int 0), ("truth", .int 0), ("name", .int 0), ("plus", .int 2), ("minus", .int 2), ("less", .int 2), ("call", .int 2), ("if", .int 3), ("fn", .int 1), ("rec", .int 1), ("let", .int 2)]
noncomputable def PN : List (Str × Nat) := [("gap", 0), ("odd", 0), ("num", 0), ("truth", 0), ("name", 0), ("plus", 2), ("minus", 2), ("less", 2), ("call", 2), ("if", 3), ("fn", 1), ("rec", 1), ("let", 2)]
noncomputable def partsOf (wd : Str) : Option Nat := PN.lookup wd
theorem parts_eq (wd : Str) : lookD PARTS wd = (partsOf wd).map (fun n : Nat => V.int (n : Int)) := by
 have gen : ∀ ps : List (Str × Nat), lookD (ps.map fun p => (p.1, V.int (p.2 : Int))) wd = (ps.lookup wd).map (fun n : Nat => V.int (n : Int)) := by
  intro ps
  induction ps with
  | nil => rfl
  | cons p r ih =>
   unfold lookD at ih ⊢
   rw [List.map_cons, List.find?_cons, List.lookup_cons]
   by_cases z : p.1 = wd
   ·have e2 : (wd == p.1) = true := by rw [z]; simp
    simp only [z, decide_true, Option.map_some]
    simp
   ·have e2 : (wd == p.1) = false := by simpa using fun h => z h.symm
    simp only [z, decide_false, e2]
    exact ih
 exact gen PN
noncomputable def wholeV : V → Bool
 | .int _ => true
 | _ => false
noncomputable def nameV : V → Bool
 | .str s => nameB s
 | _ => false
noncomputable def oddV : V → Bool
 | .str s => oddB s
 | _ => false
noncomputable def wordV : V → Bool
 | .str s => (partsOf s).isSome
 | _ => false
structure Gs (P : Program) (w : World) (K : W.Frag) (mg : Str → Option Value) : Prop where
 ns : Glob mg "NAME_SIGNS" (.str LET)
 fg : Glob mg "FIGURES" (.str DIG)
 w9 : ∃ a, Glob mg "WORDS_NO_NAMES" (.ref a) ∧ ∀ H, SqT K H a (W9.map V.str)
 w10 : ∃ a, Glob mg "WORDS_NOT_ODD" (.ref a) ∧ ∀ H, SqT K H a (W10.map V.str)
 pw : ∃ a, Glob mg "PARTS_OF_WORDS" (.ref a) ∧ DkK P w K a PARTS
 gp : ∃ a e, Glob mg "GAP" (.ref a) ∧ (∀ H, SqT K H a [.str "gap", .non, .ref e]) ∧ ∀ H, SqT K H e []
end K22
local macro_rules | `(tactic| walk_at "r1") => `(tactic| (first | (with_reducible first | refine L2.s_seq ?_ | refine L2.s_asg ?_ | refine L2.s_ret ?_ | refine L2.s_ifS ?_ | refine L2.s_test ?_ | refine L2.s_op ?_ | refine L2.s_c ?_ | refine L2.s_cons ?_ | refine L2.s_nil ?_ | refine L2.s_call ?_ | refine L2.s_cb ?_ | refine L2.s_gname ?_ | refine L2.s_ex ?_ | refine L2.s_exi ?_ | refine L2.s_drop ?_ | refine L2.s_next ?_ | refine L2.s_un ?_ | refine L2.s_tB ?_ | refine L2.s_not ?_ | refine L2.s_and ?_ | refine L2.s_or ?_ | refine L2.s_andV ?_ | refine L2.s_orV ?_ | refine L2.s_notV ?_ | refine L2.s_vals ?_ | refine L2.s_tup ?_ | refine L2.s_lst ?_ | refine L2.s_bm ?_ | refine L2.s_bm0 ?_ | refine L2.s_sl ?_ | refine L2.s_po ?_ | refine L2.s_po0 ?_ | refine L2.s_gcons ?_ | refine L2.s_gnil ?_ | refine L2.s_gsub ?_ | refine L2.s_isN ?_ | refine L2.s_notN ?_ | refine L2.s_rI0 ?_ | refine L2.s_rU ?_ | refine L2.s_add_int ?_ | refine L2.s_lt ?_ | refine L2.s_le ?_ | refine L2.iteT ?_ | refine L2.iteF ?_ | refine L2.s_comp ?_ | refine L2.s_for ?_ | refine L2.s_rng1 ?_ | refine L2.s_rng3 ?_ | refine L2.s_exr ?_ | refine L2.s_iany ?_ | refine L2.s_irev ?_ | refine L2.s_ienum ?_ | refine L2.s_listen ?_ | refine L2.s_listrev ?_ | refine L2.s_izip ?_ | refine L2.s_ienumT ?_ | refine L2.s_listzp ?_ | refine L2.s_ipI ?_ | refine L2.s_yes ?_ | refine L2.s_turn ?_ | refine L2.s_int_b ?_ | refine L2.s_intb ?_ | refine L2.s_truth ?_ | refine L2.s_chain ?_ | refine L2.s_nt ?_ | refine L2.s_nf ?_) | ((with_reducible refine' L2.s_var ?e ?_); (case e => exact rfl)) | ((with_reducible refine' L2.s_aug ?e ?_); (case e => exact rfl)) | ((with_reducible refine' L2.s_eq ?e ?_); (case e => exact rfl)) | ((with_reducible refine' L2.s_ne ?e ?_); (case e => exact rfl)) | ((with_reducible refine' L2.s_neb ?e ?_); (case e => exact rfl)) | ((with_reducible refine' L2.s_rI ?c ?_); (case c => first | decide | exact ⟨by decide, by decide⟩ | exact ⟨by decide, by decide, by decide⟩)) | ((with_reducible refine' L2.s_mul_r ?a ?b ?_); (case a => decide); (case b => decide)) | ((with_reducible refine' L2.s_mul_l ?a ?b ?_); (case a => decide); (case b => decide)) | ((with_reducible refine' L2.s_exr3 ?e ?_); (case e => decide))))
local macro_rules | `(tactic| walk_at "r") => `(tactic| (repeat walk_at "r1"))
namespace K22
open PySem L2 K10
section
variable {P : Program} {w : World} {K : W.Frag} {mg : Str → Option Value} {base : Heap}
noncomputable def sp_whole (K : W.Frag) : Sp := fun vs H Q _ => ∃ v, vs = [v] ∧ Has K H v ∧ Q (.bl (wholeV v)) H
theorem sc_is_whole : FnScope ["thing"] ["thing"] (defScope s_is_whole) := ⟨rfl, rfl, rfl, by decide +kernel, rfl, by decide +kernel, by decide +kernel⟩
theorem ok_whole {f : Addr} {fd : FuncData} (F : Fun K "is_whole" "is_whole" s_is_whole f fd) (T : Txt K mg) : FnOk P w K mg base CX0 1 f fd ["thing"] (sp_whole K) := by
 refine F.okq sc_is_whole (fun vs H Q E h => ?_) (fun cdv A outer s H vs Q E hr h => ?_)
 ·obtain ⟨v, rfl, _⟩ := h
  rfl
 ·obtain ⟨v, rfl, ⟨t, ht⟩, q⟩ := h
  refine ⟨_, qss_one (qs_ret (qe_and (qe_callB (k_isi K "int") (by rfl) T.isinstance (by decide +kernel) (qa_cons (qv 0) (qa_cons (qe_bltn (v := .ty "int") (by rfl) T.int (by decide +kernel) rfl) qa_nil))) (qe_one (qe_not (qe_callB (k_isi K "bool") (by rfl) T.isinstance (by decide +kernel) (qa_cons (qv 0) (qa_cons (qe_bltn (v := .ty "bool") (by rfl) T.bool (by decide +kernel) rfl) qa_nil))))))), ?_⟩
  walk_at "r"
  refine s_isiN ht (by simp) ?_
  have e : wholeV v = (kitT t "int" && !kitT t "bool") := by cases ht <;> rfl
  rw [e] at q
  refine ⟨_, rfl, ?_⟩
  cases h1 : kitT t "int" with
  | false =>
   rw [h1] at q
   exact q
  | true =>
   rw [h1] at q
   walk_at "r"
   refine s_isiN ht (by simp) ?_
   walk_at "r"
   exact q
theorem big : 100000 ≤ sizeLine := by decide
theorem take_snoc {α : Type} {l : List α} {i : Nat} {c : α} (h : l[i]? = some c) : l.take (i + 1) = l.take i ++ [c] := by
 rw [List.take_succ, h]
 rfl
theorem take_lt {z : Str} {i : Nat} {c : Nat} (h : z.cps.toList[i]? = some c) : i < z.length := by
 have := (List.getElem?_eq_some_iff.mp h).1
 simpa [Str.length] using this
theorem all_take {z : Str} {p : Nat → Bool} : (((z.cps.toList.take z.cps.size).map p).all id) = z.cps.toList.all p := by
 rw [List.take_of_length_le (by simp), List.all_map]
 rfl
noncomputable def sp_name (K : W.Frag) : Sp := fun vs H Q _ => ∃ v, vs = [v] ∧ Has K H v ∧ ∀ H', Same H H' → Q (.bl (nameV v)) H'
theorem nd_is_name_1 : (["sign"] : List Str).Nodup := by decide +kernel
theorem sc_is_name : FnScope ["thing"] ["thing"] (defScope s_is_name) := ⟨rfl, rfl, rfl, by decide +kernel, rfl, by decide +kernel, by decide +kernel⟩
theorem in_strs {t : Str} {ws : List Str} : inV (.str t) (ws.map V.str) = isIn t ws := by
 unfold inV isIn
 rw [List.any_map]
 rfl
theorem flat_strs {ws : List Str} : (ws.map V.str).all flatV = true := by
 rw [List.all_map]
 exact List.all_eq_true.mpr fun _ _ => rfl
theorem ok_name {f : Addr} {fd : FuncData} (F : Fun K "is_name" "is_name" s_is_name f fd) (T : Txt K mg) (G : Gs P w K mg) : FnOk P w K mg base CX0 1 f fd ["thing"] (sp_name K) := by
 refine F.okq sc_is_name (fun vs H Q E h => ?_) (fun cdv A outer s H vs Q E hr h => ?_)
 ·obtain ⟨v, rfl, _⟩ := h
  rfl
 ·obtain ⟨v, rfl, ⟨t, ht⟩, q⟩ := h
  obtain ⟨a9, G_WORDS_NO_NAMES, h9⟩ := G.w9
  have G_NAME_SIGNS := G.ns
  refine ⟨_, qss_cons (qs_if (QW.qt (qw_or (qt_not (qt_val (qe_callB (k_isi K "str") (by rfl) T.isinstance (by decide +kernel) (qa_cons (qv 0) (qa_cons (qe_bltn (v := .ty "str") (by rfl) T.str (by decide +kernel) rfl) qa_nil))))) (qw_or1 (qt_not (qt_chain op_leA op_leA (qe_int) (qe_callB (k_len K) (by rfl) T.len (by decide +kernel) (qa_cons (qv 0) qa_nil)) (qe_int)))))) (qss_one (qs_ret (qe_bl))) (qss_nil))
   (qss_one (qs_ret (qe_and (qe_callB (k_all K rfl) (by rfl) T.all (by decide +kernel) (qa_cons (qe_comp (N := ["sign"]) (σ0 := capSt 1 []) rfl (cscope_fn rfl (by decide +kernel) (by decide +kernel) (by decide +kernel)) (qi_anyK K (qv 0)) (takes_in rfl (by rfl)) (fun _ _ _ _ => qg_name (i := 0) nd_is_name_1 rfl (Or.inl rfl)) (fun _ _ _ _ => qts_nil) (fun _ _ _ _ => qe_cmpR (k_in K) (qv 0) (qe_gl G_NAME_SIGNS) (by rfl))) qa_nil)) (qe_one (qe_cmpR (k_notin K) (qv 0) (qe_gl G_WORDS_NO_NAMES) (by rfl)))))), ?_⟩
  have bg := big
  walk_at "r"
  refine s_isiN ht (by simp) ?_
  walk_at "r"
  cases h1 : kitT t "str" with
  | false =>
   have e : nameV v = false := by cases ht <;> first | rfl | (cases h1)
   walk_at "r"
   rw [e] at q
   exact q H (Same.refl H)
  | true =>
   obtain ⟨z, rfl, hz⟩ : ∃ z, v = .str z ∧ z.length ≤ 1000 := by
    cases ht <;> first | exact ⟨_, rfl, by assumption⟩ | (cases h1)
   walk_at "r"
   refine s_len_str (by omega) ?_
   walk_at "r"
   have e : nameV (.str z) = (decide (1 ≤ z.length) && decide (z.length ≤ 8) && allIn z LET && !isIn z W9) := rfl
   rw [e] at q
   refine ite2 (fun h => ?_) (fun h => ?_)
   ·have l1 : 1 ≤ z.length := by have := of_decide_eq_true h; omega
    walk_at "r"
    refine ite2 (fun h' => ?_) (fun h' => ?_)
    ·have l2 : ¬ z.length ≤ 8 := fun x => by simp at h'; omega
     walk_at "r"
     have := q H (Same.refl H)
     rw [decide_eq_false l2, Bool.and_false, Bool.false_and, Bool.false_and] at this
     exact this
    ·have l2 : z.length ≤ 8 := by simp at h'; omega
     walk_at "r"
     refine .inr (.inr ⟨z, rfl, fun D hD => ?_⟩)
     refine comp_str (z := z) (Pv := fun i ys σ' H' => ∃ sv, σ' = [sv] ∧ ys = ((z.cps.toList.take i).map fun c => decide (c ∈ LET.cps.toList)).map V.bl ∧ Same H H') ⟨none, rfl, rfl, Same.upd hD⟩ ?_ ?_
     ·rintro i c ys σ' H' hc hys ⟨sv, rfl, rfl, hH⟩
      walk_at "r"
      have hi := take_lt hc
      refine .inr ⟨c, LET, rfl, rfl, ?_⟩
      refine ⟨_, hys, by rw [List.length_map, List.length_map, List.length_take]; omega, _, upd_same, _, rfl, ?_, hH.over hD⟩
      rw [take_snoc hc, List.map_append, List.map_append]
      rfl
     ·rintro ys σ' H' hys ⟨sv, rfl, rfl, hH⟩
      walk_at "r"
      refine ⟨D, _, rfl, SqL.of hys, ?_⟩
      rw [all_take]
      have en : allIn z LET = (z.cps.toList.all fun c => decide (c ∈ LET.cps.toList)) := rfl
      rw [← en]
      have q' := q H' hH
      rw [decide_eq_true l1, decide_eq_true l2, Bool.true_and, Bool.true_and] at q'
      walk_at "r"
      refine ite2 (fun hA => ?_) (fun hA => ?_)
      ·walk_at "r"
       refine s_in_seq (.inr (h9 _)) rfl flat_strs ?_
       rw [hA, Bool.true_and] at q'
       rw [if_pos rfl, in_strs]
       exact q'
      ·have hA : allIn z LET = false := by simpa using hA
       rw [hA, Bool.false_and] at q'
       exact q'
   ·have l1 : ¬ 1 ≤ z.length := fun x => h (decide_eq_true (by omega))
    walk_at "r"
    have := q H (Same.refl H)
    rw [decide_eq_false l1, Bool.false_and, Bool.false_and, Bool.false_and] at this
    exact this
theorem str_len (t : Str) : t.cps.toList.length = t.length := by simp [Str.length]
theorem head_at {t : Str} {c : Nat} (h : atI t.cps.toList 0 = some c) : t.cps.toList.head? = some c := by
 obtain ⟨j, h1, h2, h3, _⟩ := atI_get h
 have : j = 0 := by
  unfold atI ixN at h
  rw [seqIndex_of (by decide) (by omega)] at h1
  have := Option.some.inj h1
  omega
 subst this
 rw [List.head?_eq_getElem?]
 exact h2
theorem first_at {t : Str} (h : 1 ≤ t.length) : ∃ c, atI t.cps.toList 0 = some c := by
 obtain ⟨c, h1, _⟩ := atI_in (xs := t.cps.toList) (i := 0) (by decide) (by rw [str_len]; omega)
 exact ⟨c, h1⟩
theorem zero_eq (c : Nat) : decide (V.str ⟨#[c]⟩ = V.str ("0" : Str)) = (some c == some 48) := by
 have e : ("0" : Str) = ⟨#[48]⟩ := by decide +kernel
 rw [e, Bool.eq_iff_iff]
 simp
theorem str_dec (t u : Str) : decide (V.str t = V.str u) = (t == u) := by
 rw [Bool.eq_iff_iff]
 simp
noncomputable def sp_fig : Sp := fun vs H Q _ => ∃ z : Str, vs = [.str z] ∧ z.length ≤ 1000 ∧ ∀ H', Same H H' → Q (.bl (figB z)) H'
theorem nd_is_figures_1 : (["sign"] : List Str).Nodup := by decide +kernel
theorem sc_is_figures : FnScope ["text"] ["text"] (defScope s_is_figures) := ⟨rfl, rfl, rfl, by decide +kernel, rfl, by decide +kernel, by decide +kernel⟩
theorem ok_fig {f : Addr} {fd : FuncData} (F : Fun K "is_figures" "is_figures" s_is_figures f fd) (T : Txt K mg) (G : Gs P w K mg) : FnOk P w K mg base CX0 1 f fd ["text"] sp_fig := by
 refine F.okq sc_is_figures (fun vs H Q E h => ?_) (fun cdv A outer s H vs Q E hr h => ?_)
 ·obtain ⟨v, rfl, _⟩ := h
  rfl
 ·obtain ⟨z, rfl, hz, q⟩ := h
  have G_FIGURES := G.fg
  refine ⟨_, qss_cons (qs_if (QW.qt (qw_or (qt_not (qt_chain op_leA op_leA (qe_int) (qe_callB (k_len K) (by rfl) T.len (by decide +kernel) (qa_cons (qv 0) qa_nil)) (qe_int))) (qw_or1 (qt_not (qt_val (qe_callB (k_all K rfl) (by rfl) T.all (by decide +kernel) (qa_cons (qe_comp (N := ["sign"]) (σ0 := capSt 1 []) rfl (cscope_fn rfl (by decide +kernel) (by decide +kernel) (by decide +kernel)) (qi_anyK K (qv 0)) (takes_in rfl (by rfl)) (fun _ _ _ _ => qg_name (i := 0) nd_is_figures_1 rfl (Or.inl rfl)) (fun _ _ _ _ => qts_nil) (fun _ _ _ _ => qe_cmpR (k_in K) (qv 0) (qe_gl G_FIGURES) (by rfl))) qa_nil))))))) (qss_one (qs_ret (qe_bl))) (qss_nil))
   (qss_one (qs_ret (qe_or (qe_cmpR (k_eq K hr.u200) (qv 0) (qe_str) (nomark _)) (qe_one (qe_cmpR (k_ne K hr.u200) (qe_ix (k_ix K) (qv 0) (qe_int) (fun _ _ => rfl)) (qe_str) (nomark _)))))), ?_⟩
  have bg := big
  have e : figB z = (decide (1 ≤ z.length) && decide (z.length ≤ 18) && allIn z DIG && (z == ("0" : Str) || !hd0 z)) := rfl
  rw [e] at q
  walk_at "r"
  refine s_len_str (by omega) ?_
  walk_at "r"
  refine ite2 (fun h => ?_) (fun h => ?_)
  ·have l1 : 1 ≤ z.length := by have := of_decide_eq_true h; omega
   walk_at "r"
   refine ite2 (fun h' => ?_) (fun h' => ?_)
   ·have l2 : ¬ z.length ≤ 18 := fun x => by simp at h'; omega
    walk_at "r"
    have := q H (Same.refl H)
    rw [decide_eq_false l2, Bool.and_false, Bool.false_and, Bool.false_and] at this
    exact this
   ·have l2 : z.length ≤ 18 := by simp at h'; omega
    walk_at "r"
    refine .inr (.inr ⟨z, rfl, fun D hD => ?_⟩)
    refine comp_str (z := z) (Pv := fun i ys σ' H' => ∃ sv, σ' = [sv] ∧ ys = ((z.cps.toList.take i).map fun c => decide (c ∈ DIG.cps.toList)).map V.bl ∧ Same H H') ⟨none, rfl, rfl, Same.upd hD⟩ ?_ ?_
    ·rintro i c ys σ' H' hc hys ⟨sv, rfl, rfl, hH⟩
     walk_at "r"
     have hi := take_lt hc
     refine .inr ⟨c, DIG, rfl, rfl, ?_⟩
     refine ⟨_, hys, by rw [List.length_map, List.length_map, List.length_take]; omega, _, upd_same, _, rfl, ?_, hH.over hD⟩
     rw [take_snoc hc, List.map_append, List.map_append]
     rfl
    ·rintro ys σ' H' hys ⟨sv, rfl, rfl, hH⟩
     walk_at "r"
     refine ⟨D, _, rfl, SqL.of hys, ?_⟩
     rw [all_take]
     have en : allIn z DIG = (z.cps.toList.all fun c => decide (c ∈ DIG.cps.toList)) := rfl
     rw [← en]
     have q' := q H' hH
     rw [decide_eq_true l1, decide_eq_true l2, Bool.true_and, Bool.true_and] at q'
     walk_at "r"
     refine ite2 (fun hA => ?_) (fun hA => ?_)
     ·have hA : allIn z DIG = false := by simpa using hA
      rw [hA, Bool.false_and] at q'
      walk_at "r"
      exact q'
     ·have hA : allIn z DIG = true := by simpa using hA
      rw [hA, Bool.true_and] at q'
      walk_at "r"
      rw [str_dec]
      refine ite2 (fun hz => ?_) (fun hz => ?_)
      ·rw [hz, Bool.true_or] at q'
       exact q'
      ·have hz : (z == ("0" : Str)) = false := by simpa using hz
       rw [hz, Bool.false_or] at q'
       walk_at "r"
       obtain ⟨c, hc⟩ := first_at l1
       refine s_ix_str (by omega) hc ?_
       refine s_ne rfl ?_
       rw [zero_eq]
       have : hd0 z = (some c == some 48) := by
        unfold hd0
        rw [head_at hc]
       rw [← this]
       exact q'
  ·have l1 : ¬ 1 ≤ z.length := fun x => h (decide_eq_true (by omega))
   walk_at "r"
   have := q H (Same.refl H)
   rw [decide_eq_false l1, Bool.false_and, Bool.false_and, Bool.false_and] at this
   exact this
noncomputable def sp_osign : Sp := fun vs H Q _ => ∃ c : Nat, vs = [.str ⟨#[c]⟩] ∧ Q (.bl (oddC c)) H
theorem sc_is_odd_sign : FnScope ["sign"] ["sign"] (defScope s_is_odd_sign) := ⟨rfl, rfl, rfl, by decide +kernel, rfl, by decide +kernel, by decide +kernel⟩
theorem ll1 (a b : Nat) : decide ([a] < [b]) = decide (a < b) := by
 by_cases h : a < b
 ·rw [decide_eq_true h]
  exact decide_eq_true (List.Lex.rel h)
 ·rw [decide_eq_false h]
  refine decide_eq_false fun e => ?_
  cases e with
  | rel e => exact h e
  | cons e => cases e
theorem le_first (c : Nat) : (!decide ((⟨#[c]⟩ : Str).cps.toList < ("!" : Str).cps.toList)) = decide (33 ≤ c) := by
 have e : ("!" : Str).cps.toList = [33] := by decide +kernel
 have e2 : (⟨#[c]⟩ : Str).cps.toList = [c] := rfl
 rw [e, e2, ll1, Bool.eq_iff_iff]
 simp
theorem le_last (c : Nat) : (!decide (("~" : Str).cps.toList < (⟨#[c]⟩ : Str).cps.toList)) = decide (c ≤ 126) := by
 have e : ("~" : Str).cps.toList = [126] := by decide +kernel
 have e2 : (⟨#[c]⟩ : Str).cps.toList = [c] := rfl
 rw [e, e2, ll1, Bool.eq_iff_iff]
 simp
theorem ok_osign {f : Addr} {fd : FuncData} (F : Fun K "is_odd_sign" "is_odd_sign" s_is_odd_sign f fd) (T : Txt K mg) : FnOk P w K mg base CX0 1 f fd ["sign"] sp_osign := by
 refine F.okq sc_is_odd_sign (fun vs H Q E h => ?_) (fun cdv A outer s H vs Q E hr h => ?_)
 ·obtain ⟨v, rfl, _⟩ := h
  rfl
 ·obtain ⟨c, rfl, q⟩ := h
  refine ⟨_, qss_one (qs_ret (qe_and (qe_chain op_leA op_leA (qe_str) (qv 0) (qe_str)) (qe_one (qe_cmpR (k_notin K) (qv 0) (qe_str) (by rfl))))), ?_⟩
  walk_at "r"
  have e : oddC c = (decide (33 ≤ c) && decide (c ≤ 126) && !decide (c ∈ BR.cps.toList)) := rfl
  rw [e] at q
  refine .inr ⟨_, _, rfl, rfl, _, rfl, ?_⟩
  rw [le_first]
  refine ite2 (fun h => ?_) (fun h => ?_)
  ·rw [h, Bool.true_and] at q
   walk_at "r"
   refine .inr ⟨_, _, rfl, rfl, _, rfl, ?_⟩
   rw [le_last]
   refine ite2 (fun h => ?_) (fun h => ?_)
   ·rw [h, Bool.true_and] at q
    walk_at "r"
    exact .inr ⟨c, BR, rfl, rfl, q⟩
   ·have h : decide (c ≤ 126) = false := by simpa using h
    rw [h, Bool.false_and] at q
    exact q
  ·have h : decide (33 ≤ c) = false := by simpa using h
   rw [h, Bool.false_and, Bool.false_and] at q
   exact ⟨_, rfl, iteF q⟩
noncomputable def sp_odd (K : W.Frag) : Sp := fun vs H Q _ => ∃ v, vs = [v] ∧ Has K H v ∧ ∀ H', Same H H' → Q (.bl (oddV v)) H'
theorem nd_is_odd_1 : (["sign"] : List Str).Nodup := by decide +kernel
theorem sc_is_odd : FnScope ["thing"] ["thing"] (defScope s_is_odd) := ⟨rfl, rfl, rfl, by decide +kernel, rfl, by decide +kernel, by decide +kernel⟩
theorem ok_odd {f : Addr} {fd : FuncData} (F : Fun K "is_odd" "is_odd" s_is_odd f fd) (T : Txt K mg) (G : Gs P w K mg) (C_is_odd_sign : Callee P w K mg base 1 "is_odd_sign" ["sign"] sp_osign) (C_is_name : Callee P w K mg base 1 "is_name" ["thing"] (sp_name K)) (C_is_figures : Callee P w K mg base 1 "is_figures" ["text"] sp_fig) : FnOk P w K mg base CX0 2 f fd ["thing"] (sp_odd K) := by
 refine F.okq sc_is_odd (fun vs H Q E h => ?_) (fun cdv A outer s H vs Q E hr h => ?_)
 ·obtain ⟨v, rfl, _⟩ := h
  rfl
 ·obtain ⟨v, rfl, ⟨t, ht⟩, q⟩ := h
  obtain ⟨a10, G_WORDS_NOT_ODD, h10⟩ := G.w10
  refine ⟨_, qss_cons (qs_if (QW.qt (qw_or (qt_not (qt_val (qe_callB (k_isi K "str") (by rfl) T.isinstance (by decide +kernel) (qa_cons (qv 0) (qa_cons (qe_bltn (v := .ty "str") (by rfl) T.str (by decide +kernel) rfl) qa_nil))))) (qw_or1 (qt_not (qt_chain op_leA op_leA (qe_int) (qe_callB (k_len K) (by rfl) T.len (by decide +kernel) (qa_cons (qv 0) qa_nil)) (qe_int)))))) (qss_one (qs_ret (qe_bl))) (qss_nil))
   (qss_cons (qs_if (qt_not (qt_val (qe_callB (k_all K rfl) (by rfl) T.all (by decide +kernel) (qa_cons (qe_comp (N := ["sign"]) (σ0 := capSt 1 []) rfl (cscope_fn rfl (by decide +kernel) (by decide +kernel) (by decide +kernel)) (qi_anyK K (qv 0)) (takes_in rfl (by rfl)) (fun _ _ _ _ => qg_name (i := 0) nd_is_odd_1 rfl (Or.inl rfl)) (fun _ _ _ _ => qts_nil) (fun _ _ _ _ => qe_fn C_is_odd_sign (hr.mono (by decide)) (qa_cons (qv 0) qa_nil))) qa_nil)))) (qss_one (qs_ret (qe_bl))) (qss_nil))
   (qss_one (qs_ret (qe_and (qe_not (qe_fn C_is_name (hr.mono (by decide)) (qa_cons (qv 0) qa_nil))) (qe_and (qe_cmpR (k_notin K) (qv 0) (qe_gl G_WORDS_NOT_ODD) (by rfl)) (qe_one (qe_not (qe_fn C_is_figures (hr.mono (by decide)) (qa_cons (qv 0) qa_nil))))))))), ?_⟩
  have bg := big
  walk_at "r"
  refine s_isiN ht (by simp) ?_
  walk_at "r"
  cases h1 : kitT t "str" with
  | false =>
   have e : oddV v = false := by cases ht <;> first | rfl | (cases h1)
   walk_at "r"
   rw [e] at q
   exact q H (Same.refl H)
  | true =>
   obtain ⟨z, rfl, hz⟩ : ∃ z, v = .str z ∧ z.length ≤ 1000 := by
    cases ht <;> first | exact ⟨_, rfl, by assumption⟩ | (cases h1)
   walk_at "r"
   refine s_len_str (by omega) ?_
   walk_at "r"
   have e : oddV (.str z) = (decide (1 ≤ z.length) && decide (z.length ≤ 60) && z.cps.toList.all oddC && !nameB z && !isIn z W10 && !figB z) := rfl
   rw [e] at q
   refine ite2 (fun h => ?_) (fun h => ?_)
   ·have l1 : 1 ≤ z.length := by have := of_decide_eq_true h; omega
    walk_at "r"
    refine ite2 (fun h' => ?_) (fun h' => ?_)
    ·have l2 : ¬ z.length ≤ 60 := fun x => by simp at h'; omega
     walk_at "r"
     have := q H (Same.refl H)
     rw [decide_eq_false l2, Bool.and_false] at this
     exact this
    ·have l2 : z.length ≤ 60 := by simp at h'; omega
     walk_at "r"
     refine .inr (.inr ⟨z, rfl, fun D hD => ?_⟩)
     refine comp_str (z := z) (Pv := fun i ys σ' H' => ∃ sv, σ' = [sv] ∧ ys = ((z.cps.toList.take i).map oddC).map V.bl ∧ Same H H') ⟨none, rfl, rfl, Same.upd hD⟩ ?_ ?_
     ·rintro i c ys σ' H' hc hys ⟨sv, rfl, rfl, hH⟩
      walk_at "r"
      have hi := take_lt hc
      refine ⟨c, rfl, ?_⟩
      refine ⟨_, hys, by rw [List.length_map, List.length_map, List.length_take]; omega, _, upd_same, _, rfl, ?_, hH.over hD⟩
      rw [take_snoc hc, List.map_append, List.map_append]
      rfl
     ·rintro ys σ' H' hys ⟨sv, rfl, rfl, hH⟩
      walk_at "r"
      refine ⟨D, _, rfl, SqL.of hys, ?_⟩
      rw [all_take]
      rw [decide_eq_true l1, decide_eq_true l2, Bool.true_and, Bool.true_and] at q
      walk_at "r"
      refine ite2 (fun hA => ?_) (fun hA => ?_)
      ·have hA : z.cps.toList.all oddC = false := by simpa using hA
       rw [hA] at q
       walk_at "r"
       exact q H' hH
      ·have hA : z.cps.toList.all oddC = true := by simpa using hA
       rw [hA, Bool.true_and] at q
       walk_at "r"
       refine ⟨_, rfl, ⟨_, .str z hz⟩, fun H2 s2 => ?_⟩
       walk_at "r"
       show if (!nameB z) = true then _ else _
       refine ite2 (fun hN => ?_) (fun hN => ?_)
       ·rw [hN, Bool.true_and] at q
        walk_at "r"
        refine s_in_seq (.inr (h10 _)) rfl flat_strs ?_
        rw [if_pos rfl, in_strs]
        walk_at "r"
        refine ite2 (fun hW => ?_) (fun hW => ?_)
        ·rw [hW, Bool.true_and] at q
         walk_at "r"
         refine ⟨_, rfl, hz, fun H3 s3 => ?_⟩
         walk_at "r"
         exact q H3 ((hH.trans s2).trans s3)
        ·have hW : (!isIn z W10) = false := by simpa using hW
         rw [hW] at q
         exact q H2 (hH.trans s2)
       ·have hN : (!nameB z) = false := by simpa using hN
        rw [hN] at q
        exact q H2 (hH.trans s2)
   ·have l1 : ¬ 1 ≤ z.length := fun x => h (decide_eq_true (by omega))
    walk_at "r"
    have := q H (Same.refl H)
    rw [decide_eq_false l1] at this
    exact this
noncomputable def sp_word (K : W.Frag) : Sp := fun vs H Q _ => ∃ v, vs = [v] ∧ Has K H v ∧ Q (.bl (wordV v)) H
theorem sc_is_word : FnScope ["thing"] ["thing"] (defScope s_is_word) := ⟨rfl, rfl, rfl, by decide +kernel, rfl, by decide +kernel, by decide +kernel⟩
theorem ok_word {f : Addr} {fd : FuncData} (F : Fun K "is_word" "is_word" s_is_word f fd) (T : Txt K mg) (G : Gs P w K mg) : FnOk P w K mg base CX0 1 f fd ["thing"] (sp_word K) := by
 refine F.okq sc_is_word (fun vs H Q E h => ?_) (fun cdv A outer s H vs Q E hr h => ?_)
 ·obtain ⟨v, rfl, _⟩ := h
  rfl
 ·obtain ⟨v, rfl, ⟨t, ht⟩, q⟩ := h
  obtain ⟨ap, G_PARTS_OF_WORDS, hp⟩ := G.pw
  refine ⟨_, qss_one (qs_ret (qe_and (qe_callB (k_isi K "str") (by rfl) T.isinstance (by decide +kernel) (qa_cons (qv 0) (qa_cons (qe_bltn (v := .ty "str") (by rfl) T.str (by decide +kernel) rfl) qa_nil))) (qe_one (qe_cmpR (k_inD P w K) (qv 0) (qe_gl G_PARTS_OF_WORDS) (by rfl))))), ?_⟩
  walk_at "r"
  refine s_isiN ht (by simp) ?_
  walk_at "r"
  cases h1 : kitT t "str" with
  | false =>
   have e : wordV v = false := by cases ht <;> first | rfl | (cases h1)
   rw [e] at q
   exact iteF q
  | true =>
   obtain ⟨z, rfl, hz⟩ : ∃ z, v = .str z ∧ z.length ≤ 1000 := by
    cases ht <;> first | exact ⟨_, rfl, by assumption⟩ | (cases h1)
   walk_at "r"
   refine ⟨z, ap, PARTS, rfl, rfl, hp, ?_⟩
   rw [parts_eq, Option.isSome_map]
   exact q
inductive Nt where
 | fl (v : V)
 | tp (xs : List V)
 | ot
noncomputable def NtAt (K : W.Frag) (H : Hp) (v : V) : Nt → Prop
 | .fl u => v = u ∧ ∃ t, TyN K H u t ∧ kitT t "tuple" = false
 | .tp xs => ∃ a, v = .ref a ∧ SqT K H a xs ∧ ∀ x ∈ xs, Has K H x
 | .ot => ∃ a t, v = .ref a ∧ TyN K H v t ∧ kitT t "tuple" = false
theorem NtAt.same {K : W.Frag} {H H' : Hp} {v : V} {n : Nt} (h : NtAt K H v n) (e : Same H H') : NtAt K H' v n := by
 cases n with
 | fl u => obtain ⟨h1, t, h2, h3⟩ := h; exact ⟨h1, t, h2.same e, h3⟩
 | tp xs => obtain ⟨a, h1, h2, h3⟩ := h; exact ⟨a, h1, e.t.tup h2, fun x hx => (h3 x hx).same e⟩
 | ot => obtain ⟨a, t, h1, h2, h3⟩ := h; exact ⟨a, t, h1, h2.same e, h3⟩
theorem NtAt.has {K : W.Frag} {H : Hp} {v : V} {n : Nt} (h : NtAt K H v n) : Has K H v := by
 cases n with
 | fl u => obtain ⟨rfl, t, h2, h3⟩ := h; exact ⟨t, h2⟩
 | tp xs => obtain ⟨a, rfl, h2, h3⟩ := h; exact ⟨_, .tup h2⟩
 | ot => obtain ⟨a, t, rfl, h2, h3⟩ := h; exact ⟨t, h2⟩
noncomputable def twoN : Nt → Bool
 | .tp [x, y] => nameV x && nameV y
 | _ => false
noncomputable def sp_two (K : W.Frag) : Sp := fun vs H Q _ => ∃ v n, vs = [v] ∧ NtAt K H v n ∧ ∀ H', Same H H' → Q (.bl (twoN n)) H'
theorem sc_is_two_names : FnScope ["thing"] ["thing"] (defScope s_is_two_names) := ⟨rfl, rfl, rfl, by decide +kernel, rfl, by decide +kernel, by decide +kernel⟩
theorem ok_two {f : Addr} {fd : FuncData} (F : Fun K "is_two_names" "is_two_names" s_is_two_names f fd) (T : Txt K mg) (C_is_name : Callee P w K mg base 1 "is_name" ["thing"] (sp_name K)) : FnOk P w K mg base CX0 2 f fd ["thing"] (sp_two K) := by
 refine F.okq sc_is_two_names (fun vs H Q E h => ?_) (fun cdv A outer s H vs Q E hr h => ?_)
 ·obtain ⟨v, n, rfl, _⟩ := h
  rfl
 ·obtain ⟨v, n, rfl, hn, q⟩ := h
  refine ⟨_, qss_one (qs_ret (qe_and (qe_callB (k_isi K "tuple") (by rfl) T.isinstance (by decide +kernel) (qa_cons (qv 0) (qa_cons (qe_bltn (v := .ty "tuple") (by rfl) T.tuple (by decide +kernel) rfl) qa_nil))) (qe_and (qe_cmpR (k_eq K hr.u200) (qe_callB (k_len K) (by rfl) T.len (by decide +kernel) (qa_cons (qv 0) qa_nil)) (qe_int) (nomark _)) (qe_and (qe_fn C_is_name (hr.mono (by decide)) (qa_cons (qe_ix (k_ix K) (qv 0) (qe_int) (fun _ _ => rfl)) qa_nil)) (qe_one (qe_fn C_is_name (hr.mono (by decide)) (qa_cons (qe_ix (k_ix K) (qv 0) (qe_int) (fun _ _ => rfl)) qa_nil))))))), ?_⟩
  walk_at "r"
  have no : ∀ t, TyN K H v t → kitT t "tuple" = false → twoN n = false → rIsi K "tuple" [v, .ty "tuple"] H fun x H1 => ∃ k, x = .bl k ∧ if k = true then (tAndV (tOp (rEqA K) (tCB (rLen K) (tCons (tVar 0) tNil)) (tC (.int 2))) (tAndV (tCall (sp_name K) [] E (tCons (tOp (rIx K) (tVar 0) (tC (.int 0))) tNil)) (tCall (sp_name K) [] E (tCons (tOp (rIx K) (tVar 0) (tC (.int 1))) tNil)))) (L2.start ["thing"] [v]) H1 Q else Q (.bl false) H1 := by
   intro t ht hk h2
   refine s_isiN ht (by simp) ⟨_, rfl, ?_⟩
   rw [hk]
   have := q H (Same.refl H)
   rw [h2] at this
   exact iteF this
  cases n with
  | fl u =>
   obtain ⟨rfl, t, ht, hk⟩ := hn
   exact no t ht hk rfl
  | ot =>
   obtain ⟨a, t, rfl, ht, hk⟩ := hn
   exact no t ht hk rfl
  | tp xs =>
   obtain ⟨a, rfl, hq, hx⟩ := hn
   refine s_isiN (.tup hq) (by simp) ?_
   show ∃ k, V.bl true = V.bl k ∧ _
   walk_at "r"
   refine s_len_tup hq ?_
   walk_at "r"
   match xs, hq, hx, q with
   | [x, y], hq, hx, q =>
    refine iteT ?_
    walk_at "r"
    refine s_ix_tup hq (v := x) rfl ?_
    walk_at "r"
    refine ⟨_, rfl, hx x (by simp), fun H1 s1 => ?_⟩
    have e : twoN (.tp [x, y]) = (nameV x && nameV y) := rfl
    rw [e] at q
    walk_at "r"
    refine ite2 (fun h => ?_) (fun h => ?_)
    ·rw [h, Bool.true_and] at q
     walk_at "r"
     refine s_ix_tup (s1.t.tup hq) (v := y) rfl ?_
     walk_at "r"
     exact ⟨_, rfl, (hx y (by simp)).same s1, fun H2 s2 => q H2 (s1.trans s2)⟩
    ·have h : nameV x = false := by simpa using h
     rw [h, Bool.false_and] at q
     exact q H1 s1
   | [], hq, hx, q => exact iteF (q H (Same.refl H))
   | [x], hq, hx, q => exact iteF (q H (Same.refl H))
   | x :: y :: z :: r, hq, hx, q =>
    refine ite2 (fun h => ?_) (fun h => q H (Same.refl H))
    have := of_decide_eq_true h
    have h2 : (((x :: y :: z :: r).length : Nat) : Int) = 2 := V.int.inj this
    simp only [List.length_cons] at h2
    omega
noncomputable def nameN : Nt → Bool
 | .fl v => nameV v
 | _ => false
noncomputable def oddN : Nt → Bool
 | .fl v => oddV v
 | _ => false
noncomputable def numN : Nt → Bool
 | .fl (.int i) => decide (0 ≤ i) && decide (i < 10 ^ 18)
 | _ => false
noncomputable def truthN : Nt → Bool
 | .fl (.bl _) => true
 | _ => false
noncomputable def nonN : Nt → Bool
 | .fl .non => true
 | _ => false
noncomputable def noteB (wd : Str) (n : Nt) : Bool :=
 if wd = "odd" then oddN n else if wd = "num" then numN n else if wd = "truth" then truthN n else if wd ∈ (["name", "fn", "let"] : List Str) then nameN n else if wd = "rec" then twoN n else nonN n
theorem NtAt.name {K : W.Frag} {H : Hp} {v : V} {n : Nt} (h : NtAt K H v n) : nameV v = nameN n ∧ oddV v = oddN n ∧ (wholeV v = true ↔ ∃ i, v = .int i ∧ n = .fl (.int i)) ∧ (decide (v = .bl true) || decide (v = .bl false)) = truthN n ∧ decide (v = .non) = nonN n := by
 cases n with
 | fl u =>
  obtain ⟨rfl, t, h2, h3⟩ := h
  cases h2 <;> first | (exact ⟨rfl, rfl, by simp [wholeV], rfl, rfl⟩) | (exact ⟨rfl, rfl, by simp [wholeV], by decide, rfl⟩) | skip
  rename_i b
  exact ⟨rfl, rfl, by simp [wholeV], by cases b <;> rfl, rfl⟩
 | tp xs =>
  obtain ⟨a, rfl, h2, h3⟩ := h
  exact ⟨rfl, rfl, by simp [wholeV], rfl, rfl⟩
 | ot =>
  obtain ⟨a, t, rfl, h2, h3⟩ := h
  exact ⟨rfl, rfl, by simp [wholeV], rfl, rfl⟩
theorem dec_str (a b : Str) : decide (V.str a = V.str b) = decide (a = b) := by
 by_cases h : a = b
 ·simp [h]
 ·simp [h]
noncomputable def sp_note (K : W.Frag) : Sp := fun vs H Q _ => ∃ wd v n, vs = [.str wd, v] ∧ NtAt K H v n ∧ ∀ H', Same H H' → Q (.bl (noteB wd n)) H'
theorem sc_is_note : FnScope ["word", "note"] ["word", "note"] (defScope s_is_note) := ⟨rfl, rfl, rfl, by decide +kernel, rfl, by decide +kernel, by decide +kernel⟩
theorem ok_note {f : Addr} {fd : FuncData} (F : Fun K "is_note" "is_note" s_is_note f fd) (T : Txt K mg) (C_is_whole : Callee P w K mg base 1 "is_whole" ["thing"] (sp_whole K)) (C_is_name : Callee P w K mg base 1 "is_name" ["thing"] (sp_name K)) (C_is_odd : Callee P w K mg base 2 "is_odd" ["thing"] (sp_odd K)) (C_is_two_names : Callee P w K mg base 2 "is_two_names" ["thing"] (sp_two K)) : FnOk P w K mg base CX0 3 f fd ["word", "note"] (sp_note K) := by
 refine F.okq sc_is_note (fun vs H Q E h => ?_) (fun cdv A outer s H vs Q E hr h => ?_)
 ·obtain ⟨wd, v, n, rfl, _⟩ := h
  rfl
 ·obtain ⟨wd, v, n, rfl, hn, q⟩ := h
  refine ⟨_, qss_cons (qs_if (qt_cmpR (k_eq K hr.u200) (qv 0) (qe_str) (nomark _)) (qss_one (qs_ret (qe_fn C_is_odd (hr.mono (by decide)) (qa_cons (qv 1) qa_nil)))) (qss_nil))
   (qss_cons (qs_if (qt_cmpR (k_eq K hr.u200) (qv 0) (qe_str) (nomark _)) (qss_one (qs_ret (qe_and (qe_fn C_is_whole (hr.mono (by decide)) (qa_cons (qv 1) qa_nil)) (qe_one (qe_chain op_leA op_ltA (qe_int) (qv 1) (qe_op op_pow (qe_int) (qe_int))))))) (qss_nil))
   (qss_cons (qs_if (qt_cmpR (k_eq K hr.u200) (qv 0) (qe_str) (nomark _)) (qss_one (qs_ret (qe_or (qe_cmpR op_isB (qv 1) (qe_bl) (nomark _)) (qe_one (qe_cmpR op_isB (qv 1) (qe_bl) (nomark _)))))) (qss_nil))
   (qss_cons (qs_if (qt_cmpR (k_in K) (qv 0) (qe_tup (qa_cons (qe_str) (qa_cons (qe_str) (qa_cons (qe_str) qa_nil)))) (by rfl)) (qss_one (qs_ret (qe_fn C_is_name (hr.mono (by decide)) (qa_cons (qv 1) qa_nil)))) (qss_nil))
   (qss_cons (qs_if (qt_cmpR (k_eq K hr.u200) (qv 0) (qe_str) (nomark _)) (qss_one (qs_ret (qe_fn C_is_two_names (hr.mono (by decide)) (qa_cons (qv 1) qa_nil)))) (qss_nil))
   (qss_one (qs_ret (qe_cmp (qc_isN (qv 1))))))))), ?_⟩
  obtain ⟨e1, e2, e3, e4, e5⟩ := hn.name
  unfold noteB at q
  walk_at "r"
  rw [dec_str]
  refine ite2 (fun h => ?_) (fun h => ?_)
  ·rw [if_pos (of_decide_eq_true h), ← e2] at q
   walk_at "r"
   exact ⟨_, rfl, hn.has, q⟩
  rw [if_neg (fun x => h (decide_eq_true x))] at q
  walk_at "r"
  rw [dec_str]
  refine ite2 (fun h => ?_) (fun h => ?_)
  ·rw [if_pos (of_decide_eq_true h)] at q
   walk_at "r"
   refine ⟨_, rfl, hn.has, ?_⟩
   walk_at "r"
   refine ite2 (fun h => ?_) (fun h => ?_)
   ·obtain ⟨i, rfl, rfl⟩ := e3.mp h
    have e : numN (.fl (.int i)) = (decide (0 ≤ i) && decide (i < 10 ^ 18)) := rfl
    rw [e] at q
    walk_at "r"
    refine ite2 (fun h => ?_) (fun h => ?_)
    ·rw [h, Bool.true_and] at q
     walk_at "r"
     exact q H (Same.refl H)
    ·have h : decide (0 ≤ i) = false := by simpa using h
     rw [h, Bool.false_and] at q
     exact q H (Same.refl H)
   ·have e : numN n = false := by
     cases hx : numN n with
     | false => rfl
     | true =>
      cases n with
      | fl u =>
       obtain ⟨rfl, _⟩ := hn
       cases v <;> first | (cases hx) | (exact absurd rfl h)
      | tp xs => cases hx
      | ot => cases hx
    rw [e] at q
    exact q H (Same.refl H)
  rw [if_neg (fun x => h (decide_eq_true x))] at q
  walk_at "r"
  rw [dec_str]
  refine ite2 (fun h => ?_) (fun h => ?_)
  ·rw [if_pos (of_decide_eq_true h), ← e4] at q
   walk_at "r"
   refine ⟨true, rfl, ?_⟩
   walk_at "r"
   refine ite2 (fun h => ?_) (fun h => ?_)
   ·rw [h, Bool.true_or] at q
    exact q H (Same.refl H)
   ·have h : decide (v = .bl true) = false := by simpa using h
    rw [h, Bool.false_or] at q
    walk_at "r"
    exact ⟨false, rfl, q H (Same.refl H)⟩
  rw [if_neg (fun x => h (decide_eq_true x))] at q
  walk_at "r"
  refine ⟨by show 3 ≤ sizeLine; decide, fun p hp => ?_⟩
  refine s_in_seq (.inr (SqT.of upd_same)) rfl rfl ?_
  have sm := Same.upd (o := .tup [.str "name", .str "fn", .str "let"]) hp
  have em : inV (.str wd) [.str "name", .str "fn", .str "let"] = decide (wd ∈ (["name", "fn", "let"] : List Str)) := by
   have := in_strs (t := wd) (ws := ["name", "fn", "let"])
   rw [show ([V.str "name", V.str "fn", V.str "let"] : List V) = (["name", "fn", "let"] : List Str).map V.str from rfl, this]
   by_cases hm : wd ∈ (["name", "fn", "let"] : List Str)
   ·rw [decide_eq_true hm, mem_isIn hm]
   ·rw [decide_eq_false hm, not_isIn hm]
  rw [if_neg Bool.false_ne_true, em]
  walk_at "r"
  refine ite2 (fun h => ?_) (fun h => ?_)
  ·rw [if_pos (of_decide_eq_true h), ← e1] at q
   walk_at "r"
   exact ⟨_, rfl, hn.has.same sm, fun H' s' => q H' (sm.trans s')⟩
  rw [if_neg (fun x => h (decide_eq_true x))] at q
  walk_at "r"
  rw [dec_str]
  refine ite2 (fun h => ?_) (fun h => ?_)
  ·rw [if_pos (of_decide_eq_true h)] at q
   walk_at "r"
   exact ⟨_, _, rfl, hn.same sm, fun H' s' => q H' (sm.trans s')⟩
  rw [if_neg (fun x => h (decide_eq_true x)), ← e5] at q
  walk_at "r"
  exact q _ sm
inductive TopD (K : W.Frag) (H : Hp) : V → Bool → Prop where
 | kind {v : V} {t : String} (h : TyN K H v t) (hk : kitT t "tuple" = false) : TopD K H v false
 | len {a : Addr} {xs : List V} (q : SqT K H a xs) (h : xs.length ≠ 3) : TopD K H (.ref a) false
 | word {a : Addr} {x n p : V} (q : SqT K H a [x, n, p]) (hx : Has K H x) (h : wordV x = false) : TopD K H (.ref a) false
 | note {a : Addr} {wd : Str} {n p : V} {nt : Nt} (q : SqT K H a [.str wd, n, p]) (hl : wd.length ≤ 1000) (hn : NtAt K H n nt) (h : noteB wd nt = false) : TopD K H (.ref a) false
 | parts {a : Addr} {wd : Str} {n p : V} {nt : Nt} {t : String} (q : SqT K H a [.str wd, n, p]) (hl : wd.length ≤ 1000) (hn : NtAt K H n nt) (hp : TyN K H p t) (h : kitT t "tuple" = false) : TopD K H (.ref a) false
 | many {a p : Addr} {wd : Str} {n : V} {nt : Nt} {vs : List V} (q : SqT K H a [.str wd, n, .ref p]) (hl : wd.length ≤ 1000) (hn : NtAt K H n nt) (qp : SqT K H p vs) : TopD K H (.ref a) ((partsOf wd).isSome && noteB wd nt && decide (partsOf wd = some vs.length))
theorem TopD.same {K : W.Frag} {H H' : Hp} {v : V} {b : Bool} (h : TopD K H v b) (e : Same H H') : TopD K H' v b := by
 cases h with
 | kind h hk => exact .kind (h.same e) hk
 | len q h => exact .len (e.t.tup q) h
 | word q hx h => exact .word (e.t.tup q) (hx.same e) h
 | note q hl hn h => exact .note (e.t.tup q) hl (hn.same e) h
 | parts q hl hn hp h => exact .parts (e.t.tup q) hl (hn.same e) (hp.same e) h
 | many q hl hn qp => exact .many (e.t.tup q) hl (hn.same e) (e.t.tup qp)
noncomputable def sp_top (K : W.Frag) : Sp := fun vs H Q _ => ∃ v b, vs = [v] ∧ TopD K H v b ∧ ∀ H', Same H H' → Q (.bl b) H'
theorem sc_is_top_of_form : FnScope ["thing"] ["thing"] (defScope s_is_top_of_form) := ⟨rfl, rfl, rfl, by decide +kernel, rfl, by decide +kernel, by decide +kernel⟩
theorem ok_top {f : Addr} {fd : FuncData} (F : Fun K "is_top_of_form" "is_top_of_form" s_is_top_of_form f fd) (T : Txt K mg) (G : Gs P w K mg) (C_is_word : Callee P w K mg base 1 "is_word" ["thing"] (sp_word K)) (C_is_note : Callee P w K mg base 3 "is_note" ["word", "note"] (sp_note K)) : FnOk P w K mg base CX0 4 f fd ["thing"] (sp_top K) := by
 refine F.okq sc_is_top_of_form (fun vs H Q E h => ?_) (fun cdv A outer s H vs Q E hr h => ?_)
 ·obtain ⟨v, b, rfl, _⟩ := h
  rfl
 ·obtain ⟨v, b, rfl, hv, q⟩ := h
  obtain ⟨ap, G_PARTS_OF_WORDS, hpw⟩ := G.pw
  refine ⟨_, qss_cons (qs_if (QW.qt (qw_or (qt_not (qt_val (qe_callB (k_isi K "tuple") (by rfl) T.isinstance (by decide +kernel) (qa_cons (qv 0) (qa_cons (qe_bltn (v := .ty "tuple") (by rfl) T.tuple (by decide +kernel) rfl) qa_nil))))) (qw_or1 (qt_cmpR (k_ne K hr.u200) (qe_callB (k_len K) (by rfl) T.len (by decide +kernel) (qa_cons (qv 0) qa_nil)) (qe_int) (nomark _))))) (qss_one (qs_ret (qe_bl))) (qss_nil))
   (qss_cons (qs_if (QW.qt (qw_or (qt_not (qt_val (qe_fn C_is_word (hr.mono (by decide)) (qa_cons (qe_ix (k_ix K) (qv 0) (qe_int) (fun _ _ => rfl)) qa_nil)))) (qw_or1 (qt_not (qt_val (qe_fn C_is_note (hr.mono (by decide)) (qa_cons (qe_ix (k_ix K) (qv 0) (qe_int) (fun _ _ => rfl)) (qa_cons (qe_ix (k_ix K) (qv 0) (qe_int) (fun _ _ => rfl)) qa_nil)))))))) (qss_one (qs_ret (qe_bl))) (qss_nil))
   (qss_one (qs_ret (qe_and (qe_callB (k_isi K "tuple") (by rfl) T.isinstance (by decide +kernel) (qa_cons (qe_ix (k_ix K) (qv 0) (qe_int) (fun _ _ => rfl)) (qa_cons (qe_bltn (v := .ty "tuple") (by rfl) T.tuple (by decide +kernel) rfl) qa_nil))) (qe_one (qe_cmpR (k_eq K hr.u200) (qe_callB (k_len K) (by rfl) T.len (by decide +kernel) (qa_cons (qe_ix (k_ix K) (qv 0) (qe_int) (fun _ _ => rfl)) qa_nil)) (qe_ix (k_ixD P w K) (qe_gl G_PARTS_OF_WORDS) (qe_ix (k_ix K) (qv 0) (qe_int) (fun _ _ => rfl)) (fun _ _ => rfl)) (nomark _))))))), ?_⟩
  walk_at "r"
  have self := q H (Same.refl H)
  cases hv with
  | kind h hk =>
   refine s_isiN h (by simp) ?_
   rw [hk]
   walk_at "r"
   exact self
  | len hq h =>
   refine s_isiN (.tup hq) (by simp) ?_
   show ∃ k, V.bl true = V.bl k ∧ _
   walk_at "r"
   refine s_len_tup hq ?_
   walk_at "r"
   refine ite2 (fun h' => ?_) (fun h' => ?_)
   ·walk_at "r"
    exact self
   ·exfalso
    simp at h'
    omega
  | word hq hx h =>
   refine s_isiN (.tup hq) (by simp) ?_
   show ∃ k, V.bl true = V.bl k ∧ _
   walk_at "r"
   refine s_len_tup hq ?_
   walk_at "r"
   refine iteF ?_
   walk_at "r"
   refine s_ix_tup hq rfl ?_
   walk_at "r"
   refine ⟨_, rfl, hx, ?_⟩
   rw [h]
   walk_at "r"
   exact self
  | @note a wd n p nt hq hl hn h =>
   refine s_isiN (.tup hq) (by simp) ?_
   show ∃ k, V.bl true = V.bl k ∧ _
   walk_at "r"
   refine s_len_tup hq ?_
   walk_at "r"
   refine iteF ?_
   walk_at "r"
   refine s_ix_tup hq rfl ?_
   walk_at "r"
   refine ⟨_, rfl, ⟨_, .str _ hl⟩, ?_⟩
   walk_at "r"
   refine ite2 (fun hw => ?_) (fun hw => ?_)
   ·have hw : (partsOf wd).isSome = false := by simpa [wordV] using hw
    walk_at "r"
    exact self
   have hw : (partsOf wd).isSome = true := by
    cases hz : (partsOf wd).isSome with
    | true => rfl
    | false => exact absurd (show (!wordV (.str wd)) = true by rw [show wordV (.str wd) = (partsOf wd).isSome from rfl, hz]; rfl) hw
   walk_at "r"
   refine s_ix_tup hq rfl ?_
   walk_at "r"
   refine s_ix_tup hq rfl ?_
   walk_at "r"
   refine ⟨_, _, _, rfl, hn, fun H1 s1 => ?_⟩
   walk_at "r"
   refine ite2 (fun hN => ?_) (fun hN => ?_)
   ·have hN : noteB wd nt = false := by simpa using hN
    walk_at "r"
    exact q H1 s1
   have hN : noteB wd nt = true := by simpa using hN
   rw [h] at hN
   cases hN
  | @parts a wd n p nt t hq hl hn hp h =>
   refine s_isiN (.tup hq) (by simp) ?_
   show ∃ k, V.bl true = V.bl k ∧ _
   walk_at "r"
   refine s_len_tup hq ?_
   walk_at "r"
   refine iteF ?_
   walk_at "r"
   refine s_ix_tup hq rfl ?_
   walk_at "r"
   refine ⟨_, rfl, ⟨_, .str _ hl⟩, ?_⟩
   walk_at "r"
   refine ite2 (fun hw => ?_) (fun hw => ?_)
   ·have hw : (partsOf wd).isSome = false := by simpa [wordV] using hw
    walk_at "r"
    exact self
   have hw : (partsOf wd).isSome = true := by
    cases hz : (partsOf wd).isSome with
    | true => rfl
    | false => exact absurd (show (!wordV (.str wd)) = true by rw [show wordV (.str wd) = (partsOf wd).isSome from rfl, hz]; rfl) hw
   walk_at "r"
   refine s_ix_tup hq rfl ?_
   walk_at "r"
   refine s_ix_tup hq rfl ?_
   walk_at "r"
   refine ⟨_, _, _, rfl, hn, fun H1 s1 => ?_⟩
   walk_at "r"
   refine ite2 (fun hN => ?_) (fun hN => ?_)
   ·have hN : noteB wd nt = false := by simpa using hN
    walk_at "r"
    exact q H1 s1
   have hN : noteB wd nt = true := by simpa using hN
   have hq1 := s1.t.tup hq
   walk_at "r"
   refine s_ix_tup hq1 rfl ?_
   walk_at "r"
   refine s_isiN (hp.same s1) (by simp) ?_
   rw [h]
   exact ⟨_, rfl, iteF (q H1 s1)⟩
  | @many a p wd n nt vs hq hl hn qp =>
   refine s_isiN (.tup hq) (by simp) ?_
   show ∃ k, V.bl true = V.bl k ∧ _
   walk_at "r"
   refine s_len_tup hq ?_
   walk_at "r"
   refine iteF ?_
   walk_at "r"
   refine s_ix_tup hq rfl ?_
   walk_at "r"
   refine ⟨_, rfl, ⟨_, .str _ hl⟩, ?_⟩
   walk_at "r"
   refine ite2 (fun hw => ?_) (fun hw => ?_)
   ·have hw : (partsOf wd).isSome = false := by simpa [wordV] using hw
    rw [hw, Bool.false_and, Bool.false_and] at self
    walk_at "r"
    exact self
   have hw : (partsOf wd).isSome = true := by
    cases hz : (partsOf wd).isSome with
    | true => rfl
    | false => exact absurd (show (!wordV (.str wd)) = true by rw [show wordV (.str wd) = (partsOf wd).isSome from rfl, hz]; rfl) hw
   walk_at "r"
   refine s_ix_tup hq rfl ?_
   walk_at "r"
   refine s_ix_tup hq rfl ?_
   walk_at "r"
   refine ⟨_, _, _, rfl, hn, fun H1 s1 => ?_⟩
   walk_at "r"
   refine ite2 (fun hN => ?_) (fun hN => ?_)
   ·have hN : noteB wd nt = false := by simpa using hN
    rw [hN, Bool.and_false, Bool.false_and] at q
    walk_at "r"
    exact q H1 s1
   have hN : noteB wd nt = true := by simpa using hN
   have hq1 := s1.t.tup hq
   walk_at "r"
   refine s_ix_tup hq1 rfl ?_
   walk_at "r"
   have qp1 := s1.t.tup qp
   refine s_isiN (.tup qp1) (by simp) ?_
   show ∃ k, V.bl true = V.bl k ∧ _
   rw [hN, hw, Bool.true_and, Bool.true_and] at q
   walk_at "r"
   refine s_ix_tup hq1 rfl ?_
   walk_at "r"
   refine s_len_tup qp1 ?_
   walk_at "r"
   refine s_ix_tup hq1 rfl ?_
   obtain ⟨m, hm⟩ := Option.isSome_iff_exists.mp hw
   refine ⟨ap, PARTS, wd, .int m, rfl, rfl, hpw, by rw [parts_eq, hm]; rfl, ?_⟩
   refine s_eq rfl ?_
   have e : decide (V.int (vs.length : Int) = V.int (m : Int)) = decide (partsOf wd = some vs.length) := by
    rw [hm]
    by_cases z : m = vs.length
    ·subst z
     simp
    ·rw [decide_eq_false (fun x => z (by have := V.int.inj x; omega)), decide_eq_false (fun x => z (Option.some.inj x))]
   rw [e]
   exact q H1 s1
inductive Fm where
 | bad
 | nd (ts : List Fm)
mutual
noncomputable def Fm.size : Fm → Nat
 | .bad => 1
 | .nd ts => 1 + fsizes ts
noncomputable def fsizes : List Fm → Nat
 | [] => 0
 | t :: r => t.size + fsizes r
end
mutual
noncomputable def Fm.good : Fm → Bool
 | .bad => false
 | .nd ts => goods ts
noncomputable def goods : List Fm → Bool
 | [] => true
 | t :: r => t.good && goods r
end
theorem fsizes_append (a b : List Fm) : fsizes (a ++ b) = fsizes a + fsizes b := by
 induction a with
 | nil => simp [fsizes]
 | cons t r ih => rw [List.cons_append, fsizes, fsizes, ih]; omega
theorem goods_append (a b : List Fm) : goods (a ++ b) = (goods a && goods b) := by
 induction a with
 | nil => simp [goods]
 | cons t r ih => rw [List.cons_append, goods, goods, ih, Bool.and_assoc]
theorem fsizes_len (ts : List Fm) : ts.length ≤ fsizes ts := by
 induction ts with
 | nil => simp [fsizes]
 | cons t r ih =>
  have : 1 ≤ t.size := by cases t <;> rw [Fm.size] <;> omega
  rw [fsizes, List.length_cons]
  omega
inductive FmAt (K : W.Frag) (H : Hp) : V → Fm → Prop where
 | bad {v : V} (h : TopD K H v false) : FmAt K H v .bad
 | nd {a p : Addr} {x n : V} {vs : List V} {ts : List Fm} (q : SqT K H a [x, n, .ref p]) (qp : SqT K H p vs) (h : TopD K H (.ref a) true) (l : vs.length = ts.length)
   (hs : ∀ (j : Nat) (v : V) (t : Fm), vs[j]? = some v → ts[j]? = some t → FmAt K H v t) : FmAt K H (.ref a) (.nd ts)
theorem Al.app {α : Type} {R : V → α → Prop} {vs ws : List V} {xs ys : List α} (h : Al R vs xs) (h' : Al R ws ys) : Al R (vs ++ ws) (xs ++ ys) := by
 refine ⟨by rw [List.length_append, List.length_append, h.1, h'.1], fun j v x e1 e2 => ?_⟩
 by_cases hj : j < vs.length
 ·rw [List.getElem?_append_left hj] at e1
  rw [List.getElem?_append_left (by have := h.1; omega)] at e2
  exact h.2 j v x e1 e2
 ·rw [List.getElem?_append_right (by omega)] at e1
  rw [List.getElem?_append_right (by have := h.1; omega), ← h.1] at e2
  exact h'.2 _ v x e1 e2
noncomputable def sp_form (K : W.Frag) : Sp := fun vs H Q _ => ∃ v t, vs = [v] ∧ FmAt K H v t ∧ t.size ≤ 5000 ∧ ∀ H', Same H H' → Q (.bl t.good) H'
theorem sc_is_form : FnScope ["thing", "waiting", "top"] ["thing"] (defScope s_is_form) := ⟨rfl, rfl, rfl, by decide +kernel, rfl, by decide +kernel, by decide +kernel⟩
noncomputable def FoJ (K : W.Frag) (H : Hp) (v : V) (t : Fm) (pw : Addr) (m : Nat) (σ : St) (H' : Hp) : Prop := ∃ (v2 : Option V) (wv : List V) (fs : List Fm), σ = [some v, some (.ref pw), v2] ∧ H' pw = some (.lst wv) ∧ Al (FmAt K H) wv fs ∧ goods fs = t.good ∧ m = fsizes fs ∧ m ≤ 5000 ∧ Same H H'
theorem ok_form {f : Addr} {fd : FuncData} (F : Fun K "is_form" "is_form" s_is_form f fd) (T : Txt K mg) (C_is_top_of_form : Callee P w K mg base 4 "is_top_of_form" ["thing"] (sp_top K)) : FnOk P w K mg base CX0 5 f fd ["thing"] (sp_form K) := by
 refine F.okq sc_is_form (fun vs H Q E h => ?_) (fun cdv A outer s H vs Q E hr h => ?_)
 ·obtain ⟨v, b, rfl, _⟩ := h
  rfl
 ·obtain ⟨v, t, rfl, ht, hsz, q⟩ := h
  refine ⟨_, qss_cons (qs_set (i := 1) sc_is_form.nd rfl (Or.inl rfl) (qe_lst (qa_cons (qv 0) qa_nil)))
   (qss_cons (qs_while PassesOwn.never (qt_truthK K (qv 1) (by intro _; rfl)) (qss_cons (qs_set (i := 2) sc_is_form.nd rfl (Or.inl rfl) (qe_bm0K K PySem.F.plainAttrs_list PySem.F.slot_list_pop PySem.F.type_list_pop mt_pop (qv 1)))
   (qss_cons (qs_if (qt_not (qt_val (qe_fn C_is_top_of_form (hr.mono (by decide)) (qa_cons (qv 2) qa_nil)))) (qss_one (qs_ret (qe_bl))) (qss_nil))
   (qss_one (qs_expr (qe_bmK K PySem.F.plainAttrs_list PySem.F.slot_list_extend PySem.F.type_list_extend (k_extT K) (qv 1) (qa_cons (qe_ix (k_ix K) (qv 2) (qe_int) (fun _ _ => rfl)) qa_nil)))))))
   (qss_one (qs_ret (qe_bl)))), ?_⟩
  have bg := big
  walk_at "r"
  refine ⟨by show 1 ≤ sizeLine; decide, fun pw hpw => ?_⟩
  walk_at "r"
  refine ⟨FoJ K H v t pw, ⟨_, none, [v], [t], rfl, upd_same, Al.nil.snoc ht, by rw [goods, goods, Bool.and_true], rfl, by rw [fsizes, fsizes]; omega, Same.upd hpw⟩, ?_⟩
  rintro m σ' H' ⟨v2, wv, fs, rfl, ew, al, hg, rfl, hm, sm⟩
  walk_at "r"
  refine s_tru_lst (SqL.of ew) ?_
  by_cases hwv : wv = []
  ·subst hwv
   have hst : fs = [] := List.eq_nil_of_length_eq_zero al.1.symm
   subst hst
   refine iteF ?_
   walk_at "r"
   rw [goods] at hg
   rw [← hg] at q
   exact q H' sm
  obtain ⟨wv', tp, fs', x, rfl, rfl, al3, hx⟩ := al.last hwv
  have hne : (!(wv' ++ [tp]).isEmpty) = true := by simp
  rw [hne]
  refine iteT ?_
  rw [goods_append, goods, goods, Bool.and_true] at hg
  have hsum : fsizes (fs' ++ [x]) = fsizes fs' + x.size := by rw [fsizes_append, fsizes, fsizes]; omega
  refine ⟨fun σ2 H2 => ∃ m', m' < fsizes (fs' ++ [x]) ∧ FoJ K H v t pw m' σ2 H2, fun _ _ h => h, ?_⟩
  walk_at "r"
  refine s_tyL (SqL.of ew) ?_
  refine s_pop ew ?_
  have sm2 : Same H (upd H' pw (.lst wv')) := sm.over hpw
  have ew2 : upd H' pw (.lst wv') pw = some (.lst wv') := upd_same
  revert sm2 ew2
  generalize upd H' pw (.lst wv') = H2
  intro sm2 ew2
  walk_at "r"
  cases hx with
  | bad h =>
   refine ⟨_, _, rfl, h.same sm2, fun H3 s3 => ?_⟩
   rw [Fm.good, Bool.and_false] at hg
   rw [← hg] at q
   walk_at "r"
   exact q H3 (sm2.trans s3)
  | @nd a p x n vs ts hq qp h l hs =>
   refine ⟨_, _, rfl, h.same sm2, fun H3 s3 => ?_⟩
   have sm3 := sm2.trans s3
   have ew3 := s3 _ _ ew2
   walk_at "r"
   refine s_tyL (SqL.of ew3) ?_
   walk_at "r"
   refine s_ix_tup (sm3.t.tup hq) rfl ?_
   have h1 := fsizes_len fs'
   have h2 := fsizes_len ts
   have h3 := al3.1
   rw [Fm.size] at hsum
   refine ⟨pw, p, wv', vs, rfl, rfl, ew3, sm3.t.tup qp, by omega, ?_⟩
   walk_at "r"
   refine ⟨_, ?_, _, wv' ++ vs, fs' ++ ts, rfl, upd_same, Al.app al3 ⟨l, hs⟩, ?_, rfl, ?_, sm3.over hpw⟩
   ·rw [fsizes_append]
    omega
   ·rw [goods_append, ← hg, Fm.good]
   ·rw [fsizes_append]
    omega
noncomputable def sp_cell (K : W.Frag) : Sp := fun vs H Q _ => ∃ (a : Addr) (k : Int), vs = [.ref a, .int k] ∧ Script K H a ∧ 0 ≤ k ∧ ∀ z : Int, Q (.int z) H
theorem sc_law_cell : FnScope ["_law_script", "_law_k", "_law_many_here", "_law_first"] ["_law_script", "_law_k"] (defScope s_law_cell) := ⟨rfl, rfl, rfl, by decide +kernel, rfl, by decide +kernel, by decide +kernel⟩
theorem ok_cell {f : Addr} {fd : FuncData} (F : Fun K "_law_cell" "_law_cell" s_law_cell f fd) (T : Txt K mg) : FnOk P w K mg base CX0 1 f fd ["_law_script", "_law_k"] (sp_cell K) := by
 refine F.okq sc_law_cell (fun vs H Q E h => ?_) (fun cdv A outer s H vs Q E hr h => ?_)
 ·obtain ⟨a, k, rfl, _⟩ := h
  rfl
 ·obtain ⟨a, k, rfl, S, h0, q⟩ := h
  obtain ⟨ns, hS, hl⟩ := S.ex
  refine ⟨_, qss_cons (qs_if (qt_cmpR op_ltA (qv 1) (qe_callB (k_len K) (by rfl) T.len (by decide +kernel) (qa_cons (qv 0) qa_nil)) (nomark _)) (qss_one (qs_ret (qe_ix (k_ix K) (qv 0) (qv 1) (fun _ _ => rfl)))) (qss_nil))
   (qss_cons (qs_set (i := 2) sc_law_cell.nd rfl (Or.inl rfl) (qe_callB (k_len K) (by rfl) T.len (by decide +kernel) (qa_cons (qv 0) qa_nil)))
   (qss_cons (qs_set (i := 3) sc_law_cell.nd rfl (Or.inl rfl) (qe_int))
   (qss_cons (qs_if (qt_cmpR op_gt (qv 2) (qe_int) (nomark _)) (qss_one (qs_set (i := 3) sc_law_cell.nd rfl (Or.inl rfl) (qe_op op_mod (qe_ix (k_ix K) (qv 0) (qe_op op_mod (qv 1) (qv 2)) (fun _ _ => rfl)) (qe_int)))) (qss_nil))
   (qss_one (qs_ret (qe_op op_mod (qe_op (k_add K) (qe_op (k_add K) (qe_op op_mulA (qv 3) (qe_int)) (qe_op op_mulA (qv 2) (qe_int))) (qe_op op_mulA (qv 1) (qe_int))) (qe_int))))))), ?_⟩
  walk_at "r"
  refine s_len_lst hS ?_
  walk_at "r"
  refine ite2 (fun h => ?_) (fun h => ?_)
  ·have h1 : k < (ns.map V.int).length := by simpa using h
   obtain ⟨v, hv, m⟩ := atI_in h0 h1
   obtain ⟨z, _, rfl⟩ := List.mem_map.mp m
   walk_at "r"
   exact s_ix_lst hS hv (q z)
  ·walk_at "r"
   refine s_len_lst hS ?_
   walk_at "r"
   refine ite2 (fun h => ?_) (fun h => ?_)
   ·have hp : (0 : Int) < (ns.map V.int).length := by simpa using h
    obtain ⟨v, hv, m⟩ := atI_in (xs := ns.map V.int) (Int.emod_nonneg k (by omega)) (Int.emod_lt_of_pos k hp)
    obtain ⟨z, _, rfl⟩ := List.mem_map.mp m
    walk_at "r"
    refine s_rI hp ?_
    refine s_ix_lst hS hv ?_
    walk_at "r"
    exact q _
   ·walk_at "r"
    exact q _
theorem lets_len : LET.cps.toList.length = 27 := by decide +kernel
theorem lets_size : LET.length ≤ sizeLine := by decide +kernel
theorem catlen (u v : Str) : (u ++ v).length = u.length + v.length := by
 show (u.cps ++ v.cps).size = _
 simp [Str.length]
theorem one_len (c : Nat) : (⟨#[c]⟩ : Str).length = 1 := rfl
theorem cat_cps (t u : Str) : (t ++ u).cps.toList = t.cps.toList ++ u.cps.toList := by
 show (t.cps ++ u.cps).toList = _
 simp
theorem allIn_cat (t u s : Str) : allIn (t ++ u) s = (allIn t s && allIn u s) := by
 unfold allIn
 rw [cat_cps, List.all_append]
theorem allIn_one {c : Nat} {s : Str} (h : c ∈ s.cps.toList) : allIn ⟨#[c]⟩ s = true := by
 unfold allIn
 simpa using h
theorem w9_lens : W9.all (fun t => decide (t.length ≤ 4)) = true := by decide +kernel
theorem w9_ends : W9.all (fun t => !(t.cps.toList.getLast? == some 95)) = true := by decide +kernel
theorem w9_len {t : Str} (h : t ∈ W9) : t.length ≤ 4 := of_decide_eq_true (List.all_eq_true.mp w9_lens t h)
theorem name_plain {t : Str} (h1 : 1 ≤ t.length) (h2 : t.length ≤ 8) (h3 : allIn t LET = true) (h4 : isIn t W9 = false) : nameB t = true := by
 unfold nameB
 rw [decide_eq_true h1, decide_eq_true h2, h3, h4]
 rfl
theorem name_len {t : Str} (h : nameB t = true) : allIn t LET = true ∧ t.length ≤ 8 := by
 unfold nameB at h
 simp only [Bool.and_eq_true, decide_eq_true_eq] at h
 exact ⟨h.1.2, h.1.1.2⟩
theorem us_codes : ("_" : Str).cps.toList = [95] := by decide +kernel
theorem name_add {t : Str} (h : allIn t LET = true) (hl : t.length + 1 ≤ 8) : nameB (t ++ ("_" : Str)) = true := by
 have l1 : (Str.ofString "_").length = 1 := by decide +kernel
 have la : (t ++ Str.ofString "_").length = t.length + 1 := by rw [catlen, l1]
 refine name_plain (by rw [la]; omega) (by rw [la]; exact hl) ?_ ?_
 ·rw [allIn_cat, h, Bool.true_and]
  decide +kernel
 ·refine not_isIn fun m => ?_
  have := List.all_eq_true.mp w9_ends _ m
  rw [cat_cps, us_codes] at this
  simp at this
noncomputable def sp_names : Sp := fun vs H Q _ => ∃ (a b : Int), vs = [.int a, .int b] ∧ ∀ (p : Addr) (t0 t1 t2 : Str) (H' : Hp), nameB t0 = true → nameB t1 = true → nameB t2 = true → Same H H' → H p = none → H' p = some (.lst [.str t0, .str t1, .str t2]) → Q (.ref p) H'
theorem nd_law_names_1 : (["_law_k", "_law_one"] : List Str).Nodup := by decide +kernel
theorem sc_law_names : FnScope ["_law_one", "_law_other", "_law_letters", "_law_size", "_law_base", "_law_step", "_law_names_here", "_law_j", "_law_name", "_law_k", "_law_move"] ["_law_one", "_law_other"] (defScope s_law_names) := ⟨rfl, rfl, rfl, by decide +kernel, rfl, by decide +kernel, by decide +kernel⟩
theorem three {α : Type} {xs : List α} (h : xs.length = 3) : ∃ a b c, xs = [a, b, c] := by
 match xs, h with
 | [a, b, c], _ => exact ⟨a, b, c, rfl⟩
noncomputable def NmJ (H : Hp) (a b : Int) (D p : Addr) (ms : List Int) (j : Nat) (σ' : St) (H' : Hp) : Prop := ∃ (v7 v8 v9 v10 : Option V) (ts : List Str), σ' = [some (.int a), some (.int b), some (.str LET), some (.int (1 + a % 8)), some (.ref D), some (.int (1 + b / 8 % 13)), some (.ref p), v7, v8, v9, v10] ∧ H' D = some (.lst (ms.map V.int)) ∧ H' p = some (.lst (ts.map V.str)) ∧ ts.length = j ∧ (∀ t ∈ ts, nameB t = true) ∧ Same H H'
theorem ok_names {f : Addr} {fd : FuncData} (F : Fun K "_law_names" "_law_names" s_law_names f fd) (T : Txt K mg) : FnOk P w K mg base CX0 1 f fd ["_law_one", "_law_other"] sp_names := by
 refine F.okq sc_law_names (fun vs H Q E h => ?_) (fun cdv A outer s H vs Q E hr h => ?_)
 ·obtain ⟨a, b, rfl, _⟩ := h
  rfl
 ·obtain ⟨a, b, rfl, q⟩ := h
  refine ⟨_, qss_cons (qs_set (i := 2) sc_law_names.nd rfl (Or.inl rfl) (qe_str))
   (qss_cons (qs_set (i := 3) sc_law_names.nd rfl (Or.inl rfl) (qe_op (k_add K) (qe_int) (qe_op op_mod (qv 0) (qe_int))))
   (qss_cons (qs_setC (i := 4) (N := ["_law_k", "_law_one"]) (σ0 := capSt 1 [0]) rfl (cscope_fn rfl (by decide +kernel) (by decide +kernel) (by decide +kernel)) (qi_range1 rfl T.range (qa_cons (qv 3) qa_nil)) (takes_in rfl (by rfl)) (fun _ _ _ _ => qg_name (i := 0) nd_law_names_1 rfl (Or.inl rfl)) (fun _ _ _ _ => qts_nil) (fun _ _ _ _ => qe_op op_mod (qe_op op_mod (qe_op op_mulA (qv 1) (qe_op (k_add K) (qe_op op_mulA (qe_int) (qv 0)) (qe_int))) (qe_int)) (qe_int)) sc_law_names.nd rfl (Or.inl rfl))
   (qss_cons (qs_set (i := 5) sc_law_names.nd rfl (Or.inl rfl) (qe_op (k_add K) (qe_int) (qe_op op_mod (qe_op op_fdiv (qv 1) (qe_int)) (qe_int))))
   (qss_cons (qs_set (i := 6) sc_law_names.nd rfl (Or.inl rfl) (qe_lst (qa_nil)))
   (qss_cons (qs_for PassesOwn.never rfl (qi_range1 rfl T.range (qa_cons (qe_int) qa_nil)) (qg_name (i := 7) sc_law_names.nd rfl (Or.inl rfl)) (qss_cons (qs_set (i := 8) sc_law_names.nd rfl (Or.inl rfl) (qe_str))
   (qss_cons (qs_for PassesOwn.never rfl (qi_range1 rfl T.range (qa_cons (qv 3) qa_nil)) (qg_name (i := 9) sc_law_names.nd rfl (Or.inl rfl)) (qss_cons (qs_set (i := 10) sc_law_names.nd rfl (Or.inl rfl) (qe_op op_mulA (qe_op op_mulA (qv 7) (qv 5)) (qe_callTy k_int (by rfl) T.int (by decide +kernel) (qa_cons (qe_cmpR (k_eq K hr.u200) (qv 9) (qe_op op_mod (qv 1) (qv 3)) (nomark _)) qa_nil))))
   (qss_one (qs_set (i := 8) sc_law_names.nd rfl (Or.inl rfl) (qe_op (k_add K) (qv 8) (qe_ix (k_ix K) (qv 2) (qe_op op_mod (qe_op (k_add K) (qe_ix (k_ix K) (qv 4) (qv 9) (fun _ _ => rfl)) (qv 10)) (qe_int)) (fun _ _ => rfl)))))))
   (qss_cons (qs_if (qt_cmpR (k_in K) (qv 8) (qe_tup (qa_consts (xs := [.str "let", .str "in", .str "if", .str "then", .str "else", .str "fn", .str "rec", .str "yes", .str "no"]) rfl)) (by rfl)) (qss_one (qs_set (i := 8) sc_law_names.nd rfl (Or.inl rfl) (qe_op (k_add K) (qv 8) (qe_str)))) (qss_nil))
   (qss_one (qs_expr (qe_bmK K PySem.F.plainAttrs_list PySem.F.slot_list_append PySem.F.type_list_append mt_append (qv 6) (qa_cons (qv 8) qa_nil))))))))
   (qss_cons (qs_if (QW.qt (qw_and (qt_cmpR (k_eq K hr.u200) (qe_op op_mod (qe_op op_fdiv (qv 1) (qe_int)) (qe_int)) (qe_int) (nomark _)) (qw_and1 (qt_cmpR op_ltA (qe_callB (k_len K) (by rfl) T.len (by decide +kernel) (qa_cons (qe_ix (k_ix K) (qv 6) (qe_int) (fun _ _ => rfl)) qa_nil)) (qe_int) (nomark _))))) (qss_one (qs_asg (qe_op (k_add K) (qe_ix (k_ix K) (qv 6) (qe_int) (fun _ _ => rfl)) (qe_str)) (qg_sub (qv 6) (qe_int) set_list))) (qss_nil))
   (qss_one (qs_ret (qv 6))))))))), ?_⟩
  have bg := big
  have hs0 : 0 ≤ a % 8 := Int.emod_nonneg a (by decide)
  have hs1 : a % 8 < 8 := Int.emod_lt_of_pos a (by decide)
  have hst0 : 0 ≤ b / 8 % 13 := Int.emod_nonneg _ (by decide)
  have hst1 : b / 8 % 13 < 13 := Int.emod_lt_of_pos _ (by decide)
  walk_at "r"
  refine ⟨by omega, by omega, fun D hD => ?_⟩
  refine comp_range (Pv := fun i ys σ' H' => ∃ kv ms, σ' = [kv, some (.int a)] ∧ ys = ms.map V.int ∧ ms.length = i ∧ Same H H') ⟨none, [], rfl, rfl, rfl, Same.upd hD⟩ ?_ ?_
  ·rintro i ys σ' H' hi hys ⟨kv, ms, rfl, rfl, hl, hH⟩
   walk_at "r"
   refine s_mul_r (by omega) (by omega) ?_
   walk_at "r"
   refine ⟨_, hys, by rw [List.length_map]; omega, _, upd_same, ?_⟩
   exact ⟨_, ms ++ [_], rfl, by rw [List.map_append]; rfl, by simp [hl], hH.over hD⟩
  ·rintro ys σ' H1 hys ⟨kv, ms, rfl, rfl, hl, hH⟩
   walk_at "r"
   refine ⟨by show 0 ≤ sizeLine; decide, fun p hp => ?_⟩
   have hpD : D ≠ p := fun z => by rw [z, hp] at hys; cases hys
   have hp0 : H p = none := hH.free hp
   have hys' : upd H1 p (.lst []) D = some (.lst (ms.map V.int)) := by rw [upd_ne hpD]; exact hys
   walk_at "r"
   refine ⟨by decide, by decide, ?_⟩
   refine for_range (n := 3) (NmJ H a b D p ms) ⟨_, _, _, _, [], rfl, hys', upd_same, rfl, (fun t h => nomatch h), hH.put hp⟩ ?_ ?_
   ·rintro j σ' H2 hj ⟨v7, v8, v9, v10, ts, rfl, hD2, hp2, hl2, hle2, sm2⟩
    walk_at "r"
    refine ⟨by omega, by omega, ?_⟩
    refine for_range (n := (1 + a % 8).toNat) (fun k σ' H' => ∃ v9 v10 t, σ' = [some (.int a), some (.int b), some (.str LET), some (.int (1 + a % 8)), some (.ref D), some (.int (1 + b / 8 % 13)), some (.ref p), some (.int (0 + j)), some (.str t), v9, v10] ∧ t.length = k ∧ allIn t LET = true ∧ H' = H2) ⟨_, _, Str.empty, rfl, rfl, rfl, rfl⟩ ?_ ?_
    ·rintro k σ' H3 hk ⟨v9', v10', t, rfl, hl3, ha3, rfl⟩
     walk_at "r"
     refine s_mul_l (by omega) (by omega) ?_
     walk_at "r"
     refine s_rI (by omega) ?_
     walk_at "r"
     refine s_mul_r (by split <;> decide) (by split <;> decide) ?_
     walk_at "r"
     have hk' : (k : Int) < ((ms.map V.int).length : Int) := by rw [List.length_map]; omega
     obtain ⟨v, hv, m⟩ := atI_in (xs := ms.map V.int) (i := 0 + (k : Int)) (by omega) (by omega)
     obtain ⟨z, _, rfl⟩ := List.mem_map.mp m
     refine s_ix_lst (SqL.of hD2) hv ?_
     walk_at "r"
     obtain ⟨c, hc, hcm⟩ := atI_in (xs := LET.cps.toList) (i := (z + (0 + (j : Int)) * (1 + b / 8 % 13) * (if decide (V.int (0 + (k : Int)) = V.int (b % (1 + a % 8))) = true then 1 else 0)) % 27) (Int.emod_nonneg _ (by decide)) (by rw [lets_len]; exact Int.emod_lt_of_pos _ (by decide))
     refine s_ix_str lets_size hc ?_
     refine s_add_str (by rw [one_len]; omega) ?_
     exact ⟨_, _, _, rfl, by rw [catlen, one_len]; omega, by rw [allIn_cat, ha3, allIn_one hcm]; rfl, rfl⟩
    ·rintro σ' H3 ⟨v9', v10', t, rfl, hl3, ha3, rfl⟩
     walk_at "r"
     refine ⟨by show 9 ≤ sizeLine; decide, fun p9 h9 => ?_⟩
     refine s_in_seq (.inr (SqT.of upd_same)) rfl rfl ?_
     have nD : D ≠ p9 := fun z => by rw [z, h9] at hD2; cases hD2
     have np : p ≠ p9 := fun z => by rw [z, h9] at hp2; cases hp2
     have hpU : ∀ o, upd H3 p9 o p = some (.lst (ts.map V.str)) := fun o => by rw [upd_ne np]; exact hp2
     have hDU : ∀ o, upd H3 p9 o D = some (.lst (ms.map V.int)) := fun o => by rw [upd_ne nD]; exact hD2
     have smU : ∀ o, Same H (upd H3 p9 o) := fun o => sm2.put h9
     have fin : ∀ (t' : Str) (o : HO), nameB t' = true → NmJ H a b D p ms (j + 1) [some (.int a), some (.int b), some (.str LET), some (.int (1 + a % 8)), some (.ref D), some (.int (1 + b / 8 % 13)), some (.ref p), some (.int (0 + (j : Int))), some (.str t'), v9', v10'] (upd (upd H3 p9 o) p (.lst (ts.map V.str ++ [.str t']))) := fun t' o ht' =>
      ⟨_, _, _, _, ts ++ [t'], rfl, by rw [upd_ne hpD]; exact hDU o, by rw [upd_same, List.map_append]; rfl, by simp [hl2], fun u hu => by
       rcases List.mem_append.mp hu with hu | hu
       ·exact hle2 u hu
       ·rw [List.mem_singleton.mp hu]; exact ht', (smU o).over hp0⟩
     walk_at "r"
     have e9 : inV (.str t) [.str "let", .str "in", .str "if", .str "then", .str "else", .str "fn", .str "rec", .str "yes", .str "no"] = isIn t W9 := in_strs (ws := W9)
     have hln : t.length = (1 + a % 8).toNat := hl3
     refine ite2 (fun hin => ?_) (fun hin => ?_)
     ·have hin : isIn t W9 = true := by rw [← e9]; exact hin
      have l4 := w9_len (isIn_mem hin)
      walk_at "r"
      have l1 : (Str.ofString "_").length = 1 := by decide +kernel
      refine s_add_str (by rw [l1]; omega) ?_
      walk_at "r"
      refine s_tyL (SqL.of (hpU _)) ?_
      walk_at "r"
      refine s_app (hpU _) (by rw [List.length_map]; omega) ?_
      exact fin _ _ (name_add ha3 (by omega))
     ·have hin : isIn t W9 = false := by rw [← e9]; simpa using hin
      walk_at "r"
      refine s_tyL (SqL.of (hpU _)) ?_
      walk_at "r"
      refine s_app (hpU _) (by rw [List.length_map]; omega) ?_
      exact fin _ _ (name_plain (by omega) (by omega) ha3 hin)
   ·rintro σ' H2 ⟨v7, v8, v9, v10, ts, rfl, hD2, hp2, hl2, hle2, sm2⟩
    obtain ⟨t0, t1, t2, rfl⟩ := three hl2
    have n0 := hle2 t0 (by simp)
    have n1 := hle2 t1 (by simp)
    have n2 := hle2 t2 (by simp)
    have l0 := (name_len n0).2
    walk_at "r"
    refine ite2 (fun _ => ?_) (fun _ => ?_)
    ·walk_at "r"
     refine s_ix_lst (SqL.of hp2) (v := .str t0) rfl ?_
     walk_at "r"
     refine s_len_str (by omega) ?_
     walk_at "r"
     refine ite2 (fun h8 => ?_) (fun _ => ?_)
     ·have h8 : t0.length < 8 := by have := of_decide_eq_true h8; omega
      walk_at "r"
      refine s_ix_lst (SqL.of hp2) (v := .str t0) rfl ?_
      have l1 : (Str.ofString "_").length = 1 := by decide +kernel
      refine s_add_str (by rw [l1]; omega) ?_
      walk_at "r"
      refine s_setL hp2 (j := 2) rfl ?_
      walk_at "r"
      exact q p _ _ _ _ n0 n1 (name_add (name_len n0).1 (by omega)) (sm2.over hp0) hp0 upd_same
     ·walk_at "r"
      exact q p _ _ _ _ n0 n1 n2 sm2 hp0 hp2
    ·walk_at "r"
     exact q p _ _ _ _ n0 n1 n2 sm2 hp0 hp2
noncomputable def SIG91 : Str := "!\"#$&'*+,-./0123456789:;<=>?@ABCDEFGHIJKLMNOPQRSTUVWXYZ[\\]^_`abcdefghijklmnopqrstuvwxyz{|}~"
noncomputable def SIG27 : Str := "!\"#$&'*,./:;=>@AQZ[\\]^`{|}~"
theorem sig91_len : SIG91.cps.toList.length = 91 := by decide +kernel
theorem sig91_size : SIG91.length ≤ sizeLine := by decide +kernel
theorem sig27_len : SIG27.cps.toList.length = 27 := by decide +kernel
theorem sig27_size : SIG27.length ≤ sizeLine := by decide +kernel
theorem sig91_odd : SIG91.cps.toList.all oddC = true := by decide +kernel
theorem sig27_odd : SIG27.cps.toList.all oddC = true := by decide +kernel
theorem sig27_no : SIG27.cps.toList.all (fun d => !decide (d ∈ LET.cps.toList) && !decide (d ∈ DIG.cps.toList) && W10.all fun x => !decide (d ∈ x.cps.toList)) = true := by decide +kernel
theorem empty_eq : ("" : Str) = Str.empty := by decide +kernel
theorem not_allIn {t s : Str} {d : Nat} (h : d ∈ t.cps.toList) (hs : ¬ d ∈ s.cps.toList) : allIn t s = false := by
 cases e : allIn t s with
 | false => rfl
 | true => exact absurd (of_decide_eq_true (List.all_eq_true.mp e d h)) hs
theorem odd_of {t : Str} {d : Nat} (h1 : 1 ≤ t.length) (h2 : t.length ≤ 60) (ho : ∀ c ∈ t.cps.toList, oddC c = true) (hd : d ∈ t.cps.toList) (hs : d ∈ SIG27.cps.toList) : oddB t = true := by
 have hn := List.all_eq_true.mp sig27_no d hs
 simp only [Bool.and_eq_true, Bool.not_eq_true', decide_eq_false_iff_not] at hn
 obtain ⟨⟨n1, n2⟩, n3⟩ := hn
 unfold oddB nameB figB
 rw [not_allIn hd n1, not_allIn hd n2, decide_eq_true h1, decide_eq_true h2, List.all_eq_true.mpr ho, not_isIn (t := t) (ws := W10) (fun m => by
  have := List.all_eq_true.mp n3 t m
  simp only [Bool.not_eq_true', decide_eq_false_iff_not] at this
  exact this hd)]
 simp
theorem slice_ix (x : Str) (l u : Option Int) : (Txt.slice x l u).length ≤ (Builtin.Str.strSliceIndices l u 1 x.length).length := by
 unfold Txt.slice
 split
 ·rename_i h
  simp at h
  omega
 ·show (List.toArray _).size ≤ _
  rw [List.size_toArray]
  exact List.length_filterMap_le ..
theorem slice_cut (t : Str) (k : Int) (h : 0 ≤ k) : (Txt.slice t none (some k)).length + (Txt.slice t (some k) none).length ≤ t.length := by
 have h1 := slice_ix t none (some k)
 have h2 := slice_ix t (some k) none
 have h3 : (Builtin.Str.strSliceIndices none (some k) 1 t.length).length + (Builtin.Str.strSliceIndices (some k) none 1 t.length).length ≤ t.length := by
  unfold Builtin.Str.strSliceIndices sliceRange
  simp only [show (1 : Int) > 0 by decide, if_true, List.length_map, List.length_range]
  (repeat' split) <;> (try simp only [Int.ediv_one]) <;> omega
 omega
noncomputable def sp_lodd : Sp := fun vs H Q _ => ∃ c : Int, vs = [.int c] ∧ ∀ (t : Str) (H' : Hp), oddB t = true → t.length ≤ 60 → Same H H' → Q (.str t) H'
theorem sum_ones {ts : List Str} (h : ∀ t ∈ ts, t.length = 1) : (ts.map (·.length)).sum = ts.length := by
 induction ts with
 | nil => rfl
 | cons t r ih =>
  rw [List.map_cons, List.sum_cons, h t List.mem_cons_self, ih fun u hu => h u (List.mem_cons_of_mem _ hu), List.length_cons]
  omega
theorem join_le {ts : List Str} (h : ∀ t ∈ ts, t.length = 1) : (Txt.join "" ts).length ≤ ts.length := by
 have e : ("" : Str) = Str.empty := by decide +kernel
 have := PySem.StrLaws.join_length_le Str.empty ts
 rw [sum_ones h, show Str.empty.length = 0 from rfl] at this
 unfold Txt.join
 rw [PySem.StrLaws.glued_eq_join, e]
 omega
theorem nd_law_odd_1 : (["_law_k", "_law_signs", "_law_cell_here"] : List Str).Nodup := by decide +kernel
theorem sc_law_odd : FnScope ["_law_cell_here", "_law_some", "_law_signs", "_law_size", "_law_text", "_law_seat"] ["_law_cell_here"] (defScope s_law_odd) := ⟨rfl, rfl, rfl, by decide +kernel, rfl, by decide +kernel, by decide +kernel⟩
theorem ok_lodd {f : Addr} {fd : FuncData} (F : Fun K "_law_odd" "_law_odd" s_law_odd f fd) (T : Txt K mg) : FnOk P w K mg base CX0 1 f fd ["_law_cell_here"] sp_lodd := by
 refine F.okq sc_law_odd (fun vs H Q E h => ?_) (fun cdv A outer s H vs Q E hr h => ?_)
 ·obtain ⟨a, rfl, _⟩ := h
  rfl
 ·obtain ⟨c, rfl, q⟩ := h
  refine ⟨_, qss_cons (qs_set (i := 1) sc_law_odd.nd rfl (Or.inl rfl) (qe_lst (qa_consts (xs := [.str "in", .str "then", .str "else", .str "=", .str "=>", .str "007", .str "--", .str "??", .str "ninesigns"]) rfl)))
   (qss_cons (qs_if (qt_cmpR (k_eq K hr.u200) (qe_op op_mod (qv 0) (qe_int)) (qe_int) (nomark _)) (qss_one (qs_ret (qe_ix (k_ix K) (qv 1) (qe_op op_mod (qe_op op_fdiv (qv 0) (qe_int)) (qe_int)) (fun _ _ => rfl)))) (qss_nil))
   (qss_cons (qs_set (i := 2) sc_law_odd.nd rfl (Or.inr rfl) (qe_str))
   (qss_cons (qs_set (i := 3) sc_law_odd.nd rfl (Or.inl rfl) (qe_ix (k_ix K) (qe_lst (qa_consts (xs := [.int 2, .int 1, .int 5, .int 7, .int 60]) rfl)) (qe_op op_mod (qe_op op_fdiv (qv 0) (qe_int)) (qe_int)) (fun _ _ => rfl)))
   (qss_cons (qs_set (i := 4) sc_law_odd.nd rfl (Or.inl rfl) (qe_bmK K PySem.F.plainAttrs_str PySem.F.slot_str_join PySem.F.type_str_join (k_join K) (qe_str) (qa_cons (qe_comp (N := ["_law_k", "_law_signs", "_law_cell_here"]) (σ0 := capSt 1 [2, 0]) rfl (cscope_fn rfl (by decide +kernel) (by decide +kernel) (by decide +kernel)) (qi_range1 rfl T.range (qa_cons (qe_op op_sub (qv 3) (qe_int)) qa_nil)) (takes_in rfl (by rfl)) (fun _ _ _ _ => qg_name (i := 0) nd_law_odd_1 rfl (Or.inl rfl)) (fun _ _ _ _ => qts_nil) (fun _ _ _ _ => qe_ix (k_ix K) (qv 1) (qe_op op_mod (qe_op op_mod (qe_op op_mulA (qv 2) (qe_op (k_add K) (qv 0) (qe_int))) (qe_int)) (qe_int)) (fun _ _ => rfl))) qa_nil)))
   (qss_cons (qs_set (i := 5) sc_law_odd.nd rfl (Or.inl rfl) (qe_op op_mod (qe_op op_fdiv (qv 0) (qe_int)) (qv 3)))
   (qss_one (qs_ret (qe_op (k_add K) (qe_op (k_add K) (qe_slice (k_sl K) (qv 4) (qo_none) (qo_some (qv 5))) (qe_ix (k_ix K) (qe_str) (qe_op op_mod (qe_op op_fdiv (qv 0) (qe_int)) (qe_int)) (fun _ _ => rfl))) (qe_slice (k_sl K) (qv 4) (qo_some (qv 5)) (qo_none)))))))))), ?_⟩
  have bg := big
  walk_at "r"
  refine ⟨by show 9 ≤ sizeLine; decide, fun p hp => ?_⟩
  have sm := Same.upd (o := .lst [.str "in", .str "then", .str "else", .str "=", .str "=>", .str "007", .str "--", .str "??", .str "ninesigns"]) hp
  walk_at "r"
  refine ite2 (fun _ => ?_) (fun _ => ?_)
  ·walk_at "r"
   obtain ⟨v, hv, m⟩ := atI_in (xs := ([.str "in", .str "then", .str "else", .str "=", .str "=>", .str "007", .str "--", .str "??", .str "ninesigns"] : List V)) (i := c / 3 % 9) (Int.emod_nonneg _ (by decide)) (Int.emod_lt_of_pos _ (by decide))
   obtain ⟨t, rfl, ho, hl⟩ : ∃ t, v = V.str t ∧ oddB t = true ∧ t.length ≤ 60 := by
    simp only [List.mem_cons, List.not_mem_nil, or_false] at m
    rcases m with h | h | h | h | h | h | h | h | h <;> exact ⟨_, h, by decide +kernel, by decide +kernel⟩
   exact s_ix_lst (SqL.of upd_same) hv (q t _ ho hl sm)
  ·walk_at "r"
   refine ⟨by show 5 ≤ sizeLine; decide, fun p2 hp2 => ?_⟩
   have sm2 := sm.put (o := .lst [.int 2, .int 1, .int 5, .int 7, .int 60]) hp2
   walk_at "r"
   obtain ⟨v, hv, m⟩ := atI_in (xs := ([.int 2, .int 1, .int 5, .int 7, .int 60] : List V)) (i := c / 3 % 5) (Int.emod_nonneg _ (by decide)) (Int.emod_lt_of_pos _ (by decide))
   obtain ⟨n, rfl, n1, n2⟩ : ∃ n : Int, v = V.int n ∧ 1 ≤ n ∧ n ≤ 60 := by
    simp only [List.mem_cons, List.not_mem_nil, or_false] at m
    rcases m with h | h | h | h | h <;> exact ⟨_, h, by decide, by decide⟩
   refine s_ix_lst (SqL.of upd_same) hv ?_
   walk_at "r"
   refine ⟨rfl, ?_⟩
   walk_at "r"
   refine ⟨by omega, by omega, fun D hD => ?_⟩
   refine comp_range (Pv := fun i ys σ' H' => ∃ kv ts, σ' = [kv, some (.str SIG91), some (.int c)] ∧ ys = ts.map V.str ∧ ts.length = i ∧ (∀ t ∈ ts, t.length = 1) ∧ (∀ t ∈ ts, ∀ c ∈ t.cps.toList, oddC c = true) ∧ Same H H') ⟨none, [], rfl, rfl, rfl, (fun t h => nomatch h), (fun t h => nomatch h), sm2.put hD⟩ ?_ ?_
   ·rintro i ys σ' H' hi hys ⟨kv, ts, rfl, rfl, hl, h1, h1o, hH⟩
    walk_at "r"
    refine s_mul_r (by omega) (by omega) ?_
    walk_at "r"
    obtain ⟨d, hd, hdm⟩ := atI_in (xs := SIG91.cps.toList) (i := c * (0 + (i : Int) + 6007) % 1000003 % 91) (Int.emod_nonneg _ (by decide)) (by rw [sig91_len]; exact Int.emod_lt_of_pos _ (by decide))
    refine s_ix_str sig91_size hd ?_
    refine ⟨_, hys, by rw [List.length_map]; omega, _, upd_same, ?_⟩
    refine ⟨_, ts ++ [⟨#[d]⟩], rfl, by rw [List.map_append]; rfl, by simp [hl], fun t ht => ?_, fun t ht => ?_, hH.over (sm2.free hD)⟩
    ·rcases List.mem_append.mp ht with ht | ht
     ·exact h1 t ht
     ·rw [List.mem_singleton.mp ht]; rfl
    ·rcases List.mem_append.mp ht with ht | ht
     ·exact h1o t ht
     ·rw [List.mem_singleton.mp ht]
      intro c hc
      have : c = d := by simpa using hc
      rw [this]
      exact List.all_eq_true.mp sig91_odd d hdm
   ·rintro ys σ' H1 hys ⟨kv, ts, rfl, rfl, hl, h1, h1o, hH⟩
    have e0 : (Str.ofString "").length = 0 := by decide +kernel
    walk_at "r"
    refine s_join (K := K) (SqL.of hys) (by rw [sum_ones h1, e0]; omega) ?_
    have jl := join_le h1
    walk_at "r"
    refine s_rI (by omega) ?_
    walk_at "r"
    refine s_sl_str (by omega) ?_
    walk_at "r"
    obtain ⟨d, hd, hdm⟩ := atI_in (xs := SIG27.cps.toList) (i := c / 7 % 27) (Int.emod_nonneg _ (by decide)) (by rw [sig27_len]; exact Int.emod_lt_of_pos _ (by decide))
    refine s_ix_str sig27_size hd ?_
    have l1 := Txt.slice_le (Txt.join "" ts) none (some (c / 15 % n))
    have l2 := Txt.slice_le (Txt.join "" ts) (some (c / 15 % n)) none
    refine s_add_str (by rw [one_len]; omega) ?_
    walk_at "r"
    refine s_sl_str (by omega) ?_
    refine s_add_str (by rw [catlen, one_len]; omega) ?_
    have jo : ∀ c ∈ (Txt.join "" ts).cps.toList, oddC c = true := fun c hc => by
     rw [empty_eq] at hc
     obtain ⟨t, m, hc⟩ := joinT_mem hc
     exact h1o t m c hc
    have sl := slice_cut (Txt.join "" ts) (c / 15 % n) (Int.emod_nonneg _ (by omega))
    refine q _ _ (odd_of (d := d) (by rw [catlen, catlen, one_len]; omega) (by rw [catlen, catlen, one_len]; omega) ?_ (by rw [cat_cps, cat_cps]; simp) hdm) (by rw [catlen, catlen, one_len]; omega) hH
    intro e he
    rw [cat_cps, cat_cps] at he
    rcases List.mem_append.mp he with he | he
    ·rcases List.mem_append.mp he with he | he
     ·exact jo e (slice_mem he)
     ·have : e = d := by simpa using he
      rw [this]
      exact List.all_eq_true.mp sig27_odd d hdm
    ·exact jo e (slice_mem he)
noncomputable def sp_num : Sp := fun vs H Q _ => ∃ c : Int, vs = [.int c] ∧ ∀ z : Int, 0 ≤ z → z < 10 ^ 18 → Q (.int z) H
theorem sc_law_number : FnScope ["_law_cell_here"] ["_law_cell_here"] (defScope s_law_number) := ⟨rfl, rfl, rfl, by decide +kernel, rfl, by decide +kernel, by decide +kernel⟩
theorem ok_num {f : Addr} {fd : FuncData} (F : Fun K "_law_number" "_law_number" s_law_number f fd) (T : Txt K mg) : FnOk P w K mg base CX0 1 f fd ["_law_cell_here"] sp_num := by
 refine F.okq sc_law_number (fun vs H Q E h => ?_) (fun cdv A outer s H vs Q E hr h => ?_)
 ·obtain ⟨a, rfl, _⟩ := h
  rfl
 ·obtain ⟨c, rfl, q⟩ := h
  refine ⟨_, qss_cons (qs_if (qt_cmpR (k_eq K hr.u200) (qe_op op_mod (qv 0) (qe_int)) (qe_int) (nomark _)) (qss_one (qs_ret (qe_op op_mod (qe_op op_fdiv (qv 0) (qe_int)) (qe_int)))) (qss_nil))
   (qss_cons (qs_if (qt_cmpR (k_eq K hr.u200) (qe_op op_mod (qv 0) (qe_int)) (qe_int) (nomark _)) (qss_one (qs_ret (qe_op op_sub (qe_op op_sub (qe_op op_pow (qe_int) (qe_int)) (qe_int)) (qe_op op_mod (qe_op op_fdiv (qv 0) (qe_int)) (qe_int))))) (qss_nil))
   (qss_one (qs_ret (qe_op op_mod (qe_op op_mulA (qe_op op_fdiv (qv 0) (qe_int)) (qe_int)) (qe_op op_pow (qe_int) (qe_int)))))), ?_⟩
  have h30 : 0 ≤ c / 4 % 3 := Int.emod_nonneg _ (by decide)
  have h31 : c / 4 % 3 < 3 := Int.emod_lt_of_pos _ (by decide)
  walk_at "r"
  refine ite2 (fun _ => ?_) (fun _ => ?_)
  ·walk_at "r"
   exact q _ h30 (by omega)
  ·walk_at "r"
   refine ite2 (fun _ => ?_) (fun _ => ?_)
   ·walk_at "r"
    refine q _ ?_ ?_
    ·show 0 ≤ (10 : Int) ^ 18 - 1 - c / 4 % 3
     omega
    ·show (10 : Int) ^ 18 - 1 - c / 4 % 3 < 10 ^ 18
     omega
   ·walk_at "r"
    exact q _ (Int.emod_nonneg _ (by decide)) (Int.emod_lt_of_pos _ (by decide))
noncomputable def SmallV : V → Prop
 | .str s => s.length ≤ 1000
 | .int _ => True
 | .bl _ => True
 | .non => True
 | _ => False
theorem SmallV.ty {v : V} (h : SmallV v) {K : W.Frag} {H : Hp} : ∃ t, TyN K H v t ∧ kitT t "tuple" = false := by
 cases v with
 | str s => exact ⟨_, .str s h, rfl⟩
 | int i => exact ⟨_, .int i, rfl⟩
 | bl b => exact ⟨_, .bl b, rfl⟩
 | non => exact ⟨_, .non, rfl⟩
 | _ => exact absurd h id
inductive DtNt : Dt → Nt → Prop where
 | fl {v : V} (h : SmallV v) : DtNt (.flat v) (.fl v)
 | tp {vs : List V} (h : ∀ v ∈ vs, SmallV v) : DtNt (.tup (vs.map .flat)) (.tp vs)
theorem flat_inj : ∀ {vs ws : List V}, vs.map Dt.flat = ws.map Dt.flat → vs = ws
 | [], [], _ => rfl
 | [], _ :: _, h => nomatch h
 | _ :: _, [], h => nomatch h
 | v :: r, w :: q, h => by
  rw [List.map_cons, List.map_cons] at h
  injection h with h1 h2
  injection h1 with h1
  rw [h1, flat_inj h2]
theorem IsN.nt {K : W.Frag} {H : Hp} {v : V} {d : Dt} {nt : Nt} (h : IsN K H v d) (hd : DtNt d nt) : NtAt K H v nt := by
 cases hd with
 | fl hs =>
  rcases h with ⟨_, e⟩ | ⟨a, vs, _, _, _, e⟩
  ·injection e with e
   obtain ⟨t, h1, h2⟩ := hs.ty (K := K) (H := H)
   exact ⟨e.symm, t, h1, h2⟩
  ·cases e
 | @tp ws hs =>
  rcases h with ⟨_, e⟩ | ⟨a, vs, h1, h2, h3, e⟩
  ·cases e
  ·injection e with e
   have := flat_inj e
   subst this
   refine ⟨a, h1, h2, fun x hx => ?_⟩
   obtain ⟨t, h4, _⟩ := (hs x hx).ty (K := K) (H := H)
   exact ⟨t, h4⟩
noncomputable def sp_head (K : W.Frag) : Sp := fun vs H Q _ => ∃ (c : Int) (p : Addr) (t0 t1 t2 : Str), vs = [.int c, .ref p] ∧ SqL K H p [.str t0, .str t1, .str t2] ∧ nameB t0 = true ∧ nameB t1 = true ∧ nameB t2 = true ∧
 ∀ (a : Addr) (wd : Str) (note : V) (n : Dt) (nt : Nt) (H' : Hp), Same H H' → SqT K H' a [.str wd, note] → IsN K H' note n → (partsOf wd).isSome = true → DtNt n nt → noteB wd nt = true → Q (.ref a) H'
theorem pick3 {t0 t1 t2 : Str} (n0 : nameB t0 = true) (n1 : nameB t1 = true) (n2 : nameB t2 = true) (c : Int) : ∃ t : Str, atI ([.str t0, .str t1, .str t2] : List V) (c % 3) = some (.str t) ∧ nameB t = true := by
 obtain ⟨v, hv, m⟩ := atI_in (xs := ([.str t0, .str t1, .str t2] : List V)) (i := c % 3) (Int.emod_nonneg _ (by decide)) (Int.emod_lt_of_pos _ (by decide))
 simp only [List.mem_cons, List.not_mem_nil, or_false] at m
 rcases m with h | h | h <;> exact ⟨_, by rw [hv, h], by assumption⟩
theorem three_in {wd : Str} : inV (.str wd) [.str "name", .str "fn", .str "let"] = decide (wd ∈ (["name", "fn", "let"] : List Str)) := by
 have := in_strs (t := wd) (ws := ["name", "fn", "let"])
 rw [show ([V.str "name", V.str "fn", V.str "let"] : List V) = (["name", "fn", "let"] : List Str).map V.str from rfl, this]
 by_cases hm : wd ∈ (["name", "fn", "let"] : List Str)
 ·rw [decide_eq_true hm, mem_isIn hm]
 ·rw [decide_eq_false hm, not_isIn hm]
theorem sc_law_head : FnScope ["_law_cell_here", "_law_names_here", "_law_heads", "_law_word", "_law_more"] ["_law_cell_here", "_law_names_here"] (defScope s_law_head) := ⟨rfl, rfl, rfl, by decide +kernel, rfl, by decide +kernel, by decide +kernel⟩
theorem ok_head {f : Addr} {fd : FuncData} (F : Fun K "_law_head" "_law_head" s_law_head f fd) (T : Txt K mg) (C__law_odd : Callee P w K mg base 1 "_law_odd" ["_law_cell_here"] sp_lodd) (C__law_number : Callee P w K mg base 1 "_law_number" ["_law_cell_here"] sp_num) : FnOk P w K mg base CX0 2 f fd ["_law_cell_here", "_law_names_here"] (sp_head K) := by
 refine F.okq sc_law_head (fun vs H Q E h => ?_) (fun cdv A outer s H vs Q E hr h => ?_)
 ·obtain ⟨c, p, t0, t1, t2, rfl, _⟩ := h
  rfl
 ·obtain ⟨c, p, t0, t1, t2, rfl, hp, n0, n1, n2, q⟩ := h
  refine ⟨_, qss_cons (qs_set (i := 2) sc_law_head.nd rfl (Or.inl rfl) (qe_lst (qa_consts (xs := [.str "gap", .str "odd", .str "num", .str "truth", .str "name", .str "plus", .str "minus", .str "less", .str "call", .str "if", .str "fn"]) rfl)))
   (qss_cons (qs_set (i := 3) sc_law_head.nd rfl (Or.inl rfl) (qe_ix (k_ix K) (qe_op (k_add K) (qv 2) (qe_lst (qa_cons (qe_str) (qa_cons (qe_str) qa_nil)))) (qe_op op_mod (qv 0) (qe_int)) (fun _ _ => rfl)))
   (qss_cons (qs_set (i := 4) sc_law_head.nd rfl (Or.inl rfl) (qe_op op_fdiv (qv 0) (qe_int)))
   (qss_cons (qs_if (qt_cmpR (k_eq K hr.u200) (qv 3) (qe_str) (nomark _)) (qss_one (qs_ret (qe_tup (qa_cons (qv 3) (qa_cons (qe_fn C__law_odd (hr.mono (by decide)) (qa_cons (qv 4) qa_nil)) qa_nil))))) (qss_nil))
   (qss_cons (qs_if (qt_cmpR (k_eq K hr.u200) (qv 3) (qe_str) (nomark _)) (qss_one (qs_ret (qe_tup (qa_cons (qv 3) (qa_cons (qe_fn C__law_number (hr.mono (by decide)) (qa_cons (qv 4) qa_nil)) qa_nil))))) (qss_nil))
   (qss_cons (qs_if (qt_cmpR (k_eq K hr.u200) (qv 3) (qe_str) (nomark _)) (qss_one (qs_ret (qe_tup (qa_cons (qv 3) (qa_cons (qe_cmpR (k_eq K hr.u200) (qe_op op_mod (qv 4) (qe_int)) (qe_int) (nomark _)) qa_nil))))) (qss_nil))
   (qss_cons (qs_if (qt_cmpR (k_in K) (qv 3) (qe_tup (qa_cons (qe_str) (qa_cons (qe_str) (qa_cons (qe_str) qa_nil)))) (by rfl)) (qss_one (qs_ret (qe_tup (qa_cons (qv 3) (qa_cons (qe_ix (k_ix K) (qv 1) (qe_op op_mod (qv 4) (qe_int)) (fun _ _ => rfl)) qa_nil))))) (qss_nil))
   (qss_cons (qs_if (qt_cmpR (k_eq K hr.u200) (qv 3) (qe_str) (nomark _)) (qss_one (qs_ret (qe_tup (qa_cons (qv 3) (qa_cons (qe_tup (qa_cons (qe_ix (k_ix K) (qv 1) (qe_op op_mod (qv 4) (qe_int)) (fun _ _ => rfl)) (qa_cons (qe_ix (k_ix K) (qv 1) (qe_op op_mod (qe_op op_fdiv (qv 4) (qe_int)) (qe_int)) (fun _ _ => rfl)) qa_nil))) qa_nil))))) (qss_nil))
   (qss_one (qs_ret (qe_tup (qa_cons (qv 3) (qa_cons (qe_non) qa_nil)))))))))))), ?_⟩
  walk_at "r"
  refine ⟨by show 11 ≤ sizeLine; decide, fun p1 h1 => ?_⟩
  walk_at "r"
  refine ⟨by show 2 ≤ sizeLine; decide, fun p2 h2 => ?_⟩
  have n12 : p1 ≠ p2 := fun z => by rw [z, ← z, upd_same] at h2; cases h2
  refine s_add_lst (by rw [upd_ne n12]; exact upd_same) upd_same (by show 13 ≤ sizeLine; decide) fun p3 h3 => ?_
  walk_at "r"
  obtain ⟨v, hv, m⟩ := atI_in (xs := ([.str "gap", .str "odd", .str "num", .str "truth", .str "name", .str "plus", .str "minus", .str "less", .str "call", .str "if", .str "fn"] ++ [.str "rec", .str "let"] : List V)) (i := c % 13) (Int.emod_nonneg _ (by decide)) (Int.emod_lt_of_pos _ (by decide))
  obtain ⟨wd, rfl, hps⟩ : ∃ t, v = V.str t ∧ (partsOf t).isSome = true := by
   simp only [List.cons_append, List.nil_append, List.mem_cons, List.not_mem_nil, or_false] at m
   rcases m with h | h | h | h | h | h | h | h | h | h | h | h | h <;> exact ⟨_, h, by decide +kernel⟩
  refine s_ix_lst (SqL.of upd_same) hv ?_
  have sm3 := ((Same.upd (o := .lst [.str "gap", .str "odd", .str "num", .str "truth", .str "name", .str "plus", .str "minus", .str "less", .str "call", .str "if", .str "fn"]) h1).put (o := .lst [.str "rec", .str "let"]) h2).put (o := .lst ([.str "gap", .str "odd", .str "num", .str "truth", .str "name", .str "plus", .str "minus", .str "less", .str "call", .str "if", .str "fn"] ++ [.str "rec", .str "let"])) h3
  revert sm3
  generalize upd (upd (upd H p1 _) p2 _) p3 _ = H3
  intro sm3
  have two : ∀ (note : V) (n : Dt) (nt : Nt) (H4 : Hp), Same H3 H4 → IsN K H4 note n → DtNt n nt → noteB wd nt = true → ([V.str wd, note] : List V).length ≤ sizeLine ∧ ∀ p, H4 p = none → Q (.ref p) (upd H4 p (.tup [.str wd, note])) := fun note n nt H4 s4 hn hd hb =>
   ⟨by show 2 ≤ sizeLine; decide, fun p4 h4 => q p4 wd note n nt _ (sm3.trans (s4.put h4)) (SqT.of upd_same) (hn.same (SameT.new h4)) hps hd hb⟩
  have nb : ∀ nt, noteB wd nt = (if wd = "odd" then oddN nt else if wd = "num" then numN nt else if wd = "truth" then truthN nt else if wd ∈ (["name", "fn", "let"] : List Str) then nameN nt else if wd = "rec" then twoN nt else nonN nt) := fun _ => rfl
  walk_at "r"
  rw [dec_str]
  refine ite2 (fun h => ?_) (fun h => ?_)
  ·walk_at "r"
   refine ⟨_, rfl, fun t H4 ho hl s4 => ?_⟩
   walk_at "r"
   exact two _ _ _ _ s4 (.inl ⟨rfl, rfl⟩) (.fl (show t.length ≤ 1000 by omega)) (by rw [nb, if_pos (of_decide_eq_true h)]; exact ho)
  have g1 : ¬ wd = "odd" := fun x => h (decide_eq_true x)
  walk_at "r"
  rw [dec_str]
  refine ite2 (fun h => ?_) (fun h => ?_)
  ·walk_at "r"
   refine ⟨_, rfl, fun z z0 z1 => ?_⟩
   walk_at "r"
   exact two _ _ _ _ (Same.refl _) (.inl ⟨rfl, rfl⟩) (.fl (v := .int z) trivial) (by rw [nb, if_neg g1, if_pos (of_decide_eq_true h)]; show (decide (0 ≤ z) && decide (z < 10 ^ 18)) = true; rw [decide_eq_true z0, decide_eq_true z1]; rfl)
  have g2 : ¬ wd = "num" := fun x => h (decide_eq_true x)
  walk_at "r"
  rw [dec_str]
  refine ite2 (fun h => ?_) (fun h => ?_)
  ·walk_at "r"
   exact two _ _ _ _ (Same.refl _) (.inl ⟨rfl, rfl⟩) (.fl (v := .bl _) trivial) (by rw [nb, if_neg g1, if_neg g2, if_pos (of_decide_eq_true h)]; rfl)
  have g3 : ¬ wd = "truth" := fun x => h (decide_eq_true x)
  walk_at "r"
  refine ⟨by show 3 ≤ sizeLine; decide, fun p4 h4 => ?_⟩
  refine s_in_seq (.inr (SqT.of upd_same)) rfl rfl ?_
  have s4 := Same.upd (o := .tup [.str "name", .str "fn", .str "let"]) h4
  rw [if_neg Bool.false_ne_true, three_in]
  walk_at "r"
  refine ite2 (fun h => ?_) (fun h => ?_)
  ·walk_at "r"
   obtain ⟨t, ht, hnt⟩ := pick3 n0 n1 n2 (c / 13)
   refine s_ix_lst ((sm3.trans s4).seq hp) ht ?_
   walk_at "r"
   exact two _ _ _ _ s4 (.inl ⟨rfl, rfl⟩) (.fl (show t.length ≤ 1000 by have := (name_len hnt).2; omega)) (by rw [nb, if_neg g1, if_neg g2, if_neg g3, if_pos (of_decide_eq_true h)]; exact hnt)
  have g4 : ¬ wd ∈ (["name", "fn", "let"] : List Str) := fun x => h (decide_eq_true x)
  walk_at "r"
  rw [dec_str]
  refine ite2 (fun h => ?_) (fun h => ?_)
  ·walk_at "r"
   obtain ⟨t, ht, hnt⟩ := pick3 n0 n1 n2 (c / 13)
   obtain ⟨u, hu, hnu⟩ := pick3 n0 n1 n2 (c / 13 / 3)
   refine s_ix_lst ((sm3.trans s4).seq hp) ht ?_
   walk_at "r"
   refine s_ix_lst ((sm3.trans s4).seq hp) hu ?_
   walk_at "r"
   refine ⟨by show 2 ≤ sizeLine; decide, fun p5 h5 => ?_⟩
   walk_at "r"
   refine two _ _ _ _ (s4.put h5) (.inr ⟨p5, [.str t, .str u], rfl, SqT.of upd_same, rfl, rfl⟩) (.tp (fun v hv => ?_)) (by rw [nb, if_neg g1, if_neg g2, if_neg g3, if_neg g4, if_pos (of_decide_eq_true h)]; show (nameB t && nameB u) = true; rw [hnt, hnu]; rfl)
   have l1 := (name_len hnt).2
   have l2 := (name_len hnu).2
   simp only [List.mem_cons, List.not_mem_nil, or_false] at hv
   rcases hv with rfl | rfl
   ·show t.length ≤ 1000
    omega
   ·show u.length ≤ 1000
    omega
  ·have g5 : ¬ wd = "rec" := fun x => h (decide_eq_true x)
   walk_at "r"
   exact two _ _ _ _ s4 (.inl ⟨rfl, rfl⟩) (.fl (v := .non) trivial) (by rw [nb, if_neg g1, if_neg g2, if_neg g3, if_neg g4, if_neg g5]; rfl)
theorem look_mem {wd : Str} {m : Nat} : ∀ {ps : List (Str × Nat)}, ps.lookup wd = some m → (wd, m) ∈ ps
 | [], h => nomatch h
 | (a, b) :: r, h => by
  rw [List.lookup_cons] at h
  split at h
  ·rename_i e
   have e : wd = a := by simpa using e
   cases h
   rw [e]
   exact List.mem_cons_self
  ·exact List.mem_cons_of_mem _ (look_mem h)
theorem many_all : PN.all (fun x => (inV (.str x.1) [.str "plus", .str "minus", .str "less", .str "call", .str "let"] == decide (x.2 = 2)) && (decide (x.1 = "if") == decide (x.2 = 3)) && (inV (.str x.1) [.str "fn", .str "rec"] == decide (x.2 = 1)) && decide (x.2 ≤ 3) && decide (x.1.length ≤ 10)) = true := by decide +kernel
theorem many_one {wd : Str} {m : Nat} (h : partsOf wd = some m) : inV (.str wd) [.str "plus", .str "minus", .str "less", .str "call", .str "let"] = decide (m = 2) ∧ decide (wd = "if") = decide (m = 3) ∧ inV (.str wd) [.str "fn", .str "rec"] = decide (m = 1) ∧ m ≤ 3 ∧ wd.length ≤ 10 := by
 have := List.all_eq_true.mp many_all _ (look_mem h)
 simp only [Bool.and_eq_true, beq_iff_eq, decide_eq_true_eq] at this
 exact ⟨this.1.1.1.1, this.1.1.1.2, this.1.1.2, this.1.2, this.2⟩
noncomputable def sp_many : Sp := fun vs H Q _ => ∃ (wd : Str) (m : Nat), vs = [.str wd] ∧ partsOf wd = some m ∧ ∀ (H' : Hp), Same H H' → Q (.int m) H'
theorem sc_law_many : FnScope ["_law_word"] ["_law_word"] (defScope s_law_many) := ⟨rfl, rfl, rfl, by decide +kernel, rfl, by decide +kernel, by decide +kernel⟩
theorem ok_many {f : Addr} {fd : FuncData} (F : Fun K "_law_many" "_law_many" s_law_many f fd) (T : Txt K mg) : FnOk P w K mg base CX0 1 f fd ["_law_word"] sp_many := by
 refine F.okq sc_law_many (fun vs H Q E h => ?_) (fun cdv A outer s H vs Q E hr h => ?_)
 ·obtain ⟨a, m, rfl, _⟩ := h
  rfl
 ·obtain ⟨wd, m, rfl, hm, q⟩ := h
  refine ⟨_, qss_cons (qs_if (qt_cmpR (k_in K) (qv 0) (qe_tup (qa_consts (xs := [.str "plus", .str "minus", .str "less", .str "call", .str "let"]) rfl)) (by rfl)) (qss_one (qs_ret (qe_int))) (qss_nil))
   (qss_cons (qs_if (qt_cmpR (k_eq K hr.u200) (qv 0) (qe_str) (nomark _)) (qss_one (qs_ret (qe_int))) (qss_nil))
   (qss_one (qs_ret (qe_callTy k_int (by rfl) T.int (by decide +kernel) (qa_cons (qe_cmpR (k_in K) (qv 0) (qe_tup (qa_cons (qe_str) (qa_cons (qe_str) qa_nil))) (by rfl)) qa_nil))))), ?_⟩
  obtain ⟨e1, e2, e3, e4, _⟩ := many_one hm
  walk_at "r"
  refine ⟨by show 5 ≤ sizeLine; decide, fun p1 h1 => ?_⟩
  refine s_in_seq (.inr (SqT.of upd_same)) rfl rfl ?_
  have s1 := Same.upd (o := .tup [.str "plus", .str "minus", .str "less", .str "call", .str "let"]) h1
  rw [if_neg Bool.false_ne_true, e1]
  walk_at "r"
  refine ite2 (fun h => ?_) (fun h => ?_)
  ·have h : m = 2 := of_decide_eq_true h
   subst h
   walk_at "r"
   exact q _ s1
  have n2 : m ≠ 2 := fun x => h (decide_eq_true x)
  walk_at "r"
  rw [dec_str, e2]
  refine ite2 (fun h => ?_) (fun h => ?_)
  ·have h : m = 3 := of_decide_eq_true h
   subst h
   walk_at "r"
   exact q _ s1
  have n3 : m ≠ 3 := fun x => h (decide_eq_true x)
  walk_at "r"
  refine ⟨by show 2 ≤ sizeLine; decide, fun p2 h2 => ?_⟩
  refine s_in_seq (.inr (SqT.of upd_same)) rfl rfl ?_
  rw [if_neg Bool.false_ne_true, e3]
  walk_at "r"
  have q' := q _ (s1.put (o := .tup [.str "fn", .str "rec"]) h2)
  by_cases z : m = 1
  ·subst z
   exact q'
  ·have z0 : m = 0 := by omega
   subst z0
   exact q'
mutual
noncomputable def dep : Tr → Nat
 | .mk _ _ ps => 1 + deps ps
noncomputable def deps : List Tr → Nat
 | [] => 0
 | t :: r => max (dep t) (deps r)
end
theorem dep_mk (w : Str) (n : Dt) (ts : List Tr) : dep (.mk w n ts) = 1 + deps ts := by rw [dep]
theorem deps_nil : deps [] = 0 := by rw [deps]
theorem deps_cons (t : Tr) (r : List Tr) : deps (t :: r) = max (dep t) (deps r) := by rw [deps]
theorem gapT_dep : dep gapT = 1 := by unfold gapT; rw [dep, deps]
theorem deps_append (a b : List Tr) : deps (a ++ b) = max (deps a) (deps b) := by
 induction a with
 | nil => rw [List.nil_append, deps]; omega
 | cons t r ih => rw [List.cons_append, deps, deps, ih]; omega
theorem deps_snoc (a : List Tr) (t : Tr) : deps (a ++ [t]) = max (deps a) (dep t) := by rw [deps_append, deps, deps]; omega
theorem deps_get {ts : List Tr} {j : Nat} {t : Tr} (h : ts[j]? = some t) : dep t ≤ deps ts := by
 induction ts generalizing j with
 | nil => simp at h
 | cons x r ih =>
  rw [deps]
  cases j with
  | zero => simp at h; subst h; omega
  | succ j => have := ih (j := j) (by simpa using h); omega
theorem deps_set (ts : List Tr) (j : Nat) (u : Tr) : deps (ts.set j u) ≤ max (deps ts) (dep u) := by
 induction ts generalizing j with
 | nil => simp [deps]
 | cons x r ih =>
  cases j with
  | zero => rw [List.set_cons_zero, deps, deps]; omega
  | succ j => rw [List.set_cons_succ, deps, deps]; have := ih j; omega
inductive TrOk : Tr → Prop where
 | mk {wd : Str} {d : Dt} {nt : Nt} {ts : List Tr} (hp : partsOf wd = some ts.length) (hd : DtNt d nt) (hn : noteB wd nt = true) (hs : ∀ t ∈ ts, TrOk t) : TrOk (.mk wd d ts)
theorem TrOk.gap : TrOk gapT := .mk (by decide +kernel) (.fl (v := .non) trivial) (by decide +kernel) (fun t h => nomatch h)
theorem TrOk.let {u : Str} {s t : Tr} (hu : nameB u = true) (hs : TrOk s) (ht : TrOk t) : TrOk (.mk "let" (.flat (.str u)) [s, t]) :=
 .mk (by show partsOf "let" = some 2; decide +kernel) (.fl (show u.length ≤ 1000 by have := (name_len hu).2; omega)) (by
  have e : noteB "let" (.fl (.str u)) = nameB u := by
   unfold noteB
   rw [if_neg (by decide +kernel), if_neg (by decide +kernel), if_neg (by decide +kernel), if_pos (by decide +kernel)]
   rfl
  rw [e]; exact hu) (fun x hx => by
  simp only [List.mem_cons, List.not_mem_nil, or_false] at hx
  rcases hx with rfl | rfl <;> assumption)
theorem TrOk.call {s t : Tr} (hs : TrOk s) (ht : TrOk t) : TrOk (.mk "call" (.flat .non) [s, t]) :=
 .mk (by show partsOf "call" = some 2; decide +kernel) (.fl (v := .non) trivial) (by decide +kernel) (fun x hx => by
  simp only [List.mem_cons, List.not_mem_nil, or_false] at hx
  rcases hx with rfl | rfl <;> assumption)
theorem ok_snoc {ts : List Tr} {t : Tr} (h : ∀ x ∈ ts, TrOk x) (ht : TrOk t) : ∀ x ∈ ts ++ [t], TrOk x := fun x hx => by
 rcases List.mem_append.mp hx with hx | hx
 ·exact h x hx
 ·rw [List.mem_singleton.mp hx]; exact ht
noncomputable def sp_tree (K : W.Frag) : Sp := fun vs H Q _ => ∃ (c p : Addr) (ns : List Int) (t0 t1 t2 : Str), vs = [.ref c, .ref p] ∧ SqL K H c (ns.map V.int) ∧ ns.length ≤ 63 ∧ SqL K H p [.str t0, .str t1, .str t2] ∧ nameB t0 = true ∧ nameB t1 = true ∧ nameB t2 = true ∧
 ∀ (v : V) (t : Tr) (H' : Hp), Same H H' → TrAt K H' v t → TrOk t → t.size ≤ 1 + 5 * ns.length → dep t ≤ 1 + 2 * ns.length → Q v H'
theorem sc_law_tree : FnScope ["_law_cells", "_law_names_here", "_law_left", "_law_cell_here", "_law_word", "_law_remark", "_law_parts", "_law_k", "_law_tree_here", "_law_form"] ["_law_cells", "_law_names_here"] (defScope s_law_tree) := ⟨rfl, rfl, rfl, by decide +kernel, rfl, by decide +kernel, by decide +kernel⟩
noncomputable def TreeJ (K : W.Frag) (H : Hp) (c p pl : Addr) (i : Nat) (σ : St) (H' : Hp) : Prop := ∃ (v3 v4 v5 v6 v7 v8 v9 : Option V) (lv : List V) (lt : List Tr), σ = [some (.ref c), some (.ref p), some (.ref pl), v3, v4, v5, v6, v7, v8, v9] ∧ H' pl = some (.lst lv) ∧ Al (TrAt K H') lv lt ∧ sizes lt ≤ 4 * i ∧ lt.length ≤ i ∧ (∀ t ∈ lt, TrOk t) ∧ deps lt ≤ i + 1 ∧ Same H H'
theorem TrAt.al {K : W.Frag} {H H' : Hp} {vs : List V} {ts : List Tr} (h : Al (TrAt K H) vs ts) (e : SameT H H') : Al (TrAt K H') vs ts := h.mono fun _ _ a => a.sameT e
theorem ok_tree {f : Addr} {fd : FuncData} (F : Fun K "_law_tree" "_law_tree" s_law_tree f fd) (T : Txt K mg) (C__law_head : Callee P w K mg base 2 "_law_head" ["_law_cell_here", "_law_names_here"] (sp_head K)) (C__law_many : Callee P w K mg base 1 "_law_many" ["_law_word"] sp_many) : FnOk P w K mg base CX0 3 f fd ["_law_cells", "_law_names_here"] (sp_tree K) := by
 refine F.okq sc_law_tree (fun vs H Q E h => ?_) (fun cdv A outer s H vs Q E hr h => ?_)
 ·obtain ⟨c, p, ns, t0, t1, t2, rfl, _⟩ := h
  rfl
 ·obtain ⟨c, p, ns, t0, t1, t2, rfl, hc, hn, hp, n0, n1, n2, q⟩ := h
  refine ⟨_, qss_cons (qs_set (i := 2) sc_law_tree.nd rfl (Or.inl rfl) (qe_lst (qa_nil)))
   (qss_cons (qs_for PassesOwn.never rfl (qi_anyK K (qv 0)) (qg_name (i := 3) sc_law_tree.nd rfl (Or.inl rfl)) (qss_cons (qs_asg (qe_fn C__law_head (hr.mono (by decide)) (qa_cons (qv 3) (qa_cons (qv 1) qa_nil))) (qg_tupK K (n := 2) rfl (qgs_cons (qg_name (i := 4) sc_law_tree.nd rfl (Or.inl rfl)) (qgs_cons (qg_name (i := 5) sc_law_tree.nd rfl (Or.inl rfl)) (qgs_nil)))))
   (qss_cons (qs_set (i := 6) sc_law_tree.nd rfl (Or.inl rfl) (qe_lst (qa_nil)))
   (qss_cons (qs_for PassesOwn.never rfl (qi_range1 rfl T.range (qa_cons (qe_fn C__law_many (hr.mono (by decide)) (qa_cons (qv 4) qa_nil)) qa_nil)) (qg_name (i := 7) sc_law_tree.nd rfl (Or.inl rfl)) (qss_one (qs_if (QW.qt (qw_and (qt_cmpR op_gt (qe_callB (k_len K) (by rfl) T.len (by decide +kernel) (qa_cons (qv 2) qa_nil)) (qe_int) (nomark _)) (qw_and1 (qt_cmpR op_gt (qe_op op_mod (qe_op op_mod (qe_op op_mulA (qv 3) (qe_op (k_add K) (qe_op op_mulA (qe_int) (qv 7)) (qe_int))) (qe_int)) (qe_int)) (qe_int) (nomark _))))) (qss_one (qs_expr (qe_bmK K PySem.F.plainAttrs_list PySem.F.slot_list_append PySem.F.type_list_append mt_append (qv 6) (qa_cons (qe_bm0K K PySem.F.plainAttrs_list PySem.F.slot_list_pop PySem.F.type_list_pop mt_pop (qv 2)) qa_nil)))) (qss_one (qs_expr (qe_bmK K PySem.F.plainAttrs_list PySem.F.slot_list_append PySem.F.type_list_append mt_append (qv 6) (qa_cons (qe_tup (qa_cons (qe_str) (qa_cons (qe_non) (qa_cons (qe_tup (qa_nil)) qa_nil)))) qa_nil)))))))
   (qss_one (qs_expr (qe_bmK K PySem.F.plainAttrs_list PySem.F.slot_list_append PySem.F.type_list_append mt_append (qv 2) (qa_cons (qe_tup (qa_cons (qv 4) (qa_cons (qv 5) (qa_cons (qe_callTy (k_tuple K) (by rfl) T.tuple (by decide +kernel) (qa_cons (qv 6) qa_nil)) qa_nil)))) qa_nil))))))))
   (qss_cons (qs_set (i := 8) sc_law_tree.nd rfl (Or.inl rfl) (qe_tup (qa_cons (qe_str) (qa_cons (qe_non) (qa_cons (qe_tup (qa_nil)) qa_nil)))))
   (qss_cons (qs_for PassesOwn.never rfl (qi_enumK K rfl T.enumerate (qa_cons (qv 2) qa_nil)) (qg_tupK K (n := 2) rfl (qgs_cons (qg_name (i := 7) sc_law_tree.nd rfl (Or.inl rfl)) (qgs_cons (qg_name (i := 9) sc_law_tree.nd rfl (Or.inl rfl)) (qgs_nil)))) (qss_one (qs_if (qt_cmpR (k_eq K hr.u200) (qv 7) (qe_int) (nomark _)) (qss_one (qs_set (i := 8) sc_law_tree.nd rfl (Or.inl rfl) (qv 9))) (qss_one (qs_if (qt_cmpR (k_eq K hr.u200) (qe_op op_mod (qv 7) (qe_int)) (qe_int) (nomark _)) (qss_one (qs_set (i := 8) sc_law_tree.nd rfl (Or.inl rfl) (qe_tup (qa_cons (qe_str) (qa_cons (qe_ix (k_ix K) (qv 1) (qe_op op_mod (qv 7) (qe_int)) (fun _ _ => rfl)) (qa_cons (qe_tup (qa_cons (qv 8) (qa_cons (qv 9) qa_nil))) qa_nil)))))) (qss_one (qs_set (i := 8) sc_law_tree.nd rfl (Or.inl rfl) (qe_tup (qa_cons (qe_str) (qa_cons (qe_non) (qa_cons (qe_tup (qa_cons (qv 9) (qa_cons (qv 8) qa_nil))) qa_nil)))))))))))
   (qss_one (qs_ret (qv 8)))))), ?_⟩
  have bg := big
  walk_at "r"
  refine ⟨by show 0 ≤ sizeLine; decide, fun pl hpl => ?_⟩
  have s1 := Same.upd (o := .lst []) hpl
  walk_at "r"
  refine .inl ⟨c, rfl, ⟨_, s1.seq hc⟩, ?_⟩
  refine for_list (K := K) (a := c) (xs := ns.map V.int) (TreeJ K H c p pl) ⟨_, _, _, _, _, _, _, [], [], rfl, upd_same, .nil, Nat.zero_le _, Nat.zero_le _, (fun t h => nomatch h), (by rw [deps_nil]; omega), s1⟩ ?_ ?_ ?_
  ·rintro i σ' H' _ ⟨_, _, _, _, _, _, _, _, _, _, _, _, _, _, _, _, sm⟩
   exact sm.seq hc
  ·rintro i x σ' H1 hx ⟨v3, v4, v5, v6, v7, v8, v9, lv, lt, rfl, el, al, hsz, hln, hok, hdp, sm⟩
   obtain ⟨z, _, rfl⟩ := List.mem_map.mp (List.mem_of_getElem? hx)
   have hi := (List.getElem?_eq_some_iff.mp hx).1
   rw [List.length_map] at hi
   walk_at "r"
   refine ⟨z, p, t0, t1, t2, rfl, sm.seq hp, n0, n1, n2, fun a wd note n nt H2 s2 qa hno hps hdn hnb => ?_⟩
   refine s_gtup qa rfl ?_
   walk_at "r"
   refine ⟨by show 0 ≤ sizeLine; decide, fun pp hpp => ?_⟩
   have el2 := s2 _ _ el
   have npp : pl ≠ pp := ne_of_none el2 hpp
   have s3 := Same.upd (o := .lst []) hpp
   walk_at "r"
   obtain ⟨k, hk⟩ := Option.isSome_iff_exists.mp hps
   have k3 := (many_one hk).2.2.2.1
   refine ⟨wd, k, rfl, hk, fun H3 s4 => ?_⟩
   have sm3 := sm.trans (s2.trans (s3.trans s4))
   have hpp0 : H pp = none := (sm.trans s2).free hpp
   walk_at "r"
   refine ⟨by omega, by omega, ?_⟩
   refine for_range (n := (k : Int).toNat) (fun j σ5 H5 => ∃ (v7 : Option V) (lv5 pv5 : List V) (lt5 pt5 : List Tr), σ5 = [some (.ref c), some (.ref p), some (.ref pl), some (.int z), some (.str wd), some note, some (.ref pp), v7, v8, v9] ∧ H5 pl = some (.lst lv5) ∧ H5 pp = some (.lst pv5) ∧ Al (TrAt K H5) lv5 lt5 ∧ Al (TrAt K H5) pv5 pt5 ∧ pt5.length = j ∧ (∀ t ∈ lt5, TrOk t) ∧ (∀ t ∈ pt5, TrOk t) ∧ sizes lt5 + sizes pt5 ≤ sizes lt + j ∧ lt5.length ≤ i ∧ deps lt5 ≤ i + 1 ∧ deps pt5 ≤ i + 1 ∧ SameT H3 H5 ∧ Same H H5)
    ⟨_, lv, [], lt, [], rfl, s4 _ _ (s3 _ _ el2), s4 _ _ upd_same, TrAt.al al (s2.trans (s3.trans s4)).t, .nil, rfl, hok, (fun t h => nomatch h), by simp [sizes], hln, hdp, (by rw [deps_nil]; omega), SameT.refl _, sm3⟩ ?_ ?_
   ·rintro j σ5 H5 hj ⟨v7', lv5, pv5, lt5, pt5, rfl, e5l, e5p, al5, ap5, hpt, ok5, okp, hs5, hl5, hd5, hq5, t5, sm5⟩
    have hpv : pv5.length = j := by rw [ap5.1, hpt]
    have gap : ∀ σ6 : St, σ6 = [some (.ref c), some (.ref p), some (.ref pl), some (.int z), some (.str wd), some note, some (.ref pp), some (.int (0 + (j : Int))), v8, v9] →
      ∀ pa, H5 pa = none → ∀ pb, upd H5 pa (.tup []) pb = none → rAppend (.ref pp) [.ref pb] (upd (upd H5 pa (.tup [])) pb (.tup [.str "gap", .non, .ref pa])) fun _ H6 => ∃ (v7 : Option V) (lv5 pv5 : List V) (lt5 pt5 : List Tr), σ6 = [some (.ref c), some (.ref p), some (.ref pl), some (.int z), some (.str wd), some note, some (.ref pp), v7, v8, v9] ∧ H6 pl = some (.lst lv5) ∧ H6 pp = some (.lst pv5) ∧ Al (TrAt K H6) lv5 lt5 ∧ Al (TrAt K H6) pv5 pt5 ∧ pt5.length = j + 1 ∧ (∀ t ∈ lt5, TrOk t) ∧ (∀ t ∈ pt5, TrOk t) ∧ sizes lt5 + sizes pt5 ≤ sizes lt + (j + 1) ∧ lt5.length ≤ i ∧ deps lt5 ≤ i + 1 ∧ deps pt5 ≤ i + 1 ∧ SameT H3 H6 ∧ Same H H6 := fun σ6 e6 pa hpa pb hpb => by
     have s6 := (Same.upd (o := .tup []) hpa).put (o := .tup [.str "gap", .non, .ref pa]) hpb
     have e6p := s6 _ _ e5p
     have t6 : SameT H5 (upd (upd (upd H5 pa (.tup [])) pb (.tup [.str "gap", .non, .ref pa])) pp (.lst (pv5 ++ [.ref pb]))) := s6.t.trans (SameT.set e6p)
     refine s_app e6p (by omega) ⟨_, lv5, pv5 ++ [.ref pb], lt5, pt5 ++ [gapT], e6, by rw [upd_ne npp]; exact s6 _ _ e5l, upd_same, TrAt.al al5 t6, (TrAt.al ap5 t6).snoc ?_, by simp [hpt], ok5, ok_snoc okp TrOk.gap, ?_, hl5, hd5, (by rw [deps_snoc, gapT_dep]; omega), t5.trans t6, (sm5.trans s6).over hpp0⟩
     ·exact TrAt.gap ((SameT.set e6p).tup (SqT.of upd_same)) (((SameT.new (o := .tup [.str "gap", .non, .ref pa]) hpb).trans (SameT.set e6p)).tup (SqT.of upd_same))
     ·have e1 : sizes [gapT] = 1 := by rw [sizes, gapT_size, sizes]
      rw [sizes_append, e1]
      omega
    walk_at "r"
    refine s_len_lst (SqL.of e5l) ?_
    walk_at "r"
    by_cases hlv : lv5 = []
    ·subst hlv
     refine iteF ?_
     walk_at "r"
     refine s_tyL (SqL.of e5p) ?_
     walk_at "r"
     refine ⟨by show 0 ≤ sizeLine; decide, fun pa hpa => ?_⟩
     walk_at "r"
     refine ⟨by show 3 ≤ sizeLine; decide, fun pb hpb => ?_⟩
     walk_at "r"
     exact gap _ rfl pa hpa pb hpb
    ·obtain ⟨lv6, x6, lt6, t6, rfl, rfl, al6, hx6⟩ := al5.last hlv
     have hne : decide ((0 : Int) < ((lv6 ++ [x6]).length : Int)) = true := decide_eq_true (by rw [List.length_append, List.length_singleton]; omega)
     rw [hne]
     walk_at "r"
     refine s_mul_r (by omega) (by omega) ?_
     walk_at "r"
     refine ite2 (fun _ => ?_) (fun _ => ?_)
     ·walk_at "r"
      refine s_tyL (SqL.of e5p) ?_
      walk_at "r"
      refine s_tyL (SqL.of e5l) ?_
      refine s_pop e5l ?_
      walk_at "r"
      have e6p : upd H5 pl (.lst lv6) pp = some (.lst pv5) := by rw [upd_ne npp.symm]; exact e5p
      have t6' : SameT H5 (upd (upd H5 pl (.lst lv6)) pp (.lst (pv5 ++ [x6]))) := (SameT.set e5l).trans (SameT.set e6p)
      have hs6 : sizes (lt6 ++ [t6]) = sizes lt6 + t6.size := by rw [sizes_append, sizes, sizes]; omega
      refine s_app e6p (by omega) ⟨_, lv6, pv5 ++ [x6], lt6, pt5 ++ [t6], rfl, by rw [upd_ne npp, upd_same], upd_same, TrAt.al al6 t6', (TrAt.al ap5 t6').snoc (hx6.sameT t6'), by simp [hpt], fun t ht => ok5 t (List.mem_append_left _ ht), ok_snoc okp (ok5 t6 (by simp)), ?_, ?_, (by rw [deps_snoc] at hd5; omega), (by rw [deps_snoc] at hd5 ⊢; omega), t5.trans t6', (sm5.over hpl).over hpp0⟩
      ·have e2 : sizes (pt5 ++ [t6]) = sizes pt5 + t6.size := by rw [sizes_append, sizes, sizes]; omega
       omega
      ·rw [List.length_append, List.length_singleton] at hl5
       omega
     ·walk_at "r"
      refine s_tyL (SqL.of e5p) ?_
      walk_at "r"
      refine ⟨by show 0 ≤ sizeLine; decide, fun pa hpa => ?_⟩
      walk_at "r"
      refine ⟨by show 3 ≤ sizeLine; decide, fun pb hpb => ?_⟩
      walk_at "r"
      exact gap _ rfl pa hpa pb hpb
   ·rintro σ5 H5 ⟨v7', lv5, pv5, lt5, pt5, rfl, e5l, e5p, al5, ap5, hpt, ok5, okp, hs5, hl5, hd5, hq5, t5, sm5⟩
    walk_at "r"
    refine s_tyL (SqL.of e5l) ?_
    walk_at "r"
    refine s_tupL (SqL.of e5p) fun pq hpq => ?_
    walk_at "r"
    refine ⟨by show 3 ≤ sizeLine; decide, fun pr hpr => ?_⟩
    walk_at "r"
    have s6 := (Same.upd (o := .tup pv5) hpq).put (o := .tup [.str wd, note, .ref pq]) hpr
    have e6l := s6 _ _ e5l
    have hll : lv5.length ≤ i := by rw [al5.1]; exact hl5
    have t6 : SameT H5 (upd (upd (upd H5 pq (.tup pv5)) pr (.tup [.str wd, note, .ref pq])) pl (.lst (lv5 ++ [.ref pr]))) := s6.t.trans (SameT.set e6l)
    refine s_app e6l (by omega) ⟨_, _, _, _, _, _, _, lv5 ++ [.ref pr], lt5 ++ [.mk wd n pt5], rfl, upd_same, (TrAt.al al5 t6).snoc ?_, ?_, by simp; omega, ok_snoc ok5 (.mk (by rw [hpt]; simpa using hk) hdn hnb okp), (by rw [deps_snoc, dep_mk]; omega), (sm5.trans s6).over hpl⟩
    ·have ap6 := TrAt.al ap5 t6
     exact .mk ((SameT.set e6l).tup (SqT.of upd_same)) (hno.same (((s3.trans s4).t.trans t5).trans t6)) (((SameT.new (o := .tup [.str wd, note, .ref pq]) hpr).trans (SameT.set e6l)).tup (SqT.of upd_same)) ap6.1 ap6.2
    ·have e1 : sizes (lt5 ++ [.mk wd n pt5]) = sizes lt5 + (1 + sizes pt5) := by rw [sizes_append, sizes, sizes, Tr.size]; omega
     omega
  ·rintro σ' H1 ⟨v3, v4, v5, v6, v7, v8, v9, lv, lt, rfl, el, al, hsz, hln, hok, hdp, sm⟩
   rw [List.length_map] at hsz hln hdp
   walk_at "r"
   refine ⟨by show 0 ≤ sizeLine; decide, fun pa hpa => ?_⟩
   walk_at "r"
   refine ⟨by show 3 ≤ sizeLine; decide, fun pb hpb => ?_⟩
   have s2 := (Same.upd (o := .tup []) hpa).put (o := .tup [.str "gap", .non, .ref pa]) hpb
   walk_at "r"
   refine ⟨pl, lv, rfl, SqL.of (s2 _ _ el), ?_⟩
   refine for_enum (K := K) (a := pl) (xs := lv) (fun i σ5 H5 => ∃ (v7 v9 : Option V) (tv : V) (t : Tr), σ5 = [some (.ref c), some (.ref p), some (.ref pl), v3, v4, v5, v6, v7, some tv, v9] ∧ TrAt K H5 tv t ∧ TrOk t ∧ t.size ≤ 1 + sizes (lt.take i) + i ∧ dep t ≤ ns.length + 1 + i ∧ Same H1 H5)
    ⟨_, _, _, gapT, rfl, TrAt.gap (SqT.of upd_same) ((SameT.new (o := .tup [.str "gap", .non, .ref pa]) hpb).tup (SqT.of upd_same)), TrOk.gap, by rw [gapT_size]; omega, by rw [gapT_dep]; omega, s2⟩ ?_ ?_ ?_
   ·rintro i σ5 H5 _ ⟨_, _, _, _, _, _, _, _, _, sm5⟩
    exact SqL.of (sm5 _ _ el)
   ·rintro i x tt σ5 H5 hx htt ⟨v7', v9', tv, t, rfl, htv, hto, hts, htd, sm5⟩
    obtain ⟨tx, htx, hax⟩ := al.get hx
    have hxo := hok tx (List.mem_of_getElem? htx)
    have hxd := deps_get htx
    have s6 := Same.upd (o := .tup [.int i, x]) htt
    have hst : sizes (lt.take (i + 1)) = sizes (lt.take i) + tx.size := by
     rw [List.take_add_one, htx, sizes_append]
     show _ + sizes [tx] = _
     rw [sizes, sizes]
     omega
    refine s_gtup (SqT.of upd_same) rfl ?_
    walk_at "r"
    refine ite2 (fun _ => ?_) (fun _ => ?_)
    ·walk_at "r"
     exact ⟨_, _, x, tx, rfl, hax.same (sm5.trans s6), hxo, by omega, by omega, sm5.trans s6⟩
    walk_at "r"
    refine ite2 (fun _ => ?_) (fun _ => ?_)
    ·walk_at "r"
     obtain ⟨u, hu, hnu⟩ := pick3 n0 n1 n2 (i : Int)
     refine s_ix_lst ((sm.trans (sm5.trans s6)).seq hp) hu ?_
     walk_at "r"
     refine ⟨by show 2 ≤ sizeLine; decide, fun p8 h8 => ?_⟩
     walk_at "r"
     refine ⟨by show 3 ≤ sizeLine; decide, fun p9 h9 => ?_⟩
     walk_at "r"
     have s8 := s6.trans ((Same.upd (o := .tup [tv, x]) h8).put (o := .tup [.str "let", .str u, .ref p8]) h9)
     have ax := hax.same (sm5.trans s8)
     have at' := htv.same s8
     have e8 := (SameT.new (o := .tup [.str "let", .str u, .ref p8]) h9).tup (K := K) (SqT.of upd_same)
     refine ⟨_, _, .ref p9, .mk "let" (.flat (.str u)) [t, tx], rfl, .mk (SqT.of upd_same) (.inl ⟨rfl, rfl⟩) e8 rfl fun j v y f1 f2 => ?_, TrOk.let hnu hto hxo, ?_, (by rw [dep_mk, deps_cons, deps_cons, deps_nil]; omega), sm5.trans s8⟩
     ·match j, f1, f2 with
      | 0, f1, f2 => cases f1; cases f2; exact at'
      | 1, f1, f2 => cases f1; cases f2; exact ax
     ·rw [Tr.size, sizes, sizes, sizes]
      omega
    ·walk_at "r"
     refine ⟨by show 2 ≤ sizeLine; decide, fun p8 h8 => ?_⟩
     walk_at "r"
     refine ⟨by show 3 ≤ sizeLine; decide, fun p9 h9 => ?_⟩
     walk_at "r"
     have s8 := s6.trans ((Same.upd (o := .tup [x, tv]) h8).put (o := .tup [.str "call", .non, .ref p8]) h9)
     have ax := hax.same (sm5.trans s8)
     have at' := htv.same s8
     have e8 := (SameT.new (o := .tup [.str "call", .non, .ref p8]) h9).tup (K := K) (SqT.of upd_same)
     refine ⟨_, _, .ref p9, .mk "call" (.flat .non) [tx, t], rfl, .mk (SqT.of upd_same) (.inl ⟨rfl, rfl⟩) e8 rfl fun j v y f1 f2 => ?_, TrOk.call hxo hto, ?_, (by rw [dep_mk, deps_cons, deps_cons, deps_nil]; omega), sm5.trans s8⟩
     ·match j, f1, f2 with
      | 0, f1, f2 => cases f1; cases f2; exact ax
      | 1, f1, f2 => cases f1; cases f2; exact at'
     ·rw [Tr.size, sizes, sizes, sizes]
      omega
   ·rintro σ5 H5 ⟨v7', v9', tv, t, rfl, htv, hto, hts, htd, sm5⟩
    walk_at "r"
    rw [al.1, List.take_length] at hts
    rw [al.1] at htd
    exact q tv t H5 (sm.trans sm5) htv hto (by omega) (by omega)
mutual
noncomputable def toFm : Tr → Fm
 | .mk _ _ ts => .nd (toFms ts)
noncomputable def toFms : List Tr → List Fm
 | [] => []
 | t :: r => toFm t :: toFms r
end
mutual
theorem toFm_size : ∀ t : Tr, (toFm t).size = t.size
 | .mk w n ts => by rw [toFm, Fm.size, Tr.size, toFms_size ts]
theorem toFms_size : ∀ ts : List Tr, fsizes (toFms ts) = sizes ts
 | [] => by rw [toFms, fsizes, sizes]
 | t :: r => by rw [toFms, fsizes, sizes, toFm_size t, toFms_size r]
end
mutual
theorem toFm_good : ∀ t : Tr, (toFm t).good = true
 | .mk w n ts => by rw [toFm, Fm.good, toFms_good ts]
theorem toFms_good : ∀ ts : List Tr, goods (toFms ts) = true
 | [] => by rw [toFms, goods]
 | t :: r => by rw [toFms, goods, toFm_good t, toFms_good r]; rfl
end
theorem toFms_map : ∀ ts : List Tr, toFms ts = ts.map toFm
 | [] => by rw [toFms]; rfl
 | t :: r => by rw [toFms, toFms_map r]; rfl
theorem _root_.L2.TrAt.fm {K : W.Frag} {H : Hp} {v : V} {t : Tr} (h : TrAt K H v t) : TrOk t → FmAt K H v (toFm t) := by
 induction h with
 | @mk a p wd nv n vs ts q hn qp l _ ih =>
  intro ok
  cases ok with
  | @mk _ _ nt _ hp hd hnb hs =>
   rw [toFm, toFms_map]
   have hl : wd.length ≤ 1000 := by have := (many_one hp).2.2.2.2; omega
   refine .nd q qp ?_ (by rw [List.length_map]; exact l) fun j v f e1 e2 => ?_
   ·have := TopD.many (K := K) (H := H) q hl (IsN.nt hn hd) qp
    rw [hp, hnb, l] at this
    simpa using this
   ·rw [List.getElem?_map] at e2
    cases e3 : ts[j]? with
    | none => rw [e3] at e2; cases e2
    | some t =>
     rw [e3] at e2
     cases e2
     exact ih j v t e1 e3 (hs t (List.mem_of_getElem? e3))
theorem tr_ref {K : W.Frag} {H : Hp} {v : V} {t : Tr} (h : TrAt K H v t) : ∃ (a p : Addr) (n : V), v = .ref a ∧ SqT K H a [.str t.wd, n, .ref p] := by
 cases h with
 | mk q hn qp l hs => exact ⟨_, _, _, rfl, q⟩
theorem not_ref {K : W.Frag} {H : Hp} {v : V} {t : Tr} (h : TrAt K H v t) : ∃ a, v = .ref a := by
 obtain ⟨a, _, _, e, _⟩ := tr_ref h
 exact ⟨a, e⟩
theorem told_isD {K : W.Frag} {H : Hp} {p : Addr} {t : Str} (h : H p = some (.lst [.bl true, .str t])) : IsD K H 1 (.ref p) (.lst [.flat (.bl true), .flat (.str t)]) := by
 refine .lst (SqL.of h) rfl fun j v d f1 f2 => ?_
 match j, f1, f2 with
 | 0, f1, f2 => cases f1; cases f2; exact .flat rfl
 | 1, f1, f2 => cases f1; cases f2; exact .flat rfl
mutual
noncomputable def trD : Tr → Dt
 | .mk w n ps => .tup [.flat (.str w), n, .tup (trDs ps)]
noncomputable def trDs : List Tr → List Dt
 | [] => []
 | t :: r => trD t :: trDs r
end
theorem trDs_len : ∀ ts : List Tr, (trDs ts).length = ts.length
 | [] => by rw [trDs]; rfl
 | t :: r => by rw [trDs, List.length_cons, trDs_len r, List.length_cons]
theorem trDs_get : ∀ (ts : List Tr) (j : Nat), (trDs ts)[j]? = (ts[j]?).map trD
 | [], j => by rw [trDs]; simp
 | t :: r, 0 => by rw [trDs]; simp
 | t :: r, j + 1 => by rw [trDs, List.getElem?_cons_succ, List.getElem?_cons_succ, trDs_get r j]
theorem tr_isD {K : W.Frag} {H : Hp} {v : V} {t : Tr} (h : TrAt K H v t) : ∀ {n : Nat}, 2 * dep t ≤ n → IsD K H n v (trD t) := by
 induction h with
 | @mk a p wd nv nt vs ts q hn qp l hc ih =>
  intro n hd
  rw [dep] at hd
  obtain ⟨m, rfl⟩ : ∃ m, n = m + 1 + 1 := ⟨n - 2, by omega⟩
  rw [trD]
  refine .tup q rfl fun j v d h1 h2 => ?_
  match j, h1, h2 with
  | 0, h1, h2 => cases h1; cases h2; exact .flat rfl
  | 1, h1, h2 => cases h1; cases h2; exact hn.d.up (by omega)
  | 2, h1, h2 =>
   cases h1; cases h2
   refine .tup qp (by rw [trDs_len]; exact l) fun j v d h1 h2 => ?_
   rw [trDs_get] at h2
   obtain ⟨t, ht, rfl⟩ := Option.map_eq_some_iff.mp h2
   have := deps_get ht
   exact ih j v t h1 ht (by omega)
noncomputable def FF (K : W.Frag) (H : Hp) (v : V) (t : Tr) : Prop := TrAt K H v t ∧ TrOk t ∧ t.size ≤ 500 ∧ dep t ≤ 80
theorem FF.same {K : W.Frag} {H H' : Hp} {v : V} {t : Tr} (h : FF K H v t) (e : Same H H') : FF K H' v t := ⟨h.1.same e, h.2⟩
theorem FF.isD {K : W.Frag} {H : Hp} {v : V} {t : Tr} (h : FF K H v t) : IsD K H 190 v (trD t) := tr_isD h.1 (by have := h.2.2.2; omega)
theorem FF.gap {K : W.Frag} {H : Hp} {v : V} (h : TrAt K H v gapT) : FF K H v gapT := ⟨h, TrOk.gap, by rw [gapT_size]; omega, by rw [gapT_dep]; omega⟩
noncomputable def SameB (a : Addr) (H H' : Hp) : Prop := ∀ b o, b ≠ a → H b = some o → H' b = some o
theorem _root_.L2.Same.b {H H' : Hp} (e : Same H H') (a : Addr) : SameB a H H' := fun b o _ h => e b o h
theorem SameB.put {a : Addr} {H H' : Hp} (e : SameB a H H') (o : HO) : SameB a H (upd H' a o) := fun b o' hb h => by rw [upd_ne hb]; exact e b o' hb h
theorem SameB.made {x dx C : Addr} {fs : List (Str × V)} {H H' : Hp} (e : SameB x (upd (upd H dx (.own x)) x (.ins C dx fs)) H') (h1 : H x = none) (h2 : H dx = none) : Same H H' := fun b o h => by
 have hx : b ≠ x := fun z => by rw [z, h1] at h; cases h
 have hd : b ≠ dx := fun z => by rw [z, h2] at h; cases h
 exact e b o hx (by rw [upd_ne hx, upd_ne hd]; exact h)
theorem _root_.L2.Same.made {H : Hp} {x dx C : Addr} {fs : List (Str × V)} (h1 : H x = none) (h2 : H dx = none) (h3 : dx ≠ x) : Same H (upd (upd H dx (.own x)) x (.ins C dx fs)) :=
 (Same.upd h2).trans (Same.upd (by rw [upd_ne h3.symm]; exact h1))
theorem ins_t {H : Hp} {a C dx : Addr} {fs : List (Str × V)} (ha : H a = some (.ins C dx fs)) (o : HO) : SameT H (upd H a o) := fun b => ⟨fun xs h => by
 have : b ≠ a := fun z => by rw [z, ha] at h; cases h
 rw [upd_ne this]; exact h, fun o u h => by
 have : b ≠ a := fun z => by rw [z, ha] at h; cases h
 rw [upd_ne this]; exact h⟩
structure Cs where
 d : Addr
 p : Addr
 c : Addr
 w : Addr
 k : Addr
 g : Addr
inductive Dd where
 | put (v : V) (t : Tr)
 | cut
 | wrap (v : V) (t : Tr) (i : Nat)
 | keep (i : Int)
 | chg (v : V) (t : Tr)
noncomputable def Dd.cls (c : Cs) : Dd → Addr
 | .put _ _ => c.p
 | .cut => c.c
 | .wrap _ _ _ => c.w
 | .keep _ => c.k
 | .chg _ _ => c.g
noncomputable def Dd.fs : Dd → List (Str × V)
 | .put v _ => [("form", v)]
 | .cut => []
 | .wrap v _ i => [("form", v), ("at", .int (i : Nat))]
 | .keep i => [("at", .int i)]
 | .chg v _ => [("form", v)]
noncomputable def Dd.good (K : W.Frag) (H : Hp) : Dd → Prop
 | .put v t => FF K H v t
 | .cut => True
 | .wrap v t i => FF K H v t ∧ i < t.ps.length
 | .keep _ => True
 | .chg v t => FF K H v t
noncomputable def DdAt (K : W.Frag) (c : Cs) (H : Hp) (x : V) (d : Dd) : Prop := ∃ a dx, x = .ref a ∧ H a = some (.ins (d.cls c) dx d.fs) ∧ d.good K H
theorem Dd.good.same {K : W.Frag} {H H' : Hp} {d : Dd} (h : d.good K H) (e : Same H H') : d.good K H' := by
 cases d with
 | put v t => exact FF.same h e
 | cut => exact True.intro
 | wrap v t i => exact ⟨FF.same h.1 e, h.2⟩
 | keep i => exact True.intro
 | chg v t => exact FF.same h e
theorem DdAt.same {K : W.Frag} {c : Cs} {H H' : Hp} {x : V} {d : Dd} (h : DdAt K c H x d) (e : Same H H') : DdAt K c H' x d := by
 obtain ⟨a, dx, h1, h2, h3⟩ := h
 exact ⟨a, dx, h1, e _ _ h2, h3.same e⟩
noncomputable def _root_.L2.Tr.note : Tr → Dt
 | .mk _ n _ => n
noncomputable def doneT (t : Tr) : Dd → Option Tr
 | .put _ p => if t.wd = "gap" then some p else none
 | .cut => if t.wd = "gap" then none else some gapT
 | .wrap _ p i => some (.mk p.wd p.note (p.ps.set i t))
 | .keep i => if 0 ≤ i ∧ i < (t.ps.length : Int) then t.ps[i.toNat]? else none
 | .chg _ p => some p
noncomputable def Dd.hasBack : Dd → Bool
 | .put _ _ => true
 | .wrap _ _ _ => true
 | .keep _ => true
 | _ => false
noncomputable def backD (y : V) (t : Tr) : Dd → Dd
 | .put _ _ => .cut
 | .wrap _ _ i => .keep (i : Nat)
 | .keep _ => .chg y t
 | d => d
structure Own (K : W.Frag) (mg : Str → Option Value) (x : Str) (C : Addr) : Prop where
 cl : Cls K C
 at_ : mg x = some (.ref C)
 nf : NoAttr K C "form"
 na : NoAttr K C "at"
 ca : W.findIn K (.ref C) "__class__" = some (some (.builtin "object.__class__"))
 cg : W.specialIn K (.builtin "object.__class__") "__get__" = some (some (.builtin "getset_descriptor.__get__"))
 ct : W.takesIn K (.builtin "object.__class__") = some true
 cm : W.mroIn K C (.type "object") = some true
structure Kl (K : W.Frag) (mg : Str → Option Value) (c : Cs) : Prop where
 gd : mg "Deed" = some (.ref c.d)
 op : Own K mg "Put" c.p
 oc : Own K mg "Cut" c.c
 ow : Own K mg "Wrap" c.w
 ok : Own K mg "Keep" c.k
 og : Own K mg "Change" c.g
 pd : W.kitOne K (.ref c.p) (.ref c.d) = some true
 cd : W.kitOne K (.ref c.c) (.ref c.d) = some true
 wd : W.kitOne K (.ref c.w) (.ref c.d) = some true
 kd : W.kitOne K (.ref c.k) (.ref c.d) = some true
 hd : W.kitOne K (.ref c.g) (.ref c.d) = some true
structure Cs.Apart (c : Cs) : Prop where
 pc : c.p ≠ c.c
 pw : c.p ≠ c.w
 pk : c.p ≠ c.k
 pg : c.p ≠ c.g
 cw : c.c ≠ c.w
 ck : c.c ≠ c.k
 cg : c.c ≠ c.g
 wk : c.w ≠ c.k
 wg : c.w ≠ c.g
 kg : c.k ≠ c.g
theorem Own.ty {K : W.Frag} {mg : Str → Option Value} {x : Str} {C : Addr} (o : Own K mg x C) {H : Hp} {a dx : Addr} {fs : List (Str × V)} (e : H a = some (.ins C dx fs)) : TyQ K H (.ref a) (.ref C) := .ty (.ins e o.cl o.ca o.cg o.ct o.cm)
theorem kit_self {K : W.Frag} {C : Addr} : W.kitOne K (.ref C) (.ref C) = some true := by unfold W.kitOne; rw [if_pos (by simp)]
theorem Kl.ty {K : W.Frag} {mg : Str → Option Value} {c : Cs} (k : Kl K mg c) {H : Hp} {x : V} {d : Dd} (h : DdAt K c H x d) : TyQ K H x (.ref (d.cls c)) := by
 obtain ⟨a, dx, rfl, e, _⟩ := h
 cases d with
 | put v t => exact k.op.ty e
 | cut => exact k.oc.ty e
 | wrap v t i => exact k.ow.ty e
 | keep i => exact k.ok.ty e
 | chg v t => exact k.og.ty e
theorem Kl.deed {K : W.Frag} {mg : Str → Option Value} {c : Cs} (k : Kl K mg c) (d : Dd) : W.kitOne K (.ref (d.cls c)) (.ref c.d) = some true := by
 cases d with
 | put v t => exact k.pd
 | cut => exact k.cd
 | wrap v t i => exact k.wd
 | keep i => exact k.kd
 | chg v t => exact k.hd
theorem Dd.is_put {c : Cs} (A : c.Apart) {d : Dd} (h : d.cls c = c.p) : ∃ v t, d = .put v t := by
 cases d with
 | put v t => exact ⟨v, t, rfl⟩
 | cut => exact absurd h.symm A.pc
 | wrap v t i => exact absurd h.symm A.pw
 | keep i => exact absurd h.symm A.pk
 | chg v t => exact absurd h.symm A.pg
theorem Dd.is_cut {c : Cs} (A : c.Apart) {d : Dd} (h : d.cls c = c.c) : d = .cut := by
 cases d with
 | put v t => exact absurd h A.pc
 | cut => rfl
 | wrap v t i => exact absurd h.symm A.cw
 | keep i => exact absurd h.symm A.ck
 | chg v t => exact absurd h.symm A.cg
theorem Dd.is_wrap {c : Cs} (A : c.Apart) {d : Dd} (h : d.cls c = c.w) : ∃ v t i, d = .wrap v t i := by
 cases d with
 | put v t => exact absurd h A.pw
 | cut => exact absurd h A.cw
 | wrap v t i => exact ⟨v, t, i, rfl⟩
 | keep i => exact absurd h.symm A.wk
 | chg v t => exact absurd h.symm A.wg
theorem Dd.is_keep {c : Cs} (A : c.Apart) {d : Dd} (h : d.cls c = c.k) : ∃ i, d = .keep i := by
 cases d with
 | put v t => exact absurd h A.pk
 | cut => exact absurd h A.ck
 | wrap v t i => exact absurd h A.wk
 | keep i => exact ⟨i, rfl⟩
 | chg v t => exact absurd h.symm A.kg
theorem Dd.is_chg {c : Cs} (A : c.Apart) {d : Dd} (h : d.cls c = c.g) : ∃ v t, d = .chg v t := by
 cases d with
 | put v t => exact absurd h A.pg
 | cut => exact absurd h A.cg
 | wrap v t i => exact absurd h A.wg
 | keep i => exact absurd h A.kg
 | chg v t => exact ⟨v, t, rfl⟩
noncomputable def sp_done (K : W.Frag) (c : Cs) (ND C : Addr) : Sp := fun vs H Q E => ∃ x d y t, vs = [x, y] ∧ DdAt K c H x d ∧ d.cls c = C ∧ FF K H y t ∧ (∀ u, doneT t d = some u → ∀ v H', Same H H' → TrAt K H' v u → Q v H') ∧ (doneT t d = none → E (.ref ND) none H)
noncomputable def sp_back (K : W.Frag) (c : Cs) (ND C : Addr) : Sp := fun vs H Q E => ∃ x d y t, vs = [x, y] ∧ DdAt K c H x d ∧ d.cls c = C ∧ d.hasBack = true ∧ FF K H y t ∧ (∀ u, doneT t d = some u → ∀ x' H', Same H H' → DdAt K c H' x' (backD y t d) → Q x' H') ∧ (doneT t d = none → ∀ H', Same H H' → E (.ref ND) none H')
noncomputable def Told (H : Hp) (v : V) (t : Str) : Prop := ∃ p, v = .ref p ∧ H p = some (.lst [.bl true, .str t])
theorem Told.same {H H' : Hp} {v : V} {t : Str} (h : Told H v t) (e : Same H H') : Told H' v t := by
 obtain ⟨p, h1, h2⟩ := h
 exact ⟨p, h1, e _ _ h2⟩
noncomputable def sp_has (K : W.Frag) : Sp := fun vs H Q _ => ∃ (v : V) (t : Tr) (k : Int), vs = [v, .int k] ∧ TrAt K H v t ∧ Q (.bl (decide (0 ≤ k ∧ k < (t.ps.length : Int)))) H
theorem sc_has_part : FnScope ["form", "number"] ["form", "number"] (defScope s_has_part) := ⟨rfl, rfl, rfl, by decide +kernel, rfl, by decide +kernel, by decide +kernel⟩
theorem ok_has {f : Addr} {fd : FuncData} (F : Fun K "has_part" "has_part" s_has_part f fd) (T : Txt K mg) (C_is_whole : Callee P w K mg base 1 "is_whole" ["thing"] (sp_whole K)) : FnOk P w K mg base CX0 2 f fd ["form", "number"] (sp_has K) := by
 refine F.okq sc_has_part (fun vs H Q E h => ?_) (fun cdv A outer s H vs Q E hr h => ?_)
 ·obtain ⟨v, t, k, rfl, _⟩ := h
  rfl
 ·obtain ⟨v, t, k, rfl, ht, q⟩ := h
  refine ⟨_, qss_one (qs_ret (qe_and (qe_fn C_is_whole (hr.mono (by decide)) (qa_cons (qv 1) qa_nil)) (qe_one (qe_chain op_leA op_ltA (qe_int) (qv 1) (qe_callB (k_len K) (by rfl) T.len (by decide +kernel) (qa_cons (qe_ix (k_ix K) (qv 0) (qe_int) (fun _ _ => rfl)) qa_nil)))))), ?_⟩
  cases ht with
  | @mk b pp wd nv nd us ps qb hn qp l hch =>
  have q : Q (.bl (decide (0 ≤ k ∧ k < (ps.length : Int)))) H := q
  walk_at "r"
  refine ⟨_, rfl, ⟨_, .int k⟩, ?_⟩
  show ∃ b, V.bl true = V.bl b ∧ _
  walk_at "r"
  refine ite2 (fun c => ?_) (fun c => ?_)
  ·have c : 0 ≤ k := by simpa using c
   walk_at "r"
   refine s_ix_tup qb rfl ?_
   walk_at "r"
   refine s_len_tup qp ?_
   walk_at "r"
   have e : decide (k < (us.length : Int)) = decide (0 ≤ k ∧ k < (ps.length : Int)) := by rw [l]; exact decide_eq_decide.mpr ⟨fun h => ⟨c, h⟩, fun h => h.2⟩
   rw [e]
   exact q
  ·have c : ¬ 0 ≤ k := fun h => c (by simpa using h)
   have e : decide (0 ≤ k ∧ k < (ps.length : Int)) = false := decide_eq_false fun h => c h.1
   rw [e] at q
   walk_at "r"
   exact q
noncomputable def sp_wpart (K : W.Frag) : Sp := fun vs H Q _ => ∃ (v u : V) (w : Str) (n : Dt) (ps : List Tr) (tu : Tr) (k : Nat), vs = [v, .int (k : Nat), u] ∧ TrAt K H v (.mk w n ps) ∧ TrAt K H u tu ∧ k < ps.length ∧ ps.length ≤ 1000 ∧
 ∀ (v' : V) (H' : Hp), Same H H' → TrAt K H' v' (.mk w n (ps.set k tu)) → Q v' H'
theorem set_split {α : Type} {xs : List α} {k : Nat} {x : α} (h : k < xs.length) : xs.take k ++ [x] ++ xs.drop (k + 1) = xs.set k x := by
 rw [List.set_eq_take_append_cons_drop, if_pos h, List.append_assoc]
 rfl
theorem sc_with_part : FnScope ["form", "number", "part", "parts"] ["form", "number", "part"] (defScope s_with_part) := ⟨rfl, rfl, rfl, by decide +kernel, rfl, by decide +kernel, by decide +kernel⟩
theorem ok_wpart {f : Addr} {fd : FuncData} (F : Fun K "with_part" "with_part" s_with_part f fd) (T : Txt K mg) : FnOk P w K mg base CX0 1 f fd ["form", "number", "part"] (sp_wpart K) := by
 refine F.okq sc_with_part (fun vs H Q E h => ?_) (fun cdv A outer s H vs Q E hr h => ?_)
 ·obtain ⟨v, u, w, n, ps, tu, k, rfl, _⟩ := h
  rfl
 ·obtain ⟨v, u, w, n, ps, tu, k, rfl, ht, hu, hk, hl, q⟩ := h
  refine ⟨_, qss_cons (qs_set (i := 3) sc_with_part.nd rfl (Or.inl rfl) (qe_ix (k_ix K) (qv 0) (qe_int) (fun _ _ => rfl)))
   (qss_one (qs_ret (qe_tup (qa_cons (qe_ix (k_ix K) (qv 0) (qe_int) (fun _ _ => rfl)) (qa_cons (qe_ix (k_ix K) (qv 0) (qe_int) (fun _ _ => rfl)) (qa_cons (qe_op (k_add K) (qe_op (k_add K) (qe_slice (k_slB K) (qv 3) (qo_none) (qo_some (qv 1))) (qe_tup (qa_cons (qv 2) qa_nil))) (qe_slice (k_slB K) (qv 3) (qo_some (qe_op (k_add K) (qv 1) (qe_int))) (qo_none))) qa_nil)))))), ?_⟩
  have bg := big
  cases ht with
  | @mk b pp _ nv _ us _ qb hn qp l hch =>
  walk_at "r"
  refine s_ix_tup qb rfl ?_
  walk_at "r"
  refine s_ix_tup qb rfl ?_
  walk_at "r"
  refine s_ix_tup qb rfl ?_
  walk_at "r"
  refine s_slb_tup qp fun r1 H1 s1 q1 => ?_
  rw [cutV_to] at q1
  walk_at "r"
  refine ⟨by show 1 ≤ sizeLine; decide, fun p2 h2 => ?_⟩
  have s2 := Same.upd (o := .tup [u]) h2
  refine s_add_tup (s2.tup q1) (SqT.of upd_same) (by rw [List.length_take]; show _ + 1 ≤ sizeLine; omega) fun r3 H3 s3 q3 => ?_
  have s13 := s1.trans (s2.trans s3)
  walk_at "r"
  refine s_slb_tup (s13.tup qp) fun r4 H4 s4 q4 => ?_
  have ek : (k : Int) + 1 = ((k + 1 : Nat) : Int) := by omega
  rw [ek, cutV_from] at q4
  refine s_add_tup (s4.tup q3) q4 (by rw [List.length_append, List.length_take, List.length_drop]; show _ + 1 + _ ≤ sizeLine; omega) fun r5 H5 s5 q5 => ?_
  rw [set_split (by omega)] at q5
  walk_at "r"
  refine ⟨by show 3 ≤ sizeLine; decide, fun p6 h6 => ?_⟩
  have s6 := Same.upd (o := .tup [.str w, nv, .ref r5]) h6
  have sm := s13.trans (s4.trans (s5.trans s6))
  refine q (.ref p6) _ sm (.mk (SqT.of upd_same) (hn.same sm.t) (s6.tup q5) (by rw [List.length_set, List.length_set]; exact l) fun j x y g1 g2 => ?_)
  by_cases e : k = j
  ·subst e
   rw [List.getElem?_set_self (by omega)] at g1 g2
   cases g1
   cases g2
   exact hu.same sm
  ·rw [List.getElem?_set_ne e] at g1 g2
   exact (hch j x y g1 g2).same sm
noncomputable def sp_manyp (K : W.Frag) (NF : Addr) : Sp := fun vs H Q E => ∃ v, vs = [v] ∧ Has K H v ∧ (∀ (s : Str) (n : Nat), v = .str s → partsOf s = some n → Q (.int (n : Nat)) H) ∧ (wordV v = false → E (.ref NF) none H)
theorem sc_many_parts : FnScope ["word"] ["word"] (defScope s_many_parts) := ⟨rfl, rfl, rfl, by decide +kernel, rfl, by decide +kernel, by decide +kernel⟩
theorem ok_manyp {N_NoForm : Addr} {f : Addr} {fd : FuncData} (F : Fun K "many_parts" "many_parts" s_many_parts f fd) (T : Txt K mg) (G : Gs P w K mg) (C_is_word : Callee P w K mg base 1 "is_word" ["thing"] (sp_word K)) (R_NoForm : W.excIn K N_NoForm VE "ValueError.__new__" = true) (G_NoForm : mg "NoForm" = some (.ref N_NoForm)) : FnOk P w K mg base (CXR P w) 2 f fd ["word"] (sp_manyp K N_NoForm) := by
 refine F.okx sc_many_parts (fun vs H Q E h => ?_) (fun cdv A outer s H vs Q E hr h => ?_)
 ·obtain ⟨v, rfl, _⟩ := h
  rfl
 ·obtain ⟨v, rfl, hv, q, x⟩ := h
  obtain ⟨ap, G_PARTS_OF_WORDS, hp⟩ := G.pw
  refine ⟨_, qss_cons (qs_if (qt_not (qt_val (qe_fn C_is_word (hr.mono (by decide)) (qa_cons (qv 0) qa_nil)))) (qss_one (qs_raise rfl R_NoForm G_NoForm (qa_cons (qe_str) qa_nil) (fun _ _ _ _ _ _ _ I x h0 hn he => raises_cx I x h0 hn he) rfl)) (qss_nil))
   (qss_one (qs_ret (qe_ix (k_ixD P w K) (qe_gl G_PARTS_OF_WORDS) (qv 0) (fun _ _ => rfl)))), ?_⟩
  walk_at "r"
  refine ⟨v, rfl, hv, ?_⟩
  cases hw : wordV v with
  | false =>
   walk_at "r"
   exact ⟨by show 1 ≤ sizeLine; decide, x hw⟩
  | true =>
   obtain ⟨s, rfl, hs⟩ : ∃ s, v = .str s ∧ (partsOf s).isSome = true := by
    cases v <;> first | (exact ⟨_, rfl, hw⟩) | (cases hw)
   obtain ⟨n, hn⟩ := Option.isSome_iff_exists.mp hs
   walk_at "r"
   refine ⟨ap, PARTS, s, .int (n : Nat), rfl, rfl, hp, by rw [parts_eq, hn]; rfl, ?_⟩
   exact q s n rfl hn
theorem parts_le {s : Str} {n : Nat} (h : partsOf s = some n) : n ≤ 3 := by
 have all : PN.all (fun p => decide (p.2 ≤ 3)) = true := by decide +kernel
 unfold partsOf at h
 have gen : ∀ ps : List (Str × Nat), ps.all (fun p => decide (p.2 ≤ 3)) = true → ps.lookup s = some n → n ≤ 3 := by
  intro ps
  induction ps with
  | nil => intro _ h; cases h
  | cons p r ih =>
   intro ha h
   rw [List.all_cons, Bool.and_eq_true] at ha
   rw [List.lookup_cons] at h
   split at h
   ·cases h; exact of_decide_eq_true ha.1
   ·exact ih ha.2 h
 exact gen PN all h
noncomputable def BareAt (K : W.Frag) (ag : Addr) (H : Hp) (r : Addr) (s : Str) (nv : V) (n : Nat) : Prop := ∃ pp, SqT K H r [.str s, nv, .ref pp] ∧ SqT K H pp (List.replicate n (.ref ag))
theorem BareAt.same {K : W.Frag} {ag : Addr} {H H' : Hp} {r : Addr} {s : Str} {nv : V} {n : Nat} (h : BareAt K ag H r s nv n) (e : SameT H H') : BareAt K ag H' r s nv n := by
 obtain ⟨pp, h1, h2⟩ := h
 exact ⟨pp, e.tup h1, e.tup h2⟩
structure GapAt (K : W.Frag) (ag : Addr) : Prop where
 at_ : ∀ H, TrAt K H (.ref ag) gapT
noncomputable def bareT (s : Str) (d : Dt) (n : Nat) : Tr := .mk s d (List.replicate n gapT)
theorem sizes_rep (n : Nat) : sizes (List.replicate n gapT) = n := by
 induction n with
 | zero => rw [List.replicate_zero, sizes]
 | succ n ih => rw [List.replicate_succ, sizes, ih, gapT_size]; omega
theorem deps_rep (n : Nat) : deps (List.replicate n gapT) ≤ 1 := by
 induction n with
 | zero => rw [List.replicate_zero, deps]; omega
 | succ n ih => rw [List.replicate_succ, deps, gapT_dep]; omega
theorem BareAt.ff {K : W.Frag} {ag : Addr} {H : Hp} {r : Addr} {s : Str} {nv : V} {n : Nat} {d : Dt} {nt : Nt} (GA : GapAt K ag) (h : BareAt K ag H r s nv n) (hp : partsOf s = some n) (hn : IsN K H nv d) (hd : DtNt d nt) (hb : noteB s nt = true) : FF K H (.ref r) (bareT s d n) := by
 obtain ⟨pp, h1, h2⟩ := h
 have n3 := parts_le hp
 refine ⟨.mk h1 hn h2 (by simp) fun j v t e1 e2 => ?_, .mk (by rw [List.length_replicate]; exact hp) hd hb fun t ht => ?_, ?_, ?_⟩
 ·rw [List.eq_of_mem_replicate (List.mem_of_getElem? e1), List.eq_of_mem_replicate (List.mem_of_getElem? e2)]
  exact GA.at_ H
 ·rw [List.eq_of_mem_replicate ht]
  exact TrOk.gap
 ·unfold bareT
  rw [Tr.size, sizes_rep]
  omega
 ·unfold bareT
  rw [dep]
  have := deps_rep n
  omega
theorem flat_rep (n : Nat) (x : V) : (List.replicate n [x]).flatten = List.replicate n x := by
 induction n with
 | zero => rfl
 | succ n ih => rw [List.replicate_succ, List.flatten_cons, ih, List.replicate_succ]; rfl
noncomputable def sp_bare (K : W.Frag) (ag NF : Addr) : Sp := fun vs H Q E => ∃ v nv nt, vs = [v, nv] ∧ Has K H v ∧ NtAt K H nv nt ∧ (∀ (s : Str) (n : Nat), v = .str s → partsOf s = some n → noteB s nt = true → ∀ (r : Addr) (H' : Hp), Same H H' → BareAt K ag H' r s nv n → Q (.ref r) H') ∧ ((wordV v = false ∨ ∃ s : Str, v = .str s ∧ noteB s nt = false) → ∀ H', Same H H' → E (.ref NF) none H')
theorem sc_bare : FnScope ["word", "note", "many"] ["word", "note"] (defScope s_bare) := ⟨rfl, rfl, rfl, by decide +kernel, rfl, by decide +kernel, by decide +kernel⟩
theorem ok_bare {ag N_NoForm : Addr} {f : Addr} {fd : FuncData} (F : Fun K "bare" "bare" s_bare f fd) (T : Txt K mg) (G_GAP : Glob mg "GAP" (.ref ag)) (C_many_parts : CalleeX P w K mg base 2 "many_parts" ["word"] (sp_manyp K N_NoForm)) (C_is_note : Callee P w K mg base 3 "is_note" ["word", "note"] (sp_note K)) (R_NoForm : W.excIn K N_NoForm VE "ValueError.__new__" = true) (G_NoForm : mg "NoForm" = some (.ref N_NoForm)) : FnOk P w K mg base (CXR P w) 4 f fd ["word", "note"] (sp_bare K ag N_NoForm) := by
 refine F.okx sc_bare (fun vs H Q E h => ?_) (fun cdv A outer s H vs Q E hr h => ?_)
 ·obtain ⟨v, nv, nt, rfl, _⟩ := h
  rfl
 ·obtain ⟨v, nv, nt, rfl, hv, hn, q, x⟩ := h
  refine ⟨_, qss_cons (qs_set (i := 2) sc_bare.nd rfl (Or.inl rfl) (qe_fnx C_many_parts (hr.mono (by decide)) (passes_cx (fun _ _ _ h => h)) (qa_cons (qv 0) qa_nil)))
   (qss_cons (qs_if (qt_not (qt_val (qe_fn C_is_note (hr.mono (by decide)) (qa_cons (qv 0) (qa_cons (qv 1) qa_nil))))) (qss_one (qs_raise rfl R_NoForm G_NoForm (qa_cons (qe_str) qa_nil) (fun _ _ _ _ _ _ _ I x h0 hn he => raises_cx I x h0 hn he) rfl)) (qss_nil))
   (qss_one (qs_ret (qe_tup (qa_cons (qv 0) (qa_cons (qv 1) (qa_cons (qe_op (k_mulT K) (qe_tup (qa_cons (qe_gl G_GAP) qa_nil)) (qv 2)) qa_nil))))))), ?_⟩
  walk_at "r"
  refine ⟨v, rfl, hv, fun s n es hp => ?_, fun hw => x (.inl hw) H (Same.refl _)⟩
  subst es
  have n3 := parts_le hp
  walk_at "r"
  refine ⟨s, nv, nt, rfl, hn, fun H1 s1 => ?_⟩
  cases hb : noteB s nt with
  | false =>
   walk_at "r"
   exact ⟨by show 1 ≤ sizeLine; decide, x (.inr ⟨s, rfl, hb⟩) H1 s1⟩
  | true =>
   walk_at "r"
   refine ⟨by show 1 ≤ sizeLine; decide, fun p1 hp1 => ?_⟩
   have s2 := Same.upd (o := .tup [.ref ag]) hp1
   walk_at "r"
   refine s_mulT (xs := [.ref ag]) (SqT.of upd_same) (by simp) (by omega) (by omega) (by show ((1 : Nat) : Int) * (n : Int) ≤ 1000; omega) fun r1 H3 s3 q3 => ?_
   walk_at "r"
   refine ⟨by show 3 ≤ sizeLine; decide, fun r hr3 => ?_⟩
   have s4 := Same.upd (o := .tup [.str s, nv, .ref r1]) hr3
   refine q s n rfl hp hb r _ (s1.trans (s2.trans (s3.trans s4))) ⟨r1, SqT.of upd_same, ?_⟩
   have := s4.tup q3
   rw [show ((n : Nat) : Int).toNat = n from by simp, flat_rep] at this
   exact this
noncomputable def sp_refF (K : W.Frag) (NF : Addr) : Sp := fun vs H Q E => ∃ v t, vs = [v] ∧ FF K H v t ∧ ∀ H', Same H H' → Q .non H'
theorem sc_refuse_no_form : FnScope ["thing"] ["thing"] (defScope s_refuse_no_form) := ⟨rfl, rfl, rfl, by decide +kernel, rfl, by decide +kernel, by decide +kernel⟩
theorem ok_refF {N_NoForm : Addr} {f : Addr} {fd : FuncData} (F : Fun K "refuse_no_form" "refuse_no_form" s_refuse_no_form f fd) (T : Txt K mg) (C_is_form : Callee P w K mg base 5 "is_form" ["thing"] (sp_form K)) (R_NoForm : W.excIn K N_NoForm VE "ValueError.__new__" = true) (G_NoForm : mg "NoForm" = some (.ref N_NoForm)) : FnOk P w K mg base (CXR P w) 6 f fd ["thing"] (sp_refF K N_NoForm) := by
 refine F.okx sc_refuse_no_form (fun vs H Q E h => ?_) (fun cdv A outer s H vs Q E hr h => ?_)
 ·obtain ⟨v, t, rfl, _⟩ := h
  rfl
 ·obtain ⟨v, t, rfl, ⟨ht, ok, hz, _⟩, q⟩ := h
  refine ⟨_, qss_one (qs_if (qt_not (qt_val (qe_fn C_is_form (hr.mono (by decide)) (qa_cons (qv 0) qa_nil)))) (qss_one (qs_raise rfl R_NoForm G_NoForm (qa_cons (qe_str) qa_nil) (fun _ _ _ _ _ _ _ I x h0 hn he => raises_cx I x h0 hn he) rfl)) (qss_nil)), ?_⟩
  walk_at "r"
  refine ⟨v, _, rfl, ht.fm ok, by rw [toFm_size]; omega, fun H1 s1 => ?_⟩
  rw [toFm_good]
  walk_at "r"
  exact q H1 s1
noncomputable def sp_refG (K : W.Frag) (ND : Addr) : Sp := fun vs H Q E => ∃ v t, vs = [v] ∧ FF K H v t ∧ (t.wd = "gap" → Q .non H) ∧ (t.wd ≠ "gap" → E (.ref ND) none H)
theorem sc_refuse_no_gap : FnScope ["form"] ["form"] (defScope s_refuse_no_gap) := ⟨rfl, rfl, rfl, by decide +kernel, rfl, by decide +kernel, by decide +kernel⟩
theorem ok_refG {N_NoDeed : Addr} {f : Addr} {fd : FuncData} (F : Fun K "refuse_no_gap" "refuse_no_gap" s_refuse_no_gap f fd) (T : Txt K mg) (R_NoDeed : W.excIn K N_NoDeed VE "ValueError.__new__" = true) (G_NoDeed : mg "NoDeed" = some (.ref N_NoDeed)) : FnOk P w K mg base (CXR P w) 1 f fd ["form"] (sp_refG K N_NoDeed) := by
 refine F.okx sc_refuse_no_gap (fun vs H Q E h => ?_) (fun cdv A outer s H vs Q E hr h => ?_)
 ·obtain ⟨v, t, rfl, _⟩ := h
  rfl
 ·obtain ⟨v, t, rfl, ht, q, x⟩ := h
  refine ⟨_, qss_one (qs_if (qt_cmpR (k_ne K hr.u200) (qe_ix (k_ix K) (qv 0) (qe_int) (fun _ _ => rfl)) (qe_str) (nomark _)) (qss_one (qs_raise rfl R_NoDeed G_NoDeed (qa_cons (qe_str) qa_nil) (fun _ _ _ _ _ _ _ I x h0 hn he => raises_cx I x h0 hn he) rfl)) (qss_nil)), ?_⟩
  obtain ⟨a, p, n, rfl, hq⟩ := tr_ref ht.1
  walk_at "r"
  refine s_ix_tup hq rfl ?_
  walk_at "r"
  by_cases hw : t.wd = "gap"
  ·rw [hw, decide_eq_true (Eq.refl _)]
   walk_at "r"
   exact q hw
  ·rw [decide_eq_false (fun h => hw (V.str.inj h))]
   walk_at "r"
   exact ⟨by show 1 ≤ sizeLine; decide, x hw⟩
noncomputable def sp_initP (K : W.Frag) (c : Cs) (ag NF : Addr) : Sp := fun vs H Q E => ∃ a dx v nv nt, vs = [.ref a, v, nv] ∧ H a = some (.ins c.p dx []) ∧ Has K H v ∧ NtAt K H nv nt ∧
 (∀ (s : Str) (n : Nat), v = .str s → partsOf s = some n → noteB s nt = true → s ≠ "gap" → ∀ (r : Addr) (H' : Hp), SameB a H H' → H' a = some (.ins c.p dx [("form", .ref r)]) → BareAt K ag H' r s nv n → Q .non H') ∧
 ((wordV v = false ∨ (∃ s : Str, v = .str s ∧ noteB s nt = false) ∨ v = .str "gap") → ∀ H', SameB a H H' → E (.ref NF) none H')
theorem sc_Put_init : FnScope ["self", "word", "note"] ["self", "word", "note"] (defScope s_Put_init) := ⟨rfl, rfl, rfl, by decide +kernel, rfl, by decide +kernel, by decide +kernel⟩
theorem ok_Pinit {c : Cs} {ag N_NoForm : Addr} {TD : Addr} {f : Addr} {fd : FuncData} (F : FunD K "__init__" "Put.__init__" s_Put_init TD f fd) (T : Txt K mg) (O : Own K mg "Put" c.p) (C_bare : CalleeX P w K mg base 4 "bare" ["word", "note"] (sp_bare K ag N_NoForm)) (R_NoForm : W.excIn K N_NoForm VE "ValueError.__new__" = true) (G_NoForm : mg "NoForm" = some (.ref N_NoForm)) : FnOk P w K mg base (CXR P w) 5 f fd ["self", "word", "note"] (sp_initP K c ag N_NoForm) := by
 refine F.okx sc_Put_init (fun vs H Q E h => ?_) (fun cdv A outer s H vs Q E hr h => ?_)
 ·obtain ⟨a, dx, v, nv, nt, rfl, _⟩ := h
  rfl
 ·obtain ⟨a, dx, v, nv, nt, rfl, ha, hv, hn, q, x⟩ := h
  refine ⟨_, qss_cons (qs_fldK K (qv 0) (qe_fnx C_bare (hr.mono (by decide)) (passes_cx (fun _ _ _ h => h)) (qa_cons (qv 1) (qa_cons (qv 2) qa_nil))))
   (qss_one (qs_if (qt_cmpR (k_eq K hr.u200) (qv 1) (qe_str) (nomark _)) (qss_one (qs_raise rfl R_NoForm G_NoForm (qa_cons (qe_str) qa_nil) (fun _ _ _ _ _ _ _ I x h0 hn he => raises_cx I x h0 hn he) rfl)) (qss_nil))), ?_⟩
  walk_at "r"
  refine ⟨_, rfl, _, rfl, ?_⟩
  refine ⟨v, nv, nt, rfl, hv, hn, fun z n ez hp hb r H1 s1 hr1 => ?_, fun hw H1 s1 => x (hw.imp_right .inl) H1 (s1.b a)⟩
  subst ez
  refine ⟨_, rfl, a, c.p, dx, [], rfl, s1 _ _ ha, O.cl, O.nf, by simp, ?_⟩
  have st := ins_t (s1 _ _ ha) (.ins c.p dx (putF "form" (.ref r) []))
  walk_at "r"
  by_cases hw : z = "gap"
  ·subst hw
   rw [decide_eq_true (Eq.refl _)]
   walk_at "r"
   exact ⟨by show 1 ≤ sizeLine; decide, x (.inr (.inr rfl)) _ ((s1.b a).put _)⟩
  ·rw [decide_eq_false (fun h => hw (V.str.inj h))]
   walk_at "r"
   exact q z n rfl hp hb hw r _ ((s1.b a).put _) upd_same (hr1.same st)
theorem sc_Put_done : FnScope ["self", "form"] ["self", "form"] (defScope s_Put_done) := ⟨rfl, rfl, rfl, by decide +kernel, rfl, by decide +kernel, by decide +kernel⟩
theorem ok_Pdone {c : Cs} {N_NoDeed : Addr} {f : Addr} {fd : FuncData} (A : c.Apart) (F : Fun K "done" "Put.done" s_Put_done f fd) (T : Txt K mg) (O : Own K mg "Put" c.p) (C_refuse_no_gap : CalleeX P w K mg base 1 "refuse_no_gap" ["form"] (sp_refG K N_NoDeed)) : FnOk P w K mg base (CXR P w) 3 f fd ["self", "form"] (sp_done K c N_NoDeed c.p) := by
 refine F.okx sc_Put_done (fun vs H Q E h => ?_) (fun cdv A' outer s H vs Q E hr h => ?_)
 ·obtain ⟨x, d, y, t, rfl, _⟩ := h
  rfl
 ·obtain ⟨x, d, y, t, rfl, hx, hc, hy, q, e⟩ := h
  obtain ⟨v, p, rfl⟩ := Dd.is_put A hc
  obtain ⟨a, dx, rfl, ha, hg⟩ := hx
  refine ⟨_, qss_cons (qs_expr (qe_fnx C_refuse_no_gap (hr.mono (by decide)) (passes_cx (fun _ _ _ h => h)) (qa_cons (qv 1) qa_nil)))
   (qss_one (qs_ret (qe_fldK K (qv 0)))), ?_⟩
  walk_at "r"
  refine ⟨y, t, rfl, hy, fun hw => ?_, fun hw => e (if_neg hw)⟩
  walk_at "r"
  exact ⟨_, rfl, a, c.p, dx, _, v, rfl, ha, O.cl, O.nf, rfl, q p (if_pos hw) v H (Same.refl _) hg.1⟩
theorem sc_Put_back : FnScope ["self", "form"] ["self", "form"] (defScope s_Put_back) := ⟨rfl, rfl, rfl, by decide +kernel, rfl, by decide +kernel, by decide +kernel⟩
theorem ok_Pback {c : Cs} {N_NoDeed : Addr} {f : Addr} {fd : FuncData} (A : c.Apart) (F : Fun K "back" "Put.back" s_Put_back f fd) (T : Txt K mg) (M : MethX (CXR P w) P w K mg base 3 c.p "done" ["self", "form"] (sp_done K c N_NoDeed c.p)) (MK_Cut : Make0 K mg "Cut" c.c) : FnOk P w K mg base (CXR P w) 9 f fd ["self", "form"] (sp_back K c N_NoDeed c.p) := by
 refine F.okx sc_Put_back (fun vs H Q E h => ?_) (fun cdv A' outer s H vs Q E hr h => ?_)
 ·obtain ⟨x, d, y, t, rfl, _⟩ := h
  rfl
 ·obtain ⟨x, d, y, t, rfl, hx, hc, _, hy, q, e⟩ := h
  obtain ⟨v, p, rfl⟩ := Dd.is_put A hc
  have hx' := hx
  obtain ⟨a, dx, rfl, ha, hg⟩ := hx
  refine ⟨_, qss_cons (qs_expr (qe_methD (k := 3) K (CXR P w) ["self", "form"] (qv 0) (hr.mono (by decide)) (passes_cx (fun _ _ _ h => h)) (qa_cons (qv 1) qa_nil)))
   (qss_one (qs_ret (qe_new0 MK_Cut))), ?_⟩
  walk_at "r"
  refine ⟨_, rfl, a, c.p, dx, _, _, rfl, ha, rfl, M, ?_⟩
  walk_at "r"
  refine ⟨_, .put v p, y, t, rfl, hx', rfl, hy, fun z hz v1 H1 s1 _ => ?_, fun hz => e hz H (Same.refl _)⟩
  walk_at "r"
  intro a1 d1 h1 h2 h3
  exact q z hz _ _ (s1.trans (Same.made h1 h2 h3)) ⟨a1, d1, rfl, upd_same, True.intro⟩
theorem sc_Cut_done : FnScope ["self", "form"] ["self", "form"] (defScope s_Cut_done) := ⟨rfl, rfl, rfl, by decide +kernel, rfl, by decide +kernel, by decide +kernel⟩
theorem ok_Cdone {c : Cs} {ag N_NoDeed : Addr} {f : Addr} {fd : FuncData} (A : c.Apart) (F : Fun K "done" "Cut.done" s_Cut_done f fd) (T : Txt K mg) (G_GAP : Glob mg "GAP" (.ref ag)) (GA : GapAt K ag) (R_NoDeed : W.excIn K N_NoDeed VE "ValueError.__new__" = true) (G_NoDeed : mg "NoDeed" = some (.ref N_NoDeed)) : FnOk P w K mg base (CXR P w) 3 f fd ["self", "form"] (sp_done K c N_NoDeed c.c) := by
 refine F.okx sc_Cut_done (fun vs H Q E h => ?_) (fun cdv A' outer s H vs Q E hr h => ?_)
 ·obtain ⟨x, d, y, t, rfl, _⟩ := h
  rfl
 ·obtain ⟨x, d, y, t, rfl, hx, hc, hy, q, e⟩ := h
  obtain rfl := Dd.is_cut A hc
  refine ⟨_, qss_cons (qs_if (qt_cmpR (k_eq K hr.u200) (qe_ix (k_ix K) (qv 1) (qe_int) (fun _ _ => rfl)) (qe_str) (nomark _)) (qss_one (qs_raise rfl R_NoDeed G_NoDeed (qa_cons (qe_str) qa_nil) (fun _ _ _ _ _ _ _ I x h0 hn he => raises_cx I x h0 hn he) rfl)) (qss_nil))
   (qss_one (qs_ret (qe_gl G_GAP))), ?_⟩
  obtain ⟨b, p, n, rfl, hq⟩ := tr_ref hy.1
  walk_at "r"
  refine s_ix_tup hq rfl ?_
  walk_at "r"
  by_cases hw : t.wd = "gap"
  ·rw [hw, decide_eq_true (Eq.refl _)]
   walk_at "r"
   exact ⟨by show 1 ≤ sizeLine; decide, e (if_pos hw)⟩
  ·rw [decide_eq_false (fun h => hw (V.str.inj h))]
   walk_at "r"
   exact q gapT (if_neg hw) _ H (Same.refl _) (GA.at_ H)
noncomputable def sp_initW (K : W.Frag) (c : Cs) (ag NF : Addr) : Sp := fun vs H Q E => ∃ a dx v nv nt d i, vs = [.ref a, v, nv, .int i] ∧ H a = some (.ins c.w dx []) ∧ Has K H v ∧ NtAt K H nv nt ∧ (∀ s : Str, v = .str s → noteB s nt = true → IsN K H nv d ∧ DtNt d nt) ∧
 (∀ (s : Str) (n : Nat), v = .str s → partsOf s = some n → noteB s nt = true → 0 ≤ i → i < (n : Int) → ∀ (r : Addr) (H' : Hp), SameB a H H' → H' a = some (.ins c.w dx [("form", .ref r), ("at", .int i)]) → BareAt K ag H' r s nv n → Q .non H') ∧
 ((wordV v = false ∨ (∃ s : Str, v = .str s ∧ noteB s nt = false) ∨ (∃ (s : Str) (n : Nat), v = .str s ∧ partsOf s = some n ∧ ¬ (0 ≤ i ∧ i < (n : Int)))) → ∀ H', SameB a H H' → E (.ref NF) none H')
theorem sc_Wrap_init : FnScope ["self", "word", "note", "at"] ["self", "word", "note", "at"] (defScope s_Wrap_init) := ⟨rfl, rfl, rfl, by decide +kernel, rfl, by decide +kernel, by decide +kernel⟩
theorem ok_Winit {c : Cs} {ag N_NoForm : Addr} {TD : Addr} {f : Addr} {fd : FuncData} (F : FunD K "__init__" "Wrap.__init__" s_Wrap_init TD f fd) (T : Txt K mg) (O : Own K mg "Wrap" c.w) (GA : GapAt K ag) (C_bare : CalleeX P w K mg base 4 "bare" ["word", "note"] (sp_bare K ag N_NoForm)) (C_has_part : Callee P w K mg base 2 "has_part" ["form", "number"] (sp_has K)) (R_NoForm : W.excIn K N_NoForm VE "ValueError.__new__" = true) (G_NoForm : mg "NoForm" = some (.ref N_NoForm)) : FnOk P w K mg base (CXR P w) 5 f fd ["self", "word", "note", "at"] (sp_initW K c ag N_NoForm) := by
 refine F.okx sc_Wrap_init (fun vs H Q E h => ?_) (fun cdv A outer s H vs Q E hr h => ?_)
 ·obtain ⟨a, dx, v, nv, nt, d, i, rfl, _⟩ := h
  rfl
 ·obtain ⟨a, dx, v, nv, nt, d, i, rfl, ha, hv, hn, hnd, q, x⟩ := h
  refine ⟨_, qss_cons (qs_fldK K (qv 0) (qe_fnx C_bare (hr.mono (by decide)) (passes_cx (fun _ _ _ h => h)) (qa_cons (qv 1) (qa_cons (qv 2) qa_nil))))
   (qss_cons (qs_fldK K (qv 0) (qv 3))
   (qss_one (qs_if (qt_not (qt_val (qe_fn C_has_part (hr.mono (by decide)) (qa_cons (qe_fldK K (qv 0)) (qa_cons (qv 3) qa_nil))))) (qss_one (qs_raise rfl R_NoForm G_NoForm (qa_cons (qe_str) qa_nil) (fun _ _ _ _ _ _ _ I x h0 hn he => raises_cx I x h0 hn he) rfl)) (qss_nil)))), ?_⟩
  walk_at "r"
  refine ⟨_, rfl, _, rfl, ?_⟩
  refine ⟨v, nv, nt, rfl, hv, hn, fun z n ez hp hb r H1 s1 hr1 => ?_, fun hw H1 s1 => x (hw.imp_right .inl) H1 (s1.b a)⟩
  subst ez
  obtain ⟨hnd1, hnd2⟩ := hnd z rfl hb
  refine ⟨_, rfl, a, c.w, dx, [], rfl, s1 _ _ ha, O.cl, O.nf, by simp, ?_⟩
  have st := ins_t (s1 _ _ ha) (.ins c.w dx (putF "form" (.ref r) []))
  have e2 : upd H1 a (.ins c.w dx (putF "form" (.ref r) [])) a = some (.ins c.w dx [("form", .ref r)]) := upd_same
  have b2 := hr1.same st
  have n2 := (hnd1.same s1.t).same st
  have sb2 : SameB a H (upd H1 a (.ins c.w dx (putF "form" (.ref r) []))) := (s1.b a).put _
  revert e2 b2 n2 sb2
  generalize upd H1 a (.ins c.w dx (putF "form" (.ref r) [])) = H2
  intro e2 b2 n2 sb2
  walk_at "r"
  refine ⟨_, rfl, _, rfl, a, c.w, dx, _, rfl, e2, O.cl, O.na, by simp, ?_⟩
  have st := ins_t e2 (.ins c.w dx (putF "at" (.int i) [("form", .ref r)]))
  have e3 : upd H2 a (.ins c.w dx (putF "at" (.int i) [("form", .ref r)])) a = some (.ins c.w dx [("form", .ref r), ("at", .int i)]) := upd_same
  have b3 := b2.same st
  have n3 := n2.same st
  have sb3 : SameB a H (upd H2 a (.ins c.w dx (putF "at" (.int i) [("form", .ref r)]))) := sb2.put _
  revert e3 b3 n3 sb3
  generalize upd H2 a (.ins c.w dx (putF "at" (.int i) [("form", .ref r)])) = H3
  intro e3 b3 n3 sb3
  walk_at "r"
  refine ⟨_, rfl, a, c.w, dx, _, _, rfl, e3, O.cl, O.nf, rfl, ?_⟩
  walk_at "r"
  have ff := b3.ff GA hp n3 hnd2 hb
  refine ⟨_, bareT z d n, i, rfl, ff.1, ?_⟩
  have hl : (bareT z d n).ps.length = n := List.length_replicate
  rw [hl]
  by_cases hi : 0 ≤ i ∧ i < (n : Int)
  ·rw [decide_eq_true hi]
   walk_at "r"
   exact q z n rfl hp hb hi.1 hi.2 r H3 sb3 e3 b3
  ·rw [decide_eq_false hi]
   walk_at "r"
   exact ⟨by show 1 ≤ sizeLine; decide, x (.inr (.inr ⟨z, n, rfl, hp, hi⟩)) H3 sb3⟩
theorem sc_Wrap_done : FnScope ["self", "form"] ["self", "form"] (defScope s_Wrap_done) := ⟨rfl, rfl, rfl, by decide +kernel, rfl, by decide +kernel, by decide +kernel⟩
theorem ok_Wdone {c : Cs} {ND : Addr} {f : Addr} {fd : FuncData} (A : c.Apart) (F : Fun K "done" "Wrap.done" s_Wrap_done f fd) (T : Txt K mg) (O : Own K mg "Wrap" c.w) (C_with_part : Callee P w K mg base 1 "with_part" ["form", "number", "part"] (sp_wpart K)) : FnOk P w K mg base (CXR P w) 3 f fd ["self", "form"] (sp_done K c ND c.w) := by
 refine F.okx sc_Wrap_done (fun vs H Q E h => ?_) (fun cdv A' outer s H vs Q E hr h => ?_)
 ·obtain ⟨x, d, y, t, rfl, _⟩ := h
  rfl
 ·obtain ⟨x, d, y, t, rfl, hx, hc, hy, q, e⟩ := h
  obtain ⟨v, p, i, rfl⟩ := Dd.is_wrap A hc
  obtain ⟨a, dx, rfl, ha, hg, hi⟩ := hx
  refine ⟨_, qss_one (qs_ret (qe_fn C_with_part (hr.mono (by decide)) (qa_cons (qe_fldK K (qv 0)) (qa_cons (qe_fldK K (qv 0)) (qa_cons (qv 1) qa_nil))))), ?_⟩
  cases p with
  | mk w n ps =>
  walk_at "r"
  refine ⟨_, rfl, a, c.w, dx, _, v, rfl, ha, O.cl, O.nf, rfl, ?_⟩
  walk_at "r"
  refine ⟨_, rfl, a, c.w, dx, _, _, rfl, ha, O.cl, O.na, rfl, ?_⟩
  walk_at "r"
  have hz := hg.2.2.1
  rw [Tr.size] at hz
  have hl := sizes_len ps
  exact ⟨v, y, w, n, ps, t, i, rfl, hg.1, hy.1, hi, by omega, fun v' H' s' ht => q _ rfl v' H' s' ht⟩
noncomputable def sp_initK (K : W.Frag) (c : Cs) : Sp := fun vs H Q E => ∃ a dx i, vs = [.ref a, .int i] ∧ H a = some (.ins c.k dx []) ∧ ∀ H', SameB a H H' → H' a = some (.ins c.k dx [("at", .int i)]) → Q .non H'
theorem sc_Keep_init : FnScope ["self", "at"] ["self", "at"] (defScope s_Keep_init) := ⟨rfl, rfl, rfl, by decide +kernel, rfl, by decide +kernel, by decide +kernel⟩
theorem ok_Kinit {c : Cs} {TD : Addr} {f : Addr} {fd : FuncData} (F : FunD K "__init__" "Keep.__init__" s_Keep_init TD f fd) (T : Txt K mg) (O : Own K mg "Keep" c.k) : FnOk P w K mg base (CXR P w) 1 f fd ["self", "at"] (sp_initK K c) := by
 refine F.okx sc_Keep_init (fun vs H Q E h => ?_) (fun cdv A outer s H vs Q E hr h => ?_)
 ·obtain ⟨a, dx, i, rfl, _⟩ := h
  rfl
 ·obtain ⟨a, dx, i, rfl, ha, q⟩ := h
  refine ⟨_, qss_one (qs_fldK K (qv 0) (qv 1)), ?_⟩
  walk_at "r"
  refine ⟨_, rfl, _, rfl, a, c.k, dx, [], rfl, ha, O.cl, O.na, by simp, ?_⟩
  exact q _ (((Same.refl H).b a).put _) upd_same
theorem sc_Wrap_back : FnScope ["self", "form"] ["self", "form"] (defScope s_Wrap_back) := ⟨rfl, rfl, rfl, by decide +kernel, rfl, by decide +kernel, by decide +kernel⟩
theorem ok_Wback {c : Cs} {N_NoDeed : Addr} {f : Addr} {fd : FuncData} (A : c.Apart) (F : Fun K "back" "Wrap.back" s_Wrap_back f fd) (T : Txt K mg) (O : Own K mg "Wrap" c.w) (MK_Keep_1 : MakeK (CXR P w) P w K mg base 1 "Keep" c.k ["self", "at"] [] (fun vs _ => vs) (sp_initK K c)) : FnOk P w K mg base (CXR P w) 9 f fd ["self", "form"] (sp_back K c N_NoDeed c.w) := by
 refine F.okx sc_Wrap_back (fun vs H Q E h => ?_) (fun cdv A' outer s H vs Q E hr h => ?_)
 ·obtain ⟨x, d, y, t, rfl, _⟩ := h
  rfl
 ·obtain ⟨x, d, y, t, rfl, hx, hc, _, hy, q, e⟩ := h
  obtain ⟨v, p, i, rfl⟩ := Dd.is_wrap A hc
  obtain ⟨a, dx, rfl, ha, hg, hi⟩ := hx
  refine ⟨_, qss_one (qs_ret (qe_newK MK_Keep_1 (hr.mono (by decide)) (passes_cx (fun _ _ _ h => h)) (qa_cons (qe_fldK K (qv 0)) qa_nil) (qk_nil))), ?_⟩
  walk_at "r"
  refine ⟨_, rfl, a, c.w, dx, _, _, rfl, ha, O.cl, O.na, rfl, ?_⟩
  intro a1 d1 h1 h2 h3
  refine ⟨a1, d1, _, rfl, upd_same, fun H' s' e' => ⟨rfl, ?_⟩⟩
  exact q _ rfl _ _ (s'.made h1 h2) ⟨a1, d1, rfl, e', True.intro⟩
theorem sc_Keep_done : FnScope ["self", "form"] ["self", "form"] (defScope s_Keep_done) := ⟨rfl, rfl, rfl, by decide +kernel, rfl, by decide +kernel, by decide +kernel⟩
theorem ok_Kdone {c : Cs} {N_NoDeed : Addr} {f : Addr} {fd : FuncData} (A : c.Apart) (F : Fun K "done" "Keep.done" s_Keep_done f fd) (T : Txt K mg) (O : Own K mg "Keep" c.k) (C_has_part : Callee P w K mg base 2 "has_part" ["form", "number"] (sp_has K)) (R_NoDeed : W.excIn K N_NoDeed VE "ValueError.__new__" = true) (G_NoDeed : mg "NoDeed" = some (.ref N_NoDeed)) : FnOk P w K mg base (CXR P w) 3 f fd ["self", "form"] (sp_done K c N_NoDeed c.k) := by
 refine F.okx sc_Keep_done (fun vs H Q E h => ?_) (fun cdv A' outer s H vs Q E hr h => ?_)
 ·obtain ⟨x, d, y, t, rfl, _⟩ := h
  rfl
 ·obtain ⟨x, d, y, t, rfl, hx, hc, hy, q, e⟩ := h
  obtain ⟨i, rfl⟩ := Dd.is_keep A hc
  obtain ⟨a, dx, rfl, ha, _⟩ := hx
  refine ⟨_, qss_cons (qs_if (qt_not (qt_val (qe_fn C_has_part (hr.mono (by decide)) (qa_cons (qv 1) (qa_cons (qe_fldK K (qv 0)) qa_nil))))) (qss_one (qs_raise rfl R_NoDeed G_NoDeed (qa_cons (qe_str) qa_nil) (fun _ _ _ _ _ _ _ I x h0 hn he => raises_cx I x h0 hn he) rfl)) (qss_nil))
   (qss_one (qs_ret (qe_ix (k_ix K) (qe_ix (k_ix K) (qv 1) (qe_int) (fun _ _ => rfl)) (qe_fldK K (qv 0)) (fun _ _ => rfl)))), ?_⟩
  walk_at "r"
  refine ⟨_, rfl, a, c.k, dx, _, _, rfl, ha, O.cl, O.na, rfl, ?_⟩
  walk_at "r"
  refine ⟨y, t, i, rfl, hy.1, ?_⟩
  have hty := hy.1
  cases hty with
  | @mk b pp wd nv nd us ts qb hn qp l hch =>
  have q : ∀ u, (if 0 ≤ i ∧ i < (ts.length : Int) then ts[i.toNat]? else none) = some u → ∀ v H', Same H H' → TrAt K H' v u → Q v H' := q
  have e : (if 0 ≤ i ∧ i < (ts.length : Int) then ts[i.toNat]? else none) = none → E (.ref N_NoDeed) none H := e
  show ∃ k, V.bl (decide (0 ≤ i ∧ i < (ts.length : Int))) = V.bl k ∧ _
  by_cases hi : 0 ≤ i ∧ i < (ts.length : Int)
  ·rw [decide_eq_true hi]
   rw [if_pos hi] at q
   have hl : i.toNat < us.length := by omega
   have hl' : i.toNat < ts.length := by omega
   walk_at "r"
   refine s_ix_tup qb rfl ?_
   walk_at "r"
   refine ⟨_, rfl, a, c.k, dx, _, _, rfl, ha, O.cl, O.na, rfl, ?_⟩
   refine s_ix_tup qp (v := us[i.toNat]) ?_ ?_
   ·have := atI_nat (List.getElem?_eq_getElem hl)
    rw [show ((i.toNat : Nat) : Int) = i by omega] at this
    exact this
   ·exact q _ (List.getElem?_eq_getElem hl') _ H (Same.refl _) (hch _ _ _ (List.getElem?_eq_getElem hl) (List.getElem?_eq_getElem hl'))
  ·rw [decide_eq_false hi]
   rw [if_neg hi] at e
   walk_at "r"
   exact ⟨by show 1 ≤ sizeLine; decide, e rfl⟩
noncomputable def sp_initG (K : W.Frag) (c : Cs) (NF : Addr) : Sp := fun vs H Q E => ∃ a dx y t, vs = [.ref a, y] ∧ H a = some (.ins c.g dx []) ∧ FF K H y t ∧ ∀ H', SameB a H H' → H' a = some (.ins c.g dx [("form", y)]) → Q .non H'
theorem sc_Change_init : FnScope ["self", "form"] ["self", "form"] (defScope s_Change_init) := ⟨rfl, rfl, rfl, by decide +kernel, rfl, by decide +kernel, by decide +kernel⟩
theorem ok_Ginit {c : Cs} {N_NoForm : Addr} {f : Addr} {fd : FuncData} (F : Fun K "__init__" "Change.__init__" s_Change_init f fd) (T : Txt K mg) (O : Own K mg "Change" c.g) (C_refuse_no_form : CalleeX P w K mg base 6 "refuse_no_form" ["thing"] (sp_refF K N_NoForm)) : FnOk P w K mg base (CXR P w) 7 f fd ["self", "form"] (sp_initG K c N_NoForm) := by
 refine F.okx sc_Change_init (fun vs H Q E h => ?_) (fun cdv A outer s H vs Q E hr h => ?_)
 ·obtain ⟨a, dx, y, t, rfl, _⟩ := h
  rfl
 ·obtain ⟨a, dx, y, t, rfl, ha, ht, q⟩ := h
  refine ⟨_, qss_cons (qs_expr (qe_fnx C_refuse_no_form (hr.mono (by decide)) (passes_cx (fun _ _ _ h => h)) (qa_cons (qv 1) qa_nil)))
   (qss_one (qs_fldK K (qv 0) (qv 1))), ?_⟩
  walk_at "r"
  refine ⟨y, t, rfl, ht, fun H1 s1 => ?_⟩
  walk_at "r"
  refine ⟨_, rfl, _, rfl, a, c.g, dx, [], rfl, s1 _ _ ha, O.cl, O.nf, by simp, ?_⟩
  exact q _ ((s1.b a).put _) upd_same
theorem sc_Keep_back : FnScope ["self", "form"] ["self", "form"] (defScope s_Keep_back) := ⟨rfl, rfl, rfl, by decide +kernel, rfl, by decide +kernel, by decide +kernel⟩
theorem ok_Kback {c : Cs} {N_NoDeed N_NoForm : Addr} {f : Addr} {fd : FuncData} (A : c.Apart) (F : Fun K "back" "Keep.back" s_Keep_back f fd) (T : Txt K mg) (M : MethX (CXR P w) P w K mg base 3 c.k "done" ["self", "form"] (sp_done K c N_NoDeed c.k)) (MK_Change : MakeX (CXR P w) P w K mg base 7 "Change" c.g ["self", "form"] (sp_initG K c N_NoForm)) : FnOk P w K mg base (CXR P w) 9 f fd ["self", "form"] (sp_back K c N_NoDeed c.k) := by
 refine F.okx sc_Keep_back (fun vs H Q E h => ?_) (fun cdv A' outer s H vs Q E hr h => ?_)
 ·obtain ⟨x, d, y, t, rfl, _⟩ := h
  rfl
 ·obtain ⟨x, d, y, t, rfl, hx, hc, _, hy, q, e⟩ := h
  obtain ⟨i, rfl⟩ := Dd.is_keep A hc
  have hx' := hx
  obtain ⟨a, dx, rfl, ha, hg⟩ := hx
  refine ⟨_, qss_cons (qs_expr (qe_methD (k := 3) K (CXR P w) ["self", "form"] (qv 0) (hr.mono (by decide)) (passes_cx (fun _ _ _ h => h)) (qa_cons (qv 1) qa_nil)))
   (qss_one (qs_ret (qe_new MK_Change (hr.mono (by decide)) (passes_cx (fun _ _ _ h => h)) (qa_cons (qv 1) qa_nil)))), ?_⟩
  walk_at "r"
  refine ⟨_, rfl, a, c.k, dx, _, _, rfl, ha, rfl, M, ?_⟩
  walk_at "r"
  refine ⟨_, .keep i, y, t, rfl, hx', rfl, hy, fun z hz v1 H1 s1 _ => ?_, fun hz => e hz H (Same.refl _)⟩
  walk_at "r"
  refine ⟨y, rfl, fun a1 d1 h1 h2 h3 => ?_⟩
  have s2 := Same.made (C := c.g) (fs := []) h1 h2 h3
  refine ⟨a1, d1, y, t, rfl, upd_same, hy.same (s1.trans s2), fun H' s' e' => ⟨rfl, ?_⟩⟩
  have sm := s1.trans (s'.made h1 h2)
  exact q z hz _ _ sm ⟨a1, d1, rfl, e', hy.same sm⟩
theorem sc_Change_done : FnScope ["self", "form"] ["self", "form"] (defScope s_Change_done) := ⟨rfl, rfl, rfl, by decide +kernel, rfl, by decide +kernel, by decide +kernel⟩
theorem ok_Gdone {c : Cs} {ND : Addr} {f : Addr} {fd : FuncData} (A : c.Apart) (F : Fun K "done" "Change.done" s_Change_done f fd) (T : Txt K mg) (O : Own K mg "Change" c.g) : FnOk P w K mg base (CXR P w) 3 f fd ["self", "form"] (sp_done K c ND c.g) := by
 refine F.okx sc_Change_done (fun vs H Q E h => ?_) (fun cdv A' outer s H vs Q E hr h => ?_)
 ·obtain ⟨x, d, y, t, rfl, _⟩ := h
  rfl
 ·obtain ⟨x, d, y, t, rfl, hx, hc, hy, q, e⟩ := h
  obtain ⟨v, p, rfl⟩ := Dd.is_chg A hc
  obtain ⟨a, dx, rfl, ha, hg⟩ := hx
  refine ⟨_, qss_one (qs_ret (qe_fldK K (qv 0))), ?_⟩
  walk_at "r"
  exact ⟨_, rfl, a, c.g, dx, _, v, rfl, ha, O.cl, O.nf, rfl, q p rfl v H (Same.refl _) hg.1⟩
noncomputable def sp_class (K : W.Frag) (NF ND : Addr) : Sp := fun vs H Q _ => ∃ (a C : Addr) (od : Option Addr) (t : Str), vs = [.ref a] ∧ H a = some (exk a (.ref C) od) ∧ (∀ d, od = some d → ∃ fs, H d = some (.xd fs)) ∧ ((C = NF ∧ t = "form") ∨ (C = ND ∧ t = "deed")) ∧ ∀ (p : Addr) (H' : Hp), Same H H' → H' p = some (.lst [.bl true, .str t]) → Q (.ref p) H'
theorem sc_law_class : FnScope ["_law_e", "_law_found"] ["_law_e"] (defScope s_law_class) := ⟨rfl, rfl, rfl, by decide +kernel, rfl, by decide +kernel, by decide +kernel⟩
structure KdC (K : W.Frag) (mg : Str → Option Value) (NF ND NP : Addr) : Prop where
 nF : ExN K NF
 nD : ExN K ND
 gF : mg "NoForm" = some (.ref NF)
 gD : mg "NoDeed" = some (.ref ND)
 gP : mg "NoPlace" = some (.ref NP)
 vF : W.kitOne K (.ref NF) (.type "ValueError") = some true
 vD : W.kitOne K (.ref ND) (.type "ValueError") = some true
 fD : W.kitOne K (.ref NF) (.ref ND) = some false
 dF : W.kitOne K (.ref ND) (.ref NF) = some false
 fP : W.kitOne K (.ref NF) (.ref NP) = some false
 dP : W.kitOne K (.ref ND) (.ref NP) = some false
theorem ok_class {N_NoForm N_NoDeed N_NoPlace : Addr} {f : Addr} {fd : FuncData} (F : Fun K "_law_class" "_law_class" s_law_class f fd) (T : Txt K mg) (D : KdC K mg N_NoForm N_NoDeed N_NoPlace) : FnOkN P w K mg base 1 f fd ["_law_e"] (sp_class K N_NoForm N_NoDeed) := by
 have G_NoForm := D.gF
 have G_NoDeed := D.gD
 have G_NoPlace := D.gP
 refine F.okN sc_law_class (fun vs H Q E h => ?_) (fun cdv A outer s H vs Q E hr h => ?_)
 ·obtain ⟨a, C, od, t, rfl, _⟩ := h
  rfl
 ·obtain ⟨a, C, od, t, rfl, e, hd, hc, q⟩ := h
  refine ⟨_, qss_cons (qs_set (i := 1) sc_law_class.nd rfl (Or.inl rfl) (qe_lst (qa_cons (qe_callB (k_isYT (K := K) "ValueError") (by rfl) T.isinstance (by decide +kernel) (qa_cons (qv 0) (qa_cons (qe_bltn (v := .ty "ValueError") (by rfl) T.ValueError (by decide +kernel) rfl) qa_nil))) qa_nil)))
   (qss_cons (qs_if (qt_val (qe_callB (k_isY (K := K)) (by rfl) T.isinstance (by decide +kernel) (qa_cons (qv 0) (qa_cons (qe_glob (v := .ref N_NoForm) (by rfl) G_NoForm rfl) qa_nil)))) (qss_one (qs_expr (qe_bmK K PySem.F.plainAttrs_list PySem.F.slot_list_append PySem.F.type_list_append mt_append (qv 1) (qa_cons (qe_str) qa_nil)))) (qss_nil))
   (qss_cons (qs_if (qt_val (qe_callB (k_isY (K := K)) (by rfl) T.isinstance (by decide +kernel) (qa_cons (qv 0) (qa_cons (qe_glob (v := .ref N_NoDeed) (by rfl) G_NoDeed rfl) qa_nil)))) (qss_one (qs_expr (qe_bmK K PySem.F.plainAttrs_list PySem.F.slot_list_append PySem.F.type_list_append mt_append (qv 1) (qa_cons (qe_str) qa_nil)))) (qss_nil))
   (qss_cons (qs_if (qt_val (qe_callB (k_isY (K := K)) (by rfl) T.isinstance (by decide +kernel) (qa_cons (qv 0) (qa_cons (qe_glob (v := .ref N_NoPlace) (by rfl) G_NoPlace rfl) qa_nil)))) (qss_one (qs_expr (qe_bmK K PySem.F.plainAttrs_list PySem.F.slot_list_append PySem.F.type_list_append mt_append (qv 1) (qa_cons (qe_str) qa_nil)))) (qss_nil))
   (qss_one (qs_ret (qv 1)))))), ?_⟩
  walk_at "r"
  rcases hc with ⟨rfl, rfl⟩ | ⟨rfl, rfl⟩
  ·refine ⟨a, _, od, _, rfl, e, hd, D.nF, D.vF, ?_⟩
   walk_at "r"
   refine ⟨by show 1 ≤ sizeLine; decide, fun p hp => ?_⟩
   have s1 := Same.upd (o := .lst [.bl true]) hp
   have e1 : upd H p (.lst [.bl true]) p = some (.lst [.bl true]) := upd_same
   have q1 : ∀ (H' : Hp), Same H H' → H' p = some (.lst [.bl true, .str "form"]) → Q (.ref p) H' := fun H' h => q p H' h
   have hd1 : ∀ d, od = some d → ∃ fs, upd H p (.lst [.bl true]) d = some (.xd fs) := fun d h => by obtain ⟨fs, z⟩ := hd d h; exact ⟨fs, s1 _ _ z⟩
   walk_at "r"
   refine ⟨a, _, _, od, true, rfl, s1 _ _ e, hd1, D.nF, kit_self, ?_⟩
   walk_at "r"
   refine s_tyL (SqL.of e1) ?_
   walk_at "r"
   refine s_app e1 (by decide) ?_
   have s2 : Same H (upd (upd H p (.lst [.bl true])) p (.lst ([.bl true] ++ [.str "form"]))) := s1.over hp
   have hd2 : ∀ d, od = some d → ∃ fs, upd (upd H p (.lst [.bl true])) p (.lst ([.bl true] ++ [.str "form"])) d = some (.xd fs) := fun d h => by obtain ⟨fs, z⟩ := hd d h; exact ⟨fs, s2 _ _ z⟩
   walk_at "r"
   refine ⟨a, _, _, od, false, rfl, s2 _ _ e, hd2, D.nF, D.fD, ?_⟩
   walk_at "r"
   refine ⟨a, _, _, od, false, rfl, s2 _ _ e, hd2, D.nF, D.fP, ?_⟩
   walk_at "r"
   exact q1 _ s2 upd_same
  ·refine ⟨a, _, od, _, rfl, e, hd, D.nD, D.vD, ?_⟩
   walk_at "r"
   refine ⟨by show 1 ≤ sizeLine; decide, fun p hp => ?_⟩
   have s1 := Same.upd (o := .lst [.bl true]) hp
   have e1 : upd H p (.lst [.bl true]) p = some (.lst [.bl true]) := upd_same
   have q1 : ∀ (H' : Hp), Same H H' → H' p = some (.lst [.bl true, .str "deed"]) → Q (.ref p) H' := fun H' h => q p H' h
   have hd1 : ∀ d, od = some d → ∃ fs, upd H p (.lst [.bl true]) d = some (.xd fs) := fun d h => by obtain ⟨fs, z⟩ := hd d h; exact ⟨fs, s1 _ _ z⟩
   walk_at "r"
   refine ⟨a, _, _, od, false, rfl, s1 _ _ e, hd1, D.nD, D.dF, ?_⟩
   walk_at "r"
   refine ⟨a, _, _, od, true, rfl, s1 _ _ e, hd1, D.nD, kit_self, ?_⟩
   walk_at "r"
   refine s_tyL (SqL.of e1) ?_
   walk_at "r"
   refine s_app e1 (by decide) ?_
   have s2 : Same H (upd (upd H p (.lst [.bl true])) p (.lst ([.bl true] ++ [.str "deed"]))) := s1.over hp
   have hd2 : ∀ d, od = some d → ∃ fs, upd (upd H p (.lst [.bl true])) p (.lst ([.bl true] ++ [.str "deed"])) d = some (.xd fs) := fun d h => by obtain ⟨fs, z⟩ := hd d h; exact ⟨fs, s2 _ _ z⟩
   walk_at "r"
   refine ⟨a, _, _, od, false, rfl, s2 _ _ e, hd2, D.nD, D.dP, ?_⟩
   walk_at "r"
   exact q1 _ s2 upd_same
noncomputable def sp_ldone (K : W.Frag) (c : Cs) : Sp := fun vs H Q _ => ∃ x d y t, vs = [x, y] ∧ DdAt K c H x d ∧ FF K H y t ∧ (∀ u, doneT t d = some u → ∀ v H', Same H H' → TrAt K H' v u → Q v H') ∧ (doneT t d = none → ∀ v H', Same H H' → Told H' v "deed" → Q v H')
theorem sc_law_done : FnScope ["_law_deed", "_law_form", "_law_told", "_law_e"] ["_law_deed", "_law_form"] (defScope s_law_done) := ⟨rfl, rfl, rfl, by decide +kernel, rfl, by decide +kernel, by decide +kernel⟩
theorem ok_ldone {c : Cs} {N_NoForm N_NoDeed N_GapError : Addr} {f : Addr} {fd : FuncData} (F : Fun K "_law_done" "_law_done" s_law_done f fd) (T : Txt K mg) (M : ∀ d : Dd, MethX (CXR P w) P w K mg base 3 (d.cls c) "done" ["self", "form"] (sp_done K c N_NoDeed (d.cls c))) (C__law_class : CalleeN P w K mg base 1 "_law_class" ["_law_e"] (sp_class K N_NoForm N_NoDeed))
  (X_GapError : ExcC K N_GapError) (G_GapError : mg "GapError" = some (.ref N_GapError)) (hsub : W.subIn K (.ref N_NoDeed) (.ref N_GapError) = some true) : FnOk P w K mg base CX0 4 f fd ["_law_deed", "_law_form"] (sp_ldone K c) := by
 refine F.okq sc_law_done (fun vs H Q E h => ?_) (fun cdv A outer s H vs Q E hr h => ?_)
 ·obtain ⟨x, d, y, t, rfl, _⟩ := h
  rfl
 ·obtain ⟨x, d, y, t, rfl, hx, hy, q, e⟩ := h
  have hx' := hx
  obtain ⟨a, dx, rfl, ha, _⟩ := hx
  have nl : d.fs.lookup ("done" : Str) = none := by cases d <;> rfl
  refine ⟨_, qss_cons (qs_set (i := 2) sc_law_done.nd rfl (Or.inl rfl) (qe_non))
   (qss_cons (qs_tryM (i := 3) sc_law_done.nd rfl rfl X_GapError G_GapError rfl rfl (qxs_set (i := 2) sc_law_done.nd rfl (Or.inl rfl) (qx_methD (k := 3) K ["self", "form"] (fun _ => qv 0) (hr.mono (by decide)) (fun _ => qa_cons (qv 1) qa_nil))) (fun _ _ => qss_one (qs_set (i := 2) sc_law_done.nd rfl (Or.inl rfl) (qe_fnN C__law_class (RoomN.mark (RoomN.mono (Room.n hr) (by decide)) _) (qa_cons (qv 3) qa_nil)))))
   (qss_one (qs_ret (qv 2)))), ?_⟩
  walk_at "r"
  refine ⟨_, rfl, a, d.cls c, dx, _, _, rfl, ha, nl, M d, ?_⟩
  refine ⟨_, rfl, ?_⟩
  refine ⟨_, d, y, t, rfl, hx', rfl, hy, fun u hv v H1 s1 tv => ?_, fun hv => ⟨⟨N_NoDeed, rfl, hsub⟩, fun a1 ha1 => ?_⟩⟩
  ·walk_at "r"
   exact q u hv v H1 s1 tv
  ·walk_at "r"
   refine ⟨a1, N_NoDeed, none, "deed", rfl, upd_same, (fun d hd => nomatch hd), .inr ⟨rfl, rfl⟩, fun p1 H1 s1 f1 => ?_⟩
   walk_at "r"
   dsimp only [Ends.gone]
   walk_at "r"
   exact e hv _ _ ((Same.upd ha1).trans s1) ⟨p1, rfl, f1⟩
noncomputable def sp_lback (K : W.Frag) (c : Cs) : Sp := fun vs H Q _ => ∃ x d y t, vs = [x, y] ∧ DdAt K c H x d ∧ d.hasBack = true ∧ FF K H y t ∧ (∀ u, doneT t d = some u → ∀ x' H', Same H H' → DdAt K c H' x' (backD y t d) → Q x' H') ∧ (doneT t d = none → ∀ v H', Same H H' → Told H' v "deed" → Q v H')
theorem sc_law_back : FnScope ["_law_deed", "_law_form", "_law_told", "_law_e"] ["_law_deed", "_law_form"] (defScope s_law_back) := ⟨rfl, rfl, rfl, by decide +kernel, rfl, by decide +kernel, by decide +kernel⟩
theorem ok_lback {c : Cs} {N_NoForm N_NoDeed N_GapError : Addr} {f : Addr} {fd : FuncData} (F : Fun K "_law_back" "_law_back" s_law_back f fd) (T : Txt K mg) (M : ∀ d : Dd, d.hasBack = true → MethX (CXR P w) P w K mg base 9 (d.cls c) "back" ["self", "form"] (sp_back K c N_NoDeed (d.cls c))) (C__law_class : CalleeN P w K mg base 1 "_law_class" ["_law_e"] (sp_class K N_NoForm N_NoDeed))
  (X_GapError : ExcC K N_GapError) (G_GapError : mg "GapError" = some (.ref N_GapError)) (hsub : W.subIn K (.ref N_NoDeed) (.ref N_GapError) = some true) : FnOk P w K mg base CX0 10 f fd ["_law_deed", "_law_form"] (sp_lback K c) := by
 refine F.okq sc_law_back (fun vs H Q E h => ?_) (fun cdv A outer s H vs Q E hr h => ?_)
 ·obtain ⟨x, d, y, t, rfl, _⟩ := h
  rfl
 ·obtain ⟨x, d, y, t, rfl, hx, hb, hy, q, e⟩ := h
  have hx' := hx
  obtain ⟨a, dx, rfl, ha, _⟩ := hx
  have nl : d.fs.lookup ("back" : Str) = none := by cases d <;> rfl
  refine ⟨_, qss_cons (qs_set (i := 2) sc_law_back.nd rfl (Or.inl rfl) (qe_non))
   (qss_cons (qs_tryM (i := 3) sc_law_back.nd rfl rfl X_GapError G_GapError rfl rfl (qxs_set (i := 2) sc_law_back.nd rfl (Or.inl rfl) (qx_methD (k := 9) K ["self", "form"] (fun _ => qv 0) (hr.mono (by decide)) (fun _ => qa_cons (qv 1) qa_nil))) (fun _ _ => qss_one (qs_set (i := 2) sc_law_back.nd rfl (Or.inl rfl) (qe_fnN C__law_class (RoomN.mark (RoomN.mono (Room.n hr) (by decide)) _) (qa_cons (qv 3) qa_nil)))))
   (qss_one (qs_ret (qv 2)))), ?_⟩
  walk_at "r"
  refine ⟨_, rfl, a, d.cls c, dx, _, _, rfl, ha, nl, M d hb, ?_⟩
  refine ⟨_, rfl, ?_⟩
  refine ⟨_, d, y, t, rfl, hx', rfl, hb, hy, fun u hv v H1 s1 tv => ?_, fun hv H0 s0 => ⟨⟨N_NoDeed, rfl, hsub⟩, fun a1 ha1 => ?_⟩⟩
  ·walk_at "r"
   exact q u hv v H1 s1 tv
  ·walk_at "r"
   refine ⟨a1, N_NoDeed, none, "deed", rfl, upd_same, (fun d hd => nomatch hd), .inr ⟨rfl, rfl⟩, fun p1 H1 s1 f1 => ?_⟩
   walk_at "r"
   dsimp only [Ends.gone]
   walk_at "r"
   exact e hv _ _ (s0.trans ((Same.upd ha1).trans s1)) ⟨p1, rfl, f1⟩
noncomputable def sp_nodeed (K : W.Frag) (c : Cs) : Sp := fun vs H Q _ => ∃ x d y t, vs = [x, y] ∧ DdAt K c H x d ∧ d.hasBack = true ∧ FF K H y t ∧ doneT t d = none ∧ ∀ H', Same H H' → Q (.bl true) H'
theorem sc_law_no_deed : FnScope ["_law_deed", "_law_form"] ["_law_deed", "_law_form"] (defScope s_law_no_deed) := ⟨rfl, rfl, rfl, by decide +kernel, rfl, by decide +kernel, by decide +kernel⟩
theorem ok_nodeed {c : Cs} {f : Addr} {fd : FuncData} (F : Fun K "_law_no_deed" "_law_no_deed" s_law_no_deed f fd) (T : Txt K mg) (C__law_done : Callee P w K mg base 4 "_law_done" ["_law_deed", "_law_form"] (sp_ldone K c)) (C__law_back : Callee P w K mg base 10 "_law_back" ["_law_deed", "_law_form"] (sp_lback K c)) : FnOk P w K mg base CX0 11 f fd ["_law_deed", "_law_form"] (sp_nodeed K c) := by
 refine F.okq sc_law_no_deed (fun vs H Q E h => ?_) (fun cdv A outer s H vs Q E hr h => ?_)
 ·obtain ⟨x, d, y, t, rfl, _⟩ := h
  rfl
 ·obtain ⟨x, d, y, t, rfl, hx, hb, hy, hn, q⟩ := h
  refine ⟨_, qss_one (qs_ret (qe_and (qe_cmpR (k_eq K hr.u200) (qe_fn C__law_done (hr.mono (by decide)) (qa_cons (qv 0) (qa_cons (qv 1) qa_nil))) (qe_lst (qa_cons (qe_bl) (qa_cons (qe_str) qa_nil))) (nomark _)) (qe_one (qe_cmpR (k_eq K hr.u200) (qe_fn C__law_back (hr.mono (by decide)) (qa_cons (qv 0) (qa_cons (qv 1) qa_nil))) (qe_lst (qa_cons (qe_bl) (qa_cons (qe_str) qa_nil))) (nomark _))))), ?_⟩
  walk_at "r"
  refine ⟨x, d, y, t, rfl, hx, hy, (fun v e => by rw [hn] at e; cases e), fun _ v1 H1 s1 h1 => ?_⟩
  obtain ⟨p1, rfl, e1⟩ := h1
  walk_at "r"
  refine ⟨by show 2 ≤ sizeLine; decide, fun p2 hp2 => ?_⟩
  have s2 := Same.upd (o := .lst [.bl true, .str "deed"]) hp2
  refine s_eqD (n := 1) (by decide) (told_isD (s2 _ _ e1)) (told_isD upd_same) ?_
  have s02 := s1.trans s2
  walk_at "r"
  refine ⟨x, d, y, t, rfl, hx.same s02, hb, hy.same s02, (fun v e => by rw [hn] at e; cases e), fun _ v3 H3 s3 h3 => ?_⟩
  obtain ⟨p3, rfl, e3⟩ := h3
  walk_at "r"
  refine ⟨by show 2 ≤ sizeLine; decide, fun p4 hp4 => ?_⟩
  have s4 := Same.upd (o := .lst [.bl true, .str "deed"]) hp4
  refine s_eqD (n := 1) (by decide) (told_isD (s4 _ _ e3)) (told_isD upd_same) ?_
  exact q _ (s02.trans (s3.trans s4))
noncomputable def dB : Dt → Bool
 | .flat (.bl _) => true
 | _ => false
theorem note_bool {K : W.Frag} {H : Hp} {v : V} {d : Dt} {nt : Nt} (h : IsN K H v d) (hd : DtNt d nt) : ∃ t, TyN K H v t ∧ kitT t "bool" = dB d := by
 rcases h with ⟨hf, rfl⟩ | ⟨a, vs, rfl, q, _, rfl⟩
 ·cases hd with
  | fl hs =>
   cases v with
   | non => exact ⟨_, .non, rfl⟩
   | bl b => exact ⟨_, .bl b, rfl⟩
   | int i => exact ⟨_, .int i, rfl⟩
   | str z => exact ⟨_, .str z hs, rfl⟩
   | _ => cases hf
 ·exact ⟨_, .tup q, rfl⟩
theorem tr_note {K : W.Frag} {H : Hp} {v : V} {t : Tr} (h : TrAt K H v t) (ok : TrOk t) : ∃ (a p : Addr) (n : V) (ty : String), v = .ref a ∧ SqT K H a [.str t.wd, n, .ref p] ∧ TyN K H n ty ∧ kitT ty "bool" = dB t.note := by
 cases h with
 | mk q hn qp l hs =>
  cases ok with
  | mk _ hd _ _ =>
   obtain ⟨ty, h1, h2⟩ := note_bool hn hd
   exact ⟨_, _, _, ty, rfl, q, h1, h2⟩
noncomputable def sp_both (K : W.Frag) (c : Cs) : Sp := fun vs H Q _ => ∃ x d y t z u, vs = [x, y, z] ∧ DdAt K c H x d ∧ d.hasBack = true ∧ FF K H y t ∧ FF K H z u ∧ doneT t d = some u ∧ doneT u (backD y t d) = some t ∧ ∀ H', Same H H' → Q (.bl true) H'
theorem sc_law_both : FnScope ["_law_deed", "_law_form", "_law_due", "_law_k", "_law_found", "_law_back_here"] ["_law_deed", "_law_form", "_law_due"] (defScope s_law_both) := ⟨rfl, rfl, rfl, by decide +kernel, rfl, by decide +kernel, by decide +kernel⟩
theorem ok_both {c : Cs} {f : Addr} {fd : FuncData} (F : Fun K "_law_both" "_law_both" s_law_both f fd) (T : Txt K mg) (L : Kl K mg c) (C__law_done : Callee P w K mg base 4 "_law_done" ["_law_deed", "_law_form"] (sp_ldone K c)) (C__law_back : Callee P w K mg base 10 "_law_back" ["_law_deed", "_law_form"] (sp_lback K c)) : FnOk P w K mg base CX0 11 f fd ["_law_deed", "_law_form", "_law_due"] (sp_both K c) := by
 refine F.okq sc_law_both (fun vs H Q E h => ?_) (fun cdv A outer s H vs Q E hr h => ?_)
 ·obtain ⟨x, d, y, t, z, u, rfl, _⟩ := h
  rfl
 ·obtain ⟨x, d, y, t, z, u, rfl, hx, hb, hy, hz, hv, hv2, q⟩ := h
  obtain ⟨N_Deed, eD⟩ : ∃ N, N = c.d := ⟨_, rfl⟩
  have G_Deed : mg "Deed" = some (.ref N_Deed) := by rw [eD]; exact L.gd
  have kd : ∀ d : Dd, W.kitOne K (.ref (d.cls c)) (.ref N_Deed) = some true := fun d => by rw [eD]; exact L.deed d
  refine ⟨_, qss_cons (qs_if (qt_not (qt_val (qe_callB (k_isI (K := K)) (by rfl) T.isinstance (by decide +kernel) (qa_cons (qv 0) (qa_cons (qe_glob (v := .ref N_Deed) (by rfl) G_Deed rfl) qa_nil))))) (qss_one (qs_ret (qe_bl))) (qss_nil))
   (qss_cons (qs_for PassesOwn.never rfl (qi_range1 rfl T.range (qa_cons (qe_int) qa_nil)) (qg_name (i := 3) sc_law_both.nd rfl (Or.inl rfl)) (qss_cons (qs_set (i := 4) sc_law_both.nd rfl (Or.inl rfl) (qe_fn C__law_done (hr.mono (by decide)) (qa_cons (qv 0) (qa_cons (qv 1) qa_nil))))
   (qss_cons (qs_set (i := 5) sc_law_both.nd rfl (Or.inl rfl) (qe_fn C__law_back (hr.mono (by decide)) (qa_cons (qv 0) (qa_cons (qv 1) qa_nil))))
   (qss_cons (qs_if (QW.qt (qw_or (qt_not (qt_val (qe_callB (k_isi K "tuple") (by rfl) T.isinstance (by decide +kernel) (qa_cons (qv 4) (qa_cons (qe_bltn (v := .ty "tuple") (by rfl) T.tuple (by decide +kernel) rfl) qa_nil))))) (qw_or (qt_cmpR (k_ne K hr.u200) (qv 4) (qv 2) (nomark _)) (qw_or1 (qt_cmpR (k_ne K hr.u200) (qe_callB (k_isi K "bool") (by rfl) T.isinstance (by decide +kernel) (qa_cons (qe_ix (k_ix K) (qv 4) (qe_int) (fun _ _ => rfl)) (qa_cons (qe_bltn (v := .ty "bool") (by rfl) T.bool (by decide +kernel) rfl) qa_nil))) (qe_callB (k_isi K "bool") (by rfl) T.isinstance (by decide +kernel) (qa_cons (qe_ix (k_ix K) (qv 2) (qe_int) (fun _ _ => rfl)) (qa_cons (qe_bltn (v := .ty "bool") (by rfl) T.bool (by decide +kernel) rfl) qa_nil))) (nomark _)))))) (qss_one (qs_ret (qe_bl))) (qss_nil))
   (qss_one (qs_if (QW.qt (qw_or (qt_not (qt_val (qe_callB (k_isI (K := K)) (by rfl) T.isinstance (by decide +kernel) (qa_cons (qv 5) (qa_cons (qe_glob (v := .ref N_Deed) (by rfl) G_Deed rfl) qa_nil))))) (qw_or1 (qt_cmpR (k_ne K hr.u200) (qe_fn C__law_done (hr.mono (by decide)) (qa_cons (qv 5) (qa_cons (qv 2) qa_nil))) (qv 1) (nomark _))))) (qss_one (qs_ret (qe_bl))) (qss_nil)))))))
   (qss_one (qs_ret (qe_bl)))), ?_⟩
  walk_at "r"
  refine s_isI (b := true) (L.ty hx) (kd d) ?_
  walk_at "r"
  refine ⟨by decide, by decide, ?_⟩
  refine for_range (n := (2 : Int).toNat) (fun i σ H' => ∃ v3 v4 v5, σ = [some x, some y, some z, v3, v4, v5] ∧ Same H H') ⟨_, _, _, rfl, Same.refl _⟩ ?_ ?_
  ·rintro i σ H1 hi ⟨v3, v4, v5, rfl, s1⟩
   walk_at "r"
   refine ⟨x, d, y, t, rfl, hx.same s1, hy.same s1, fun u' e' v H2 s2 tv => ?_, fun e' => by rw [hv] at e'; cases e'⟩
   rw [hv] at e'
   cases e'
   have m2 := s1.trans s2
   walk_at "r"
   refine ⟨x, d, y, t, rfl, hx.same m2, hb, hy.same m2, fun u' e' x' H3 s3 hd' => ?_, fun e' => by rw [hv] at e'; cases e'⟩
   have m3 := m2.trans s3
   have tv' := tv.same s3
   have hz' := hz.same m3
   have hy' := hy.same m3
   obtain ⟨ra, rp, rn, ty1, er, qr, hr1, hr2⟩ := tr_note tv' hz.2.1
   obtain ⟨za, zp, zn, ty2, ez, qz, hz1, hz2⟩ := tr_note hz'.1 hz.2.1
   obtain ⟨ya, ey⟩ := not_ref hy'.1
   subst er ez ey
   walk_at "r"
   refine s_isiT (b := true) qr kit_same ?_
   walk_at "r"
   refine s_neD (n := 190) (Nat.le_refl _) (tr_isD tv' (by have := hz.2.2.2; omega)) hz'.isD ?_
   walk_at "r"
   refine s_ix_tup qr rfl ?_
   walk_at "r"
   refine s_isiN hr1 (by simp) ?_
   walk_at "r"
   refine s_ix_tup qz rfl ?_
   walk_at "r"
   refine s_isiN hz1 (by simp) ?_
   walk_at "r"
   rw [hr2, hz2, decide_eq_true (Eq.refl _)]
   walk_at "r"
   refine s_isI (b := true) (L.ty hd') (kd _) ?_
   walk_at "r"
   refine ⟨x', _, _, u, rfl, hd', hz', fun u' e' v2 H4 s4 tv2 => ?_, fun e' => by rw [hv2] at e'; cases e'⟩
   rw [hv2] at e'
   cases e'
   obtain ⟨wa, ew⟩ := not_ref tv2
   subst ew
   walk_at "r"
   refine s_neD (n := 190) (Nat.le_refl _) (tr_isD tv2 (by have := hy.2.2.2; omega)) (hy'.same s4).isD ?_
   walk_at "r"
   exact ⟨_, _, _, rfl, m3.trans s4⟩
  ·rintro σ H1 ⟨v3, v4, v5, rfl, s1⟩
   walk_at "r"
   exact q H1 s1
noncomputable def sp_wrapped (K : W.Frag) (c : Cs) : Sp := fun vs H Q _ => ∃ v nv nt d i, vs = [v, nv, .int i] ∧ Has K H v ∧ NtAt K H nv nt ∧ (∀ s : Str, v = .str s → noteB s nt = true → IsN K H nv d ∧ DtNt d nt) ∧
 (∀ (s : Str) (n j : Nat), v = .str s → partsOf s = some n → noteB s nt = true → i = (j : Nat) → j < n → ∀ x r H', Same H H' → DdAt K c H' x (.wrap (.ref r) (bareT s d n) j) → Q x H') ∧
 ((wordV v = false ∨ (∃ s : Str, v = .str s ∧ noteB s nt = false) ∨ (∃ (s : Str) (n : Nat), v = .str s ∧ partsOf s = some n ∧ ¬ (0 ≤ i ∧ i < (n : Int)))) → ∀ v' H', Same H H' → Told H' v' "form" → Q v' H')
theorem sc_law_wrapped : FnScope ["_law_word", "_law_remark", "_law_seat", "_law_told", "_law_e"] ["_law_word", "_law_remark", "_law_seat"] (defScope s_law_wrapped) := ⟨rfl, rfl, rfl, by decide +kernel, rfl, by decide +kernel, by decide +kernel⟩
theorem ok_wrapped {c : Cs} {ag N_NoForm N_NoDeed N_GapError : Addr} {f : Addr} {fd : FuncData} (F : Fun K "_law_wrapped" "_law_wrapped" s_law_wrapped f fd) (T : Txt K mg) (GA : GapAt K ag) (MK_Wrap_3 : MakeK (CXR P w) P w K mg base 5 "Wrap" c.w ["self", "word", "note", "at"] [] (fun vs _ => vs) (sp_initW K c ag N_NoForm)) (C__law_class : CalleeN P w K mg base 1 "_law_class" ["_law_e"] (sp_class K N_NoForm N_NoDeed))
  (X_GapError : ExcC K N_GapError) (G_GapError : mg "GapError" = some (.ref N_GapError)) (hsub : W.subIn K (.ref N_NoForm) (.ref N_GapError) = some true) : FnOk P w K mg base CX0 7 f fd ["_law_word", "_law_remark", "_law_seat"] (sp_wrapped K c) := by
 refine F.okq sc_law_wrapped (fun vs H Q E h => ?_) (fun cdv A outer s H vs Q E hr h => ?_)
 ·obtain ⟨v, nv, nt, d, i, rfl, _⟩ := h
  rfl
 ·obtain ⟨v, nv, nt, d, i, rfl, hv, hn, hd, q, x⟩ := h
  refine ⟨_, qss_cons (qs_set (i := 3) sc_law_wrapped.nd rfl (Or.inl rfl) (qe_non))
   (qss_cons (qs_tryM (i := 4) sc_law_wrapped.nd rfl rfl X_GapError G_GapError rfl rfl (qxs_set (i := 3) sc_law_wrapped.nd rfl (Or.inl rfl) (qx_newK MK_Wrap_3 (hr.mono (by decide)) (fun _ => qa_cons (qv 0) (qa_cons (qv 1) (qa_cons (qv 2) qa_nil))) (fun _ => qk_nil))) (fun _ _ => qss_one (qs_set (i := 3) sc_law_wrapped.nd rfl (Or.inl rfl) (qe_fnN C__law_class (RoomN.mark (RoomN.mono (Room.n hr) (by decide)) _) (qa_cons (qv 4) qa_nil)))))
   (qss_one (qs_ret (qv 3)))), ?_⟩
  walk_at "r"
  refine ⟨v, rfl, nv, rfl, _, rfl, ?_⟩
  intro a1 d1 h1 h2 h3
  have s1 := Same.made (C := c.w) (fs := []) h1 h2 h3
  refine ⟨a1, d1, v, nv, nt, d, i, rfl, upd_same, hv.same s1, hn.same s1, (fun z ez hb => ⟨(hd z ez hb).1.same s1.t, (hd z ez hb).2⟩), fun z n ez hp hb i0 i1 r H' sb e' hb' => ⟨rfl, ?_⟩, fun hw H' sb => ⟨⟨N_NoForm, rfl, hsub⟩, fun a2 ha2 => ?_⟩⟩
  ·obtain ⟨j, rfl⟩ : ∃ j : Nat, i = (j : Nat) := ⟨i.toNat, by omega⟩
   have sm := sb.made h1 h2
   obtain ⟨hi, hdn⟩ := hd z ez hb
   walk_at "r"
   exact q z n j ez hp hb rfl (by omega) _ r H' sm ⟨a1, d1, rfl, e', hb'.ff GA hp (hi.same sm.t) hdn hb, by show j < (List.replicate n gapT).length; rw [List.length_replicate]; omega⟩
  ·have sm := sb.made h1 h2
   walk_at "r"
   refine ⟨a2, N_NoForm, none, "form", rfl, upd_same, (fun d hd => nomatch hd), .inl ⟨rfl, rfl⟩, fun p1 H1 s2 f1 => ?_⟩
   walk_at "r"
   dsimp only [Ends.gone]
   walk_at "r"
   exact x hw _ _ (sm.trans ((Same.upd ha2).trans s2)) ⟨p1, rfl, f1⟩
noncomputable def sp_lbare (K : W.Frag) (c : Cs) : Sp := fun vs H Q _ => ∃ v, vs = [v] ∧ Has K H v ∧
 (∀ (s : Str) (n : Nat), v = .str s → partsOf s = some n → noteB s (.fl .non) = true → 0 < n → ∀ x r H', Same H H' → DdAt K c H' x (.wrap (.ref r) (bareT s (.flat .non) n) 0) → Q x H') ∧
 ((wordV v = false ∨ (∃ s : Str, v = .str s ∧ noteB s (.fl .non) = false) ∨ (∃ (s : Str) (n : Nat), v = .str s ∧ partsOf s = some n ∧ n = 0)) → ∀ v' H', Same H H' → Told H' v' "form" → Q v' H')
theorem sc_law_bare : FnScope ["_law_word", "_law_told", "_law_e"] ["_law_word"] (defScope s_law_bare) := ⟨rfl, rfl, rfl, by decide +kernel, rfl, by decide +kernel, by decide +kernel⟩
theorem ok_lbare {c : Cs} {ag N_NoForm N_NoDeed N_GapError : Addr} {f : Addr} {fd : FuncData} (F : Fun K "_law_bare" "_law_bare" s_law_bare f fd) (T : Txt K mg) (GA : GapAt K ag) (MK_Wrap_1 : MakeK (CXR P w) P w K mg base 5 "Wrap" c.w ["self", "word", "note", "at"] [] (fun vs _ => vs ++ [.non, .int 0]) (sp_initW K c ag N_NoForm)) (C__law_class : CalleeN P w K mg base 1 "_law_class" ["_law_e"] (sp_class K N_NoForm N_NoDeed))
  (X_GapError : ExcC K N_GapError) (G_GapError : mg "GapError" = some (.ref N_GapError)) (hsub : W.subIn K (.ref N_NoForm) (.ref N_GapError) = some true) : FnOk P w K mg base CX0 7 f fd ["_law_word"] (sp_lbare K c) := by
 refine F.okq sc_law_bare (fun vs H Q E h => ?_) (fun cdv A outer s H vs Q E hr h => ?_)
 ·obtain ⟨v, rfl, _⟩ := h
  rfl
 ·obtain ⟨v, rfl, hv, q, x⟩ := h
  refine ⟨_, qss_cons (qs_set (i := 1) sc_law_bare.nd rfl (Or.inl rfl) (qe_non))
   (qss_cons (qs_tryM (i := 2) sc_law_bare.nd rfl rfl X_GapError G_GapError rfl rfl (qxs_set (i := 1) sc_law_bare.nd rfl (Or.inl rfl) (qx_newK MK_Wrap_1 (hr.mono (by decide)) (fun _ => qa_cons (qv 0) qa_nil) (fun _ => qk_nil))) (fun _ _ => qss_one (qs_set (i := 1) sc_law_bare.nd rfl (Or.inl rfl) (qe_fnN C__law_class (RoomN.mark (RoomN.mono (Room.n hr) (by decide)) _) (qa_cons (qv 2) qa_nil)))))
   (qss_one (qs_ret (qv 1)))), ?_⟩
  walk_at "r"
  refine ⟨v, rfl, ?_⟩
  intro a1 d1 h1 h2 h3
  have s1 := Same.made (C := c.w) (fs := []) h1 h2 h3
  refine ⟨a1, d1, v, .non, .fl .non, .flat .non, 0, rfl, upd_same, hv.same s1, ⟨rfl, _, .non, rfl⟩, (fun z ez hb => ⟨.inl ⟨rfl, rfl⟩, .fl (v := .non) trivial⟩), fun z n ez hp hb i0 i1 r H' sb e' hb' => ⟨rfl, ?_⟩, fun hw H' sb => ⟨⟨N_NoForm, rfl, hsub⟩, fun a2 ha2 => ?_⟩⟩
  ·have sm := sb.made h1 h2
   walk_at "r"
   exact q z n ez hp hb (by omega) _ r H' sm ⟨a1, d1, rfl, e', hb'.ff GA hp (.inl ⟨rfl, rfl⟩) (.fl (v := .non) trivial) hb, by show 0 < (List.replicate n gapT).length; rw [List.length_replicate]; omega⟩
  ·have sm := sb.made h1 h2
   have hw' : wordV v = false ∨ (∃ s : Str, v = .str s ∧ noteB s (.fl .non) = false) ∨ (∃ (s : Str) (n : Nat), v = .str s ∧ partsOf s = some n ∧ n = 0) := by
    rcases hw with h | h | ⟨z, n, h4, h5, h6⟩
    ·exact .inl h
    ·exact .inr (.inl h)
    ·exact .inr (.inr ⟨z, n, h4, h5, by omega⟩)
   walk_at "r"
   refine ⟨a2, N_NoForm, none, "form", rfl, upd_same, (fun d hd => nomatch hd), .inl ⟨rfl, rfl⟩, fun p1 H1 s2 f1 => ?_⟩
   walk_at "r"
   dsimp only [Ends.gone]
   walk_at "r"
   exact x hw' _ _ (sm.trans ((Same.upd ha2).trans s2)) ⟨p1, rfl, f1⟩
noncomputable def gNote {α : Type} : List α → List α → List α
 | [a, b], [n] => [a, b, n]
 | _, _ => []
noncomputable def sp_put (K : W.Frag) (c : Cs) : Sp := fun vs H Q _ => ∃ v nv b ev nt d, vs = [v, nv, .bl b] ∧ ev = (if b = true then .non else nv) ∧ Has K H v ∧ NtAt K H ev nt ∧ (∀ s : Str, v = .str s → noteB s nt = true → IsN K H ev d ∧ DtNt d nt) ∧
 (∀ (s : Str) (n : Nat), v = .str s → partsOf s = some n → noteB s nt = true → s ≠ "gap" → ∀ x r H', Same H H' → DdAt K c H' x (.put (.ref r) (bareT s d n)) → Q x H') ∧
 ((wordV v = false ∨ (∃ s : Str, v = .str s ∧ noteB s nt = false) ∨ v = .str "gap") → ∀ v' H', Same H H' → Told H' v' "form" → Q v' H')
theorem sc_law_put : FnScope ["_law_word", "_law_remark", "_law_left_out", "_law_told", "_law_e"] ["_law_word", "_law_remark", "_law_left_out"] (defScope s_law_put) := ⟨rfl, rfl, rfl, by decide +kernel, rfl, by decide +kernel, by decide +kernel⟩
theorem ok_put {c : Cs} {ag N_NoForm N_NoDeed N_GapError : Addr} {f : Addr} {fd : FuncData} (F : Fun K "_law_put" "_law_put" s_law_put f fd) (T : Txt K mg) (GA : GapAt K ag) (MK_Put_1 : MakeK (CXR P w) P w K mg base 5 "Put" c.p ["self", "word", "note"] [] (fun vs _ => vs ++ [.non]) (sp_initP K c ag N_NoForm)) (MK_Put_1_note : MakeK (CXR P w) P w K mg base 5 "Put" c.p ["self", "word", "note"] ["note"] gNote (sp_initP K c ag N_NoForm)) (C__law_class : CalleeN P w K mg base 1 "_law_class" ["_law_e"] (sp_class K N_NoForm N_NoDeed))
  (X_GapError : ExcC K N_GapError) (G_GapError : mg "GapError" = some (.ref N_GapError)) (hsub : W.subIn K (.ref N_NoForm) (.ref N_GapError) = some true) : FnOk P w K mg base CX0 7 f fd ["_law_word", "_law_remark", "_law_left_out"] (sp_put K c) := by
 refine F.okq sc_law_put (fun vs H Q E h => ?_) (fun cdv A outer s H vs Q E hr h => ?_)
 ·obtain ⟨v, nv, b, ev, nt, d, rfl, _⟩ := h
  rfl
 ·obtain ⟨v, nv, b, ev, nt, d, rfl, ee, hv, hn, hd, q, x⟩ := h
  refine ⟨_, qss_cons (qs_set (i := 3) sc_law_put.nd rfl (Or.inl rfl) (qe_non))
   (qss_cons (qs_tryM (i := 4) sc_law_put.nd rfl rfl X_GapError G_GapError rfl rfl (qxs_if (fun _ => qt_truthK K (qv 2) (by intro _; rfl)) (qxs_set (i := 3) sc_law_put.nd rfl (Or.inl rfl) (qx_newK MK_Put_1 (hr.mono (by decide)) (fun _ => qa_cons (qv 0) qa_nil) (fun _ => qk_nil))) (qxs_set (i := 3) sc_law_put.nd rfl (Or.inl rfl) (qx_newK MK_Put_1_note (hr.mono (by decide)) (fun _ => qa_cons (qv 0) qa_nil) (fun _ => qk_cons (qv 1) qk_nil)))) (fun _ _ => qss_one (qs_set (i := 3) sc_law_put.nd rfl (Or.inl rfl) (qe_fnN C__law_class (RoomN.mark (RoomN.mono (Room.n hr) (by decide)) _) (qa_cons (qv 4) qa_nil)))))
   (qss_one (qs_ret (qv 3)))), ?_⟩
  walk_at "r"
  have key : ∀ (Y : Hp → Prop) (Z : XK) (a1 d1 : Addr), H a1 = none → H d1 = none → d1 ≠ a1 →
    (∀ (s : Str) (n : Nat), v = .str s → partsOf s = some n → noteB s nt = true → s ≠ "gap" → ∀ r H', Same H H' → DdAt K c H' (.ref a1) (.put (.ref r) (bareT s d n)) → Y H') →
    ((wordV v = false ∨ (∃ s : Str, v = .str s ∧ noteB s nt = false) ∨ v = .str "gap") → ∀ H', Same H H' → Z (.ref N_NoForm) none H') →
    sp_initP K c ag N_NoForm [.ref a1, v, ev] (upd (upd H d1 (.own a1)) a1 (.ins c.p d1 [])) (fun w1 H3 => w1 = .non ∧ Y H3) Z := by
   intro Y Z a1 d1 h1 h2 h3 good bad
   have s1 := Same.made (C := c.p) (fs := []) h1 h2 h3
   refine ⟨a1, d1, v, ev, nt, rfl, upd_same, hv.same s1, hn.same s1, fun z n ez hp hb hz r H' sb e' hb' => ⟨rfl, ?_⟩, fun hw H' sb => bad hw H' (sb.made h1 h2)⟩
   have sm := sb.made h1 h2
   obtain ⟨hi, hdn⟩ := hd z ez hb
   exact good z n ez hp hb hz r H' sm ⟨a1, d1, rfl, e', hb'.ff GA hp (hi.same sm.t) hdn hb⟩
  cases b with
  | true =>
   have ee : ev = .non := ee
   rw [ee] at key
   refine ⟨_, rfl, true, rfl, ?_⟩
   refine ⟨v, rfl, ?_⟩
   intro a1 d1 h1 h2 h3
   refine key _ _ a1 d1 h1 h2 h3 (fun z n ez hp hb hz r H' sm hd' => ?_) (fun hw H' sm => ⟨⟨N_NoForm, rfl, hsub⟩, fun a2 ha2 => ?_⟩)
   ·walk_at "r"
    exact q z n ez hp hb hz _ r H' sm hd'
   ·walk_at "r"
    refine ⟨a2, N_NoForm, none, "form", rfl, upd_same, (fun d hd => nomatch hd), .inl ⟨rfl, rfl⟩, fun p1 H1 s2 f1 => ?_⟩
    walk_at "r"
    dsimp only [Ends.gone]
    walk_at "r"
    exact x hw _ _ (sm.trans ((Same.upd ha2).trans s2)) ⟨p1, rfl, f1⟩
  | false =>
   have ee : ev = nv := ee
   rw [ee] at key
   refine ⟨_, rfl, false, rfl, ?_⟩
   refine ⟨v, rfl, ?_⟩
   refine ⟨nv, rfl, ?_⟩
   intro a1 d1 h1 h2 h3
   refine key _ _ a1 d1 h1 h2 h3 (fun z n ez hp hb hz r H' sm hd' => ?_) (fun hw H' sm => ⟨⟨N_NoForm, rfl, hsub⟩, fun a2 ha2 => ?_⟩)
   ·walk_at "r"
    exact q z n ez hp hb hz _ r H' sm hd'
   ·walk_at "r"
    refine ⟨a2, N_NoForm, none, "form", rfl, upd_same, (fun d hd => nomatch hd), .inl ⟨rfl, rfl⟩, fun p1 H1 s2 f1 => ?_⟩
    walk_at "r"
    dsimp only [Ends.gone]
    walk_at "r"
    exact x hw _ _ (sm.trans ((Same.upd ha2).trans s2)) ⟨p1, rfl, f1⟩
theorem viaS {t : TS} {X : St → Hp → Prop} {rt : VK} {bk ct : St → Hp → Prop} {σ : St} {H : Hp} (R : St → Hp → Prop) (h2 : ∀ σ' H', R σ' H' → X σ' H') (h1 : ∀ Y : St → Hp → Prop, (∀ σ' H', R σ' H' → Y σ' H') → t ⟨Y, rt, bk, ct⟩ σ H) : t ⟨X, rt, bk, ct⟩ σ H := h1 X h2
theorem tr_parts {K : W.Frag} {H : Hp} {v : V} {t : Tr} (h : TrAt K H v t) : ∃ (a p : Addr) (n : V) (vs : List V), v = .ref a ∧ SqT K H a [.str t.wd, n, .ref p] ∧ (flatV n = true ∨ ∃ (b : Addr) (xs : List V), n = .ref b ∧ SqT K H b xs) ∧ SqT K H p vs := by
 cases h with
 | mk q hn qp l hs =>
  refine ⟨_, _, _, _, rfl, q, ?_, qp⟩
  rcases hn with ⟨h, _⟩ | ⟨a, vs, h1, h2, _⟩
  ·exact .inl h
  ·exact .inr ⟨a, vs, h1, h2⟩
theorem non_only {nt : Nt} (h : nonN nt = true) : nt = .fl .non := by
 unfold nonN at h
 split at h
 ·rfl
 ·cases h
theorem gap_only {t : Tr} (ok : TrOk t) (h : t.wd = "gap") : t = gapT := by
 cases ok with
 | @mk wd d nt ts hp hd hn hs =>
  have h : wd = "gap" := h
  subst h
  have h0 : partsOf ("gap" : Str) = some 0 := by decide +kernel
  rw [h0] at hp
  have hl : ts = [] := List.eq_nil_of_length_eq_zero (Option.some.inj hp).symm
  subst hl
  have hn : nonN nt = true := hn
  have e := non_only hn
  subst e
  cases hd with
  | fl hv => rfl
theorem none_fits {wd : Str} {nt : Nt} (h : noteB wd nt = true) : nt = .fl .non ∨ noteB wd (.fl .non) = false := by
 unfold noteB at h ⊢
 split
 ·exact .inr rfl
 split
 ·exact .inr rfl
 split
 ·exact .inr rfl
 split
 ·exact .inr rfl
 split
 ·exact .inr rfl
 ·rename_i h1 h2 h3 h4 h5
  rw [if_neg h1, if_neg h2, if_neg h3, if_neg h4, if_neg h5] at h
  exact .inl (non_only h)
theorem none_only {K : W.Frag} {H : Hp} {v : V} (h : NtAt K H v (.fl .non)) : v = .non := h.1
structure PutPre (K : W.Frag) (H : Hp) (s : Str) (nv : V) (n : Nat) (d : Dt) (nt : Nt) : Prop where
 pt : partsOf s = some n
 nn : IsN K H nv d
 dn : DtNt d nt
 nb : noteB s nt = true
theorem PutPre.same {K : W.Frag} {H H' : Hp} {s : Str} {nv : V} {n : Nat} {d : Dt} {nt : Nt} (h : PutPre K H s nv n d nt) (e : Same H H') : PutPre K H' s nv n d nt := ⟨h.pt, h.nn.same e.t, h.dn, h.nb⟩
theorem PutPre.at_ {K : W.Frag} {H : Hp} {s : Str} {nv : V} {n : Nat} {d : Dt} {nt : Nt} (h : PutPre K H s nv n d nt) : NtAt K H nv nt := IsN.nt h.nn h.dn
theorem PutPre.len {K : W.Frag} {H : Hp} {s : Str} {nv : V} {n : Nat} {d : Dt} {nt : Nt} (h : PutPre K H s nv n d nt) : s.length ≤ 1000 := by have := many_one h.pt; omega
theorem bareT_ok {K : W.Frag} {H : Hp} {s : Str} {nv : V} {n : Nat} {d : Dt} {nt : Nt} (h : PutPre K H s nv n d nt) : TrOk (bareT s d n) ∧ (bareT s d n).size ≤ 4 ∧ dep (bareT s d n) ≤ 2 := by
 have n3 := parts_le h.pt
 refine ⟨.mk (by rw [List.length_replicate]; exact h.pt) h.dn h.nb fun t ht => ?_, ?_, ?_⟩
 ·rw [List.eq_of_mem_replicate ht]
  exact TrOk.gap
 ·unfold bareT
  rw [Tr.size, sizes_rep]
  omega
 ·unfold bareT
  rw [dep]
  have := deps_rep n
  omega
theorem lst3_isD {K : W.Frag} {H : Hp} {p : Addr} {a b c : V} {d : Dt} (q : SqL K H p [a, b, c]) (h1 : IsD K H 1 a d) (h2 : IsD K H 1 b d) (h3 : IsD K H 1 c d) : IsD K H 2 (.ref p) (.lst [d, d, d]) := by
 refine .lst q rfl fun j v e f1 f2 => ?_
 match j, f1, f2 with
 | 0, f1, f2 => cases f1; cases f2; exact h1
 | 1, f1, f2 => cases f1; cases f2; exact h2
 | 2, f1, f2 => cases f1; cases f2; exact h3
noncomputable def sp_puts (K : W.Frag) : Sp := fun vs H Q _ => ∃ (s : Str) (nv wv bv tv : V) (n : Nat) (d : Dt) (nt wt : Nt) (t : Tr), vs = [.str s, nv, wv, bv, tv] ∧ PutPre K H s nv n d nt ∧ NtAt K H wv wt ∧ noteB s wt = false ∧ Has K H bv ∧ wordV bv = false ∧ FF K H tv t ∧ ∀ H', Same H H' → Q (.bl true) H'
theorem nd_law_puts_1 : (["_law_k", "_law_gap"] : List Str).Nodup := by decide +kernel
theorem sc_law_puts : FnScope ["_law_word", "_law_remark", "_law_wrong", "_law_bad", "_law_tree_here", "_law_gap", "_law_no", "_law_due", "_law_told", "_law_deed"] ["_law_word", "_law_remark", "_law_wrong", "_law_bad", "_law_tree_here"] (defScope s_law_puts) := ⟨rfl, rfl, rfl, by decide +kernel, rfl, by decide +kernel, by decide +kernel⟩
theorem ok_puts {c : Cs} {f : Addr} {fd : FuncData} (F : Fun K "_law_puts" "_law_puts" s_law_puts f fd) (T : Txt K mg) (L : Kl K mg c) (C__law_many : Callee P w K mg base 1 "_law_many" ["_law_word"] sp_many) (C__law_put : Callee P w K mg base 7 "_law_put" ["_law_word", "_law_remark", "_law_left_out"] (sp_put K c)) (C__law_both : Callee P w K mg base 11 "_law_both" ["_law_deed", "_law_form", "_law_due"] (sp_both K c)) (C__law_no_deed : Callee P w K mg base 11 "_law_no_deed" ["_law_deed", "_law_form"] (sp_nodeed K c)) : FnOk P w K mg base CX0 12 f fd ["_law_word", "_law_remark", "_law_wrong", "_law_bad", "_law_tree_here"] (sp_puts K) := by
 refine F.okq sc_law_puts (fun vs H Q E h => ?_) (fun cdv A outer s H vs Q E hr h => ?_)
 ·obtain ⟨z, nv, wv, bv, tv, n, d, nt, wt, t, rfl, _⟩ := h
  rfl
 ·obtain ⟨z, nv, wv, bv, tv, n, d, nt, wt, t, rfl, pp, hw, wb, hbv, hbw, ht, q⟩ := h
  obtain ⟨N_Put, eP⟩ : ∃ N, N = c.p := ⟨_, rfl⟩
  have G_Put : mg "Put" = some (.ref N_Put) := by rw [eP]; exact L.op.at_
  refine ⟨_, qss_cons (qs_set (i := 5) sc_law_puts.nd rfl (Or.inr rfl) (qe_tup (qa_cons (qe_str) (qa_cons (qe_non) (qa_cons (qe_tup (qa_nil)) qa_nil)))))
   (qss_cons (qs_set (i := 6) sc_law_puts.nd rfl (Or.inl rfl) (qe_lst (qa_cons (qe_bl) (qa_cons (qe_str) qa_nil))))
   (qss_cons (qs_set (i := 7) sc_law_puts.nd rfl (Or.inl rfl) (qe_tup (qa_cons (qv 0) (qa_cons (qv 1) (qa_cons (qe_callTy (k_tuple K) (by rfl) T.tuple (by decide +kernel) (qa_cons (qe_comp (N := ["_law_k", "_law_gap"]) (σ0 := capSt 1 [5]) rfl (cscope_fn rfl (by decide +kernel) (by decide +kernel) (by decide +kernel)) (qi_range1 rfl T.range (qa_cons (qe_fn C__law_many (hr.mono (by decide)) (qa_cons (qv 0) qa_nil)) qa_nil)) (takes_in rfl (by rfl)) (fun _ _ _ _ => qg_name (i := 0) nd_law_puts_1 rfl (Or.inl rfl)) (fun _ _ _ _ => qts_nil) (fun _ _ _ _ => qv 1)) qa_nil)) qa_nil)))))
   (qss_cons (qs_if (qt_cmpR (k_eq K hr.u200) (qv 0) (qe_str) (nomark _)) (qss_cons (qs_set (i := 8) sc_law_puts.nd rfl (Or.inl rfl) (qe_lst (qa_cons (qe_fn C__law_put (hr.mono (by decide)) (qa_cons (qv 0) (qa_cons (qv 1) (qa_cons (qe_bl) qa_nil)))) (qa_cons (qe_fn C__law_put (hr.mono (by decide)) (qa_cons (qv 0) (qa_cons (qv 1) (qa_cons (qe_bl) qa_nil)))) (qa_cons (qe_fn C__law_put (hr.mono (by decide)) (qa_cons (qv 0) (qa_cons (qv 2) (qa_cons (qe_bl) qa_nil)))) qa_nil)))))
   (qss_one (qs_ret (qe_cmpR (k_eq K hr.u200) (qv 8) (qe_lst (qa_cons (qv 6) (qa_cons (qv 6) (qa_cons (qv 6) qa_nil)))) (nomark _))))) (qss_nil))
   (qss_cons (qs_set (i := 9) sc_law_puts.nd rfl (Or.inl rfl) (qe_fn C__law_put (hr.mono (by decide)) (qa_cons (qv 0) (qa_cons (qv 1) (qa_cons (qe_bl) qa_nil)))))
   (qss_cons (qs_if (QW.qt (qw_or (qt_not (qt_val (qe_callB (k_isI (K := K)) (by rfl) T.isinstance (by decide +kernel) (qa_cons (qv 9) (qa_cons (qe_glob (v := .ref N_Put) (by rfl) G_Put rfl) qa_nil))))) (qw_or (qt_not (qt_val (qe_fn C__law_both (hr.mono (by decide)) (qa_cons (qv 9) (qa_cons (qv 5) (qa_cons (qv 7) qa_nil)))))) (qw_or1 (qt_not (qt_val (qe_fn C__law_no_deed (hr.mono (by decide)) (qa_cons (qv 9) (qa_cons (qv 7) qa_nil))))))))) (qss_one (qs_ret (qe_bl))) (qss_nil))
   (qss_cons (qs_if (QW.qt (qw_and (qt_cmpR (k_neG K hr.u200) (qv 4) (qv 5) (nomark _)) (qw_and1 (qt_not (qt_val (qe_fn C__law_no_deed (hr.mono (by decide)) (qa_cons (qv 9) (qa_cons (qv 4) qa_nil)))))))) (qss_one (qs_ret (qe_bl))) (qss_nil))
   (qss_cons (qs_if (QW.qt (qw_and (qt_cmp (qc_isN (qv 1))) (qw_and1 (qt_not (qt_val (qe_fn C__law_both (hr.mono (by decide)) (qa_cons (qe_fn C__law_put (hr.mono (by decide)) (qa_cons (qv 0) (qa_cons (qv 1) (qa_cons (qe_bl) qa_nil)))) (qa_cons (qv 5) (qa_cons (qv 7) qa_nil))))))))) (qss_one (qs_ret (qe_bl))) (qss_nil))
   (qss_cons (qs_if (QW.qt (qw_and (qt_cmp (qc_notN (qv 1))) (qw_and1 (qt_cmpR (k_neG K hr.u200) (qe_fn C__law_put (hr.mono (by decide)) (qa_cons (qv 0) (qa_cons (qv 1) (qa_cons (qe_bl) qa_nil)))) (qv 6) (nomark _))))) (qss_one (qs_ret (qe_bl))) (qss_nil))
   (qss_one (qs_ret (qe_and (qe_fn C__law_both (hr.mono (by decide)) (qa_cons (qv 9) (qa_cons (qv 5) (qa_cons (qv 7) qa_nil)))) (qe_and (qe_cmpR (k_eq K hr.u200) (qe_fn C__law_put (hr.mono (by decide)) (qa_cons (qv 0) (qa_cons (qv 2) (qa_cons (qe_bl) qa_nil)))) (qv 6) (nomark _)) (qe_one (qe_cmpR (k_eq K hr.u200) (qe_fn C__law_put (hr.mono (by decide)) (qa_cons (qv 3) (qa_cons (qv 1) (qa_cons (qe_bl) qa_nil)))) (qv 6) (nomark _))))))))))))))), ?_⟩
  have bg := big
  have n3 := parts_le pp.pt
  walk_at "r"
  refine ⟨by show 0 ≤ sizeLine; decide, fun pe he => ?_⟩
  have s1 := Same.upd (o := .tup []) he
  walk_at "r"
  refine ⟨by show 3 ≤ sizeLine; decide, fun pg hg => ?_⟩
  have s2 := Same.upd (o := .tup [.str "gap", .non, .ref pe]) hg
  have qg : SqT K (upd (upd H pe (.tup [])) pg (.tup [.str "gap", .non, .ref pe])) pg [.str "gap", .non, .ref pe] := SqT.of upd_same
  have qe : SqT K (upd (upd H pe (.tup [])) pg (.tup [.str "gap", .non, .ref pe])) pe [] := s2.tup (SqT.of upd_same)
  have s02 := s1.trans s2
  revert qg qe s02
  generalize upd (upd H pe (.tup [])) pg (.tup [.str "gap", .non, .ref pe]) = H2
  intro qg qe s02
  walk_at "r"
  refine ⟨by show 2 ≤ sizeLine; decide, fun pn hpn => ?_⟩
  have s3 : Same H2 (upd H2 pn (.lst [.bl true, .str "form"])) := Same.upd hpn
  have e3 : upd H2 pn (.lst [.bl true, .str "form"]) pn = some (.lst [.bl true, .str "form"]) := upd_same
  revert s3 e3
  generalize upd H2 pn (.lst [.bl true, .str "form"]) = H3
  intro s3 e3
  walk_at "r"
  refine ⟨z, n, rfl, pp.pt, fun H4 s4 => ?_⟩
  walk_at "r"
  refine ⟨by omega, by omega, fun D hD => ?_⟩
  have qg4 := (s3.trans s4).tup qg
  have qe4 := (s3.trans s4).tup qe
  refine comp_range (n := ((n : Nat) : Int).toNat) (Pv := fun i ys σ' H' => ∃ kv, σ' = [kv, some (.ref pg)] ∧ ys = List.replicate i (.ref pg) ∧ Same H4 H') ⟨none, rfl, rfl, Same.upd hD⟩ ?_ ?_
  ·rintro i ys σ' H' hi hys ⟨kv, rfl, rfl, sm⟩
   walk_at "r"
   refine ⟨_, hys, by rw [List.length_replicate]; omega, _, upd_same, ?_⟩
   exact ⟨_, rfl, by rw [List.replicate_succ'], sm.over hD⟩
  ·rintro ys σ' H5 hys ⟨kv, rfl, rfl, s5⟩
   rw [show ((n : Nat) : Int).toNat = n by simp] at hys
   walk_at "r"
   refine s_tupL (SqL.of hys) fun p6 h6 => ?_
   have s6 : Same H5 (upd H5 p6 (.tup (List.replicate n (.ref pg)))) := Same.upd h6
   have e6 : upd H5 p6 (.tup (List.replicate n (.ref pg))) p6 = some (.tup (List.replicate n (.ref pg))) := upd_same
   revert s6 e6
   generalize upd H5 p6 (.tup (List.replicate n (.ref pg))) = H6
   intro s6 e6
   walk_at "r"
   refine ⟨by show 3 ≤ sizeLine; decide, fun p7 h7 => ?_⟩
   have s7 : Same H6 (upd H6 p7 (.tup [.str z, nv, .ref p6])) := Same.upd h7
   have e7 : upd H6 p7 (.tup [.str z, nv, .ref p6]) p7 = some (.tup [.str z, nv, .ref p6]) := upd_same
   revert s7 e7
   generalize upd H6 p7 (.tup [.str z, nv, .ref p6]) = H7
   intro s7 e7
   have m27 : Same H2 H7 := s3.trans (s4.trans (s5.trans (s6.trans s7)))
   have m7 := s02.trans m27
   have pp7 := pp.same m7
   have tg7 : TrAt K H7 (.ref pg) gapT := TrAt.gap (m27.tup qg) (m27.tup qe)
   have td7 : FF K H7 (.ref p7) (bareT z d n) := by
    obtain ⟨b1, b2, b3⟩ := bareT_ok pp
    refine ⟨.mk (SqT.of e7) pp7.nn (SqT.of (s7 _ _ e6)) (by simp) fun j v y f1 f2 => ?_, b1, by omega, by omega⟩
    rw [List.eq_of_mem_replicate (List.mem_of_getElem? f1), List.eq_of_mem_replicate (List.mem_of_getElem? f2)]
    exact tg7
   have e37 : H7 pn = some (.lst [.bl true, .str "form"]) := (s4.trans (s5.trans (s6.trans s7))) _ _ e3
   have ht7 := ht.same m7
   have hs7 : Has K H7 (.str z) := ⟨_, .str _ pp.len⟩
   have wd7 : (bareT z d n).wd = z := rfl
   walk_at "r"
   by_cases hz : z = "gap"
   ·subst hz
    rw [decide_eq_true (Eq.refl _)]
    walk_at "r"
    refine ⟨_, nv, false, nv, nt, d, rfl, rfl, hs7, pp7.at_, (fun _ _ _ => ⟨pp7.nn, pp.dn⟩), (fun z' n' ez _ _ hne => absurd (V.str.inj ez).symm hne), fun _ v1 H8 s8 t1 => ?_⟩
    have pp8 := pp7.same s8
    walk_at "r"
    refine ⟨_, nv, true, .non, .fl .non, .flat .non, rfl, rfl, hs7.same s8, ⟨rfl, _, .non, rfl⟩, (fun _ _ _ => ⟨.inl ⟨rfl, rfl⟩, .fl (v := .non) trivial⟩), (fun z' n' ez _ _ hne => absurd (V.str.inj ez).symm hne), fun _ v2 H9 s9 t2 => ?_⟩
    have m9 := s8.trans s9
    walk_at "r"
    refine ⟨_, wv, false, wv, wt, d, rfl, rfl, hs7.same m9, hw.same (m7.trans m9), (fun z' ez hb => by cases ez; rw [wb] at hb; cases hb), (fun z' n' ez _ _ hne => absurd (V.str.inj ez).symm hne), fun _ v3 H10 s10 t3 => ?_⟩
    have t1 := (t1.same s9).same s10
    have t2 := t2.same s10
    have m10 := m9.trans s10
    obtain ⟨p1, rfl, f1⟩ := t1
    obtain ⟨p2, rfl, f2⟩ := t2
    obtain ⟨p3, rfl, f3⟩ := t3
    walk_at "r"
    refine ⟨by show 3 ≤ sizeLine; decide, fun p11 h11 => ?_⟩
    have s11 : Same H10 (upd H10 p11 (.lst [.ref p1, .ref p2, .ref p3])) := Same.upd h11
    have e11 : upd H10 p11 (.lst [.ref p1, .ref p2, .ref p3]) p11 = some (.lst [.ref p1, .ref p2, .ref p3]) := upd_same
    revert s11 e11
    generalize upd H10 p11 (.lst [.ref p1, .ref p2, .ref p3]) = H11
    intro s11 e11
    walk_at "r"
    refine ⟨by show 3 ≤ sizeLine; decide, fun p12 h12 => ?_⟩
    have s12 : Same H11 (upd H11 p12 (.lst [.ref pn, .ref pn, .ref pn])) := Same.upd h12
    have m12 := s11.trans s12
    have en := (m10.trans m12) _ _ e37
    refine s_eqD (n := 2) (by decide) (lst3_isD (SqL.of (s12 _ _ e11)) (told_isD (m12 _ _ f1)) (told_isD (m12 _ _ f2)) (told_isD (m12 _ _ f3))) (lst3_isD (SqL.of upd_same) (told_isD en) (told_isD en) (told_isD en)) ?_
    exact q _ (m7.trans (m10.trans m12))
   ·rw [decide_eq_false (fun h => hz (V.str.inj h))]
    walk_at "r"
    have wne : (bareT z d n).wd ≠ ("gap" : Str) := hz
    have fg7 : FF K H7 (.ref pg) gapT := FF.gap tg7
    have good : ∀ {H'} (Y : V → Hp → Prop), Same H7 H' → (∀ x r H'', Same H' H'' → DdAt K c H'' x (.put (.ref r) (bareT z d n)) → Y x H'') → sp_put K c [.str z, nv, .bl false] H' Y E0 := fun Y e h =>
     ⟨_, nv, false, nv, nt, d, rfl, rfl, hs7.same e, (pp7.same e).at_, (fun _ _ _ => ⟨(pp7.same e).nn, pp.dn⟩), (fun z' n' ez hp hb hne x r H'' s'' dd => by cases ez; rw [pp.pt] at hp; cases hp; exact h x r H'' s'' dd), (fun hw => by
      rcases hw with h | ⟨z', ez, hb⟩ | h
      ·have : wordV (.str z) = true := by show (partsOf z).isSome = true; rw [pp.pt]; rfl
       rw [this] at h
       cases h
      ·cases ez
       rw [pp.nb] at hb
       cases hb
      ·exact absurd (V.str.inj h) hz)⟩
    refine good _ (Same.refl _) fun x r H8 s8 dd => ?_
    have fg8 := fg7.same s8
    have fd8 := td7.same s8
    walk_at "r"
    refine s_isI (b := true) (L.ty dd) (by rw [eP]; exact kit_self) ?_
    walk_at "r"
    have d1 : doneT gapT (.put (.ref r) (bareT z d n)) = some (bareT z d n) := by show (if gapT.wd = ("gap" : Str) then some (bareT z d n) else none) = _; exact if_pos rfl
    have d2 : doneT (bareT z d n) .cut = some gapT := if_neg wne
    have d3 : doneT (bareT z d n) (.put (.ref r) (bareT z d n)) = none := if_neg wne
    refine ⟨x, .put (.ref r) (bareT z d n), .ref pg, gapT, .ref p7, bareT z d n, rfl, dd, rfl, fg8, fd8, d1, d2, fun H9 s9 => ?_⟩
    walk_at "r"
    refine ⟨x, .put (.ref r) (bareT z d n), .ref p7, bareT z d n, rfl, dd.same s9, rfl, fd8.same s9, d3, fun H10 s10 => ?_⟩
    have m10 := s8.trans (s9.trans s10)
    have n10 := s9.trans s10
    iterate 4 walk_at "r1"
    have nin : NtAt K H nv nt := pp.at_
    have nv_non : nv = .non → nt = .fl .non ∧ d = .flat .non := fun e => by
     have hn := pp.nn
     have hd := pp.dn
     rw [e] at hn
     rcases hn with ⟨_, e2⟩ | ⟨a, vs, h1, _⟩
     ·rw [e2] at hd ⊢
      cases hd
      exact ⟨rfl, rfl⟩
     ·cases h1
    refine viaS (t := tIfS _ _ _) (R := fun σ' H' => σ' = [some (.str z), some nv, some wv, some bv, some tv, some (.ref pg), some (.ref pn), some (.ref p7), none, some x] ∧ Same H10 H') ?_ (fun Y hY => ?_)
    rotate_left
    ·walk_at "r"
     have f10 := ht7.same m10
     by_cases tg : t.wd = "gap"
     ·have et := gap_only f10.2.1 tg
      subst et
      obtain ⟨a1, p1, n1, vs1, rfl, _⟩ := tr_parts f10.1
      refine s_nefD (n := 10) (by decide) (tr_isD f10.1 (by rw [gapT_dep]; omega)) (tr_isD (fg8.same n10).1 (by rw [gapT_dep]; omega)) ?_
      walk_at "r"
      exact hY _ _ ⟨rfl, Same.refl _⟩
     ·obtain ⟨a1, p1, n1, vs1, rfl, q1, q2, q3⟩ := tr_parts f10.1
      refine s_nefG q1 q2 q3 (m10.tup (m27.tup qg)) (m10.tup (m27.tup qe)) tg ?_
      walk_at "r"
      refine ⟨x, .put (.ref r) (bareT z d n), _, t, rfl, dd.same n10, rfl, f10, if_neg tg, fun H11 s11 => ?_⟩
      walk_at "r"
      exact hY _ _ ⟨rfl, s11⟩
    rintro _ H11 ⟨rfl, s11⟩
    with_reducible refine s_seq ?_
    refine viaS (t := tIfS _ _ _) (R := fun σ' H' => σ' = [some (.str z), some nv, some wv, some bv, some tv, some (.ref pg), some (.ref pn), some (.ref p7), none, some x] ∧ Same H11 H') ?_ (fun Y hY => ?_)
    rotate_left
    ·walk_at "r"
     by_cases hn : nv = .non
     ·rw [decide_eq_true hn]
      obtain ⟨en, edd⟩ := nv_non hn
      have nbt : noteB z (.fl .non) = true := by rw [← en]; exact pp.nb
      have m11 := s8.trans (n10.trans s11)
      walk_at "r"
      refine ⟨_, nv, true, .non, .fl .non, .flat .non, rfl, rfl, hs7.same m11, ⟨rfl, _, .non, rfl⟩, (fun _ _ _ => ⟨.inl ⟨rfl, rfl⟩, .fl (v := .non) trivial⟩), (fun z' n' ez hp hb hne x2 r2 H12 s12 dd2 => ?_), (fun hw => ?_)⟩
      ·cases ez
       rw [pp.pt] at hp
       cases hp
       rw [← edd] at dd2
       have m12 := n10.trans (s11.trans s12)
       walk_at "r"
       refine ⟨x2, .put (.ref r2) (bareT z d n), .ref pg, gapT, .ref p7, bareT z d n, rfl, dd2, rfl, fg8.same m12, fd8.same m12, (show (if gapT.wd = ("gap" : Str) then some (bareT z d n) else none) = _ from if_pos rfl), d2, fun H13 s13 => ?_⟩
       walk_at "r"
       exact hY _ _ ⟨rfl, s12.trans s13⟩
      ·exfalso
       rcases hw with h | ⟨z', ez, hb⟩ | h
       ·have : wordV (.str z) = true := by show (partsOf z).isSome = true; rw [pp.pt]; rfl
        rw [this] at h
        cases h
       ·cases ez
        rw [nbt] at hb
        cases hb
       ·exact absurd (V.str.inj h) hz
     ·rw [decide_eq_false hn]
      walk_at "r"
      exact hY _ _ ⟨rfl, Same.refl _⟩
    rintro _ H12 ⟨rfl, s12⟩
    with_reducible refine s_seq ?_
    refine viaS (t := tIfS _ _ _) (R := fun σ' H' => σ' = [some (.str z), some nv, some wv, some bv, some tv, some (.ref pg), some (.ref pn), some (.ref p7), none, some x] ∧ Same H12 H') ?_ (fun Y hY => ?_)
    rotate_left
    ·walk_at "r"
     have m12 := s8.trans (n10.trans (s11.trans s12))
     by_cases hn : nv = .non
     ·rw [decide_eq_true hn]
      walk_at "r"
      exact hY _ _ ⟨rfl, Same.refl _⟩
     ·rw [decide_eq_false hn]
      have nbf : noteB z (.fl .non) = false := by
       rcases none_fits pp.nb with e | e
       ·rw [e] at nin
        exact absurd (none_only nin) hn
       ·exact e
      walk_at "r"
      refine ⟨_, nv, true, .non, .fl .non, .flat .non, rfl, rfl, hs7.same m12, ⟨rfl, _, .non, rfl⟩, (fun _ _ _ => ⟨.inl ⟨rfl, rfl⟩, .fl (v := .non) trivial⟩), (fun z' n' ez hp hb hne => by cases ez; rw [nbf] at hb; cases hb), fun _ v1 H13 s13 t1 => ?_⟩
      obtain ⟨p1, rfl, f1⟩ := t1
      walk_at "r"
      refine s_nefD (n := 1) (by decide) (told_isD f1) (told_isD ((m12.trans s13) _ _ e37)) ?_
      walk_at "r"
      exact hY _ _ ⟨rfl, s13⟩
    rintro _ H13 ⟨rfl, s13⟩
    have m13 := n10.trans (s11.trans (s12.trans s13))
    walk_at "r"
    refine ⟨x, .put (.ref r) (bareT z d n), .ref pg, gapT, .ref p7, bareT z d n, rfl, dd.same m13, rfl, fg8.same m13, fd8.same m13, d1, d2, fun H14 s14 => ?_⟩
    walk_at "r"
    have m14 := s8.trans (m13.trans s14)
    refine ⟨_, wv, false, wv, wt, d, rfl, rfl, hs7.same m14, hw.same (m7.trans m14), (fun z' ez hb => by cases ez; rw [wb] at hb; cases hb), (fun z' n' ez _ hb hne => by cases ez; rw [wb] at hb; cases hb), fun _ v1 H15 s15 t1 => ?_⟩
    obtain ⟨p1, rfl, f1⟩ := t1
    have m15 := m14.trans s15
    walk_at "r"
    refine s_eqD (n := 1) (by decide) (told_isD f1) (told_isD (m15 _ _ e37)) ?_
    walk_at "r"
    refine ⟨bv, nv, false, nv, nt, d, rfl, rfl, hbv.same (m7.trans m15), (pp7.same m15).at_, (fun _ _ _ => ⟨(pp7.same m15).nn, pp.dn⟩), (fun z' n' ez hp _ _ => by
     rw [ez] at hbw
     have : wordV (.str z') = true := by show (partsOf z').isSome = true; rw [hp]; rfl
     rw [this] at hbw
     cases hbw), fun _ v2 H16 s16 t2 => ?_⟩
    obtain ⟨p2, rfl, f2⟩ := t2
    walk_at "r"
    refine s_eqD (n := 1) (by decide) (told_isD f2) (told_isD ((m15.trans s16) _ _ e37)) ?_
    walk_at "r"
    exact q _ (m7.trans (m15.trans s16))
theorem in_dec {t : Str} {ws : List Str} : inV (.str t) (ws.map V.str) = decide (t ∈ ws) := by
 rw [in_strs]
 by_cases hm : t ∈ ws
 ·rw [decide_eq_true hm, mem_isIn hm]
 ·rw [decide_eq_false hm, not_isIn hm]
noncomputable def sortS (s : Str) : Str := if s ∈ (["fn", "let"] : List Str) then "name" else if s ∈ (["odd", "num", "truth", "name", "rec"] : List Str) then s else ""
noncomputable def sortN (nt : Nt) : Str := if oddN nt = true then "odd" else if numN nt = true then "num" else if truthN nt = true then "truth" else if nameN nt = true then "name" else if twoN nt = true then "rec" else ""
theorem odd_name {s : Str} (h : oddB s = true) : nameB s = false := by
 unfold oddB at h
 simp only [Bool.and_eq_true, Bool.not_eq_true'] at h
 exact h.1.1.2
theorem sort_note {s : Str} {nt : Nt} (h : noteB s nt = true) : sortS s = sortN nt := by
 unfold noteB at h
 split at h
 ·rename_i e
  subst e
  unfold sortN
  rw [if_pos h]
  decide +kernel
 split at h
 ·rename_i e
  subst e
  have h1 : oddN nt = false := by
   unfold numN at h
   split at h
   ·rfl
   ·cases h
  unfold sortN
  rw [h1, if_neg Bool.false_ne_true, if_pos h]
  decide +kernel
 split at h
 ·rename_i e
  subst e
  have h1 : oddN nt = false ∧ numN nt = false := by
   unfold truthN at h
   split at h
   ·exact ⟨rfl, rfl⟩
   ·cases h
  unfold sortN
  rw [h1.1, h1.2, if_neg Bool.false_ne_true, if_neg Bool.false_ne_true, if_pos h]
  decide +kernel
 split at h
 ·rename_i e
  have h1 : oddN nt = false ∧ numN nt = false ∧ truthN nt = false := by
   unfold nameN at h
   split at h
   ·rename_i v
    cases v with
    | str z =>
     refine ⟨?_, rfl, rfl⟩
     show oddB z = false
     cases hz : oddB z with
     | false => rfl
     | true => have := odd_name hz; rw [show nameV (.str z) = nameB z from rfl, this] at h; cases h
    | _ => cases h
   ·cases h
  have e2 : sortS s = "name" := by
   simp only [List.mem_cons, List.not_mem_nil, or_false] at e
   rcases e with rfl | rfl | rfl <;> decide +kernel
  unfold sortN
  rw [h1.1, h1.2.1, h1.2.2, if_neg Bool.false_ne_true, if_neg Bool.false_ne_true, if_neg Bool.false_ne_true, if_pos h]
  exact e2
 split at h
 ·rename_i e
  subst e
  have h1 : oddN nt = false ∧ numN nt = false ∧ truthN nt = false ∧ nameN nt = false := by
   unfold twoN at h
   split at h
   ·exact ⟨rfl, rfl, rfl, rfl⟩
   ·cases h
  unfold sortN
  rw [h1.1, h1.2.1, h1.2.2.1, h1.2.2.2, if_neg Bool.false_ne_true, if_neg Bool.false_ne_true, if_neg Bool.false_ne_true, if_neg Bool.false_ne_true, if_pos h]
  decide +kernel
 ·rename_i g1 g2 g3 g4 g5
  have e := non_only h
  subst e
  unfold sortS
  simp only [List.mem_cons, List.not_mem_nil, or_false, not_or] at g4
  rw [if_neg (by simp [g4]), if_neg (by simp [g1, g2, g3, g4, g5])]
  decide +kernel
theorem sort_apart {s z : Str} {nt : Nt} (h : noteB z nt = true) (hs : sortS s ≠ sortS z) : noteB s nt = false := by
 cases e : noteB s nt with
 | false => rfl
 | true => exact absurd ((sort_note e).trans (sort_note h).symm) hs
theorem tup_no {s : Str} {xs : List V} (h : xs.length ≠ 2) : noteB s (.tp xs) = false := by
 have e : twoN (.tp xs) = false := by
  match xs, h with
  | [], _ => rfl
  | [_], _ => rfl
  | [_, _], h => exact absurd rfl h
  | _ :: _ :: _ :: _, _ => rfl
 unfold noteB
 rw [e]
 repeat' split
 all_goals rfl
noncomputable def sp_sort : Sp := fun vs H Q _ => ∃ s : Str, vs = [.str s] ∧ ∀ H', Same H H' → Q (.str (sortS s)) H'
theorem sc_law_sort : FnScope ["_law_word"] ["_law_word"] (defScope s_law_sort) := ⟨rfl, rfl, rfl, by decide +kernel, rfl, by decide +kernel, by decide +kernel⟩
theorem ok_sort {f : Addr} {fd : FuncData} (F : Fun K "_law_sort" "_law_sort" s_law_sort f fd) (T : Txt K mg) : FnOk P w K mg base CX0 1 f fd ["_law_word"] sp_sort := by
 refine F.okq sc_law_sort (fun vs H Q E h => ?_) (fun cdv A outer s H vs Q E hr h => ?_)
 ·obtain ⟨z, rfl, _⟩ := h
  rfl
 ·obtain ⟨z, rfl, q⟩ := h
  refine ⟨_, qss_cons (qs_if (qt_cmpR (k_in K) (qv 0) (qe_lst (qa_cons (qe_str) (qa_cons (qe_str) qa_nil))) (by rfl)) (qss_one (qs_ret (qe_str))) (qss_nil))
   (qss_cons (qs_if (qt_cmpR (k_in K) (qv 0) (qe_lst (qa_consts (xs := [.str "odd", .str "num", .str "truth", .str "name", .str "rec"]) rfl)) (by rfl)) (qss_one (qs_ret (qv 0))) (qss_nil))
   (qss_one (qs_ret (qe_str)))), ?_⟩
  walk_at "r"
  refine ⟨by show 2 ≤ sizeLine; decide, fun p1 h1 => ?_⟩
  refine s_in_seq (.inl (SqL.of upd_same)) rfl rfl ?_
  have s1 := Same.upd (o := .lst [.str "fn", .str "let"]) h1
  rw [if_neg Bool.false_ne_true, show inV (.str z) [.str "fn", .str "let"] = decide (z ∈ (["fn", "let"] : List Str)) from in_dec (ws := ["fn", "let"])]
  walk_at "r"
  have e : sortS z = if z ∈ (["fn", "let"] : List Str) then ("name" : Str) else if z ∈ (["odd", "num", "truth", "name", "rec"] : List Str) then z else "" := rfl
  refine ite2 (fun h => ?_) (fun h => ?_)
  ·rw [if_pos (of_decide_eq_true h)] at e
   walk_at "r"
   rw [← e]
   exact q _ s1
  have h : ¬ z ∈ (["fn", "let"] : List Str) := fun x => h (decide_eq_true x)
  rw [if_neg h] at e
  walk_at "r"
  refine ⟨by show 5 ≤ sizeLine; decide, fun p2 h2 => ?_⟩
  refine s_in_seq (.inl (SqL.of upd_same)) rfl rfl ?_
  have s2 := s1.put (o := .lst [.str "odd", .str "num", .str "truth", .str "name", .str "rec"]) h2
  rw [if_neg Bool.false_ne_true, show inV (.str z) [.str "odd", .str "num", .str "truth", .str "name", .str "rec"] = decide (z ∈ (["odd", "num", "truth", "name", "rec"] : List Str)) from in_dec (ws := ["odd", "num", "truth", "name", "rec"])]
  walk_at "r"
  refine ite2 (fun h => ?_) (fun h => ?_)
  ·rw [if_pos (of_decide_eq_true h)] at e
   walk_at "r"
   have q2 := q _ s2
   rw [e] at q2
   exact q2
  have h : ¬ z ∈ (["odd", "num", "truth", "name", "rec"] : List Str) := fun x => h (decide_eq_true x)
  rw [if_neg h] at e
  walk_at "r"
  have q2 := q _ s2
  rw [e] at q2
  exact q2
theorem FF.kid {K : W.Frag} {H : Hp} {w : Str} {d : Dt} {ts : List Tr} {v u : V} {j : Nat} {t : Tr} (h : FF K H u (.mk w d ts)) (hj : ts[j]? = some t) (hv : TrAt K H v t) : FF K H v t := by
 obtain ⟨h1, h2, h3, h4⟩ := h
 cases h2 with
 | mk hp hd hn hs =>
  refine ⟨hv, hs t (List.mem_of_getElem? hj), ?_, ?_⟩
  ·have := sizes_get hj
   rw [Tr.size] at h3
   omega
  ·have := deps_get hj
   rw [dep] at h4
   omega
theorem keepD {K : W.Frag} {c : Cs} {H : Hp} {a dx : Addr} {i : Int} (h : H a = some (.ins c.k dx [("at", .int i)])) : DdAt K c H (.ref a) (.keep i) := ⟨a, dx, rfl, h, True.intro⟩
noncomputable def sp_keeps (K : W.Frag) : Sp := fun vs H Q _ => ∃ (tv : V) (t : Tr) (l : Addr) (ns : List Int), vs = [tv, .ref l] ∧ FF K H tv t ∧ H l = some (.lst (ns.map V.int)) ∧ (∀ n ∈ ns, n < 0 ∨ (t.ps.length : Int) ≤ n) ∧ ns.length ≤ 100 ∧ ∀ H', Same H H' → Q (.bl true) H'
theorem sc_law_keeps : FnScope ["_law_tree_here", "_law_numbers", "_law_k", "_law_part", "_law_seat"] ["_law_tree_here", "_law_numbers"] (defScope s_law_keeps) := ⟨rfl, rfl, rfl, by decide +kernel, rfl, by decide +kernel, by decide +kernel⟩
theorem ok_keeps {c : Cs} {f : Addr} {fd : FuncData} (F : Fun K "_law_keeps" "_law_keeps" s_law_keeps f fd) (T : Txt K mg) (L : Kl K mg c) (MK_Keep_1 : MakeK CX0 P w K mg base 1 "Keep" c.k ["self", "at"] [] (fun vs _ => vs) (sp_initK K c)) (MK_Keep_0 : MakeK CX0 P w K mg base 1 "Keep" c.k ["self", "at"] [] (fun vs _ => vs ++ [.int 0]) (sp_initK K c)) (C__law_both : Callee P w K mg base 11 "_law_both" ["_law_deed", "_law_form", "_law_due"] (sp_both K c)) (C__law_no_deed : Callee P w K mg base 11 "_law_no_deed" ["_law_deed", "_law_form"] (sp_nodeed K c)) : FnOk P w K mg base CX0 12 f fd ["_law_tree_here", "_law_numbers"] (sp_keeps K) := by
 refine F.okq sc_law_keeps (fun vs H Q E h => ?_) (fun cdv A outer s H vs Q E hr h => ?_)
 ·obtain ⟨tv, t, l, ns, rfl, _⟩ := h
  rfl
 ·obtain ⟨tv, t, l, ns, rfl, ht, hl, hns, hnl, q⟩ := h
  refine ⟨_, qss_cons (qs_for PassesOwn.never rfl (qi_enumTK K rfl T.enumerate (qa_cons (qe_ix (k_ix K) (qv 0) (qe_int) (fun _ _ => rfl)) qa_nil)) (qg_tupK K (n := 2) rfl (qgs_cons (qg_name (i := 2) sc_law_keeps.nd rfl (Or.inl rfl)) (qgs_cons (qg_name (i := 3) sc_law_keeps.nd rfl (Or.inl rfl)) (qgs_nil)))) (qss_cons (qs_if (qt_not (qt_val (qe_fn C__law_both (hr.mono (by decide)) (qa_cons (qe_newK MK_Keep_1 (hr.mono (by decide)) pass0 (qa_cons (qv 2) qa_nil) (qk_nil)) (qa_cons (qv 0) (qa_cons (qv 3) qa_nil)))))) (qss_one (qs_ret (qe_bl))) (qss_nil))
   (qss_one (qs_if (QW.qt (qw_and (qt_cmpR (k_eq K hr.u200) (qv 2) (qe_int) (nomark _)) (qw_and1 (qt_not (qt_val (qe_fn C__law_both (hr.mono (by decide)) (qa_cons (qe_newK0 MK_Keep_0 (hr.mono (by decide)) pass0 (qk_nil)) (qa_cons (qv 0) (qa_cons (qv 3) qa_nil))))))))) (qss_one (qs_ret (qe_bl))) (qss_nil)))))
   (qss_cons (qs_for PassesOwn.never rfl (qi_anyK K (qv 1)) (qg_name (i := 4) sc_law_keeps.nd rfl (Or.inl rfl)) (qss_one (qs_if (qt_not (qt_val (qe_fn C__law_no_deed (hr.mono (by decide)) (qa_cons (qe_newK MK_Keep_1 (hr.mono (by decide)) pass0 (qa_cons (qv 4) qa_nil) (qk_nil)) (qa_cons (qv 0) qa_nil))))) (qss_one (qs_ret (qe_bl))) (qss_nil))))
   (qss_one (qs_ret (qe_bl)))), ?_⟩
  have bg := big
  obtain ⟨htr, hok, hsz, hdp⟩ := id ht
  have ht0 := ht
  cases htr with
  | @mk b pp wd nv d vs ts qb hn qp hl2 hch =>
  walk_at "r"
  refine s_ix_tup qb rfl ?_
  walk_at "r"
  refine ⟨pp, vs, rfl, qp, ?_⟩
  refine for_enumT (K := K) (a := pp) (xs := vs) (fun i σ' H' => ∃ v2 v3, σ' = [some (.ref b), some (.ref l), v2, v3, none] ∧ Same H H') ⟨none, none, rfl, Same.refl _⟩ ?_ ?_ ?_
  ·rintro i σ' H' _ ⟨_, _, _, s'⟩
   exact s'.tup qp
  ·rintro i y tt σ' H1 hy htt ⟨v2, v3, rfl, s1⟩
   obtain ⟨u, hu⟩ : ∃ u, ts[i]? = some u := ⟨_, List.getElem?_eq_getElem (by rw [← hl2]; exact (List.getElem?_eq_some_iff.mp hy).1)⟩
   have fu : FF K H y u := ht0.kid hu (hch i y u hy hu)
   have hil : i < ts.length := (List.getElem?_eq_some_iff.mp hu).1
   have dn : doneT (.mk wd d ts) (.keep (i : Nat)) = some u := by
    show (if 0 ≤ ((i : Nat) : Int) ∧ ((i : Nat) : Int) < ((ts.length : Nat) : Int) then ts[((i : Nat) : Int).toNat]? else none) = _
    rw [if_pos ⟨by omega, by omega⟩, Int.toNat_natCast]
    exact hu
   have s2 : Same H (upd H1 tt (.tup [.int (i : Nat), y])) := s1.put htt
   have e2 : upd H1 tt (.tup [.int (i : Nat), y]) tt = some (.tup [.int (i : Nat), y]) := upd_same
   revert s2 e2
   generalize upd H1 tt (.tup [.int (i : Nat), y]) = H2
   intro s2 e2
   refine s_gtup (SqT.of e2) rfl ?_
   walk_at "r"
   refine ⟨_, rfl, fun a1 d1 h1 h2 h3 => ?_⟩
   refine ⟨a1, d1, _, rfl, upd_same, fun H3 s3 e3 => ⟨rfl, ?_⟩⟩
   have m3 := s2.trans (s3.made h1 h2)
   walk_at "r"
   refine ⟨.ref a1, .keep (i : Nat), .ref b, .mk wd d ts, y, u, rfl, keepD e3, rfl, ht0.same m3, fu.same m3, dn, rfl, fun H4 s4 => ?_⟩
   have m4 := m3.trans s4
   walk_at "r"
   refine ite2 (fun h => ?_) (fun h => ?_)
   ·have hi0 : i = 0 := by
     have h := of_decide_eq_true h
     have h := V.int.inj h
     omega
    subst hi0
    walk_at "r"
    refine fun a1 d1 h1 h2 h3 => ?_
    refine ⟨a1, d1, _, rfl, upd_same, fun H5 s5 e5 => ⟨rfl, ?_⟩⟩
    have m5 := m4.trans (s5.made h1 h2)
    walk_at "r"
    refine ⟨.ref a1, .keep (0 : Nat), .ref b, .mk wd d ts, y, u, rfl, keepD e5, rfl, ht0.same m5, fu.same m5, dn, rfl, fun H6 s6 => ?_⟩
    walk_at "r"
    exact ⟨_, _, rfl, m5.trans s6⟩
   ·walk_at "r"
    exact ⟨_, _, rfl, m4⟩
  ·rintro σ' H1 ⟨v2, v3, rfl, s1⟩
   walk_at "r"
   refine .inl ⟨l, rfl, ⟨_, SqL.of (s1 _ _ hl)⟩, ?_⟩
   refine for_list (K := K) (a := l) (xs := ns.map V.int) (fun i σ' H' => ∃ v4, σ' = [some (.ref b), some (.ref l), v2, v3, v4] ∧ Same H H') ⟨none, rfl, s1⟩ ?_ ?_ ?_
   ·rintro i σ' H' _ ⟨_, _, s'⟩
    exact SqL.of (s' _ _ hl)
   ·rintro i y σ' H2 hy ⟨v4, rfl, s2⟩
    rw [List.getElem?_map] at hy
    obtain ⟨z, hz, rfl⟩ := Option.map_eq_some_iff.mp hy
    have dn : doneT (.mk wd d ts) (.keep z) = none := by
     show (if 0 ≤ z ∧ z < ((ts.length : Nat) : Int) then ts[z.toNat]? else none) = none
     rw [if_neg]
     rintro ⟨z1, z2⟩
     rcases hns z (List.mem_of_getElem? hz) with h | h
     ·omega
     ·have h : ((ts.length : Nat) : Int) ≤ z := h
      omega
    walk_at "r"
    refine ⟨_, rfl, fun a1 d1 h1 h2 h3 => ?_⟩
    refine ⟨a1, d1, _, rfl, upd_same, fun H3 s3 e3 => ⟨rfl, ?_⟩⟩
    have m3 := s2.trans (s3.made h1 h2)
    walk_at "r"
    refine ⟨.ref a1, .keep z, .ref b, .mk wd d ts, rfl, keepD e3, rfl, ht0.same m3, dn, fun H4 s4 => ?_⟩
    walk_at "r"
    exact ⟨_, rfl, m3.trans s4⟩
   ·rintro σ' H2 ⟨v4, rfl, s2⟩
    walk_at "r"
    exact q _ s2
noncomputable def gKat {α : Type} : List α → List α → List α
 | [a], [b] => [a, b]
 | _, _ => []
noncomputable def gWat : List V → List V → List V
 | [a, b], [c] => [a, b, .non, c]
 | _, _ => []
noncomputable def gWatU : List Value → List Value → List Value
 | [a, b], [c] => [a, b, .none, c]
 | _, _ => []
noncomputable def wrapT (s : Str) (d : Dt) (n i : Nat) (t : Tr) : Tr := .mk s d ((List.replicate n gapT).set i t)
theorem wrap_done (v : V) (s : Str) (d : Dt) (n i : Nat) (t : Tr) : doneT t (.wrap v (bareT s d n) i) = some (wrapT s d n i t) := rfl
theorem keep_done {s : Str} {d : Dt} {n i : Nat} {t : Tr} (h : i < n) : doneT (wrapT s d n i t) (.keep (i : Nat)) = some t := by
 show (if 0 ≤ ((i : Nat) : Int) ∧ ((i : Nat) : Int) < ((((List.replicate n gapT).set i t).length : Nat) : Int) then ((List.replicate n gapT).set i t)[((i : Nat) : Int).toNat]? else none) = _
 rw [if_pos ⟨by omega, by rw [List.length_set, List.length_replicate]; omega⟩, Int.toNat_natCast, List.getElem?_set_self (by rw [List.length_replicate]; exact h)]
theorem sizes_set {ts : List Tr} {j : Nat} {t g : Tr} (h : ts[j]? = some g) : sizes (ts.set j t) + g.size = sizes ts + t.size := by
 induction ts generalizing j with
 | nil => simp at h
 | cons x r ih =>
  cases j with
  | zero =>
   cases h
   rw [List.set_cons_zero, sizes, sizes]
   omega
  | succ j =>
   rw [List.set_cons_succ, sizes, sizes]
   have := ih (j := j) h
   omega
theorem wrapT_ff {K : W.Frag} {H : Hp} {a p : Addr} {s : Str} {nv : V} {n i : Nat} {d : Dt} {nt : Nt} {gs : List V} {tv : V} {t : Tr} (pp : PutPre K H s nv n d nt) (hi : i < n) (qa : SqT K H a [.str s, nv, .ref p]) (qp : SqT K H p (gs.set i tv)) (hl : gs.length = n) (hg : ∀ g ∈ gs, TrAt K H g gapT) (ht : TrAt K H tv t) (ok : TrOk t) (hs : t.size ≤ 450) (hd : dep t ≤ 75) : FF K H (.ref a) (wrapT s d n i t) := by
 have n3 := parts_le pp.pt
 have hgi : (List.replicate n gapT)[i]? = some gapT := by rw [List.getElem?_replicate, if_pos hi]
 refine ⟨.mk qa pp.nn qp (by rw [List.length_set, List.length_set, List.length_replicate, hl]) fun j v y f1 f2 => ?_, ?_, ?_, ?_⟩
 ·by_cases e : i = j
  ·subst e
   rw [List.getElem?_set_self (by omega)] at f1
   rw [List.getElem?_set_self (by rw [List.length_replicate]; exact hi)] at f2
   cases f1
   cases f2
   exact ht
  ·rw [List.getElem?_set_ne e] at f1 f2
   rw [List.eq_of_mem_replicate (List.mem_of_getElem? f2)]
   exact hg v (List.mem_of_getElem? f1)
 ·refine .mk (by rw [List.length_set, List.length_replicate]; exact pp.pt) pp.dn pp.nb fun u hu => ?_
  rcases List.mem_or_eq_of_mem_set hu with h | h
  ·rw [List.eq_of_mem_replicate h]
   exact TrOk.gap
  ·rw [h]
   exact ok
 ·have := sizes_set (t := t) hgi
  rw [sizes_rep, gapT_size] at this
  show (Tr.mk s d _).size ≤ 500
  rw [Tr.size]
  omega
 ·have h1 := deps_set (List.replicate n gapT) i t
  have h2 := deps_rep n
  show dep (Tr.mk s d _) ≤ 80
  rw [dep]
  omega
theorem wrapT_le (s : Str) (d : Dt) {n i : Nat} (t : Tr) (hi : i < n) (hn : n ≤ 3) : (wrapT s d n i t).size ≤ t.size + 4 ∧ dep (wrapT s d n i t) ≤ dep t + 2 := by
 have hgi : (List.replicate n gapT)[i]? = some gapT := by rw [List.getElem?_replicate, if_pos hi]
 have h0 := sizes_set (t := t) hgi
 rw [sizes_rep, gapT_size] at h0
 have h1 := deps_set (List.replicate n gapT) i t
 have h2 := deps_rep n
 refine ⟨?_, ?_⟩
 ·show (Tr.mk s d _).size ≤ _
  rw [Tr.size]
  omega
 ·show dep (Tr.mk s d _) ≤ _
  rw [dep]
  omega
theorem set_mid {α : Type} (l : List α) (i : Nat) (x y : α) (h : i < l.length) : (l.set i x).take i ++ [y] ++ (l.set i x).drop (i + 1) = l.set i y := by
 rw [List.take_set_of_le (Nat.le_refl _), List.drop_set_of_lt (Nat.lt_succ_self _), List.set_eq_take_append_cons_drop, if_pos h, List.append_assoc]
 rfl
structure PrOk (K : W.Frag) (H : Hp) (y : V) (D1 : Dd) (i : Nat) : Prop where
 ex : ∃ (a : Addr) (u1 u2 : V) (t1 t2 : Tr), y = .ref a ∧ SqT K H a [u1, u2] ∧ FF K H u1 t1 ∧ FF K H u2 t2 ∧ doneT t1 D1 = some t2 ∧ doneT t2 (.keep (i : Nat)) = some t1
theorem PrOk.same {K : W.Frag} {H H' : Hp} {y : V} {D1 : Dd} {i : Nat} (h : PrOk K H y D1 i) (e : Same H H') : PrOk K H' y D1 i := by
 obtain ⟨a, u1, u2, t1, t2, h1, h2, h3, h4, h5⟩ := h.ex
 exact ⟨a, u1, u2, t1, t2, h1, e.tup h2, h3.same e, h4.same e, h5⟩
noncomputable def sp_wraps (K : W.Frag) : Sp := fun vs H Q _ => ∃ (s : Str) (nv wv tv : V) (fr : Int) (n : Nat) (d : Dt) (nt wt : Nt) (t : Tr), vs = [.str s, nv, wv, tv, .int fr] ∧ PutPre K H s nv n d nt ∧ NtAt K H wv wt ∧ noteB s wt = false ∧ FF K H tv t ∧ t.size ≤ 400 ∧ dep t ≤ 70 ∧ ∀ H', Same H H' → Q (.bl true) H'
theorem nd_law_wraps_1 : (["_law_k"] : List Str).Nodup := by decide +kernel
theorem sc_law_wraps : FnScope ["_law_word", "_law_remark", "_law_wrong", "_law_tree_here", "_law_far", "_law_no", "_law_many_here", "_law_seat", "_law_parts", "_law_due", "_law_deed", "_law_keep", "_law_outer", "_law_pair"] ["_law_word", "_law_remark", "_law_wrong", "_law_tree_here", "_law_far"] (defScope s_law_wraps) := ⟨rfl, rfl, rfl, by decide +kernel, rfl, by decide +kernel, by decide +kernel⟩
theorem ok_wraps {c : Cs} {ag N_NoForm : Addr} {f : Addr} {fd : FuncData} (F : Fun K "_law_wraps" "_law_wraps" s_law_wraps f fd) (T : Txt K mg) (GA : GapAt K ag) (L : Kl K mg c) (MK_Keep_0_at : MakeK CX0 P w K mg base 1 "Keep" c.k ["self", "at"] ["at"] gKat (sp_initK K c)) (MK_Wrap_1_at : MakeK CX0 P w K mg base 5 "Wrap" c.w ["self", "word", "note", "at"] ["at"] gWat (fun vs H Q _ => sp_initW K c ag N_NoForm vs H Q E0)) (MK_Wrap_2 : MakeK CX0 P w K mg base 5 "Wrap" c.w ["self", "word", "note", "at"] [] (fun vs _ => vs ++ [.int 0]) (fun vs H Q _ => sp_initW K c ag N_NoForm vs H Q E0)) (C__law_many : Callee P w K mg base 1 "_law_many" ["_law_word"] sp_many) (C__law_wrapped : Callee P w K mg base 7 "_law_wrapped" ["_law_word", "_law_remark", "_law_seat"] (sp_wrapped K c)) (C__law_bare : Callee P w K mg base 7 "_law_bare" ["_law_word"] (sp_lbare K c)) (C__law_both : Callee P w K mg base 11 "_law_both" ["_law_deed", "_law_form", "_law_due"] (sp_both K c)) : FnOk P w K mg base CX0 12 f fd ["_law_word", "_law_remark", "_law_wrong", "_law_tree_here", "_law_far"] (sp_wraps K) := by
 refine F.okq sc_law_wraps (fun vs H Q E h => ?_) (fun cdv A outer s H vs Q E hr h => ?_)
 ·obtain ⟨z, nv, wv, tv, fr, n, d, nt, wt, t, rfl, _⟩ := h
  rfl
 ·obtain ⟨z, nv, wv, tv, fr, n, d, nt, wt, t, rfl, pp, hw, wb, ht, hts, htd, q⟩ := h
  obtain ⟨N_Wrap, eW⟩ : ∃ N, N = c.w := ⟨_, rfl⟩
  have G_Wrap : mg "Wrap" = some (.ref N_Wrap) := by rw [eW]; exact L.ow.at_
  refine ⟨_, qss_cons (qs_set (i := 5) sc_law_wraps.nd rfl (Or.inl rfl) (qe_lst (qa_cons (qe_bl) (qa_cons (qe_str) qa_nil))))
   (qss_cons (qs_set (i := 6) sc_law_wraps.nd rfl (Or.inl rfl) (qe_fn C__law_many (hr.mono (by decide)) (qa_cons (qv 0) qa_nil)))
   (qss_cons (qs_for PassesOwn.never rfl (qi_range1 rfl T.range (qa_cons (qv 6) qa_nil)) (qg_name (i := 7) sc_law_wraps.nd rfl (Or.inl rfl)) (qss_cons (qs_setC (i := 8) (N := ["_law_k"]) (σ0 := capSt 1 []) rfl (cscope_fn rfl (by decide +kernel) (by decide +kernel) (by decide +kernel)) (qi_range1 rfl T.range (qa_cons (qv 6) qa_nil)) (takes_in rfl (by rfl)) (fun _ _ _ _ => qg_name (i := 0) nd_law_wraps_1 rfl (Or.inl rfl)) (fun _ _ _ _ => qts_nil) (fun _ _ _ _ => qe_tup (qa_cons (qe_str) (qa_cons (qe_non) (qa_cons (qe_tup (qa_nil)) qa_nil)))) sc_law_wraps.nd rfl (Or.inl rfl))
   (qss_cons (qs_asg (qv 3) (qg_sub (qv 8) (qv 7) set_list))
   (qss_cons (qs_set (i := 9) sc_law_wraps.nd rfl (Or.inl rfl) (qe_tup (qa_cons (qv 0) (qa_cons (qv 1) (qa_cons (qe_callTy (k_tuple K) (by rfl) T.tuple (by decide +kernel) (qa_cons (qv 8) qa_nil)) qa_nil)))))
   (qss_cons (qs_set (i := 10) sc_law_wraps.nd rfl (Or.inl rfl) (qe_fn C__law_wrapped (hr.mono (by decide)) (qa_cons (qv 0) (qa_cons (qv 1) (qa_cons (qv 7) qa_nil)))))
   (qss_cons (qs_set (i := 11) sc_law_wraps.nd rfl (Or.inl rfl) (qe_newK0 MK_Keep_0_at (hr.mono (by decide)) pass0 (qk_cons (qv 7) qk_nil)))
   (qss_cons (qs_set (i := 12) sc_law_wraps.nd rfl (Or.inl rfl) (qe_tup (qa_cons (qv 0) (qa_cons (qv 1) (qa_cons (qe_callTy (k_tuple K) (by rfl) T.tuple (by decide +kernel) (qa_cons (qe_op (k_add K) (qe_op (k_add K) (qe_slice (k_sl K) (qv 8) (qo_none) (qo_some (qv 7))) (qe_lst (qa_cons (qv 9) qa_nil))) (qe_slice (k_sl K) (qv 8) (qo_some (qe_op (k_add K) (qv 7) (qe_int))) (qo_none))) qa_nil)) qa_nil)))))
   (qss_cons (qs_if (qt_not (qt_val (qe_callB (k_isI (K := K)) (by rfl) T.isinstance (by decide +kernel) (qa_cons (qv 10) (qa_cons (qe_glob (v := .ref N_Wrap) (by rfl) G_Wrap rfl) qa_nil))))) (qss_one (qs_ret (qe_bl))) (qss_nil))
   (qss_cons (qs_for PassesOwn.never rfl (qi_anyK K (qe_lst (qa_cons (qe_tup (qa_cons (qv 3) (qa_cons (qv 9) qa_nil))) (qa_cons (qe_tup (qa_cons (qv 9) (qa_cons (qv 12) qa_nil))) (qa_cons (qe_tup (qa_cons (qv 3) (qa_cons (qv 9) qa_nil))) qa_nil))))) (qg_name (i := 13) sc_law_wraps.nd rfl (Or.inl rfl)) (qss_one (qs_if (QW.qt (qw_or (qt_not (qt_val (qe_fn C__law_both (hr.mono (by decide)) (qa_cons (qv 10) (qa_cons (qe_ix (k_ix K) (qv 13) (qe_int) (fun _ _ => rfl)) (qa_cons (qe_ix (k_ix K) (qv 13) (qe_int) (fun _ _ => rfl)) qa_nil)))))) (qw_or1 (qt_not (qt_val (qe_fn C__law_both (hr.mono (by decide)) (qa_cons (qv 11) (qa_cons (qe_ix (k_ix K) (qv 13) (qe_int) (fun _ _ => rfl)) (qa_cons (qe_ix (k_ix K) (qv 13) (qe_int) (fun _ _ => rfl)) qa_nil))))))))) (qss_one (qs_ret (qe_bl))) (qss_nil))))
   (qss_cons (qs_if (QW.qt (qw_and (qt_cmp (qc_isN (qv 1))) (qw_and1 (qt_not (qt_val (qe_fn C__law_both (hr.mono (by decide)) (qa_cons (qe_newK MK_Wrap_1_at (hr.mono (by decide)) pass0 (qa_cons (qv 0) qa_nil) (qk_cons (qv 7) qk_nil)) (qa_cons (qv 3) (qa_cons (qv 9) qa_nil))))))))) (qss_one (qs_ret (qe_bl))) (qss_nil))
   (qss_cons (qs_if (QW.qt (qw_and (qt_cmpR (k_eq K hr.u200) (qv 7) (qe_int) (nomark _)) (qw_and1 (qt_not (qt_val (qe_fn C__law_both (hr.mono (by decide)) (qa_cons (qe_newK MK_Wrap_2 (hr.mono (by decide)) pass0 (qa_cons (qv 0) (qa_cons (qv 1) qa_nil)) (qk_nil)) (qa_cons (qv 3) (qa_cons (qv 9) qa_nil))))))))) (qss_one (qs_ret (qe_bl))) (qss_nil))
   (qss_cons (qs_if (QW.qt (qw_and (qt_cmpR (k_eq K hr.u200) (qv 7) (qe_int) (nomark _)) (qw_and (qt_cmp (qc_isN (qv 1))) (qw_and1 (qt_not (qt_val (qe_fn C__law_both (hr.mono (by decide)) (qa_cons (qe_fn C__law_bare (hr.mono (by decide)) (qa_cons (qv 0) qa_nil)) (qa_cons (qv 3) (qa_cons (qv 9) qa_nil)))))))))) (qss_one (qs_ret (qe_bl))) (qss_nil))
   (qss_one (qs_if (QW.qt (qw_or (qt_cmpR (k_neG K hr.u200) (qe_fn C__law_wrapped (hr.mono (by decide)) (qa_cons (qv 0) (qa_cons (qv 2) (qa_cons (qv 7) qa_nil)))) (qv 5) (nomark _)) (qw_or1 (QW.qt (qw_and (qt_cmp (qc_notN (qv 1))) (qw_and1 (qt_cmpR (k_neG K hr.u200) (qe_fn C__law_bare (hr.mono (by decide)) (qa_cons (qv 0) qa_nil)) (qv 5) (nomark _)))))))) (qss_one (qs_ret (qe_bl))) (qss_nil)))))))))))))))
   (qss_cons (qs_for PassesOwn.never rfl (qi_anyK K (qe_lst (qa_cons (qv 6) (qa_cons (qe_op (k_add K) (qv 6) (qe_op op_mod (qv 4) (qe_op op_pow (qe_int) (qe_int)))) (qa_cons (qe_un un_neg (qe_int)) (qa_cons (qe_op op_sub (qe_un un_neg (qe_int)) (qe_op op_mod (qv 4) (qe_int))) (qa_cons (qe_op (k_add K) (qv 6) (qe_int)) qa_nil))))))) (qg_name (i := 7) sc_law_wraps.nd rfl (Or.inl rfl)) (qss_one (qs_if (qt_cmpR (k_neG K hr.u200) (qe_fn C__law_wrapped (hr.mono (by decide)) (qa_cons (qv 0) (qa_cons (qv 1) (qa_cons (qv 7) qa_nil)))) (qv 5) (nomark _)) (qss_one (qs_ret (qe_bl))) (qss_nil))))
   (qss_one (qs_ret (qe_bl)))))), ?_⟩
  have bg := big
  have n3 := parts_le pp.pt
  walk_at "r"
  refine ⟨by show 2 ≤ sizeLine; decide, fun pn hpn => ?_⟩
  have s1 : Same H (upd H pn (.lst [.bl true, .str "form"])) := Same.upd hpn
  have e1 : upd H pn (.lst [.bl true, .str "form"]) pn = some (.lst [.bl true, .str "form"]) := upd_same
  revert s1 e1
  generalize upd H pn (.lst [.bl true, .str "form"]) = H1
  intro s1 e1
  walk_at "r"
  refine ⟨z, n, rfl, pp.pt, fun H2 s2 => ?_⟩
  have s02 := s1.trans s2
  have e2 := s2 _ _ e1
  have pp2 := pp.same s02
  have ht2 := ht.same s02
  have hw2 := hw.same s02
  have hs2 : Has K H2 (.str z) := ⟨_, .str _ pp.len⟩
  have q2 : ∀ H', Same H2 H' → Q (.bl true) H' := fun H' e => q H' (s02.trans e)
  clear q s1 s2 s02 e1 hpn
  walk_at "r"
  refine ⟨by omega, by omega, ?_⟩
  refine for_range (n := n) (fun i σ' H' => ∃ v7 v8 v9 v10 v11 v12 v13, σ' = [some (.str z), some nv, some wv, some tv, some (.int fr), some (.ref pn), some (.int (n : Nat)), v7, v8, v9, v10, v11, v12, v13] ∧ Same H2 H') ⟨_, _, _, _, _, _, _, rfl, Same.refl _⟩ ?_ ?_
  ·rintro i σ' H3 hi ⟨v7, v8, v9, v10, v11, v12, v13, rfl, s3⟩
   walk_at "r"
   refine ⟨by omega, by omega, fun D hD => ?_⟩
   refine comp_range (n := n) (Pv := fun j ys σ' H' => ∃ v0, σ' = [v0] ∧ ys.length = j ∧ (∀ g ∈ ys, TrAt K H' g gapT) ∧ Same H3 H') ⟨none, rfl, rfl, (fun g h => nomatch h), Same.upd hD⟩ ?_ ?_
   ·rintro j ys σ' H' hj hys ⟨v0, rfl, hyl, hgs, hH⟩
    walk_at "r"
    refine ⟨by show 0 ≤ sizeLine; decide, fun g1 hg1 => ?_⟩
    walk_at "r"
    refine ⟨by show 3 ≤ sizeLine; decide, fun g2 hg2 => ?_⟩
    have u1 := Same.upd (o := .tup []) hg1
    have u2 := Same.upd (o := .tup [.str "gap", .non, .ref g1]) hg2
    have hys2 := (u1.trans u2) _ _ hys
    have tS := SameT.set (o := .lst (ys ++ [.ref g2])) hys2
    walk_at "r"
    refine ⟨_, hys2, by omega, _, upd_same, ?_⟩
    refine ⟨_, rfl, by simp [hyl], fun g hg => ?_, (hH.trans (u1.trans u2)).over hD⟩
    rcases List.mem_append.mp hg with hg | hg
    ·exact (hgs g hg).sameT ((u1.trans u2).t.trans tS)
    ·rw [List.mem_singleton.mp hg]
     exact (TrAt.gap (SqT.of upd_same) (SqT.of (u2 _ _ upd_same))).sameT tS
   ·rintro gs σ' H4 hgs ⟨v0, rfl, hgl, hgg, s4⟩
    walk_at "r"
    have hix : ixN gs.length (0 + (i : Int)) = some i := by
     unfold ixN
     rw [if_pos (by omega), if_pos (by omega)]
     congr 1
     omega
    refine s_setL hgs (j := i) hix ?_
    have s5 : Same H3 (upd H4 D (.lst (gs.set i tv))) := s4.over hD
    have e5 : upd H4 D (.lst (gs.set i tv)) D = some (.lst (gs.set i tv)) := upd_same
    have hg5 : ∀ g ∈ gs, TrAt K (upd H4 D (.lst (gs.set i tv))) g gapT := fun g hg => (hgg g hg).sameT (SameT.set hgs)
    revert s5 e5 hg5
    generalize upd H4 D (.lst (gs.set i tv)) = H5
    intro s5 e5 hg5
    clear hgs hgg s4 hD
    have s25 := s3.trans s5
    walk_at "r"
    refine s_tupL (SqL.of e5) fun p6 h6 => ?_
    have s6 : Same H5 (upd H5 p6 (.tup (gs.set i tv))) := Same.upd h6
    have e6 : upd H5 p6 (.tup (gs.set i tv)) p6 = some (.tup (gs.set i tv)) := upd_same
    revert s6 e6
    generalize upd H5 p6 (.tup (gs.set i tv)) = H6
    intro s6 e6
    walk_at "r"
    refine ⟨by show 3 ≤ sizeLine; decide, fun p7 h7 => ?_⟩
    have s7 : Same H6 (upd H6 p7 (.tup [.str z, nv, .ref p6])) := Same.upd h7
    have e7 : upd H6 p7 (.tup [.str z, nv, .ref p6]) p7 = some (.tup [.str z, nv, .ref p6]) := upd_same
    revert s7 e7
    generalize upd H6 p7 (.tup [.str z, nv, .ref p6]) = H7
    intro s7 e7
    have s57 := s6.trans s7
    have s27 := s25.trans s57
    have pp7 := pp2.same s27
    have ht7 := ht2.same s27
    have hg7 : ∀ g ∈ gs, TrAt K H7 g gapT := fun g hg => (hg5 g hg).same s57
    have fd7 : FF K H7 (.ref p7) (wrapT z d n i t) := wrapT_ff pp7 hi (SqT.of e7) (SqT.of (s7 _ _ e6)) hgl hg7 ht7.1 ht7.2.1 (by omega) (by omega)
    have eD7 := s57 _ _ e5
    have good : ∀ {H'} (Y : V → Hp → Prop), Same H2 H' → (∀ x r H'', Same H' H'' → DdAt K c H'' x (.wrap (.ref r) (bareT z d n) i) → Y x H'') → sp_wrapped K c [.str z, nv, .int (0 + (i : Int))] H' Y E0 := fun Y e h =>
     ⟨_, nv, nt, d, _, rfl, hs2.same e, (pp2.same e).at_, (fun _ _ _ => ⟨(pp2.same e).nn, pp.dn⟩), (fun z' n' j ez hp hb ej hj x r H'' s'' dd => by
      cases ez
      rw [pp.pt] at hp
      cases hp
      have : j = i := by omega
      subst this
      exact h x r H'' s'' dd), (fun hw => by
      exfalso
      rcases hw with h | ⟨z', ez, hb⟩ | ⟨z', n', ez, hp, hb⟩
      ·have : wordV (.str z) = true := by show (partsOf z).isSome = true; rw [pp.pt]; rfl
       rw [this] at h
       cases h
      ·cases ez
       rw [pp.nb] at hb
       cases hb
      ·cases ez
       rw [pp.pt] at hp
       cases hp
       exact hb ⟨by omega, by omega⟩)⟩
    clear s5 s6 s57 e5 e6 s25
    walk_at "r"
    refine good _ s27 fun x r H8 s8 dd => ?_
    walk_at "r"
    refine ⟨_, rfl, fun a1 d1 h1 h2 h3 => ?_⟩
    refine ⟨a1, d1, _, rfl, upd_same, fun H9 s9 e9 => ⟨rfl, ?_⟩⟩
    have s9 := s9.made h1 h2
    have kd : DdAt K c H9 (.ref a1) (.keep (i : Nat)) := by
     rw [show (0 : Int) + (i : Int) = ((i : Nat) : Int) by omega] at e9
     exact keepD e9
    have s79 := s8.trans s9
    have eD9 := s79 _ _ eD7
    walk_at "r"
    have c1 : cutV (gs.set i tv) none (some (0 + (i : Int))) = (gs.set i tv).take i := by rw [Int.zero_add]; exact cutV_to _ i
    refine s_sl_lst (SqL.of eD9) fun k1 hk1 => ?_
    rw [c1]
    have u1 : Same H9 (upd H9 k1 (.lst ((gs.set i tv).take i))) := Same.upd hk1
    have f1 : upd H9 k1 (.lst ((gs.set i tv).take i)) k1 = some (.lst ((gs.set i tv).take i)) := upd_same
    revert u1 f1
    generalize upd H9 k1 (.lst ((gs.set i tv).take i)) = H10
    intro u1 f1
    walk_at "r"
    refine ⟨by show 1 ≤ sizeLine; decide, fun k2 hk2 => ?_⟩
    have u2 : Same H10 (upd H10 k2 (.lst [.ref p7])) := Same.upd hk2
    have f2 : upd H10 k2 (.lst [.ref p7]) k2 = some (.lst [.ref p7]) := upd_same
    revert u2 f2
    generalize upd H10 k2 (.lst [.ref p7]) = H11
    intro u2 f2
    have lt1 : ((gs.set i tv).take i).length ≤ 3 := by rw [List.length_take, List.length_set]; omega
    have lt2 : ((gs.set i tv).drop (i + 1)).length ≤ 3 := by rw [List.length_drop, List.length_set]; omega
    refine s_add_lst (u2 _ _ f1) f2 (by show _ + 1 ≤ _; omega) fun k3 hk3 => ?_
    have u3 : Same H11 (upd H11 k3 (.lst ((gs.set i tv).take i ++ [.ref p7]))) := Same.upd hk3
    have f3 : upd H11 k3 (.lst ((gs.set i tv).take i ++ [.ref p7])) k3 = some (.lst ((gs.set i tv).take i ++ [.ref p7])) := upd_same
    revert u3 f3
    generalize upd H11 k3 (.lst ((gs.set i tv).take i ++ [.ref p7])) = H12
    intro u3 f3
    have u912 := u1.trans (u2.trans u3)
    have c2 : cutV (gs.set i tv) (some (0 + (i : Int) + 1)) none = (gs.set i tv).drop (i + 1) := by rw [show (0 : Int) + (i : Int) + 1 = ((i + 1 : Nat) : Int) by omega]; exact cutV_from _ (i + 1)
    walk_at "r"
    refine s_sl_lst (SqL.of (u912 _ _ eD9)) fun k4 hk4 => ?_
    rw [c2]
    have u4 : Same H12 (upd H12 k4 (.lst ((gs.set i tv).drop (i + 1)))) := Same.upd hk4
    have f4 : upd H12 k4 (.lst ((gs.set i tv).drop (i + 1))) k4 = some (.lst ((gs.set i tv).drop (i + 1))) := upd_same
    revert u4 f4
    generalize upd H12 k4 (.lst ((gs.set i tv).drop (i + 1))) = H13
    intro u4 f4
    refine s_add_lst (u4 _ _ f3) f4 (by rw [List.length_append, List.length_singleton]; omega) fun k5 hk5 => ?_
    rw [set_mid gs i tv (.ref p7) (by omega)]
    have u5 : Same H13 (upd H13 k5 (.lst (gs.set i (.ref p7)))) := Same.upd hk5
    have f5 : upd H13 k5 (.lst (gs.set i (.ref p7))) k5 = some (.lst (gs.set i (.ref p7))) := upd_same
    revert u5 f5
    generalize upd H13 k5 (.lst (gs.set i (.ref p7))) = H14
    intro u5 f5
    walk_at "r"
    refine s_tupL (SqL.of f5) fun k6 hk6 => ?_
    have u6 : Same H14 (upd H14 k6 (.tup (gs.set i (.ref p7)))) := Same.upd hk6
    have f6 : upd H14 k6 (.tup (gs.set i (.ref p7))) k6 = some (.tup (gs.set i (.ref p7))) := upd_same
    revert u6 f6
    generalize upd H14 k6 (.tup (gs.set i (.ref p7))) = H15
    intro u6 f6
    walk_at "r"
    refine ⟨by show 3 ≤ sizeLine; decide, fun pt hpt => ?_⟩
    have u7 : Same H15 (upd H15 pt (.tup [.str z, nv, .ref k6])) := Same.upd hpt
    have f7 : upd H15 pt (.tup [.str z, nv, .ref k6]) pt = some (.tup [.str z, nv, .ref k6]) := upd_same
    revert u7 f7
    generalize upd H15 pt (.tup [.str z, nv, .ref k6]) = H16
    intro u7 f7
    have u916 := u912.trans (u4.trans (u5.trans (u6.trans u7)))
    have u716 := s79.trans u916
    have s216 := s27.trans u716
    have hle := wrapT_le z d t hi n3
    have pp16 := pp2.same s216
    have fd16 := fd7.same u716
    have fo16 : FF K H16 (.ref pt) (wrapT z d n i (wrapT z d n i t)) := wrapT_ff pp16 hi (SqT.of f7) (SqT.of (u7 _ _ f6)) hgl (fun g hg => (hg7 g hg).same u716) fd16.1 fd16.2.1 (by omega) (by omega)
    have ft16 := ht2.same s216
    have dd16 := (dd.same s9).same u916
    have kd16 := kd.same u916
    have en16 := s216 _ _ e2
    have goodx : ∀ {H'} (Y : V → Hp → Prop), Same H16 H' → (∀ x r H'', Same H' H'' → DdAt K c H'' x (.wrap (.ref r) (bareT z d n) i) → Y x H'') → sp_wrapped K c [.str z, nv, .int (0 + (i : Int))] H' Y E0 := fun Y e h => good Y (s216.trans e) h
    clear u1 u2 u3 u4 u5 u6 u7 f1 f2 f3 f4 f5 f6 f7 u912 u916 u716 c1 c2 lt1 lt2 eD9 eD7 s79 s8 s9 hk1 hk2 hk3 hk4 hk5 hk6 hpt good fd7 ht7 pp7 hg7 s27 s7 e7 h6 h7 h1 h2 h3 e9 dd kd
    walk_at "r"
    refine s_isI (b := true) (L.ty dd16) (by rw [eW]; exact kit_self) ?_
    walk_at "r"
    refine ⟨by show 2 ≤ sizeLine; decide, fun g1 hg1 => ?_⟩
    have u1 : Same H16 (upd H16 g1 (.tup [tv, .ref p7])) := Same.upd hg1
    have f1 : upd H16 g1 (.tup [tv, .ref p7]) g1 = some (.tup [tv, .ref p7]) := upd_same
    revert u1 f1
    generalize upd H16 g1 (.tup [tv, .ref p7]) = H17
    intro u1 f1
    walk_at "r"
    refine ⟨by show 2 ≤ sizeLine; decide, fun g2 hg2 => ?_⟩
    have u2 : Same H17 (upd H17 g2 (.tup [.ref p7, .ref pt])) := Same.upd hg2
    have f2 : upd H17 g2 (.tup [.ref p7, .ref pt]) g2 = some (.tup [.ref p7, .ref pt]) := upd_same
    revert u2 f2
    generalize upd H17 g2 (.tup [.ref p7, .ref pt]) = H18
    intro u2 f2
    walk_at "r"
    refine ⟨by show 2 ≤ sizeLine; decide, fun g3 hg3 => ?_⟩
    have u3 : Same H18 (upd H18 g3 (.tup [tv, .ref p7])) := Same.upd hg3
    have f3 : upd H18 g3 (.tup [tv, .ref p7]) g3 = some (.tup [tv, .ref p7]) := upd_same
    revert u3 f3
    generalize upd H18 g3 (.tup [tv, .ref p7]) = H19
    intro u3 f3
    walk_at "r"
    refine ⟨by show 3 ≤ sizeLine; decide, fun g4 hg4 => ?_⟩
    have u4 : Same H19 (upd H19 g4 (.lst [.ref g1, .ref g2, .ref g3])) := Same.upd hg4
    have f4 : upd H19 g4 (.lst [.ref g1, .ref g2, .ref g3]) g4 = some (.lst [.ref g1, .ref g2, .ref g3]) := upd_same
    revert u4 f4
    generalize upd H19 g4 (.lst [.ref g1, .ref g2, .ref g3]) = H20
    intro u4 f4
    have w17 := u1.trans (u2.trans (u3.trans u4))
    have prs : ∀ y ∈ ([.ref g1, .ref g2, .ref g3] : List V), PrOk K H20 y (.wrap (.ref r) (bareT z d n) i) i := by
     intro y hy
     simp only [List.mem_cons, List.not_mem_nil, or_false] at hy
     rcases hy with rfl | rfl | rfl
     ·exact ⟨g1, tv, .ref p7, _, _, rfl, SqT.of ((u2.trans (u3.trans u4)) _ _ f1), ft16.same w17, fd16.same w17, wrap_done _ _ _ _ _ _, keep_done hi⟩
     ·exact ⟨g2, .ref p7, .ref pt, _, _, rfl, SqT.of ((u3.trans u4) _ _ f2), fd16.same w17, fo16.same w17, wrap_done _ _ _ _ _ _, keep_done hi⟩
     ·exact ⟨g3, tv, .ref p7, _, _, rfl, SqT.of (u4 _ _ f3), ft16.same w17, fd16.same w17, wrap_done _ _ _ _ _ _, keep_done hi⟩
    refine .inl ⟨g4, rfl, ⟨_, SqL.of f4⟩, ?_⟩
    refine for_list (K := K) (a := g4) (xs := [.ref g1, .ref g2, .ref g3]) (fun j σ' H' => ∃ v13, σ' = [some (.str z), some nv, some wv, some tv, some (.int fr), some (.ref pn), some (.int (n : Nat)), some (.int (0 + (i : Int))), some (.ref D), some (.ref p7), some x, some (.ref a1), some (.ref pt), v13] ∧ Same H20 H') ⟨_, rfl, Same.refl _⟩ ?_ ?_ ?_
    ·rintro j σ' H' _ ⟨_, _, s'⟩
     exact SqL.of (s' _ _ f4)
    ·rintro j y σ' H21 hy ⟨v13', rfl, s21⟩
     obtain ⟨a2, x1, x2, t1, t2, rfl, qa, fx1, fx2, dn1, dn2⟩ := ((prs y (List.mem_of_getElem? hy)).same s21).ex
     have wd := (dd16.same w17).same s21
     have wk := (kd16.same w17).same s21
     walk_at "r"
     refine s_ix_tup qa rfl ?_
     walk_at "r"
     refine s_ix_tup qa rfl ?_
     walk_at "r"
     refine ⟨x, .wrap (.ref r) (bareT z d n) i, x1, t1, x2, t2, rfl, wd, rfl, fx1, fx2, dn1, dn2, fun H22 s22 => ?_⟩
     walk_at "r"
     refine s_ix_tup (s22.tup qa) rfl ?_
     walk_at "r"
     refine s_ix_tup (s22.tup qa) rfl ?_
     walk_at "r"
     refine ⟨.ref a1, .keep (i : Nat), x2, t2, x1, t1, rfl, wk.same s22, rfl, fx2.same s22, fx1.same s22, dn2, rfl, fun H23 s23 => ?_⟩
     walk_at "r"
     exact ⟨_, rfl, s21.trans (s22.trans s23)⟩
    ·rintro σ' H21 ⟨v13', rfl, s21⟩
     have w21 := w17.trans s21
     clear u1 u2 u3 u4 f1 f2 f3 f4 prs hg1 hg2 hg3 hg4
     have nv_non : nv = .non → nt = .fl .non ∧ d = .flat .non := fun e => by
      have hn := pp.nn
      have hd := pp.dn
      rw [e] at hn
      rcases hn with ⟨_, e2⟩ | ⟨a, vs, h1, _⟩
      ·rw [e2] at hd ⊢
       cases hd
       exact ⟨rfl, rfl⟩
      ·cases h1
     have wz : wordV (.str z) = true := by show (partsOf z).isSome = true; rw [pp.pt]; rfl
     have wnew : ∀ {H'} (nv' : V) (nt' : Nt) (d' : Dt) (j : Nat) (k : Int) (Y : VK) (a2 d2 : Addr), Same H2 H' → NtAt K H' nv' nt' → IsN K H' nv' d' → DtNt d' nt' → noteB z nt' = true → k = (j : Int) → j < n → H' a2 = none → H' d2 = none → d2 ≠ a2 → (∀ r H'', Same H' H'' → DdAt K c H'' (.ref a2) (.wrap (.ref r) (bareT z d' n) j) → Y .non H'') → sp_initW K c ag N_NoForm [.ref a2, .str z, nv', .int k] (upd (upd H' d2 (.own a2)) a2 (.ins c.w d2 [])) Y E0 := by
      intro H' nv' nt' d' j k Y a2 d2 e hn hi' hd' hb hk hj h1 h2 h3 hY
      have s1 := Same.made (C := c.w) (fs := []) h1 h2 h3
      subst hk
      refine ⟨a2, d2, .str z, nv', nt', d', _, rfl, upd_same, (hs2.same e).same s1, hn.same s1, (fun _ _ _ => ⟨hi'.same s1.t, hd'⟩), fun z' n' ez hp hb' i0 i1 r' H'' sb e' hbr => ?_, fun hw => ?_⟩
      ·cases ez
       rw [pp.pt] at hp
       cases hp
       have sm := sb.made h1 h2
       exact hY r' H'' sm ⟨a2, d2, rfl, e', hbr.ff GA pp.pt (hi'.same sm.t) hd' hb, by show j < (List.replicate n gapT).length; rw [List.length_replicate]; omega⟩
      ·exfalso
       rcases hw with h | ⟨z', ez, hb'⟩ | ⟨z', n', ez, hp, hb'⟩
       ·rw [wz] at h
        cases h
       ·cases ez
        rw [hb] at hb'
        cases hb'
       ·cases ez
        rw [pp.pt] at hp
        cases hp
        exact hb' ⟨by omega, by omega⟩
     iterate 1 walk_at "r1"
     refine viaS (t := tIfS _ _ _) (R := fun σ' H' => σ' = [some (.str z), some nv, some wv, some tv, some (.int fr), some (.ref pn), some (.int (n : Nat)), some (.int (0 + (i : Int))), some (.ref D), some (.ref p7), some x, some (.ref a1), some (.ref pt), v13'] ∧ Same H21 H') ?_ (fun Y hY => ?_)
     rotate_left
     ·walk_at "r"
      by_cases hn : nv = .non
      ·rw [decide_eq_true hn]
       obtain ⟨en, edd⟩ := nv_non hn
       have nbt : noteB z (.fl .non) = true := by rw [← en]; exact pp.nb
       walk_at "r"
       refine ⟨_, rfl, ?_⟩
       walk_at "r"
       intro a2 d2 h1 h2 h3
       refine wnew .non (.fl .non) (.flat .non) i (0 + (i : Int)) _ a2 d2 (s216.trans w21) ⟨rfl, _, .non, rfl⟩ (.inl ⟨rfl, rfl⟩) (.fl (v := .non) trivial) nbt (by omega) hi h1 h2 h3 fun r2 H22 s22 dd2 => ⟨rfl, ?_⟩
       rw [← edd] at dd2
       have m22 := w21.trans s22
       walk_at "r"
       refine ⟨.ref a2, .wrap (.ref r2) (bareT z d n) i, tv, t, .ref p7, wrapT z d n i t, rfl, dd2, rfl, ft16.same m22, fd16.same m22, wrap_done _ _ _ _ _ _, keep_done hi, fun H23 s23 => ?_⟩
       walk_at "r"
       exact hY _ _ ⟨rfl, s22.trans s23⟩
      ·rw [decide_eq_false hn]
       walk_at "r"
       exact hY _ _ ⟨rfl, Same.refl _⟩
     rintro _ H22 ⟨rfl, s22⟩
     have w22 := w21.trans s22
     with_reducible refine s_seq ?_
     refine viaS (t := tIfS _ _ _) (R := fun σ' H' => σ' = [some (.str z), some nv, some wv, some tv, some (.int fr), some (.ref pn), some (.int (n : Nat)), some (.int (0 + (i : Int))), some (.ref D), some (.ref p7), some x, some (.ref a1), some (.ref pt), v13'] ∧ Same H22 H') ?_ (fun Y hY => ?_)
     rotate_left
     ·walk_at "r"
      refine ite2 (fun h => ?_) (fun h => ?_)
      ·have hi0 : i = 0 := by
        have h := V.int.inj (of_decide_eq_true h)
        omega
       walk_at "r"
       refine ⟨_, rfl, _, rfl, ?_⟩
       walk_at "r"
       intro a2 d2 h1 h2 h3
       refine wnew nv nt d i 0 _ a2 d2 (s216.trans w22) ((pp16.same w22).at_) ((pp16.same w22).nn) pp.dn pp.nb (by omega) hi h1 h2 h3 fun r2 H23 s23 dd2 => ⟨rfl, ?_⟩
       have m23 := w22.trans s23
       walk_at "r"
       refine ⟨.ref a2, .wrap (.ref r2) (bareT z d n) i, tv, t, .ref p7, wrapT z d n i t, rfl, dd2, rfl, ft16.same m23, fd16.same m23, wrap_done _ _ _ _ _ _, keep_done hi, fun H24 s24 => ?_⟩
       walk_at "r"
       exact hY _ _ ⟨rfl, s23.trans s24⟩
      ·walk_at "r"
       exact hY _ _ ⟨rfl, Same.refl _⟩
     rintro _ H23 ⟨rfl, s23⟩
     have w23 := w22.trans s23
     with_reducible refine s_seq ?_
     refine viaS (t := tIfS _ _ _) (R := fun σ' H' => σ' = [some (.str z), some nv, some wv, some tv, some (.int fr), some (.ref pn), some (.int (n : Nat)), some (.int (0 + (i : Int))), some (.ref D), some (.ref p7), some x, some (.ref a1), some (.ref pt), v13'] ∧ Same H23 H') ?_ (fun Y hY => ?_)
     rotate_left
     ·walk_at "r"
      refine ite2 (fun h => ?_) (fun h => ?_)
      ·have hi0 : i = 0 := by
        have h := V.int.inj (of_decide_eq_true h)
        omega
       walk_at "r"
       by_cases hn : nv = .non
       ·rw [decide_eq_true hn]
        obtain ⟨en, edd⟩ := nv_non hn
        have nbt : noteB z (.fl .non) = true := by rw [← en]; exact pp.nb
        walk_at "r"
        refine ⟨.str z, rfl, (hs2.same s216).same w23, (fun z' n' ez hp hb h0 x2 r2 H24 s24 dd2 => ?_), (fun hw => ?_)⟩
        ·cases ez
         rw [pp.pt] at hp
         cases hp
         rw [← edd, ← hi0] at dd2
         have m24 := w23.trans s24
         walk_at "r"
         refine ⟨x2, .wrap (.ref r2) (bareT z d n) i, tv, t, .ref p7, wrapT z d n i t, rfl, dd2, rfl, ft16.same m24, fd16.same m24, wrap_done _ _ _ _ _ _, keep_done hi, fun H25 s25 => ?_⟩
         walk_at "r"
         exact hY _ _ ⟨rfl, s24.trans s25⟩
        ·exfalso
         rcases hw with h | ⟨z', ez, hb'⟩ | ⟨z', n', ez, hp, hb'⟩
         ·rw [wz] at h
          cases h
         ·cases ez
          rw [nbt] at hb'
          cases hb'
         ·cases ez
          rw [pp.pt] at hp
          cases hp
          omega
       ·rw [decide_eq_false hn]
        walk_at "r"
        exact hY _ _ ⟨rfl, Same.refl _⟩
      ·walk_at "r"
       exact hY _ _ ⟨rfl, Same.refl _⟩
     rintro _ H24 ⟨rfl, s24⟩
     have w24 := w23.trans s24
     have w2_24 := s216.trans w24
     walk_at "r"
     refine ⟨_, wv, wt, d, _, rfl, hs2.same w2_24, hw2.same w2_24, (fun z' ez hb => by cases ez; rw [wb] at hb; cases hb), (fun z' n' j ez _ hb => by cases ez; rw [wb] at hb; cases hb), fun _ v1 H25 s25 t1 => ?_⟩
     obtain ⟨p1, rfl, f1⟩ := t1
     have m25 := w2_24.trans s25
     walk_at "r"
     refine s_nefD (n := 1) (by decide) (told_isD f1) (told_isD (m25 _ _ e2)) ?_
     walk_at "r"
     by_cases hn : nv = .non
     ·rw [decide_eq_true hn]
      walk_at "r"
      exact ⟨_, _, _, _, _, _, _, rfl, m25⟩
     ·rw [decide_eq_false hn]
      have nbf : noteB z (.fl .non) = false := by
       rcases none_fits pp.nb with e | e
       ·have nin := pp.at_
        rw [e] at nin
        exact absurd (none_only nin) hn
       ·exact e
      walk_at "r"
      refine ⟨.str z, rfl, hs2.same m25, (fun z' n' ez hp hb => by cases ez; rw [nbf] at hb; cases hb), fun _ v2 H26 s26 t2 => ?_⟩
      obtain ⟨p2, rfl, f2⟩ := t2
      have m26 := m25.trans s26
      walk_at "r"
      refine s_nefD (n := 1) (by decide) (told_isD f2) (told_isD (m26 _ _ e2)) ?_
      walk_at "r"
      exact ⟨_, _, _, _, _, _, _, rfl, m26⟩
  ·rintro σ' H3 ⟨v7, v8, v9, v10, v11, v12, v13, rfl, s3⟩
   walk_at "r"
   refine ⟨by show 5 ≤ sizeLine; decide, fun pl hpl => ?_⟩
   have f10 : 0 ≤ fr % 10 ^ Int.toNat 18 := Int.emod_nonneg _ (by decide)
   have f11 : 0 ≤ fr % 1000 := Int.emod_nonneg _ (by decide)
   generalize fr % 10 ^ Int.toNat 18 = y1 at f10 ⊢
   generalize fr % 1000 = y2 at f11 ⊢
   have s4 : Same H3 (upd H3 pl (.lst [.int (n : Nat), .int ((n : Nat) + y1), .int (-1), .int (-1 - y2), .int ((n : Nat) + 1)])) := Same.upd hpl
   have e4 : upd H3 pl (.lst [.int (n : Nat), .int ((n : Nat) + y1), .int (-1), .int (-1 - y2), .int ((n : Nat) + 1)]) pl = some (.lst [.int (n : Nat), .int ((n : Nat) + y1), .int (-1), .int (-1 - y2), .int ((n : Nat) + 1)]) := upd_same
   revert s4 e4
   generalize upd H3 pl (.lst [.int (n : Nat), .int ((n : Nat) + y1), .int (-1), .int (-1 - y2), .int ((n : Nat) + 1)]) = H4
   intro s4 e4
   have s24 := s3.trans s4
   refine .inl ⟨pl, rfl, ⟨_, SqL.of e4⟩, ?_⟩
   refine for_list (K := K) (a := pl) (xs := [.int (n : Nat), .int ((n : Nat) + y1), .int (-1), .int (-1 - y2), .int ((n : Nat) + 1)]) (fun j σ' H' => ∃ v7, σ' = [some (.str z), some nv, some wv, some tv, some (.int fr), some (.ref pn), some (.int (n : Nat)), v7, v8, v9, v10, v11, v12, v13] ∧ Same H4 H') ⟨_, rfl, Same.refl _⟩ ?_ ?_ ?_
   ·rintro j σ' H' _ ⟨_, _, s'⟩
    exact SqL.of (s' _ _ e4)
   ·rintro j y σ' H5 hy ⟨v7', rfl, s5⟩
    obtain ⟨k, rfl, hk⟩ : ∃ k : Int, y = .int k ∧ ¬ (0 ≤ k ∧ k < (n : Int)) := by
     have hy := List.mem_of_getElem? hy
     simp only [List.mem_cons, List.not_mem_nil, or_false] at hy
     rcases hy with rfl | rfl | rfl | rfl | rfl
     ·exact ⟨_, rfl, by omega⟩
     ·exact ⟨_, rfl, by omega⟩
     ·exact ⟨_, rfl, by omega⟩
     ·exact ⟨_, rfl, by omega⟩
     ·exact ⟨_, rfl, by omega⟩
    have m5 := s24.trans s5
    walk_at "r"
    refine ⟨_, nv, nt, d, k, rfl, hs2.same m5, (pp2.same m5).at_, (fun _ _ _ => ⟨(pp2.same m5).nn, pp.dn⟩), (fun z' n' j ez hp hb ej hj => by
     cases ez
     rw [pp.pt] at hp
     cases hp
     exact absurd ⟨by omega, by omega⟩ hk), fun _ v1 H6 s6 t1 => ?_⟩
    obtain ⟨p1, rfl, f1⟩ := t1
    have m6 := m5.trans s6
    walk_at "r"
    refine s_nefD (n := 1) (by decide) (told_isD f1) (told_isD (m6 _ _ e2)) ?_
    walk_at "r"
    exact ⟨_, rfl, s5.trans s6⟩
   ·rintro σ' H5 ⟨v7', rfl, s5⟩
    walk_at "r"
    exact q2 _ (s24.trans s5)
theorem words_s : PN.all (fun x => !(partsOf (x.1 ++ ("s" : Str))).isSome) = true := by decide +kernel
theorem words_u : PN.all (fun x => !(partsOf (⟨x.1.cps.map PyProof.Rows.up1⟩ : Str)).isSome && x.1.cps.toList.all (fun c => decide (c < 128))) = true := by decide +kernel
theorem in_PN {wd : Str} {n : Nat} (h : partsOf wd = some n) : (wd, n) ∈ PN := by
 unfold partsOf at h
 obtain ⟨l1, l2, e, _⟩ := List.lookup_eq_some_iff.mp h
 rw [e]
 exact List.mem_append_right _ List.mem_cons_self
theorem word_s {wd : Str} {n : Nat} (h : partsOf wd = some n) : wordV (.str (wd ++ ("s" : Str))) = false := by
 have := List.all_eq_true.mp words_s _ (in_PN h)
 simpa [wordV] using this
theorem word_u {wd : Str} {n : Nat} (h : partsOf wd = some n) : wordV (.str ⟨wd.cps.map PyProof.Rows.up1⟩) = false ∧ ∀ c ∈ wd.cps.toList, c < 128 := by
 have := List.all_eq_true.mp words_u _ (in_PN h)
 rw [Bool.and_eq_true] at this
 refine ⟨by simpa [wordV] using this.1, fun c hc => of_decide_eq_true (List.all_eq_true.mp this.2 c hc)⟩
noncomputable def sp_law (K : W.Frag) : Sp := fun vs H Q _ => ∃ (a : Addr) (ns : List Int), vs = [.ref a] ∧ SqL K H a (ns.map V.int) ∧ ns.length ≤ 63 ∧ ∀ H', Q (.bl true) H'
theorem sc_law : FnScope ["_law_script", "_law_names_here", "_law_word", "_law_remark", "_law_other", "_law_wrong", "_law_far", "_law_bad", "_law_tree_here", "_law_size"] ["_law_script"] (defScope s_law) := ⟨rfl, rfl, rfl, by decide +kernel, rfl, by decide +kernel, by decide +kernel⟩
theorem ok_law {f : Addr} {fd : FuncData} (F : Fun K "law" "law" s_law f fd) (T : Txt K mg) (C__law_cell : Callee P w K mg base 1 "_law_cell" ["_law_script", "_law_k"] (sp_cell K)) (C__law_names : Callee P w K mg base 1 "_law_names" ["_law_one", "_law_other"] sp_names) (C__law_head : Callee P w K mg base 2 "_law_head" ["_law_cell_here", "_law_names_here"] (sp_head K)) (C__law_sort : Callee P w K mg base 1 "_law_sort" ["_law_word"] sp_sort) (C__law_tree : Callee P w K mg base 3 "_law_tree" ["_law_cells", "_law_names_here"] (sp_tree K)) (C__law_puts : Callee P w K mg base 12 "_law_puts" ["_law_word", "_law_remark", "_law_wrong", "_law_bad", "_law_tree_here"] (sp_puts K)) (C__law_wraps : Callee P w K mg base 12 "_law_wraps" ["_law_word", "_law_remark", "_law_wrong", "_law_tree_here", "_law_far"] (sp_wraps K)) (C__law_keeps : Callee P w K mg base 12 "_law_keeps" ["_law_tree_here", "_law_numbers"] (sp_keeps K)) : FnOk P w K mg base CX0 13 f fd ["_law_script"] (sp_law K) := by
 refine F.okq sc_law (fun vs H Q E h => ?_) (fun cdv A outer s H vs Q E hr h => ?_)
 ·obtain ⟨a, ns, rfl, _⟩ := h
  rfl
 ·obtain ⟨a, ns, rfl, hS, hn, q⟩ := h
  refine ⟨_, qss_cons (qs_set (i := 1) sc_law.nd rfl (Or.inl rfl) (qe_fn C__law_names (hr.mono (by decide)) (qa_cons (qe_fn C__law_cell (hr.mono (by decide)) (qa_cons (qv 0) (qa_cons (qe_int) qa_nil))) (qa_cons (qe_fn C__law_cell (hr.mono (by decide)) (qa_cons (qv 0) (qa_cons (qe_int) qa_nil))) qa_nil))))
   (qss_cons (qs_asg (qe_fn C__law_head (hr.mono (by decide)) (qa_cons (qe_fn C__law_cell (hr.mono (by decide)) (qa_cons (qv 0) (qa_cons (qe_int) qa_nil))) (qa_cons (qv 1) qa_nil))) (qg_tupK K (n := 2) rfl (qgs_cons (qg_name (i := 2) sc_law.nd rfl (Or.inl rfl)) (qgs_cons (qg_name (i := 3) sc_law.nd rfl (Or.inl rfl)) (qgs_nil)))))
   (qss_cons (qs_asg (qe_fn C__law_head (hr.mono (by decide)) (qa_cons (qe_fn C__law_cell (hr.mono (by decide)) (qa_cons (qv 0) (qa_cons (qe_int) qa_nil))) (qa_cons (qv 1) qa_nil))) (qg_tupK K (n := 2) rfl (qgs_cons (qg_name (i := 4) sc_law.nd rfl (Or.inl rfl)) (qgs_cons (qg_name (i := 5) sc_law.nd rfl (Or.inl rfl)) (qgs_nil)))))
   (qss_cons (qs_if (qt_cmpR (k_eq K hr.u200) (qe_fn C__law_sort (hr.mono (by decide)) (qa_cons (qv 2) qa_nil)) (qe_fn C__law_sort (hr.mono (by decide)) (qa_cons (qv 4) qa_nil)) (nomark _)) (qss_one (qs_set (i := 5) sc_law.nd rfl (Or.inl rfl) (qe_ix (k_ix K) (qe_lst (qa_cons (qe_tup (qa_cons (qe_ix (k_ix K) (qv 1) (qe_int) (fun _ _ => rfl)) qa_nil)) (qa_cons (qe_tup (qa_cons (qe_ix (k_ix K) (qv 1) (qe_int) (fun _ _ => rfl)) (qa_cons (qe_ix (k_ix K) (qv 1) (qe_int) (fun _ _ => rfl)) (qa_cons (qe_ix (k_ix K) (qv 1) (qe_int) (fun _ _ => rfl)) qa_nil)))) qa_nil))) (qe_op op_mod (qe_op op_fdiv (qe_fn C__law_cell (hr.mono (by decide)) (qa_cons (qv 0) (qa_cons (qe_int) qa_nil))) (qe_int)) (qe_int)) (fun _ _ => rfl)))) (qss_nil))
   (qss_cons (qs_set (i := 6) sc_law.nd rfl (Or.inl rfl) (qe_fn C__law_cell (hr.mono (by decide)) (qa_cons (qv 0) (qa_cons (qe_int) qa_nil))))
   (qss_cons (qs_set (i := 7) sc_law.nd rfl (Or.inl rfl) (qe_ix (k_ix K) (qe_lst (qa_cons (qe_op (k_add K) (qv 2) (qe_str)) (qa_cons (qe_bm0K K PySem.F.plainAttrs_str PySem.F.slot_str_upper PySem.F.type_str_upper mt_upper (qv 2)) (qa_cons (qe_str) (qa_cons (qe_tup (qa_cons (qv 2) qa_nil)) (qa_cons (qe_non) (qa_cons (qe_str) qa_nil))))))) (qe_op op_mod (qv 6) (qe_int)) (fun _ _ => rfl)))
   (qss_cons (qs_set (i := 8) sc_law.nd rfl (Or.inl rfl) (qe_fn C__law_tree (hr.mono (by decide)) (qa_cons (qe_slice (k_sl K) (qv 0) (qo_some (qe_int)) (qo_some (qe_int))) (qa_cons (qv 1) qa_nil))))
   (qss_cons (qs_if (QW.qt (qw_or (qt_not (qt_val (qe_fn C__law_puts (hr.mono (by decide)) (qa_cons (qv 2) (qa_cons (qv 3) (qa_cons (qv 5) (qa_cons (qv 7) (qa_cons (qv 8) qa_nil)))))))) (qw_or1 (qt_not (qt_val (qe_fn C__law_wraps (hr.mono (by decide)) (qa_cons (qv 2) (qa_cons (qv 3) (qa_cons (qv 5) (qa_cons (qv 8) (qa_cons (qv 6) qa_nil))))))))))) (qss_one (qs_ret (qe_bl))) (qss_nil))
   (qss_cons (qs_set (i := 9) sc_law.nd rfl (Or.inl rfl) (qe_callB (k_len K) (by rfl) T.len (by decide +kernel) (qa_cons (qe_ix (k_ix K) (qv 8) (qe_int) (fun _ _ => rfl)) qa_nil)))
   (qss_one (qs_ret (qe_fn C__law_keeps (hr.mono (by decide)) (qa_cons (qv 8) (qa_cons (qe_lst (qa_cons (qv 9) (qa_cons (qe_un un_neg (qe_int)) (qa_cons (qe_op (k_add K) (qv 9) (qe_op op_mod (qv 6) (qe_op op_pow (qe_int) (qe_int)))) (qa_cons (qe_op op_sub (qe_un un_neg (qe_int)) (qe_op op_mod (qv 6) (qe_int))) qa_nil))))) qa_nil))))))))))))), ?_⟩
  have bg := big
  have S : Script K H a := ⟨ns, hS, hn⟩
  walk_at "r"
  refine ⟨a, 0, rfl, S, by decide, fun z0 => ?_⟩
  walk_at "r"
  refine ⟨a, 1, rfl, S, by decide, fun z1 => ?_⟩
  walk_at "r"
  refine ⟨z0, z1, rfl, fun pn t0 t1 t2 H1 n0 n1 n2 s1 _ e1 => ?_⟩
  walk_at "r"
  refine ⟨a, 2, rfl, S.same s1, by decide, fun z2 => ?_⟩
  walk_at "r"
  refine ⟨z2, pn, t0, t1, t2, rfl, SqL.of e1, n0, n1, n2, fun b1 wd nv d nt H2 s2 q1 hn1 hp1 hd1 hb1 => ?_⟩
  have s02 := s1.trans s2
  walk_at "r"
  refine s_gtup q1 rfl ?_
  walk_at "r"
  refine ⟨a, 3, rfl, S.same s02, by decide, fun z3 => ?_⟩
  walk_at "r"
  refine ⟨z3, pn, t0, t1, t2, rfl, SqL.of (s2 _ _ e1), n0, n1, n2, fun b2 wo ov od ot H3 s3 q2 hn2 hp2 hd2 hb2 => ?_⟩
  have s03 := s02.trans s3
  obtain ⟨n, hpt⟩ := Option.isSome_iff_exists.mp hp1
  have pp3 : PutPre K H3 wd nv n d nt := ⟨hpt, hn1.same s3.t, hd1, hb1⟩
  have S3 := S.same s03
  have e3 := s3 _ _ (s2 _ _ e1)
  have hS3 : SqL K H3 a (ns.map V.int) := s03.seq hS
  clear s1 s2 s02 s03 S hS e1 q1 hn1 hp1 s3
  walk_at "r"
  refine s_gtup q2 rfl ?_
  iterate 6 walk_at "r1"
  refine viaS (t := tIfS _ _ _) (R := fun σ' H' => ∃ wv wt, σ' = [some (.ref a), some (.ref pn), some (.str wd), some nv, some (.str wo), some wv, none, none, none, none] ∧ Same H3 H' ∧ NtAt K H' wv wt ∧ noteB wd wt = false) ?_ (fun Y hY => ?_)
  rotate_left
  ·walk_at "r"
   refine ⟨wd, rfl, fun H4 s4 => ?_⟩
   walk_at "r"
   refine ⟨wo, rfl, fun H5 s5 => ?_⟩
   have s35 := s4.trans s5
   have e5 := s35 _ _ e3
   walk_at "r"
   refine ite2 (fun h => ?_) (fun h => ?_)
   ·walk_at "r"
    refine s_ix_lst (SqL.of e5) rfl ?_
    walk_at "r"
    refine ⟨by show 1 ≤ sizeLine; decide, fun k1 hk1 => ?_⟩
    have u1 : Same H5 (upd H5 k1 (.tup [.str t0])) := Same.upd hk1
    have f1 : upd H5 k1 (.tup [.str t0]) k1 = some (.tup [.str t0]) := upd_same
    revert u1 f1
    generalize upd H5 k1 (.tup [.str t0]) = H6
    intro u1 f1
    walk_at "r"
    refine s_ix_lst (SqL.of (u1 _ _ e5)) rfl ?_
    walk_at "r"
    refine s_ix_lst (SqL.of (u1 _ _ e5)) rfl ?_
    walk_at "r"
    refine s_ix_lst (SqL.of (u1 _ _ e5)) rfl ?_
    walk_at "r"
    refine ⟨by show 3 ≤ sizeLine; decide, fun k2 hk2 => ?_⟩
    have u2 : Same H6 (upd H6 k2 (.tup [.str t0, .str t1, .str t2])) := Same.upd hk2
    have f2 : upd H6 k2 (.tup [.str t0, .str t1, .str t2]) k2 = some (.tup [.str t0, .str t1, .str t2]) := upd_same
    revert u2 f2
    generalize upd H6 k2 (.tup [.str t0, .str t1, .str t2]) = H7
    intro u2 f2
    walk_at "r"
    refine ⟨by show 2 ≤ sizeLine; decide, fun k3 hk3 => ?_⟩
    have u3 : Same H7 (upd H7 k3 (.lst [.ref k1, .ref k2])) := Same.upd hk3
    have f3 : upd H7 k3 (.lst [.ref k1, .ref k2]) k3 = some (.lst [.ref k1, .ref k2]) := upd_same
    revert u3 f3
    generalize upd H7 k3 (.lst [.ref k1, .ref k2]) = H8
    intro u3 f3
    have s38 := s35.trans (u1.trans (u2.trans u3))
    walk_at "r"
    refine ⟨a, 3, rfl, S3.same s38, by decide, fun z4 => ?_⟩
    walk_at "r"
    have ln : ∀ t : Str, nameB t = true → Has K H8 (.str t) := fun t h => ⟨_, .str _ (by have := (name_len h).2; omega)⟩
    obtain ⟨v, hv, m⟩ := atI_in (xs := ([.ref k1, .ref k2] : List V)) (i := z4 / 13 % 2) (Int.emod_nonneg _ (by decide)) (Int.emod_lt_of_pos _ (by decide))
    refine s_ix_lst (SqL.of f3) hv ?_
    walk_at "r"
    simp only [List.mem_cons, List.not_mem_nil, or_false] at m
    rcases m with rfl | rfl
    ·refine hY _ _ ⟨_, .tp [.str t0], rfl, s38, ⟨k1, rfl, SqT.of (u3 _ _ (u2 _ _ f1)), fun x hx => ?_⟩, tup_no (by show (1 : Nat) ≠ 2; decide)⟩
     rw [List.mem_singleton.mp hx]
     exact ln t0 n0
    ·refine hY _ _ ⟨_, .tp [.str t0, .str t1, .str t2], rfl, s38, ⟨k2, rfl, SqT.of (u3 _ _ f2), fun x hx => ?_⟩, tup_no (by show (3 : Nat) ≠ 2; decide)⟩
     simp only [List.mem_cons, List.not_mem_nil, or_false] at hx
     rcases hx with rfl | rfl | rfl
     ·exact ln _ n0
     ·exact ln _ n1
     ·exact ln _ n2
   ·have hne : sortS wd ≠ sortS wo := fun z => h (by rw [z]; simp)
    walk_at "r"
    exact hY _ _ ⟨ov, ot, rfl, s35, IsN.nt (hn2.same s35.t) hd2, sort_apart hb2 hne⟩
  rintro _ H4 ⟨wv, wt, rfl, s4, hwt, hwb⟩
  have pp4 := pp3.same s4
  have S4 := S3.same s4
  have e4 := s4 _ _ e3
  have hS4 : SqL K H4 a (ns.map V.int) := s4.seq hS3
  clear S3 e3 hS3 s4 pp3 hn2 q2
  walk_at "r"
  refine ⟨a, 4, rfl, S4, by decide, fun fr => ?_⟩
  have lw := many_one hpt
  have ls : (Str.ofString "s").length = 1 := by decide +kernel
  obtain ⟨wu, asc⟩ := word_u hpt
  have lu : (⟨wd.cps.map PyProof.Rows.up1⟩ : Str).length = wd.length := by simp [Str.length]
  walk_at "r"
  refine s_add_str (by omega) ?_
  walk_at "r"
  refine ⟨rfl, wd, rfl, rfl, asc, by omega, ?_⟩
  walk_at "r"
  refine ⟨by show 1 ≤ sizeLine; decide, fun k1 hk1 => ?_⟩
  have u1 : Same H4 (upd H4 k1 (.tup [.str wd])) := Same.upd hk1
  have f1 : upd H4 k1 (.tup [.str wd]) k1 = some (.tup [.str wd]) := upd_same
  revert u1 f1
  generalize upd H4 k1 (.tup [.str wd]) = H5
  intro u1 f1
  walk_at "r"
  refine ⟨by show 6 ≤ sizeLine; decide, fun k2 hk2 => ?_⟩
  have u2 : Same H5 (upd H5 k2 (.lst [.str (wd ++ ("s" : Str)), .str ⟨wd.cps.map PyProof.Rows.up1⟩, .str (Str.ofString ""), .ref k1, .non, .str (Str.ofString "hole")])) := Same.upd hk2
  have f2 : upd H5 k2 (.lst [.str (wd ++ ("s" : Str)), .str ⟨wd.cps.map PyProof.Rows.up1⟩, .str (Str.ofString ""), .ref k1, .non, .str (Str.ofString "hole")]) k2 = some (.lst [.str (wd ++ ("s" : Str)), .str ⟨wd.cps.map PyProof.Rows.up1⟩, .str (Str.ofString ""), .ref k1, .non, .str (Str.ofString "hole")]) := upd_same
  revert u2 f2
  generalize upd H5 k2 (.lst [.str (wd ++ ("s" : Str)), .str ⟨wd.cps.map PyProof.Rows.up1⟩, .str (Str.ofString ""), .ref k1, .non, .str (Str.ofString "hole")]) = H6
  intro u2 f2
  have s46 := u1.trans u2
  walk_at "r"
  obtain ⟨bv, hv, m⟩ := atI_in (xs := ([.str (wd ++ ("s" : Str)), .str ⟨wd.cps.map PyProof.Rows.up1⟩, .str (Str.ofString ""), .ref k1, .non, .str (Str.ofString "hole")] : List V)) (i := fr % 6) (Int.emod_nonneg _ (by decide)) (Int.emod_lt_of_pos _ (by decide))
  refine s_ix_lst (SqL.of f2) hv ?_
  have hbv : Has K H6 bv ∧ wordV bv = false := by
   simp only [List.mem_cons, List.not_mem_nil, or_false] at m
   rcases m with rfl | rfl | rfl | rfl | rfl | rfl
   ·exact ⟨⟨_, .str _ (by rw [Str.length_append]; omega)⟩, word_s hpt⟩
   ·exact ⟨⟨_, .str _ (by omega)⟩, wu⟩
   ·exact ⟨⟨_, .str _ (by decide +kernel)⟩, by decide +kernel⟩
   ·exact ⟨⟨_, .tup (SqT.of (u2 _ _ f1))⟩, rfl⟩
   ·exact ⟨⟨_, .non⟩, rfl⟩
   ·exact ⟨⟨_, .str _ (by decide +kernel)⟩, by decide +kernel⟩
  clear m hv f2 f1
  have pp6 := pp4.same s46
  have hwt6 := hwt.same s46
  have e6 := s46 _ _ e4
  have hS6 : SqL K H6 a (ns.map V.int) := s46.seq hS4
  clear pp4 hwt e4 hS4 S4 u1 u2 s46
  walk_at "r"
  have ec : cutV (ns.map V.int) (some 5) (some 25) = ((ns.drop 5).take 20).map V.int := by
   rw [show cutV (ns.map V.int) (some 5) (some 25) = ((ns.map V.int).drop 5).take (25 - 5) from cutV_fromto _ 5 25, List.map_take, List.map_drop]
  refine s_sl_lst hS6 fun k3 hk3 => ?_
  rw [ec]
  have u3 : Same H6 (upd H6 k3 (.lst (((ns.drop 5).take 20).map V.int))) := Same.upd hk3
  have f3 : upd H6 k3 (.lst (((ns.drop 5).take 20).map V.int)) k3 = some (.lst (((ns.drop 5).take 20).map V.int)) := upd_same
  revert u3 f3
  generalize upd H6 k3 (.lst (((ns.drop 5).take 20).map V.int)) = H7
  intro u3 f3
  have l20 : ((ns.drop 5).take 20).length ≤ 20 := by rw [List.length_take]; omega
  walk_at "r"
  refine ⟨k3, pn, _, t0, t1, t2, rfl, SqL.of f3, by omega, SqL.of (u3 _ _ e6), n0, n1, n2, fun tv t H8 s8 ht ok hsz hdp => ?_⟩
  have s68 := u3.trans s8
  have ff8 : FF K H8 tv t := ⟨ht, ok, by omega, by omega⟩
  have pp8 := pp6.same s68
  have hwt8 := hwt6.same s68
  have hb8 := hbv.1.same s68
  walk_at "r"
  refine ⟨wd, nv, wv, bv, tv, n, d, nt, wt, t, rfl, pp8, hwt8, hwb, hb8, hbv.2, ff8, fun H9 s9 => ?_⟩
  walk_at "r"
  refine ⟨wd, nv, wv, tv, fr, n, d, nt, wt, t, rfl, pp8.same s9, hwt8.same s9, hwb, ff8.same s9, by omega, by omega, fun H10 s10 => ?_⟩
  have s810 := s9.trans s10
  have ff10 := ff8.same s810
  obtain ⟨htr, _, _, _⟩ := id ff10
  cases htr with
  | @mk b pp wd2 nv2 d2 vs ts qb hn2' qp hl2 hch =>
  walk_at "r"
  refine s_ix_tup qb rfl ?_
  walk_at "r"
  refine s_len_tup qp ?_
  walk_at "r"
  have f10 : 0 ≤ fr % 10 ^ Int.toNat 18 := Int.emod_nonneg _ (by decide)
  have f11 : 0 ≤ fr % 1000 := Int.emod_nonneg _ (by decide)
  generalize fr % 10 ^ Int.toNat 18 = y1 at f10 ⊢
  generalize fr % 1000 = y2 at f11 ⊢
  refine ⟨by show 4 ≤ sizeLine; decide, fun k4 hk4 => ?_⟩
  have u4 : Same H10 (upd H10 k4 (.lst [.int (vs.length : Nat), .int (-1), .int ((vs.length : Nat) + y1), .int (-1 - y2)])) := Same.upd hk4
  have f4 : upd H10 k4 (.lst [.int (vs.length : Nat), .int (-1), .int ((vs.length : Nat) + y1), .int (-1 - y2)]) k4 = some (.lst [.int (vs.length : Nat), .int (-1), .int ((vs.length : Nat) + y1), .int (-1 - y2)]) := upd_same
  revert u4 f4
  generalize upd H10 k4 (.lst [.int (vs.length : Nat), .int (-1), .int ((vs.length : Nat) + y1), .int (-1 - y2)]) = H11
  intro u4 f4
  walk_at "r"
  refine ⟨.ref b, .mk wd2 d2 ts, k4, [((vs.length : Nat) : Int), -1, ((vs.length : Nat) : Int) + y1, -1 - y2], rfl, ff10.same u4, f4, fun x hx => ?_, by show 4 ≤ 100; decide, fun H12 _ => ?_⟩
  ·show x < 0 ∨ ((ts.length : Nat) : Int) ≤ x
   simp only [List.mem_cons, List.not_mem_nil, or_false] at hx
   rcases hx with rfl | rfl | rfl | rfl
   ·right; omega
   ·left; omega
   ·right; omega
   ·left; omega
  ·walk_at "r"
   exact q _
end
end K22
namespace K22
open PySem L2 K10
theorem calm {P : Program} {w : World} {K : W.Frag} {mg : Str → Option Value} {base : Heap} {k : Nat} {f : Addr} {fd : FuncData} {ps : List Str} {sp : Sp} (F : FnOk P w K mg base (CXR P w) k f fd ps sp) : FnOk P w K mg base CX0 k f fd ps (fun vs H Q _ => sp vs H Q E0) := by
 refine ⟨fun vs H Q E h => F.len vs H Q E0 h, fun A outer s H args us vs Q E hr he hb hv h => codeAny_mono (F.run A outer s H args us vs Q E0 hr he hb hv h) fun r s' hq => ?_⟩
 cases r with
 | error e =>
  obtain ⟨_, _, _, _, _, _, _, _, _, _, _, _, _, _, _, x⟩ := hq
  exact x.elim
 | ok fl =>
  cases fl with
  | ret u => exact hq
  | _ => exact hq.elim
section
variable {K : W.Frag} {TD : Addr} {o1 : Option Addr} {n1 : Nat} {s1 : Array (Option Value)} {tk : Tok} {kV doc pm cdv ct : Value} {an : Option Addr}
theorem kbK1 (ho : K.lookup TD = some ⟨.type "tuple", o1, .seq #[.int 0 tk] n1, s1⟩) : KBinds K (W.fnOf "__init__" "Keep.__init__" (defArgs s_Keep_init) (defBody s_Keep_init) (defScope s_Keep_init) (.ref TD) kV doc pm an cdv ct) ["self", "at"] [] (fun us _ => us) (fun vs _ => vs) :=
 ⟨fun s us ws X hl => by
  match us, (show us.length = 2 by simpa using hl) with
  | [a, b], _ => exact W.binds_K X rfl ho rfl rfl rfl, fun h _ => h⟩
theorem kbK0 (ho : K.lookup TD = some ⟨.type "tuple", o1, .seq #[.int 0 tk] n1, s1⟩) : KBinds K (W.fnOf "__init__" "Keep.__init__" (defArgs s_Keep_init) (defBody s_Keep_init) (defScope s_Keep_init) (.ref TD) kV doc pm an cdv ct) ["self", "at"] [] (fun us _ => us ++ [.int 0 tk]) (fun vs _ => vs ++ [.int 0]) :=
 ⟨fun s us ws X hl => by
  match us, (show us.length = 1 by simpa using hl) with
  | [a], _ => exact W.binds_K X rfl ho rfl rfl rfl, fun h _ => h.append (.cons ⟨_, rfl⟩ .nil)⟩
theorem kbKa (ho : K.lookup TD = some ⟨.type "tuple", o1, .seq #[.int 0 tk] n1, s1⟩) : KBinds K (W.fnOf "__init__" "Keep.__init__" (defArgs s_Keep_init) (defBody s_Keep_init) (defScope s_Keep_init) (.ref TD) kV doc pm an cdv ct) ["self", "at"] ["at"] gKat gKat :=
 ⟨fun s us ws X hl => by
  match us, ws, hl with
  | [a], [b], _ => exact W.binds_K X rfl ho rfl rfl rfl, fun h1 h2 => by
  cases h1 with
  | nil => exact .nil
  | cons r0 t0 =>
   cases t0 with
   | cons _ _ => exact .nil
   | nil =>
    cases h2 with
    | nil => exact .nil
    | cons w0 u0 =>
     cases u0 with
     | cons _ _ => exact .nil
     | nil => exact .cons r0 (.cons w0 .nil)⟩
theorem kbP1 (ho : K.lookup TD = some ⟨.type "tuple", o1, .seq #[.none] n1, s1⟩) : KBinds K (W.fnOf "__init__" "Put.__init__" (defArgs s_Put_init) (defBody s_Put_init) (defScope s_Put_init) (.ref TD) kV doc pm an cdv ct) ["self", "word", "note"] [] (fun us _ => us ++ [.none]) (fun vs _ => vs ++ [.non]) :=
 ⟨fun s us ws X hl => by
  match us, (show us.length = 2 by simpa using hl) with
  | [a, b], _ => exact W.binds_K X rfl ho rfl rfl rfl, fun h _ => h.append (.cons rfl .nil)⟩
theorem kbPn (ho : K.lookup TD = some ⟨.type "tuple", o1, .seq #[.none] n1, s1⟩) : KBinds K (W.fnOf "__init__" "Put.__init__" (defArgs s_Put_init) (defBody s_Put_init) (defScope s_Put_init) (.ref TD) kV doc pm an cdv ct) ["self", "word", "note"] ["note"] gNote gNote :=
 ⟨fun s us ws X hl => by
  match us, ws, hl with
  | [a, b], [c], _ => exact W.binds_K X rfl ho rfl rfl rfl, fun h1 h2 => by
  cases h1 with
  | nil => exact .nil
  | cons r0 t0 =>
   cases t0 with
   | nil => exact .nil
   | cons r1 t1 =>
    cases t1 with
    | cons _ _ => exact .nil
    | nil =>
     cases h2 with
     | nil => exact .nil
     | cons w0 u0 =>
      cases u0 with
      | cons _ _ => exact .nil
      | nil => exact .cons r0 (.cons r1 (.cons w0 .nil))⟩
theorem kbW3 (ho : K.lookup TD = some ⟨.type "tuple", o1, .seq #[.none, .int 0 tk] n1, s1⟩) : KBinds K (W.fnOf "__init__" "Wrap.__init__" (defArgs s_Wrap_init) (defBody s_Wrap_init) (defScope s_Wrap_init) (.ref TD) kV doc pm an cdv ct) ["self", "word", "note", "at"] [] (fun us _ => us) (fun vs _ => vs) :=
 ⟨fun s us ws X hl => by
  match us, (show us.length = 4 by simpa using hl) with
  | [a, b, c, d], _ => exact W.binds_K X rfl ho rfl rfl rfl, fun h _ => h⟩
theorem kbW1 (ho : K.lookup TD = some ⟨.type "tuple", o1, .seq #[.none, .int 0 tk] n1, s1⟩) : KBinds K (W.fnOf "__init__" "Wrap.__init__" (defArgs s_Wrap_init) (defBody s_Wrap_init) (defScope s_Wrap_init) (.ref TD) kV doc pm an cdv ct) ["self", "word", "note", "at"] [] (fun us _ => us ++ [.none, .int 0 tk]) (fun vs _ => vs ++ [.non, .int 0]) :=
 ⟨fun s us ws X hl => by
  match us, (show us.length = 2 by simpa using hl) with
  | [a, b], _ => exact W.binds_K X rfl ho rfl rfl rfl, fun h _ => h.append (.cons rfl (.cons ⟨_, rfl⟩ .nil))⟩
theorem kbW2 (ho : K.lookup TD = some ⟨.type "tuple", o1, .seq #[.none, .int 0 tk] n1, s1⟩) : KBinds K (W.fnOf "__init__" "Wrap.__init__" (defArgs s_Wrap_init) (defBody s_Wrap_init) (defScope s_Wrap_init) (.ref TD) kV doc pm an cdv ct) ["self", "word", "note", "at"] [] (fun us _ => us ++ [.int 0 tk]) (fun vs _ => vs ++ [.int 0]) :=
 ⟨fun s us ws X hl => by
  match us, (show us.length = 3 by simpa using hl) with
  | [a, b, c], _ => exact W.binds_K X rfl ho rfl rfl rfl, fun h _ => h.append (.cons ⟨_, rfl⟩ .nil)⟩
theorem kbWa (ho : K.lookup TD = some ⟨.type "tuple", o1, .seq #[.none, .int 0 tk] n1, s1⟩) : KBinds K (W.fnOf "__init__" "Wrap.__init__" (defArgs s_Wrap_init) (defBody s_Wrap_init) (defScope s_Wrap_init) (.ref TD) kV doc pm an cdv ct) ["self", "word", "note", "at"] ["at"] gWatU gWat :=
 ⟨fun s us ws X hl => by
  match us, ws, hl with
  | [a, b], [c], _ => exact W.binds_K X rfl ho rfl rfl rfl, fun h1 h2 => by
  cases h1 with
  | nil => exact .nil
  | cons r0 t0 =>
   cases t0 with
   | nil => exact .nil
   | cons r1 t1 =>
    cases t1 with
    | cons _ _ => exact .nil
    | nil =>
     cases h2 with
     | nil => exact .nil
     | cons w0 u0 =>
      cases u0 with
      | cons _ _ => exact .nil
      | nil => exact .cons r0 (.cons r1 (.cons rfl (.cons w0 .nil)))⟩
end
end K22
namespace K22
open PySem L2
local macro_rules | `(tactic| walk_at "zA") => `(tactic| exact (let +zeta a := _; let +zeta b := _; let +zeta c := _; have +usedOnly q : (‹Stmt› : Stmt) = .Assign a b c := rfl; .Assign a b c))
local macro_rules | `(tactic| walk_at "zC") => `(tactic| exact (let +zeta a := _; let +zeta b := _; let +zeta c := _; let +zeta d := _; let +zeta e := _; let +zeta f := _; let +zeta g := _; let +zeta h := _; let +zeta i := _; let +zeta j := _; let +zeta k := _; have +usedOnly q : (‹Stmt› : Stmt) = .ClassDef a b c d e f g h i j k := rfl; .ClassDef a b c d e f g h i j k))
local macro_rules | `(tactic| walk_at "zF") => `(tactic| exact (let +zeta a := _; let +zeta b := _; let +zeta c := _; let +zeta d := _; let +zeta e := _; let +zeta f := _; let +zeta g := _; let +zeta h := _; let +zeta i := _; let +zeta j := _; have +usedOnly q : (‹Stmt› : Stmt) = .FunctionDef a b c d e f g h i j := rfl; .FunctionDef a b c d e f g h i j))
noncomputable def w0 : Stmt := by let +zeta s := top 0; walk_at "zA"
noncomputable def w1 : Stmt := by let +zeta s := top 1; walk_at "zC"
noncomputable def w2 : Stmt := by let +zeta s := top 2; walk_at "zC"
noncomputable def w3 : Stmt := by let +zeta s := top 3; walk_at "zC"
noncomputable def w4 : Stmt := by let +zeta s := top 4; walk_at "zC"
noncomputable def w5 : Stmt := by let +zeta s := top 5; walk_at "zA"
noncomputable def w6 : Stmt := by let +zeta s := top 6; walk_at "zA"
noncomputable def w7 : Stmt := by let +zeta s := top 7; walk_at "zA"
noncomputable def w8 : Stmt := by let +zeta s := top 8; walk_at "zA"
noncomputable def w9 : Stmt := by let +zeta s := top 9; walk_at "zA"
noncomputable def w10 : Stmt := by let +zeta s := top 10; walk_at "zA"
noncomputable def w11 : Stmt := by let +zeta s := top 11; walk_at "zA"
noncomputable def w12 : Stmt := by let +zeta s := top 12; walk_at "zF"
noncomputable def w13 : Stmt := by let +zeta s := top 13; walk_at "zF"
noncomputable def w14 : Stmt := by let +zeta s := top 14; walk_at "zF"
noncomputable def w15 : Stmt := by let +zeta s := top 15; walk_at "zF"
noncomputable def w16 : Stmt := by let +zeta s := top 16; walk_at "zF"
noncomputable def w17 : Stmt := by let +zeta s := top 17; walk_at "zF"
noncomputable def w18 : Stmt := by let +zeta s := top 18; walk_at "zF"
noncomputable def w19 : Stmt := by let +zeta s := top 19; walk_at "zF"
noncomputable def w20 : Stmt := by let +zeta s := top 20; walk_at "zF"
noncomputable def w21 : Stmt := by let +zeta s := top 21; walk_at "zF"
noncomputable def w22 : Stmt := by let +zeta s := top 22; walk_at "zF"
noncomputable def w23 : Stmt := by let +zeta s := top 23; walk_at "zF"
noncomputable def w24 : Stmt := by let +zeta s := top 24; walk_at "zA"
noncomputable def w25 : Stmt := by let +zeta s := top 25; walk_at "zF"
noncomputable def w26 : Stmt := by let +zeta s := top 26; walk_at "zF"
noncomputable def w27 : Stmt := by let +zeta s := top 27; walk_at "zA"
noncomputable def w28 : Stmt := by let +zeta s := top 28; walk_at "zF"
noncomputable def w29 : Stmt := by let +zeta s := top 29; walk_at "zF"
noncomputable def w30 : Stmt := by let +zeta s := top 30; walk_at "zC"
noncomputable def w31_0 : Stmt := by let +zeta s := (match top 31 with | .ClassDef _ _ _ b _ _ _ _ _ _ _ => b.getD 0 (.Pass ⟨0, 0, 0, 0⟩) | s => s); walk_at "zF"
noncomputable def w31_1 : Stmt := by let +zeta s := (match top 31 with | .ClassDef _ _ _ b _ _ _ _ _ _ _ => b.getD 1 (.Pass ⟨0, 0, 0, 0⟩) | s => s); walk_at "zF"
noncomputable def w31_2 : Stmt := by let +zeta s := (match top 31 with | .ClassDef _ _ _ b _ _ _ _ _ _ _ => b.getD 2 (.Pass ⟨0, 0, 0, 0⟩) | s => s); walk_at "zF"
noncomputable def w31 : Stmt := let +zeta a := _; let +zeta b := _; let +zeta c := _; let +zeta d := _; let +zeta e := _; let +zeta f := _; let +zeta g := _; let +zeta h := _; let +zeta i := _; let +zeta j := _; let +zeta k := _; have +usedOnly q : top 31 = .ClassDef a b c d e f g h i j k := rfl; .ClassDef a b c [w31_0, w31_1, w31_2] e f g h i j k
noncomputable def w32_0 : Stmt := by let +zeta s := (match top 32 with | .ClassDef _ _ _ b _ _ _ _ _ _ _ => b.getD 0 (.Pass ⟨0, 0, 0, 0⟩) | s => s); walk_at "zF"
noncomputable def w32_1 : Stmt := by let +zeta s := (match top 32 with | .ClassDef _ _ _ b _ _ _ _ _ _ _ => b.getD 1 (.Pass ⟨0, 0, 0, 0⟩) | s => s); walk_at "zF"
noncomputable def w32_2 : Stmt := by let +zeta s := (match top 32 with | .ClassDef _ _ _ b _ _ _ _ _ _ _ => b.getD 2 (.Pass ⟨0, 0, 0, 0⟩) | s => s); walk_at "zF"
noncomputable def w32 : Stmt := let +zeta a := _; let +zeta b := _; let +zeta c := _; let +zeta d := _; let +zeta e := _; let +zeta f := _; let +zeta g := _; let +zeta h := _; let +zeta i := _; let +zeta j := _; let +zeta k := _; have +usedOnly q : top 32 = .ClassDef a b c d e f g h i j k := rfl; .ClassDef a b c [w32_0, w32_1, w32_2] e f g h i j k
noncomputable def w33 : Stmt := by let +zeta s := top 33; walk_at "zC"
noncomputable def w34_0 : Stmt := by let +zeta s := (match top 34 with | .ClassDef _ _ _ b _ _ _ _ _ _ _ => b.getD 0 (.Pass ⟨0, 0, 0, 0⟩) | s => s); walk_at "zF"
noncomputable def w34_1 : Stmt := by let +zeta s := (match top 34 with | .ClassDef _ _ _ b _ _ _ _ _ _ _ => b.getD 1 (.Pass ⟨0, 0, 0, 0⟩) | s => s); walk_at "zF"
noncomputable def w34_2 : Stmt := by let +zeta s := (match top 34 with | .ClassDef _ _ _ b _ _ _ _ _ _ _ => b.getD 2 (.Pass ⟨0, 0, 0, 0⟩) | s => s); walk_at "zF"
noncomputable def w34 : Stmt := let +zeta a := _; let +zeta b := _; let +zeta c := _; let +zeta d := _; let +zeta e := _; let +zeta f := _; let +zeta g := _; let +zeta h := _; let +zeta i := _; let +zeta j := _; let +zeta k := _; have +usedOnly q : top 34 = .ClassDef a b c d e f g h i j k := rfl; .ClassDef a b c [w34_0, w34_1, w34_2] e f g h i j k
noncomputable def w35_0 : Stmt := by let +zeta s := (match top 35 with | .ClassDef _ _ _ b _ _ _ _ _ _ _ => b.getD 0 (.Pass ⟨0, 0, 0, 0⟩) | s => s); walk_at "zF"
noncomputable def w35_1 : Stmt := by let +zeta s := (match top 35 with | .ClassDef _ _ _ b _ _ _ _ _ _ _ => b.getD 1 (.Pass ⟨0, 0, 0, 0⟩) | s => s); walk_at "zF"
noncomputable def w35_2 : Stmt := by let +zeta s := (match top 35 with | .ClassDef _ _ _ b _ _ _ _ _ _ _ => b.getD 2 (.Pass ⟨0, 0, 0, 0⟩) | s => s); walk_at "zF"
noncomputable def w35 : Stmt := let +zeta a := _; let +zeta b := _; let +zeta c := _; let +zeta d := _; let +zeta e := _; let +zeta f := _; let +zeta g := _; let +zeta h := _; let +zeta i := _; let +zeta j := _; let +zeta k := _; have +usedOnly q : top 35 = .ClassDef a b c d e f g h i j k := rfl; .ClassDef a b c [w35_0, w35_1, w35_2] e f g h i j k
noncomputable def w36_0 : Stmt := by let +zeta s := (match top 36 with | .ClassDef _ _ _ b _ _ _ _ _ _ _ => b.getD 0 (.Pass ⟨0, 0, 0, 0⟩) | s => s); walk_at "zF"
noncomputable def w36_1 : Stmt := by let +zeta s := (match top 36 with | .ClassDef _ _ _ b _ _ _ _ _ _ _ => b.getD 1 (.Pass ⟨0, 0, 0, 0⟩) | s => s); walk_at "zF"
noncomputable def w36_2 : Stmt := by let +zeta s := (match top 36 with | .ClassDef _ _ _ b _ _ _ _ _ _ _ => b.getD 2 (.Pass ⟨0, 0, 0, 0⟩) | s => s); walk_at "zF"
noncomputable def w36 : Stmt := let +zeta a := _; let +zeta b := _; let +zeta c := _; let +zeta d := _; let +zeta e := _; let +zeta f := _; let +zeta g := _; let +zeta h := _; let +zeta i := _; let +zeta j := _; let +zeta k := _; have +usedOnly q : top 36 = .ClassDef a b c d e f g h i j k := rfl; .ClassDef a b c [w36_0, w36_1, w36_2] e f g h i j k
noncomputable def w37 : Stmt := by let +zeta s := top 37; walk_at "zA"
noncomputable def w38 : Stmt := by let +zeta s := top 38; walk_at "zF"
noncomputable def w39 : Stmt := by let +zeta s := top 39; walk_at "zF"
noncomputable def w40 : Stmt := by let +zeta s := top 40; walk_at "zF"
noncomputable def w41 : Stmt := by let +zeta s := top 41; walk_at "zF"
noncomputable def w42 : Stmt := by let +zeta s := top 42; walk_at "zF"
noncomputable def w43 : Stmt := by let +zeta s := top 43; walk_at "zF"
noncomputable def w44 : Stmt := by let +zeta s := top 44; walk_at "zF"
noncomputable def w45 : Stmt := by let +zeta s := top 45; walk_at "zF"
noncomputable def w46 : Stmt := by let +zeta s := top 46; walk_at "zF"
noncomputable def w47 : Stmt := by let +zeta s := top 47; walk_at "zF"
noncomputable def w48 : Stmt := by let +zeta s := top 48; walk_at "zF"
noncomputable def w49 : Stmt := by let +zeta s := top 49; walk_at "zF"
noncomputable def w50 : Stmt := by let +zeta s := top 50; walk_at "zF"
noncomputable def w51 : Stmt := by let +zeta s := top 51; walk_at "zF"
noncomputable def w52 : Stmt := by let +zeta s := top 52; walk_at "zF"
noncomputable def w53 : Stmt := by let +zeta s := top 53; walk_at "zF"
noncomputable def w54 : Stmt := by let +zeta s := top 54; walk_at "zF"
noncomputable def w55 : Stmt := by let +zeta s := top 55; walk_at "zF"
noncomputable def w56 : Stmt := by let +zeta s := top 56; walk_at "zF"
noncomputable def w57 : Stmt := by let +zeta s := top 57; walk_at "zF"
noncomputable def PWc : Program := let +zeta a := _; let +zeta b := _; let +zeta c := _; let +zeta d := _; let +zeta e := _; let +zeta f := _; let +zeta g := _; let +zeta h := _; let +zeta i := _; let +zeta j := _; have +usedOnly q : PySem.Challenge.pw_gapscribe_k22_puts_wraps_keeps = ⟨⟨a, b, c, d, e⟩, f, g, h, i, j⟩ := rfl; ⟨⟨[w0, w1, w2, w3, w4, w5, w6, w7, w8, w9, w10, w11, w12, w13, w14, w15, w16, w17, w18, w19, w20, w21, w22, w23, w24, w25, w26, w27, w28, w29, w30, w31, w32, w33, w34, w35, w36, w37, w38, w39, w40, w41, w42, w43, w44, w45, w46, w47, w48, w49, w50, w51, w52, w53, w54, w55, w56, w57], b, c, d, e⟩, f, g, h, i, j⟩
theorem e_PW : PWc = PWc := rfl
name_quick x_PW for K22.PWc by K22.e_PW
end K22
noncomputable def PySem.W.Fast.tw5604609458847047635 : PySem.Program := PySem.W.Fast.tw12992141667478620736
theorem PySem.W.Fast.te5604609458847047635 : PySem.Challenge.pw_gapscribe_k22_puts_wraps_keeps = PySem.W.Fast.tw5604609458847047635 := (rfl : PySem.Challenge.pw_gapscribe_k22_puts_wraps_keeps = K22.PWc).trans PySem.W.Fast.te12992141667478620736
namespace K22
open PySem L2
noncomputable def VWc : Program := { PySem.Challenge.pw_gapscribe_k22_puts_wraps_keeps with main := { PySem.Challenge.pw_gapscribe_k22_puts_wraps_keeps.main with body := [w1, w2, w3, w4, w6, w7, w8, w9, w10, w11, w12, w13, w14, w15, w16, w17, w18, w19, w20, w21, w22, w23, w25, w26, w28, w29, w30, w31, w32, w33, w34, w35, w36, w38, w39, w40, w41, w42, w43, w44, w45, w46, w47, w48, w49, w50, w51, w52, w53, w54, w55, w56, w57] } }
noncomputable def S0 : List Stmt := [w35]
noncomputable def S1 : List Stmt := [w34]
noncomputable def S2 : List Stmt := [w30]
noncomputable def S3 : List Stmt := [w36, w37, w38, w39]
noncomputable def S4 : List Stmt := [w33]
noncomputable def S5 : List Stmt := [w4, w5, w6]
noncomputable def S6 : List Stmt := [w32]
noncomputable def S7 : List Stmt := [w31]
noncomputable def S8 : List Stmt := [w3]
noncomputable def S9 : List Stmt := [w7, w8, w9, w10, w11, w12, w13, w14, w15, w16]
noncomputable def S10 : List Stmt := [w0, w1]
noncomputable def S11 : List Stmt := [w52, w53, w54, w55, w56, w57]
noncomputable def S12 : List Stmt := [w40, w41, w42, w43, w44, w45, w46, w47, w48, w49, w50, w51]
noncomputable def S13 : List Stmt := [w17, w18, w19, w20, w21, w22, w23, w24, w25, w26, w27, w28, w29]
noncomputable def S14 : List Stmt := [w2]
noncomputable def SB : Program × List (List Stmt) := (VWc, [S0, S1, S2, S3, S4, S5, S6, S7, S8, S9, S10, S11, S12, S13, S14])
theorem e_SB : SB = SB := rfl
name_quick x_SB for K22.SB by K22.e_SB
end K22
noncomputable def PySem.W.Fast.tw3562681802772995347 : PySem.Program := PySem.W.Fast.tw9362199533483624414
theorem PySem.W.Fast.te3562681802772995347 : K22.VWc = PySem.W.Fast.tw3562681802772995347 := PySem.W.Fast.te9362199533483624414
noncomputable def PySem.W.Fast.tw6094783211572697088 : List PySem.Stmt := PySem.W.Fast.tw17645732271040922090
theorem PySem.W.Fast.te6094783211572697088 : K22.S0 = PySem.W.Fast.tw6094783211572697088 := PySem.W.Fast.te17645732271040922090
noncomputable def PySem.W.Fast.tw14231421799671766466 : List PySem.Stmt := PySem.W.Fast.tw10787741631166646287
theorem PySem.W.Fast.te14231421799671766466 : K22.S1 = PySem.W.Fast.tw14231421799671766466 := PySem.W.Fast.te10787741631166646287
noncomputable def PySem.W.Fast.tw14747304007431011810 : List PySem.Stmt := PySem.W.Fast.tw11099638284541498528
theorem PySem.W.Fast.te14747304007431011810 : K22.S2 = PySem.W.Fast.tw14747304007431011810 := PySem.W.Fast.te11099638284541498528
noncomputable def PySem.W.Fast.tw6630415720318875076 : List PySem.Stmt := PySem.W.Fast.tw3489698492737346894
theorem PySem.W.Fast.te6630415720318875076 : K22.S3 = PySem.W.Fast.tw6630415720318875076 := PySem.W.Fast.te3489698492737346894
noncomputable def PySem.W.Fast.tw7069487935487755365 : List PySem.Stmt := PySem.W.Fast.tw10545602552386354019
theorem PySem.W.Fast.te7069487935487755365 : K22.S4 = PySem.W.Fast.tw7069487935487755365 := PySem.W.Fast.te10545602552386354019
noncomputable def PySem.W.Fast.tw1304792781510215111 : List PySem.Stmt := PySem.W.Fast.tw14303280485325091275
theorem PySem.W.Fast.te1304792781510215111 : K22.S5 = PySem.W.Fast.tw1304792781510215111 := PySem.W.Fast.te14303280485325091275
noncomputable def PySem.W.Fast.tw8924693935019509512 : List PySem.Stmt := PySem.W.Fast.tw6580723665723187794
theorem PySem.W.Fast.te8924693935019509512 : K22.S6 = PySem.W.Fast.tw8924693935019509512 := PySem.W.Fast.te6580723665723187794
noncomputable def PySem.W.Fast.tw8598948639689995788 : List PySem.Stmt := PySem.W.Fast.tw4300479132906737618
theorem PySem.W.Fast.te8598948639689995788 : K22.S7 = PySem.W.Fast.tw8598948639689995788 := PySem.W.Fast.te4300479132906737618
noncomputable def PySem.W.Fast.tw10516167608038111981 : List PySem.Stmt := PySem.W.Fast.tw454693583387335909
theorem PySem.W.Fast.te10516167608038111981 : K22.S8 = PySem.W.Fast.tw10516167608038111981 := PySem.W.Fast.te454693583387335909
noncomputable def PySem.W.Fast.tw7489117314315359278 : List PySem.Stmt := PySem.W.Fast.tw12786868782332001182
theorem PySem.W.Fast.te7489117314315359278 : K22.S9 = PySem.W.Fast.tw7489117314315359278 := PySem.W.Fast.te12786868782332001182
noncomputable def PySem.W.Fast.tw16320274298477961391 : List PySem.Stmt := PySem.W.Fast.tw16581923682438115491
theorem PySem.W.Fast.te16320274298477961391 : K22.S10 = PySem.W.Fast.tw16320274298477961391 := PySem.W.Fast.te16581923682438115491
noncomputable def PySem.W.Fast.tw13856594226374131985 : List PySem.Stmt := PySem.W.Fast.tw4795407955811516326
theorem PySem.W.Fast.te13856594226374131985 : K22.S11 = PySem.W.Fast.tw13856594226374131985 := PySem.W.Fast.te4795407955811516326
noncomputable def PySem.W.Fast.tw15642658319555345652 : List PySem.Stmt := PySem.W.Fast.tw10245385216496123907
theorem PySem.W.Fast.te15642658319555345652 : K22.S12 = PySem.W.Fast.tw15642658319555345652 := PySem.W.Fast.te10245385216496123907
noncomputable def PySem.W.Fast.tw15352125013857271477 : List PySem.Stmt := PySem.W.Fast.tw18178584246734061775
theorem PySem.W.Fast.te15352125013857271477 : K22.S13 = PySem.W.Fast.tw15352125013857271477 := PySem.W.Fast.te18178584246734061775
noncomputable def PySem.W.Fast.tw14117661344210723134 : List PySem.Stmt := PySem.W.Fast.tw8310876750823464456
theorem PySem.W.Fast.te14117661344210723134 : K22.S14 = PySem.W.Fast.tw14117661344210723134 := PySem.W.Fast.te8310876750823464456
namespace K22
open PySem L2 PySem.W
noncomputable def zs (i j : Nat) : Stmt := match top i with | .ClassDef _ _ _ b _ _ _ _ _ _ _ => b.getD j (.Pass ⟨0, 0, 0, 0⟩) | s => s
noncomputable def ze (P : Params) (s : Str) (t : Tok) (v : Value) : DictEntry := ⟨PyData.keyHash P s, .str s t, v⟩
noncomputable abbrev B := W.BT
noncomputable def evb (l : List Obj) : Bool → List Obj := @List.rec Obj (fun _ => Bool → List Obj) (fun _ => []) (fun a _ ih b => @Bool.rec (fun _ => List Obj) (ih true) (a :: ih false) b) l
noncomputable def tO (l : List Obj) : B := @Nat.rec (fun _ => List Obj → B) (fun _ => .nil) (fun _ ih l => @List.rec Obj (fun _ => B) .nil (fun x r _ => .node x (ih (evb r true)) (ih (evb r false))) l) 12 l
noncomputable def zv : List (Str × Tok) → List Value
 | [] => []
 | (a, b) :: t => .str a b :: zv t
noncomputable def zu (l : List (Str × Tok)) : Obj := ⟨.type "tuple", none, .seq ⟨zv l⟩, #[]⟩
noncomputable def zt (c : String) (d : Data) : Obj := ⟨.type c, none, d, #[]⟩
noncomputable def zf (n q : Str) (s : Stmt) (m : Str) (t : Tok) (c : Addr) : Obj := ⟨.type "function", none, .func (W.fnOf n q (defArgs s) (defBody s) (defScope s) .none .none .none (.str m t) none (.ref c) .none), #[]⟩
noncomputable def zh (n q : Str) (s : Stmt) : Obj := ⟨.none, none, .func ⟨n, q, defArgs s, .stmts (defBody s), defScope s, 0, [], .none, .none, .none, .none, none, .none, .none, 0⟩, #[]⟩
noncomputable def zk (n q : Str) (t : Tok) (l a g : Int) (r : Addr) (b : Bool) (x : Value) (u : Int) (v : Tok) : Obj := ⟨.type "code", none, .fields #[.str n t, .str q (t + 1), .str "/claim/cut.py" (t + 2), .int l 0, .int a 0, .int 0 0, .int 0 0, .int g 0, .ref r, .bool b, .int 181 0, .ref (r + 1), .none, .none, .none, x, .int u 0, .int l 0, .str "/claim/cut.py" v], #[]⟩
noncomputable def zw : List (Int × Int × Addr) → List Value
 | [] => []
 | (a, b, c) :: t => .int a 0 :: .int b 0 :: .ref c :: zw t
noncomputable def zy (l : List (Int × Int × Addr)) : Obj := ⟨.none, none, .fields ⟨zw l⟩, #[]⟩
noncomputable def zc (n q : Str) (t : Tok) (l a g : Int) (r : Addr) (u : Int) (v : Tok) : Obj := ⟨.type "code", none, .fields #[.str n t, .str q (t + 1), .str "/claim/cut.py" (t + 2), .int l 0, .int a 0, .int 0 0, .int 0 0, .int g 0, .ref r, .bool true, .int 181 0, .ref (r + 1), .none, .ref (r + 2), .ref (r + 3), .ref (r + 4), .int u 0, .int l 0, .str "/claim/cut.py" v], #[]⟩
noncomputable def zb (n : Str) := zc n n
noncomputable def zi (n : Str) := zf n n
noncomputable def zj (n : Str) := zh n n
noncomputable def d0 (P : Params) : List DictEntry := [ze P "__name__" 165 (.str "gapscribe.deeds" 439), ze P "__doc__" 166 .none, ze P "__package__" 167 .none, ze P "__loader__" 168 (.builtin "__main__.__loader__#opaque"), ze P "__spec__" 169 .none, ze P "__annotations__" 170 (.ref 6), ze P "__builtins__" 171 (.ref 4), ze P "__file__" 173 (.str "/claim/cut.py" 172), ze P "__cached__" 174 .none, ze P "GapError" 206 (.ref 24), ze P "NoForm" 222 (.ref 37), ze P "NoDeed" 238 (.ref 49), ze P "NoPlace" 263 (.ref 68), ze P "GAP" 267 (.ref 72), ze P "PARTS_OF_WORDS" 307 (.ref 73), ze P "NAME_SIGNS" 309 (.str "abcdefghijklmnopqrstuvwxyz_" 308), ze P "FIGURES" 311 (.str "0123456789" 310), ze P "WORDS_NO_NAMES" 321 (.ref 74), ze P "WORDS_NOT_ODD" 332 (.ref 75), ze P "is_whole" 339 (.ref 82), ze P "is_name" 345 (.ref 87), ze P "is_figures" 351 (.ref 92), ze P "is_odd_sign" 358 (.ref 99), ze P "is_odd" 364 (.ref 104), ze P "is_word" 371 (.ref 111), ze P "is_two_names" 378 (.ref 118), ze P "is_note" 386 (.ref 125), ze P "is_top_of_form" 393 (.ref 132), ze P "is_form" 402 (.ref 139), ze P "many_parts" 409 (.ref 146), ze P "bare" 418 (.ref 153), ze P "has_part" 428 (.ref 160), ze P "with_part" 438 (.ref 167), ze P "refuse_no_form" 447 (.ref 174), ze P "refuse_no_gap" 454 (.ref 181), ze P "Deed" 490 (.ref 205), ze P "Put" 532 (.ref 241), ze P "Fill" 573 (.ref 274), ze P "Cut" 605 (.ref 300)]
noncomputable def z0 (P : Params) : Obj := zt "dict" (.dict ⟨d0 P⟩ 39)
noncomputable def z1 : Obj := zt "tuple" (.seq #[])
noncomputable def z2 : Obj := zy [(2, 0, 20), (4, 0, 33), (6, 0, 45), (8, 0, 57), (19, 0, 81), (21, 0, 86), (25, 0, 91), (29, 0, 98), (31, 0, 103), (37, 0, 110), (39, 0, 117), (41, 0, 124), (53, 0, 131), (59, 0, 138), (67, 0, 145), (71, 0, 152), (77, 0, 159), (79, 0, 166), (83, 0, 173), (86, 0, 180), (89, 0, 187), (96, 0, 215), (110, 0, 249), (125, 0, 282)]
noncomputable def z3 : Obj := zk "<module>" "<module>" 182 1 0 0 11 false .none 185 186
noncomputable def z4 : Obj := Obj.mk (.type "frame") none Data.plain #[some (.ref 13), some (.ref 3), some (.ref 3), none, some (.str "__main__" 164), none, some (.ref 0)]
noncomputable def z5 : Obj := zt "tuple" (.seq #[.type "ValueError"])
noncomputable def h0_0 (P : Params) (t : List Obj) : List Obj := (boot_o_0 P) :: (boot_o_1 P) :: (boot_o_2 P) :: (z0 P) :: (boot_o_4 P) :: (boot_o_5 P) :: (boot_o_6 P) :: (boot_o_7 P) :: (boot_o_8 P) :: (boot_o_9 P) :: (boot_o_10 P) :: z1 :: z2 :: z3 :: z4 :: z5 :: t
noncomputable def z6 : Obj := zt "builtin_function_or_method" (.fields #[.builtin "type.__prepare__", .type "type"])
noncomputable def z7 (P : Params) : Obj := zt "dict" (.dict #[ze P "__module__" 196 (.str "gapscribe.errors" 187), ze P "__qualname__" 198 (.str "GapError" 197), ze P "__firstlineno__" 200 (.int 2 199), ze P "__static_attributes__" 201 (.ref 22)] 4)
noncomputable def z8 : Obj := Obj.mk .none none (.fields #[]) #[]
noncomputable def z9 : Obj := zk "GapError" "GapError" 191 2 0 0 18 false .none 194 195
noncomputable def z10 : Obj := Obj.mk (.type "frame") none Data.plain #[some (.ref 20), some (.ref 3), some (.ref 17), none, some (.str "gapscribe.errors" 187), none, some (.ref 0)]
noncomputable def z11 (P : Params) : Obj := zt "dict" (.dict #[ze P "__module__" 196 (.str "gapscribe.errors" 187), ze P "__firstlineno__" 200 (.int 2 199), ze P "__static_attributes__" 201 (.ref 22), ze P "__weakref__" 203 (.ref 25), ze P "__doc__" 204 .none] 3)
noncomputable def z12 : Obj := Obj.mk (.type "type") none (.cls (ClassData.mk "GapError" [.type "ValueError"] [.ref 24, .type "ValueError", .type "Exception", .type "BaseException", .type "object"] 23 "GapError" true [] [.ref 37, .ref 49, .ref 68] false none false)) #[some (.ref 15), none, some (.str "GapError" 189), some (.str "GapError" 197), some (.builtin "ValueError.__new__"), some (.bool true)]
noncomputable def z13 : Obj := zt "getset_descriptor" (.fields #[.str "__weakref__" 202, .ref 24, .builtin "ExceptionGroup.__weakref__", .none])
noncomputable def z14 : Obj := zt "super" (.fields #[.ref 24, .ref 24, .ref 24])
noncomputable def z15 : Obj := zt "builtin_function_or_method" (.fields #[.builtin "object.__init_subclass__", .ref 24])
noncomputable def z16 : Obj := zt "tuple" (.seq #[.ref 24])
noncomputable def z17 (P : Params) : Obj := zt "dict" (.dict #[ze P "__module__" 214 (.str "gapscribe.errors" 187), ze P "__qualname__" 216 (.str "NoForm" 215), ze P "__firstlineno__" 218 (.int 4 217), ze P "__static_attributes__" 219 (.ref 35)] 4)
noncomputable def h1_0 (P : Params) (t : List Obj) : List Obj := z6 :: (z7 P) :: z1 :: z8 :: z9 :: z10 :: z1 :: (z11 P) :: z12 :: z13 :: z14 :: z15 :: z16 :: z6 :: (z17 P) :: z1 :: t
noncomputable def z18 : Obj := zk "NoForm" "NoForm" 209 4 0 0 31 false .none 212 213
noncomputable def z19 : Obj := Obj.mk (.type "frame") none Data.plain #[some (.ref 33), some (.ref 3), some (.ref 30), none, some (.str "gapscribe.errors" 187), none, some (.ref 0)]
noncomputable def z20 (P : Params) : Obj := zt "dict" (.dict #[ze P "__module__" 214 (.str "gapscribe.errors" 187), ze P "__firstlineno__" 218 (.int 4 217), ze P "__static_attributes__" 219 (.ref 35), ze P "__doc__" 220 .none] 2)
noncomputable def z21 : Obj := Obj.mk (.type "type") none (.cls (ClassData.mk "NoForm" [.ref 24] [.ref 37, .ref 24, .type "ValueError", .type "Exception", .type "BaseException", .type "object"] 36 "NoForm" true [] [] false none false)) #[some (.ref 28), none, some (.str "NoForm" 207), some (.str "NoForm" 215), some (.builtin "ValueError.__new__"), some (.bool true)]
noncomputable def z22 : Obj := zt "super" (.fields #[.ref 37, .ref 37, .ref 37])
noncomputable def z23 : Obj := zt "builtin_function_or_method" (.fields #[.builtin "object.__init_subclass__", .ref 37])
noncomputable def z24 (P : Params) : Obj := zt "dict" (.dict #[ze P "__module__" 230 (.str "gapscribe.errors" 187), ze P "__qualname__" 232 (.str "NoDeed" 231), ze P "__firstlineno__" 234 (.int 6 233), ze P "__static_attributes__" 235 (.ref 47)] 4)
noncomputable def z25 : Obj := zk "NoDeed" "NoDeed" 225 6 0 0 43 false .none 228 229
noncomputable def z26 : Obj := Obj.mk (.type "frame") none Data.plain #[some (.ref 45), some (.ref 3), some (.ref 42), none, some (.str "gapscribe.errors" 187), none, some (.ref 0)]
noncomputable def h2_0 (P : Params) (t : List Obj) : List Obj := z8 :: z18 :: z19 :: z1 :: (z20 P) :: z21 :: z22 :: z23 :: z16 :: z6 :: (z24 P) :: z1 :: z8 :: z25 :: z26 :: z1 :: t
noncomputable def z27 (P : Params) : Obj := zt "dict" (.dict #[ze P "__module__" 230 (.str "gapscribe.errors" 187), ze P "__firstlineno__" 234 (.int 6 233), ze P "__static_attributes__" 235 (.ref 47), ze P "__doc__" 236 .none] 2)
noncomputable def z28 : Obj := Obj.mk (.type "type") none (.cls (ClassData.mk "NoDeed" [.ref 24] [.ref 49, .ref 24, .type "ValueError", .type "Exception", .type "BaseException", .type "object"] 48 "NoDeed" true [] [] false none false)) #[some (.ref 40), none, some (.str "NoDeed" 223), some (.str "NoDeed" 231), some (.builtin "ValueError.__new__"), some (.bool true)]
noncomputable def z29 : Obj := zt "super" (.fields #[.ref 49, .ref 49, .ref 49])
noncomputable def z30 : Obj := zt "builtin_function_or_method" (.fields #[.builtin "object.__init_subclass__", .ref 49])
noncomputable def d1 (P : Params) : List DictEntry := [ze P "__module__" 246 (.str "gapscribe.errors" 187), ze P "__qualname__" 248 (.str "NoPlace" 247), ze P "__firstlineno__" 250 (.int 8 249), ze P "__init__" 258 (.ref 65), ze P "__static_attributes__" 260 (.ref 66)]
noncomputable def z31 (P : Params) : Obj := zt "dict" (.dict ⟨d1 P⟩ 5)
noncomputable def z32 : Obj := zy [(10, 4, 64)]
noncomputable def z33 : Obj := zk "NoPlace" "NoPlace" 241 8 0 0 55 false .none 244 245
noncomputable def z34 : Obj := Obj.mk (.type "frame") none Data.plain #[some (.ref 57), some (.ref 3), some (.ref 54), none, some (.str "gapscribe.errors" 187), none, some (.ref 0)]
noncomputable def z35 : Obj := zu [("self", 254), ("place", 255)]
noncomputable def z36 : Obj := zh "__init__" "NoPlace.__init__" (match top 4 with | .ClassDef _ _ _ b _ _ _ _ _ _ _ => b.getD 0 (.Pass ⟨0, 0, 0, 0⟩) | s => s)
noncomputable def h3_0 (P : Params) (t : List Obj) : List Obj := (z27 P) :: z28 :: z29 :: z30 :: z16 :: z6 :: (z31 P) :: z1 :: z32 :: z33 :: z34 :: z1 :: z8 :: z35 :: z1 :: z36 :: t
noncomputable def z37 : Obj := zc "__init__" "NoPlace.__init__" 251 10 2 3 59 256 257
noncomputable def z38 : Obj := zf "__init__" "NoPlace.__init__" (match top 4 with | .ClassDef _ _ _ b _ _ _ _ _ _ _ => b.getD 0 (.Pass ⟨0, 0, 0, 0⟩) | s => s) "gapscribe.errors" 187 64
noncomputable def z39 : Obj := zu [("place", 259)]
noncomputable def z40 (P : Params) : Obj := zt "dict" (.dict #[ze P "__module__" 246 (.str "gapscribe.errors" 187), ze P "__firstlineno__" 250 (.int 8 249), ze P "__init__" 258 (.ref 65), ze P "__static_attributes__" 260 (.ref 66), ze P "__doc__" 261 .none] 2)
noncomputable def z41 : Obj := Obj.mk (.type "type") none (.cls (ClassData.mk "NoPlace" [.ref 24] [.ref 68, .ref 24, .type "ValueError", .type "Exception", .type "BaseException", .type "object"] 67 "NoPlace" true [] [] false none false)) #[some (.ref 52), none, some (.str "NoPlace" 239), some (.str "NoPlace" 247), some (.builtin "ValueError.__new__"), some (.bool true)]
noncomputable def z42 : Obj := zt "super" (.fields #[.ref 68, .ref 68, .ref 68])
noncomputable def z43 : Obj := zt "builtin_function_or_method" (.fields #[.builtin "object.__init_subclass__", .ref 68])
noncomputable def z44 : Obj := zt "tuple" (.seq #[.str "gap" 266, .none, .ref 71])
noncomputable def d2 (P : Params) : List DictEntry := [ze P "gap" 268 (.int 0 269), ze P "odd" 270 (.int 0 271), ze P "num" 272 (.int 0 273), ze P "truth" 274 (.int 0 275), ze P "name" 276 (.int 0 277), ze P "plus" 278 (.int 2 279), ze P "minus" 280 (.int 2 281), ze P "less" 282 (.int 2 283), ze P "call" 284 (.int 2 285), ze P "if" 286 (.int 3 287), ze P "fn" 288 (.int 1 289), ze P "rec" 290 (.int 1 291), ze P "let" 292 (.int 2 293)]
noncomputable def z45 (P : Params) : Obj := zt "dict" (.dict ⟨d2 P⟩ 13)
noncomputable def z46 : Obj := zu [("let", 312), ("in", 313), ("if", 314), ("then", 315), ("else", 316), ("fn", 317), ("rec", 318), ("yes", 319), ("no", 320)]
noncomputable def z47 : Obj := zu [("let", 322), ("if", 323), ("fn", 324), ("rec", 325), ("yes", 326), ("no", 327), ("?", 328), ("+", 329), ("-", 330), ("<", 331)]
noncomputable def z48 : Obj := zu [("thing", 336)]
noncomputable def h4_0 (P : Params) (t : List Obj) : List Obj := z37 :: z38 :: z39 :: (z40 P) :: z41 :: z42 :: z43 :: z1 :: z44 :: (z45 P) :: z46 :: z47 :: z1 :: z8 :: z48 :: z1 :: t
noncomputable def z49 : Obj := zj "is_whole" s_is_whole
noncomputable def z50 : Obj := zb "is_whole" 333 19 1 3 76 337 338
noncomputable def z51 : Obj := zi "is_whole" s_is_whole "gapscribe.forms" 264 81
noncomputable def z52 : Obj := zj "is_name" s_is_name
noncomputable def z53 : Obj := zk "is_name" "is_name" 340 21 1 3 83 true (.ref 85) 343 344
noncomputable def z54 : Obj := zi "is_name" s_is_name "gapscribe.forms" 264 86
noncomputable def z55 : Obj := zj "is_figures" s_is_figures
noncomputable def z56 : Obj := zk "is_figures" "is_figures" 346 25 1 3 88 true (.ref 90) 349 350
noncomputable def z57 : Obj := zi "is_figures" s_is_figures "gapscribe.forms" 264 91
noncomputable def z58 : Obj := zu [("sign", 355)]
noncomputable def h5_0 (P : Params) (t : List Obj) : List Obj := z49 :: z50 :: z51 :: z1 :: z8 :: z52 :: z53 :: z54 :: z1 :: z8 :: z55 :: z56 :: z57 :: z1 :: z8 :: z58 :: t
noncomputable def z59 : Obj := zj "is_odd_sign" s_is_odd_sign
noncomputable def z60 : Obj := zb "is_odd_sign" 352 29 1 3 93 356 357
noncomputable def z61 : Obj := zi "is_odd_sign" s_is_odd_sign "gapscribe.forms" 264 98
noncomputable def z62 : Obj := zj "is_odd" s_is_odd
noncomputable def z63 : Obj := zk "is_odd" "is_odd" 359 31 1 3 100 true (.ref 102) 362 363
noncomputable def z64 : Obj := zi "is_odd" s_is_odd "gapscribe.forms" 264 103
noncomputable def z65 : Obj := zu [("thing", 368)]
noncomputable def z66 : Obj := zj "is_word" s_is_word
noncomputable def z67 : Obj := zb "is_word" 365 37 1 3 105 369 370
noncomputable def z68 : Obj := zi "is_word" s_is_word "gapscribe.forms" 264 110
noncomputable def h6_0 (P : Params) (t : List Obj) : List Obj := z1 :: z59 :: z60 :: z61 :: z1 :: z8 :: z62 :: z63 :: z64 :: z1 :: z8 :: z65 :: z1 :: z66 :: z67 :: z68 :: t
noncomputable def z69 : Obj := zu [("thing", 375)]
noncomputable def z70 : Obj := zj "is_two_names" s_is_two_names
noncomputable def z71 : Obj := zb "is_two_names" 372 39 1 3 112 376 377
noncomputable def z72 : Obj := zi "is_two_names" s_is_two_names "gapscribe.forms" 264 117
noncomputable def z73 : Obj := zu [("word", 382), ("note", 383)]
noncomputable def z74 : Obj := zj "is_note" s_is_note
noncomputable def z75 : Obj := zb "is_note" 379 41 2 3 119 384 385
noncomputable def z76 : Obj := zi "is_note" s_is_note "gapscribe.forms" 264 124
noncomputable def h7_0 (P : Params) (t : List Obj) : List Obj := z1 :: z8 :: z69 :: z1 :: z70 :: z71 :: z72 :: z1 :: z8 :: z73 :: z1 :: z74 :: z75 :: z76 :: z1 :: z8 :: t
noncomputable def z77 : Obj := zu [("thing", 390)]
noncomputable def z78 : Obj := zj "is_top_of_form" s_is_top_of_form
noncomputable def z79 : Obj := zb "is_top_of_form" 387 53 1 3 126 391 392
noncomputable def z80 : Obj := zi "is_top_of_form" s_is_top_of_form "gapscribe.forms" 264 131
noncomputable def z81 : Obj := zu [("thing", 397), ("waiting", 398), ("top", 399)]
noncomputable def z82 : Obj := zj "is_form" s_is_form
noncomputable def z83 : Obj := zb "is_form" 394 59 1 3 133 400 401
noncomputable def z84 : Obj := zi "is_form" s_is_form "gapscribe.forms" 264 138
noncomputable def z85 : Obj := zu [("word", 406)]
noncomputable def h8_0 (P : Params) (t : List Obj) : List Obj := z77 :: z1 :: z78 :: z79 :: z80 :: z1 :: z8 :: z81 :: z1 :: z82 :: z83 :: z84 :: z1 :: z8 :: z85 :: z1 :: t
noncomputable def z86 : Obj := zj "many_parts" s_many_parts
noncomputable def z87 : Obj := zb "many_parts" 403 67 1 3 140 407 408
noncomputable def z88 : Obj := zi "many_parts" s_many_parts "gapscribe.forms" 264 145
noncomputable def z89 : Obj := zu [("word", 413), ("note", 414), ("many", 415)]
noncomputable def z90 : Obj := zj "bare" s_bare
noncomputable def z91 : Obj := zb "bare" 410 71 2 3 147 416 417
noncomputable def z92 : Obj := zi "bare" s_bare "gapscribe.forms" 264 152
noncomputable def z93 : Obj := zu [("form", 424), ("number", 425)]
noncomputable def z94 : Obj := zj "has_part" s_has_part
noncomputable def z95 : Obj := zb "has_part" 421 77 2 3 154 426 427
noncomputable def h9_0 (P : Params) (t : List Obj) : List Obj := z86 :: z87 :: z88 :: z1 :: z8 :: z89 :: z1 :: z90 :: z91 :: z92 :: z1 :: z8 :: z93 :: z1 :: z94 :: z95 :: t
noncomputable def z96 : Obj := zi "has_part" s_has_part "gapscribe.places" 419 159
noncomputable def z97 : Obj := zu [("form", 432), ("number", 433), ("part", 434), ("parts", 435)]
noncomputable def z98 : Obj := zj "with_part" s_with_part
noncomputable def z99 : Obj := zb "with_part" 429 79 3 3 161 436 437
noncomputable def z100 : Obj := zi "with_part" s_with_part "gapscribe.places" 419 166
noncomputable def z101 : Obj := zu [("thing", 444)]
noncomputable def z102 : Obj := zj "refuse_no_form" s_refuse_no_form
noncomputable def z103 : Obj := zb "refuse_no_form" 441 83 1 3 168 445 446
noncomputable def z104 : Obj := zi "refuse_no_form" s_refuse_no_form "gapscribe.deeds" 439 173
noncomputable def h10_0 (P : Params) (t : List Obj) : List Obj := z96 :: z1 :: z8 :: z97 :: z1 :: z98 :: z99 :: z100 :: z1 :: z8 :: z101 :: z1 :: z102 :: z103 :: z104 :: z1 :: t
noncomputable def z105 : Obj := zu [("form", 451)]
noncomputable def z106 : Obj := zj "refuse_no_gap" s_refuse_no_gap
noncomputable def z107 : Obj := zb "refuse_no_gap" 448 86 1 3 175 452 453
noncomputable def z108 : Obj := zi "refuse_no_gap" s_refuse_no_gap "gapscribe.deeds" 439 180
noncomputable def d3 (P : Params) : List DictEntry := [ze P "__module__" 462 (.str "gapscribe.deeds" 439), ze P "__qualname__" 464 (.str "Deed" 463), ze P "__firstlineno__" 466 (.int 89 465), ze P "done" 474 (.ref 195), ze P "back" 482 (.ref 202), ze P "__static_attributes__" 483 (.ref 203)]
noncomputable def z109 (P : Params) : Obj := zt "dict" (.dict ⟨d3 P⟩ 6)
noncomputable def z110 : Obj := zy [(91, 4, 194), (94, 4, 201)]
noncomputable def z111 : Obj := zk "Deed" "Deed" 457 89 0 0 185 false .none 460 461
noncomputable def z112 : Obj := Obj.mk (.type "frame") none Data.plain #[some (.ref 187), some (.ref 3), some (.ref 184), none, some (.str "gapscribe.deeds" 439), none, some (.ref 0)]
noncomputable def z113 : Obj := zu [("self", 470), ("form", 471)]
noncomputable def h11_0 (P : Params) (t : List Obj) : List Obj := z8 :: z105 :: z1 :: z106 :: z107 :: z108 :: z1 :: z6 :: (z109 P) :: z1 :: z110 :: z111 :: z112 :: z1 :: z8 :: z113 :: t
noncomputable def z114 : Obj := zh "done" "Deed.done" (match top 30 with | .ClassDef _ _ _ b _ _ _ _ _ _ _ => b.getD 0 (.Pass ⟨0, 0, 0, 0⟩) | s => s)
noncomputable def z115 : Obj := zc "done" "Deed.done" 467 91 2 3 189 472 473
noncomputable def z116 : Obj := zf "done" "Deed.done" (match top 30 with | .ClassDef _ _ _ b _ _ _ _ _ _ _ => b.getD 0 (.Pass ⟨0, 0, 0, 0⟩) | s => s) "gapscribe.deeds" 439 194
noncomputable def z117 : Obj := zu [("self", 478), ("form", 479)]
noncomputable def z118 : Obj := zh "back" "Deed.back" (match top 30 with | .ClassDef _ _ _ b _ _ _ _ _ _ _ => b.getD 1 (.Pass ⟨0, 0, 0, 0⟩) | s => s)
noncomputable def z119 : Obj := zc "back" "Deed.back" 475 94 2 3 196 480 481
noncomputable def z120 : Obj := zf "back" "Deed.back" (match top 30 with | .ClassDef _ _ _ b _ _ _ _ _ _ _ => b.getD 1 (.Pass ⟨0, 0, 0, 0⟩) | s => s) "gapscribe.deeds" 439 201
noncomputable def d4 (P : Params) : List DictEntry := [ze P "__module__" 462 (.str "gapscribe.deeds" 439), ze P "__firstlineno__" 466 (.int 89 465), ze P "done" 474 (.ref 195), ze P "back" 482 (.ref 202), ze P "__static_attributes__" 483 (.ref 203), ze P "__dict__" 485 (.ref 206), ze P "__weakref__" 487 (.ref 207), ze P "__doc__" 488 .none]
noncomputable def z121 (P : Params) : Obj := zt "dict" (.dict ⟨d4 P⟩ 4)
noncomputable def z122 : Obj := Obj.mk (.type "type") none (.cls (ClassData.mk "Deed" [.type "object"] [.ref 205, .type "object"] 204 "Deed" true [] [.ref 241, .ref 274, .ref 300] false none false)) #[none, none, some (.str "Deed" 455), some (.str "Deed" 463), some (.builtin "object.__new__"), some (.bool true)]
noncomputable def z123 : Obj := zt "getset_descriptor" (.fields #[.str "__dict__" 484, .ref 205, .builtin "function.__dict__", .builtin "function.__dict__#set"])
noncomputable def z124 : Obj := zt "getset_descriptor" (.fields #[.str "__weakref__" 486, .ref 205, .builtin "ExceptionGroup.__weakref__", .none])
noncomputable def h12_0 (P : Params) (t : List Obj) : List Obj := z1 :: z114 :: z115 :: z116 :: z1 :: z8 :: z117 :: z1 :: z118 :: z119 :: z120 :: z1 :: (z121 P) :: z122 :: z123 :: z124 :: t
noncomputable def z125 : Obj := zt "super" (.fields #[.ref 205, .ref 205, .ref 205])
noncomputable def z126 : Obj := zt "builtin_function_or_method" (.fields #[.builtin "object.__init_subclass__", .ref 205])
noncomputable def z127 : Obj := zt "tuple" (.seq #[.ref 205])
noncomputable def d5 (P : Params) : List DictEntry := [ze P "__module__" 498 (.str "gapscribe.deeds" 439), ze P "__qualname__" 500 (.str "Put" 499), ze P "__firstlineno__" 502 (.int 96 501), ze P "__init__" 511 (.ref 224), ze P "done" 519 (.ref 231), ze P "back" 527 (.ref 238), ze P "__static_attributes__" 529 (.ref 239)]
noncomputable def z128 (P : Params) : Obj := zt "dict" (.dict ⟨d5 P⟩ 7)
noncomputable def z129 : Obj := zy [(98, 4, 223), (103, 4, 230), (107, 4, 237)]
noncomputable def z130 : Obj := zk "Put" "Put" 493 96 0 0 213 false .none 496 497
noncomputable def z131 : Obj := Obj.mk (.type "frame") none Data.plain #[some (.ref 215), some (.ref 3), some (.ref 212), none, some (.str "gapscribe.deeds" 439), none, some (.ref 0)]
noncomputable def z132 : Obj := zt "tuple" (.seq #[.none])
noncomputable def z133 : Obj := zu [("self", 506), ("word", 507), ("note", 508)]
noncomputable def z134 : Obj := zh "__init__" "Put.__init__" s_Put_init
noncomputable def z135 : Obj := zc "__init__" "Put.__init__" 503 98 3 3 218 509 510
noncomputable def h13_0 (P : Params) (t : List Obj) : List Obj := z125 :: z126 :: z127 :: z6 :: (z128 P) :: z1 :: z129 :: z130 :: z131 :: z132 :: z1 :: z8 :: z133 :: z1 :: z134 :: z135 :: t
noncomputable def z136 : Obj := Obj.mk (Value.type "function") none (.func ⟨"__init__", "Put.__init__", defArgs s_Put_init, .stmts (defBody s_Put_init), defScope s_Put_init, 3, [], .ref 217, .none, .none, .str "gapscribe.deeds" 439, none, .ref 223, .none, 0⟩) #[]
noncomputable def z137 : Obj := zu [("self", 515), ("form", 516)]
noncomputable def z138 : Obj := zh "done" "Put.done" s_Put_done
noncomputable def z139 : Obj := zc "done" "Put.done" 512 103 2 3 225 517 518
noncomputable def z140 : Obj := zf "done" "Put.done" s_Put_done "gapscribe.deeds" 439 230
noncomputable def z141 : Obj := zu [("self", 523), ("form", 524)]
noncomputable def z142 : Obj := zh "back" "Put.back" s_Put_back
noncomputable def z143 : Obj := zc "back" "Put.back" 520 107 2 3 232 525 526
noncomputable def z144 : Obj := zf "back" "Put.back" s_Put_back "gapscribe.deeds" 439 237
noncomputable def z145 : Obj := zu [("form", 528)]
noncomputable def h14_0 (P : Params) (t : List Obj) : List Obj := z136 :: z1 :: z8 :: z137 :: z1 :: z138 :: z139 :: z140 :: z1 :: z8 :: z141 :: z1 :: z142 :: z143 :: z144 :: z145 :: t
noncomputable def d6 (P : Params) : List DictEntry := [ze P "__module__" 498 (.str "gapscribe.deeds" 439), ze P "__firstlineno__" 502 (.int 96 501), ze P "__init__" 511 (.ref 224), ze P "done" 519 (.ref 231), ze P "back" 527 (.ref 238), ze P "__static_attributes__" 529 (.ref 239), ze P "__doc__" 530 .none]
noncomputable def z146 (P : Params) : Obj := zt "dict" (.dict ⟨d6 P⟩ 2)
noncomputable def z147 : Obj := Obj.mk (.type "type") none (.cls (ClassData.mk "Put" [.ref 205] [.ref 241, .ref 205, .type "object"] 240 "Put" true [] [] false none false)) #[some (.ref 210), none, some (.str "Put" 491), some (.str "Put" 499), some (.builtin "object.__new__"), some (.bool true)]
noncomputable def z148 : Obj := zt "super" (.fields #[.ref 241, .ref 241, .ref 241])
noncomputable def z149 : Obj := zt "builtin_function_or_method" (.fields #[.builtin "object.__init_subclass__", .ref 241])
noncomputable def d7 (P : Params) : List DictEntry := [ze P "__module__" 540 (.str "gapscribe.deeds" 439), ze P "__qualname__" 542 (.str "Fill" 541), ze P "__firstlineno__" 544 (.int 110 543), ze P "__init__" 552 (.ref 257), ze P "done" 560 (.ref 264), ze P "back" 568 (.ref 271), ze P "__static_attributes__" 570 (.ref 272)]
noncomputable def z150 (P : Params) : Obj := zt "dict" (.dict ⟨d7 P⟩ 7)
noncomputable def z151 : Obj := zy [(112, 4, 256), (118, 4, 263), (122, 4, 270)]
noncomputable def z152 : Obj := zk "Fill" "Fill" 535 110 0 0 247 false .none 538 539
noncomputable def z153 : Obj := Obj.mk (.type "frame") none Data.plain #[some (.ref 249), some (.ref 3), some (.ref 246), none, some (.str "gapscribe.deeds" 439), none, some (.ref 0)]
noncomputable def z154 : Obj := zu [("self", 548), ("form", 549)]
noncomputable def z155 : Obj := zh "__init__" "Fill.__init__" w32_0
noncomputable def h15_0 (P : Params) (t : List Obj) : List Obj := (z146 P) :: z147 :: z148 :: z149 :: z127 :: z6 :: (z150 P) :: z1 :: z151 :: z152 :: z153 :: z1 :: z8 :: z154 :: z1 :: z155 :: t
noncomputable def z156 : Obj := zc "__init__" "Fill.__init__" 545 112 2 3 251 550 551
noncomputable def z157 : Obj := zf "__init__" "Fill.__init__" w32_0 "gapscribe.deeds" 439 256
noncomputable def z158 : Obj := zu [("self", 556), ("form", 557)]
noncomputable def z159 : Obj := zh "done" "Fill.done" w32_1
noncomputable def z160 : Obj := zc "done" "Fill.done" 553 118 2 3 258 558 559
noncomputable def z161 : Obj := zf "done" "Fill.done" w32_1 "gapscribe.deeds" 439 263
noncomputable def z162 : Obj := zu [("self", 564), ("form", 565)]
noncomputable def z163 : Obj := zh "back" "Fill.back" w32_2
noncomputable def z164 : Obj := zc "back" "Fill.back" 561 122 2 3 265 566 567
noncomputable def z165 : Obj := zf "back" "Fill.back" w32_2 "gapscribe.deeds" 439 270
noncomputable def h16_0 (P : Params) (t : List Obj) : List Obj := z156 :: z157 :: z1 :: z8 :: z158 :: z1 :: z159 :: z160 :: z161 :: z1 :: z8 :: z162 :: z1 :: z163 :: z164 :: z165 :: t
noncomputable def z166 : Obj := zu [("form", 569)]
noncomputable def d8 (P : Params) : List DictEntry := [ze P "__module__" 540 (.str "gapscribe.deeds" 439), ze P "__firstlineno__" 544 (.int 110 543), ze P "__init__" 552 (.ref 257), ze P "done" 560 (.ref 264), ze P "back" 568 (.ref 271), ze P "__static_attributes__" 570 (.ref 272), ze P "__doc__" 571 .none]
noncomputable def z167 (P : Params) : Obj := zt "dict" (.dict ⟨d8 P⟩ 2)
noncomputable def z168 : Obj := Obj.mk (.type "type") none (.cls (ClassData.mk "Fill" [.ref 205] [.ref 274, .ref 205, .type "object"] 273 "Fill" true [] [] false none false)) #[some (.ref 244), none, some (.str "Fill" 533), some (.str "Fill" 541), some (.builtin "object.__new__"), some (.bool true)]
noncomputable def z169 : Obj := zt "super" (.fields #[.ref 274, .ref 274, .ref 274])
noncomputable def z170 : Obj := zt "builtin_function_or_method" (.fields #[.builtin "object.__init_subclass__", .ref 274])
noncomputable def d9 (P : Params) : List DictEntry := [ze P "__module__" 581 (.str "gapscribe.deeds" 439), ze P "__qualname__" 583 (.str "Cut" 582), ze P "__firstlineno__" 585 (.int 125 584), ze P "done" 593 (.ref 290), ze P "back" 601 (.ref 297), ze P "__static_attributes__" 602 (.ref 298)]
noncomputable def z171 (P : Params) : Obj := zt "dict" (.dict ⟨d9 P⟩ 6)
noncomputable def z172 : Obj := zy [(127, 4, 289), (132, 4, 296)]
noncomputable def z173 : Obj := zk "Cut" "Cut" 576 125 0 0 280 false .none 579 580
noncomputable def z174 : Obj := Obj.mk (.type "frame") none Data.plain #[some (.ref 282), some (.ref 3), some (.ref 279), none, some (.str "gapscribe.deeds" 439), none, some (.ref 0)]
noncomputable def z175 : Obj := zu [("self", 589), ("form", 590)]
noncomputable def h17_0 (P : Params) (t : List Obj) : List Obj := z166 :: (z167 P) :: z168 :: z169 :: z170 :: z127 :: z6 :: (z171 P) :: z1 :: z172 :: z173 :: z174 :: z1 :: z8 :: z175 :: z1 :: t
noncomputable def z176 : Obj := zh "done" "Cut.done" s_Cut_done
noncomputable def z177 : Obj := zc "done" "Cut.done" 586 127 2 3 284 591 592
noncomputable def z178 : Obj := zf "done" "Cut.done" s_Cut_done "gapscribe.deeds" 439 289
noncomputable def z179 : Obj := zu [("self", 597), ("form", 598)]
noncomputable def z180 : Obj := zh "back" "Cut.back" (match top 33 with | .ClassDef _ _ _ b _ _ _ _ _ _ _ => b.getD 1 (.Pass ⟨0, 0, 0, 0⟩) | s => s)
noncomputable def z181 : Obj := zc "back" "Cut.back" 594 132 2 3 291 599 600
noncomputable def z182 : Obj := zf "back" "Cut.back" (match top 33 with | .ClassDef _ _ _ b _ _ _ _ _ _ _ => b.getD 1 (.Pass ⟨0, 0, 0, 0⟩) | s => s) "gapscribe.deeds" 439 296
noncomputable def d10 (P : Params) : List DictEntry := [ze P "__module__" 581 (.str "gapscribe.deeds" 439), ze P "__firstlineno__" 585 (.int 125 584), ze P "done" 593 (.ref 290), ze P "back" 601 (.ref 297), ze P "__static_attributes__" 602 (.ref 298), ze P "__doc__" 603 .none]
noncomputable def z183 (P : Params) : Obj := zt "dict" (.dict ⟨d10 P⟩ 2)
noncomputable def z184 : Obj := Obj.mk (.type "type") none (.cls (ClassData.mk "Cut" [.ref 205] [.ref 300, .ref 205, .type "object"] 299 "Cut" true [] [] false none false)) #[some (.ref 277), none, some (.str "Cut" 574), some (.str "Cut" 582), some (.builtin "object.__new__"), some (.bool true)]
noncomputable def z185 : Obj := zt "super" (.fields #[.ref 300, .ref 300, .ref 300])
noncomputable def z186 : Obj := zt "builtin_function_or_method" (.fields #[.builtin "object.__init_subclass__", .ref 300])
noncomputable def h18_0 (P : Params) (t : List Obj) : List Obj := z176 :: z177 :: z178 :: z1 :: z8 :: z179 :: z1 :: z180 :: z181 :: z182 :: z1 :: (z183 P) :: z184 :: z185 :: z186 :: t
noncomputable def Rtree_364 : Params → B := fun P => tO (h0_0 P (h1_0 P (h2_0 P (h3_0 P (h4_0 P (h5_0 P (h6_0 P (h7_0 P (h8_0 P (h9_0 P (h10_0 P (h11_0 P (h12_0 P (h13_0 P (h14_0 P (h15_0 P (h16_0 P (h17_0 P (h18_0 P [])))))))))))))))))))
noncomputable def d11 (P : Params) : List DictEntry := d0 P ++ [ze P "Wrap" 650 (.ref 334)]
noncomputable def z187 (P : Params) : Obj := zt "dict" (.dict ⟨d11 P⟩ 40)
noncomputable def z188 : Obj := zy [(2, 0, 20), (4, 0, 33), (6, 0, 45), (8, 0, 57), (19, 0, 81), (21, 0, 86), (25, 0, 91), (29, 0, 98), (31, 0, 103), (37, 0, 110), (39, 0, 117), (41, 0, 124), (53, 0, 131), (59, 0, 138), (67, 0, 145), (71, 0, 152), (77, 0, 159), (79, 0, 166), (83, 0, 173), (86, 0, 180), (89, 0, 187), (96, 0, 215), (110, 0, 249), (125, 0, 282), (135, 0, 308)]
noncomputable def h19_0 (P : Params) (t : List Obj) : List Obj := (boot_o_0 P) :: (boot_o_1 P) :: (boot_o_2 P) :: (z187 P) :: (boot_o_4 P) :: (boot_o_5 P) :: (boot_o_6 P) :: (boot_o_7 P) :: (boot_o_8 P) :: (boot_o_9 P) :: (boot_o_10 P) :: z1 :: z188 :: z3 :: z4 :: z5 :: t
noncomputable def z189 : Obj := Obj.mk (.type "type") none (.cls (ClassData.mk "Deed" [.type "object"] [.ref 205, .type "object"] 204 "Deed" true [] [.ref 241, .ref 274, .ref 300, .ref 334] false none false)) #[none, none, some (.str "Deed" 455), some (.str "Deed" 463), some (.builtin "object.__new__"), some (.bool true)]
noncomputable def h20_0 (P : Params) (t : List Obj) : List Obj := z1 :: z114 :: z115 :: z116 :: z1 :: z8 :: z117 :: z1 :: z118 :: z119 :: z120 :: z1 :: (z121 P) :: z189 :: z123 :: z124 :: t
noncomputable def h21_0 (P : Params) (t : List Obj) : List Obj := z176 :: z177 :: z178 :: z1 :: z8 :: z179 :: z1 :: z180 :: z181 :: z182 :: z1 :: (z183 P) :: z184 :: z185 :: z186 :: z127 :: t
noncomputable def d12 (P : Params) : List DictEntry := [ze P "__module__" 613 (.str "gapscribe.deeds" 439), ze P "__qualname__" 615 (.str "Wrap" 614), ze P "__firstlineno__" 617 (.int 135 616), ze P "__init__" 628 (.ref 317), ze P "done" 636 (.ref 324), ze P "back" 644 (.ref 331), ze P "__static_attributes__" 647 (.ref 332)]
noncomputable def z190 (P : Params) : Obj := zt "dict" (.dict ⟨d12 P⟩ 7)
noncomputable def z191 : Obj := zy [(137, 4, 316), (143, 4, 323), (146, 4, 330)]
noncomputable def z192 : Obj := zk "Wrap" "Wrap" 608 135 0 0 306 false .none 611 612
noncomputable def z193 : Obj := Obj.mk (.type "frame") none Data.plain #[some (.ref 308), some (.ref 3), some (.ref 305), none, some (.str "gapscribe.deeds" 439), none, some (.ref 0)]
noncomputable def z194 : Obj := zt "tuple" (.seq #[.none, .int 0 618])
noncomputable def z195 : Obj := zu [("self", 622), ("word", 623), ("note", 624), ("at", 625)]
noncomputable def z196 : Obj := zh "__init__" "Wrap.__init__" s_Wrap_init
noncomputable def z197 : Obj := zc "__init__" "Wrap.__init__" 619 137 4 3 311 626 627
noncomputable def z198 : Obj := Obj.mk (Value.type "function") none (.func ⟨"__init__", "Wrap.__init__", defArgs s_Wrap_init, .stmts (defBody s_Wrap_init), defScope s_Wrap_init, 3, [], .ref 310, .none, .none, .str "gapscribe.deeds" 439, none, .ref 316, .none, 0⟩) #[]
noncomputable def h22_0 (P : Params) (t : List Obj) : List Obj := z6 :: (z190 P) :: z1 :: z191 :: z192 :: z193 :: z194 :: z1 :: z8 :: z195 :: z1 :: z196 :: z197 :: z198 :: z1 :: z8 :: t
noncomputable def z199 : Obj := zu [("self", 632), ("form", 633)]
noncomputable def z200 : Obj := zh "done" "Wrap.done" s_Wrap_done
noncomputable def z201 : Obj := zc "done" "Wrap.done" 629 143 2 3 318 634 635
noncomputable def z202 : Obj := zf "done" "Wrap.done" s_Wrap_done "gapscribe.deeds" 439 323
noncomputable def z203 : Obj := zu [("self", 640), ("form", 641)]
noncomputable def z204 : Obj := zh "back" "Wrap.back" s_Wrap_back
noncomputable def z205 : Obj := zc "back" "Wrap.back" 637 146 2 3 325 642 643
noncomputable def z206 : Obj := zf "back" "Wrap.back" s_Wrap_back "gapscribe.deeds" 439 330
noncomputable def z207 : Obj := zu [("at", 645), ("form", 646)]
noncomputable def d13 (P : Params) : List DictEntry := [ze P "__module__" 613 (.str "gapscribe.deeds" 439), ze P "__firstlineno__" 617 (.int 135 616), ze P "__init__" 628 (.ref 317), ze P "done" 636 (.ref 324), ze P "back" 644 (.ref 331), ze P "__static_attributes__" 647 (.ref 332), ze P "__doc__" 648 .none]
noncomputable def z208 (P : Params) : Obj := zt "dict" (.dict ⟨d13 P⟩ 2)
noncomputable def z209 : Obj := Obj.mk (.type "type") none (.cls (ClassData.mk "Wrap" [.ref 205] [.ref 334, .ref 205, .type "object"] 333 "Wrap" true [] [] false none false)) #[some (.ref 303), none, some (.str "Wrap" 606), some (.str "Wrap" 614), some (.builtin "object.__new__"), some (.bool true)]
noncomputable def z210 : Obj := zt "super" (.fields #[.ref 334, .ref 334, .ref 334])
noncomputable def h23_0 (P : Params) (t : List Obj) : List Obj := z199 :: z1 :: z200 :: z201 :: z202 :: z1 :: z8 :: z203 :: z1 :: z204 :: z205 :: z206 :: z207 :: (z208 P) :: z209 :: z210 :: t
noncomputable def z211 : Obj := zt "builtin_function_or_method" (.fields #[.builtin "object.__init_subclass__", .ref 334])
noncomputable def h24_0 (P : Params) (t : List Obj) : List Obj := z211 :: t
noncomputable def Rtree_401 : Params → B := fun P => tO (h19_0 P (h1_0 P (h2_0 P (h3_0 P (h4_0 P (h5_0 P (h6_0 P (h7_0 P (h8_0 P (h9_0 P (h10_0 P (h11_0 P (h20_0 P (h13_0 P (h14_0 P (h15_0 P (h16_0 P (h17_0 P (h21_0 P (h22_0 P (h23_0 P (h24_0 P []))))))))))))))))))))))
noncomputable def d14 (P : Params) : List DictEntry := d11 P ++ [ze P "Keep" 692 (.ref 368)]
noncomputable def z212 (P : Params) : Obj := zt "dict" (.dict ⟨d14 P⟩ 41)
noncomputable def z213 : Obj := zy [(2, 0, 20), (4, 0, 33), (6, 0, 45), (8, 0, 57), (19, 0, 81), (21, 0, 86), (25, 0, 91), (29, 0, 98), (31, 0, 103), (37, 0, 110), (39, 0, 117), (41, 0, 124), (53, 0, 131), (59, 0, 138), (67, 0, 145), (71, 0, 152), (77, 0, 159), (79, 0, 166), (83, 0, 173), (86, 0, 180), (89, 0, 187), (96, 0, 215), (110, 0, 249), (125, 0, 282), (135, 0, 308), (148, 0, 342)]
noncomputable def h25_0 (P : Params) (t : List Obj) : List Obj := (boot_o_0 P) :: (boot_o_1 P) :: (boot_o_2 P) :: (z212 P) :: (boot_o_4 P) :: (boot_o_5 P) :: (boot_o_6 P) :: (boot_o_7 P) :: (boot_o_8 P) :: (boot_o_9 P) :: (boot_o_10 P) :: z1 :: z213 :: z3 :: z4 :: z5 :: t
noncomputable def z214 : Obj := Obj.mk (.type "type") none (.cls (ClassData.mk "Deed" [.type "object"] [.ref 205, .type "object"] 204 "Deed" true [] [.ref 241, .ref 274, .ref 300, .ref 334, .ref 368] false none false)) #[none, none, some (.str "Deed" 455), some (.str "Deed" 463), some (.builtin "object.__new__"), some (.bool true)]
noncomputable def h26_0 (P : Params) (t : List Obj) : List Obj := z1 :: z114 :: z115 :: z116 :: z1 :: z8 :: z117 :: z1 :: z118 :: z119 :: z120 :: z1 :: (z121 P) :: z214 :: z123 :: z124 :: t
noncomputable def d15 (P : Params) : List DictEntry := [ze P "__module__" 658 (.str "gapscribe.deeds" 439), ze P "__qualname__" 660 (.str "Keep" 659), ze P "__firstlineno__" 662 (.int 148 661), ze P "__init__" 671 (.ref 351), ze P "done" 679 (.ref 358), ze P "back" 687 (.ref 365), ze P "__static_attributes__" 689 (.ref 366)]
noncomputable def z215 (P : Params) : Obj := zt "dict" (.dict ⟨d15 P⟩ 7)
noncomputable def z216 : Obj := zy [(150, 4, 350), (153, 4, 357), (158, 4, 364)]
noncomputable def z217 : Obj := zk "Keep" "Keep" 653 148 0 0 340 false .none 656 657
noncomputable def z218 : Obj := Obj.mk (.type "frame") none Data.plain #[some (.ref 342), some (.ref 3), some (.ref 339), none, some (.str "gapscribe.deeds" 439), none, some (.ref 0)]
noncomputable def z219 : Obj := zt "tuple" (.seq #[.int 0 663])
noncomputable def z220 : Obj := zu [("self", 667), ("at", 668)]
noncomputable def z221 : Obj := zh "__init__" "Keep.__init__" s_Keep_init
noncomputable def z222 : Obj := zc "__init__" "Keep.__init__" 664 150 2 3 345 669 670
noncomputable def z223 : Obj := Obj.mk (Value.type "function") none (.func ⟨"__init__", "Keep.__init__", defArgs s_Keep_init, .stmts (defBody s_Keep_init), defScope s_Keep_init, 3, [], .ref 344, .none, .none, .str "gapscribe.deeds" 439, none, .ref 350, .none, 0⟩) #[]
noncomputable def h27_0 (P : Params) (t : List Obj) : List Obj := z211 :: z127 :: z6 :: (z215 P) :: z1 :: z216 :: z217 :: z218 :: z219 :: z1 :: z8 :: z220 :: z1 :: z221 :: z222 :: z223 :: t
noncomputable def z224 : Obj := zu [("self", 675), ("form", 676)]
noncomputable def z225 : Obj := zh "done" "Keep.done" s_Keep_done
noncomputable def z226 : Obj := zc "done" "Keep.done" 672 153 2 3 352 677 678
noncomputable def z227 : Obj := zf "done" "Keep.done" s_Keep_done "gapscribe.deeds" 439 357
noncomputable def z228 : Obj := zu [("self", 683), ("form", 684)]
noncomputable def z229 : Obj := zh "back" "Keep.back" s_Keep_back
noncomputable def z230 : Obj := zc "back" "Keep.back" 680 158 2 3 359 685 686
noncomputable def z231 : Obj := zf "back" "Keep.back" s_Keep_back "gapscribe.deeds" 439 364
noncomputable def z232 : Obj := zu [("at", 688)]
noncomputable def d16 (P : Params) : List DictEntry := [ze P "__module__" 658 (.str "gapscribe.deeds" 439), ze P "__firstlineno__" 662 (.int 148 661), ze P "__init__" 671 (.ref 351), ze P "done" 679 (.ref 358), ze P "back" 687 (.ref 365), ze P "__static_attributes__" 689 (.ref 366), ze P "__doc__" 690 .none]
noncomputable def z233 (P : Params) : Obj := zt "dict" (.dict ⟨d16 P⟩ 2)
noncomputable def h28_0 (P : Params) (t : List Obj) : List Obj := z1 :: z8 :: z224 :: z1 :: z225 :: z226 :: z227 :: z1 :: z8 :: z228 :: z1 :: z229 :: z230 :: z231 :: z232 :: (z233 P) :: t
noncomputable def z234 : Obj := Obj.mk (.type "type") none (.cls (ClassData.mk "Keep" [.ref 205] [.ref 368, .ref 205, .type "object"] 367 "Keep" true [] [] false none false)) #[some (.ref 337), none, some (.str "Keep" 651), some (.str "Keep" 659), some (.builtin "object.__new__"), some (.bool true)]
noncomputable def z235 : Obj := zt "super" (.fields #[.ref 368, .ref 368, .ref 368])
noncomputable def z236 : Obj := zt "builtin_function_or_method" (.fields #[.builtin "object.__init_subclass__", .ref 368])
noncomputable def h29_0 (P : Params) (t : List Obj) : List Obj := z234 :: z235 :: z236 :: t
noncomputable def Rtree_438 : Params → B := fun P => tO (h25_0 P (h1_0 P (h2_0 P (h3_0 P (h4_0 P (h5_0 P (h6_0 P (h7_0 P (h8_0 P (h9_0 P (h10_0 P (h11_0 P (h26_0 P (h13_0 P (h14_0 P (h15_0 P (h16_0 P (h17_0 P (h21_0 P (h22_0 P (h23_0 P (h27_0 P (h28_0 P (h29_0 P []))))))))))))))))))))))))
noncomputable def d17 (P : Params) : List DictEntry := [ze P "__name__" 165 (.str "law_gapscribe_k22_puts_wraps_keeps" 734), ze P "__doc__" 166 .none, ze P "__package__" 167 .none, ze P "__loader__" 168 (.builtin "__main__.__loader__#opaque"), ze P "__spec__" 169 .none, ze P "__annotations__" 170 (.ref 6), ze P "__builtins__" 171 (.ref 4), ze P "__file__" 173 (.str "/claim/cut.py" 172), ze P "__cached__" 174 .none, ze P "GapError" 206 (.ref 24), ze P "NoForm" 222 (.ref 37), ze P "NoDeed" 238 (.ref 49), ze P "NoPlace" 263 (.ref 68), ze P "GAP" 267 (.ref 72), ze P "PARTS_OF_WORDS" 307 (.ref 73), ze P "NAME_SIGNS" 309 (.str "abcdefghijklmnopqrstuvwxyz_" 308), ze P "FIGURES" 311 (.str "0123456789" 310), ze P "WORDS_NO_NAMES" 321 (.ref 74), ze P "WORDS_NOT_ODD" 332 (.ref 75), ze P "is_whole" 339 (.ref 82), ze P "is_name" 345 (.ref 87), ze P "is_figures" 351 (.ref 92), ze P "is_odd_sign" 358 (.ref 99), ze P "is_odd" 364 (.ref 104), ze P "is_word" 371 (.ref 111), ze P "is_two_names" 378 (.ref 118), ze P "is_note" 386 (.ref 125), ze P "is_top_of_form" 393 (.ref 132), ze P "is_form" 402 (.ref 139), ze P "many_parts" 409 (.ref 146), ze P "bare" 418 (.ref 153), ze P "has_part" 428 (.ref 160), ze P "with_part" 438 (.ref 167), ze P "refuse_no_form" 447 (.ref 174), ze P "refuse_no_gap" 454 (.ref 181), ze P "Deed" 490 (.ref 205), ze P "Put" 532 (.ref 241), ze P "Fill" 573 (.ref 274), ze P "Cut" 605 (.ref 300), ze P "Wrap" 650 (.ref 334), ze P "Keep" 692 (.ref 368), ze P "Change" 733 (.ref 401), ze P "_law_cell" 745 (.ref 410), ze P "_law_names" 751 (.ref 415)]
noncomputable def z237 (P : Params) : Obj := zt "dict" (.dict ⟨d17 P⟩ 44)
noncomputable def z238 : Obj := zy [(2, 0, 20), (4, 0, 33), (6, 0, 45), (8, 0, 57), (19, 0, 81), (21, 0, 86), (25, 0, 91), (29, 0, 98), (31, 0, 103), (37, 0, 110), (39, 0, 117), (41, 0, 124), (53, 0, 131), (59, 0, 138), (67, 0, 145), (71, 0, 152), (77, 0, 159), (79, 0, 166), (83, 0, 173), (86, 0, 180), (89, 0, 187), (96, 0, 215), (110, 0, 249), (125, 0, 282), (135, 0, 308), (148, 0, 342), (161, 0, 376), (173, 0, 409), (181, 0, 414)]
noncomputable def h30_0 (P : Params) (t : List Obj) : List Obj := (boot_o_0 P) :: (boot_o_1 P) :: (boot_o_2 P) :: (z237 P) :: (boot_o_4 P) :: (boot_o_5 P) :: (boot_o_6 P) :: (boot_o_7 P) :: (boot_o_8 P) :: (boot_o_9 P) :: (boot_o_10 P) :: z1 :: z238 :: z3 :: z4 :: z5 :: t
noncomputable def z239 : Obj := Obj.mk (.type "type") none (.cls (ClassData.mk "Deed" [.type "object"] [.ref 205, .type "object"] 204 "Deed" true [] [.ref 241, .ref 274, .ref 300, .ref 334, .ref 368, .ref 401] false none false)) #[none, none, some (.str "Deed" 455), some (.str "Deed" 463), some (.builtin "object.__new__"), some (.bool true)]
noncomputable def h31_0 (P : Params) (t : List Obj) : List Obj := z1 :: z114 :: z115 :: z116 :: z1 :: z8 :: z117 :: z1 :: z118 :: z119 :: z120 :: z1 :: (z121 P) :: z239 :: z123 :: z124 :: t
noncomputable def d18 (P : Params) : List DictEntry := [ze P "__module__" 700 (.str "gapscribe.deeds" 439), ze P "__qualname__" 702 (.str "Change" 701), ze P "__firstlineno__" 704 (.int 161 703), ze P "__init__" 712 (.ref 384), ze P "done" 720 (.ref 391), ze P "back" 728 (.ref 398), ze P "__static_attributes__" 730 (.ref 399)]
noncomputable def z240 (P : Params) : Obj := zt "dict" (.dict ⟨d18 P⟩ 7)
noncomputable def z241 : Obj := zy [(163, 4, 383), (167, 4, 390), (170, 4, 397)]
noncomputable def z242 : Obj := zk "Change" "Change" 695 161 0 0 374 false .none 698 699
noncomputable def z243 : Obj := Obj.mk (.type "frame") none Data.plain #[some (.ref 376), some (.ref 3), some (.ref 373), none, some (.str "gapscribe.deeds" 439), none, some (.ref 0)]
noncomputable def z244 : Obj := zu [("self", 708), ("form", 709)]
noncomputable def z245 : Obj := zh "__init__" "Change.__init__" s_Change_init
noncomputable def z246 : Obj := zc "__init__" "Change.__init__" 705 163 2 3 378 710 711
noncomputable def h32_0 (P : Params) (t : List Obj) : List Obj := z234 :: z235 :: z236 :: z127 :: z6 :: (z240 P) :: z1 :: z241 :: z242 :: z243 :: z1 :: z8 :: z244 :: z1 :: z245 :: z246 :: t
noncomputable def z247 : Obj := zf "__init__" "Change.__init__" s_Change_init "gapscribe.deeds" 439 383
noncomputable def z248 : Obj := zu [("self", 716), ("form", 717)]
noncomputable def z249 : Obj := zh "done" "Change.done" s_Change_done
noncomputable def z250 : Obj := zc "done" "Change.done" 713 167 2 3 385 718 719
noncomputable def z251 : Obj := zf "done" "Change.done" s_Change_done "gapscribe.deeds" 439 390
noncomputable def z252 : Obj := zu [("self", 724), ("form", 725)]
noncomputable def z253 : Obj := zh "back" "Change.back" w36_2
noncomputable def z254 : Obj := zc "back" "Change.back" 721 170 2 3 392 726 727
noncomputable def z255 : Obj := zf "back" "Change.back" w36_2 "gapscribe.deeds" 439 397
noncomputable def z256 : Obj := zu [("form", 729)]
noncomputable def h33_0 (P : Params) (t : List Obj) : List Obj := z247 :: z1 :: z8 :: z248 :: z1 :: z249 :: z250 :: z251 :: z1 :: z8 :: z252 :: z1 :: z253 :: z254 :: z255 :: z256 :: t
noncomputable def d19 (P : Params) : List DictEntry := [ze P "__module__" 700 (.str "gapscribe.deeds" 439), ze P "__firstlineno__" 704 (.int 161 703), ze P "__init__" 712 (.ref 384), ze P "done" 720 (.ref 391), ze P "back" 728 (.ref 398), ze P "__static_attributes__" 730 (.ref 399), ze P "__doc__" 731 .none]
noncomputable def z257 (P : Params) : Obj := zt "dict" (.dict ⟨d19 P⟩ 2)
noncomputable def z258 : Obj := Obj.mk (.type "type") none (.cls (ClassData.mk "Change" [.ref 205] [.ref 401, .ref 205, .type "object"] 400 "Change" true [] [] false none false)) #[some (.ref 371), none, some (.str "Change" 693), some (.str "Change" 701), some (.builtin "object.__new__"), some (.bool true)]
noncomputable def z259 : Obj := zt "super" (.fields #[.ref 401, .ref 401, .ref 401])
noncomputable def z260 : Obj := zt "builtin_function_or_method" (.fields #[.builtin "object.__init_subclass__", .ref 401])
noncomputable def z261 : Obj := zu [("_law_script", 739), ("_law_k", 740), ("_law_many_here", 741), ("_law_first", 742)]
noncomputable def z262 : Obj := zj "_law_cell" s_law_cell
noncomputable def z263 : Obj := zb "_law_cell" 736 173 2 3 404 743 744
noncomputable def z264 : Obj := zi "_law_cell" s_law_cell "law_gapscribe_k22_puts_wraps_keeps" 734 409
noncomputable def z265 : Obj := zj "_law_names" s_law_names
noncomputable def z266 : Obj := zk "_law_names" "_law_names" 746 181 2 3 411 true (.ref 413) 749 750
noncomputable def z267 : Obj := zi "_law_names" s_law_names "law_gapscribe_k22_puts_wraps_keeps" 734 414
noncomputable def h34_0 (P : Params) (t : List Obj) : List Obj := (z257 P) :: z258 :: z259 :: z260 :: z1 :: z8 :: z261 :: z1 :: z262 :: z263 :: z264 :: z1 :: z8 :: z265 :: z266 :: z267 :: t
noncomputable def Rtree_486 : Params → B := fun P => tO (h30_0 P (h1_0 P (h2_0 P (h3_0 P (h4_0 P (h5_0 P (h6_0 P (h7_0 P (h8_0 P (h9_0 P (h10_0 P (h11_0 P (h31_0 P (h13_0 P (h14_0 P (h15_0 P (h16_0 P (h17_0 P (h21_0 P (h22_0 P (h23_0 P (h27_0 P (h28_0 P (h32_0 P (h33_0 P (h34_0 P []))))))))))))))))))))))))))
noncomputable def d20 (P : Params) : List DictEntry := d17 P ++ [ze P "_law_odd" 757 (.ref 420), ze P "_law_number" 764 (.ref 427), ze P "_law_head" 775 (.ref 434), ze P "_law_many" 782 (.ref 441), ze P "_law_tree" 798 (.ref 448), ze P "_law_sort" 805 (.ref 455), ze P "_law_class" 813 (.ref 462), ze P "_law_wrapped" 824 (.ref 469), ze P "_law_put" 835 (.ref 476), ze P "_law_bare" 844 (.ref 483), ze P "_law_done" 854 (.ref 490), ze P "_law_back" 864 (.ref 497)]
noncomputable def z268 (P : Params) : Obj := zt "dict" (.dict ⟨d20 P⟩ 56)
noncomputable def z269 : Obj := zy [(2, 0, 20), (4, 0, 33), (6, 0, 45), (8, 0, 57), (19, 0, 81), (21, 0, 86), (25, 0, 91), (29, 0, 98), (31, 0, 103), (37, 0, 110), (39, 0, 117), (41, 0, 124), (53, 0, 131), (59, 0, 138), (67, 0, 145), (71, 0, 152), (77, 0, 159), (79, 0, 166), (83, 0, 173), (86, 0, 180), (89, 0, 187), (96, 0, 215), (110, 0, 249), (125, 0, 282), (135, 0, 308), (148, 0, 342), (161, 0, 376), (173, 0, 409), (181, 0, 414), (198, 0, 419), (207, 0, 426), (213, 0, 433), (228, 0, 440), (234, 0, 447), (254, 0, 454), (260, 0, 461), (269, 0, 468), (276, 0, 475), (286, 0, 482), (293, 0, 489), (300, 0, 496)]
noncomputable def h35_0 (P : Params) (t : List Obj) : List Obj := (boot_o_0 P) :: (boot_o_1 P) :: (boot_o_2 P) :: (z268 P) :: (boot_o_4 P) :: (boot_o_5 P) :: (boot_o_6 P) :: (boot_o_7 P) :: (boot_o_8 P) :: (boot_o_9 P) :: (boot_o_10 P) :: z1 :: z269 :: z3 :: z4 :: z5 :: t
noncomputable def z270 : Obj := zj "_law_odd" s_law_odd
noncomputable def z271 : Obj := zk "_law_odd" "_law_odd" 752 198 1 3 416 true (.ref 418) 755 756
noncomputable def z272 : Obj := zi "_law_odd" s_law_odd "law_gapscribe_k22_puts_wraps_keeps" 734 419
noncomputable def z273 : Obj := zu [("_law_cell_here", 761)]
noncomputable def z274 : Obj := zj "_law_number" s_law_number
noncomputable def z275 : Obj := zb "_law_number" 758 207 1 3 421 762 763
noncomputable def z276 : Obj := zi "_law_number" s_law_number "law_gapscribe_k22_puts_wraps_keeps" 734 426
noncomputable def z277 : Obj := zu [("_law_cell_here", 768), ("_law_names_here", 769), ("_law_heads", 770), ("_law_word", 771), ("_law_more", 772)]
noncomputable def h36_0 (P : Params) (t : List Obj) : List Obj := z1 :: z8 :: z270 :: z271 :: z272 :: z1 :: z8 :: z273 :: z1 :: z274 :: z275 :: z276 :: z1 :: z8 :: z277 :: z1 :: t
noncomputable def z278 : Obj := zj "_law_head" s_law_head
noncomputable def z279 : Obj := zb "_law_head" 765 213 2 3 428 773 774
noncomputable def z280 : Obj := zi "_law_head" s_law_head "law_gapscribe_k22_puts_wraps_keeps" 734 433
noncomputable def z281 : Obj := zu [("_law_word", 779)]
noncomputable def z282 : Obj := zj "_law_many" s_law_many
noncomputable def z283 : Obj := zb "_law_many" 776 228 1 3 435 780 781
noncomputable def z284 : Obj := zi "_law_many" s_law_many "law_gapscribe_k22_puts_wraps_keeps" 734 440
noncomputable def z285 : Obj := zu [("_law_cells", 786), ("_law_names_here", 787), ("_law_left", 788), ("_law_cell_here", 789), ("_law_word", 790), ("_law_remark", 791), ("_law_parts", 792), ("_law_k", 793), ("_law_tree_here", 794), ("_law_form", 795)]
noncomputable def z286 : Obj := zj "_law_tree" s_law_tree
noncomputable def z287 : Obj := zb "_law_tree" 783 234 2 3 442 796 797
noncomputable def h37_0 (P : Params) (t : List Obj) : List Obj := z278 :: z279 :: z280 :: z1 :: z8 :: z281 :: z1 :: z282 :: z283 :: z284 :: z1 :: z8 :: z285 :: z1 :: z286 :: z287 :: t
noncomputable def z288 : Obj := zi "_law_tree" s_law_tree "law_gapscribe_k22_puts_wraps_keeps" 734 447
noncomputable def z289 : Obj := zu [("_law_word", 802)]
noncomputable def z290 : Obj := zj "_law_sort" s_law_sort
noncomputable def z291 : Obj := zb "_law_sort" 799 254 1 3 449 803 804
noncomputable def z292 : Obj := zi "_law_sort" s_law_sort "law_gapscribe_k22_puts_wraps_keeps" 734 454
noncomputable def z293 : Obj := zu [("_law_e", 809), ("_law_found", 810)]
noncomputable def z294 : Obj := zj "_law_class" s_law_class
noncomputable def z295 : Obj := zb "_law_class" 806 260 1 3 456 811 812
noncomputable def z296 : Obj := zi "_law_class" s_law_class "law_gapscribe_k22_puts_wraps_keeps" 734 461
noncomputable def h38_0 (P : Params) (t : List Obj) : List Obj := z288 :: z1 :: z8 :: z289 :: z1 :: z290 :: z291 :: z292 :: z1 :: z8 :: z293 :: z1 :: z294 :: z295 :: z296 :: z1 :: t
noncomputable def z297 : Obj := zu [("_law_word", 817), ("_law_remark", 818), ("_law_seat", 819), ("_law_told", 820), ("_law_e", 821)]
noncomputable def z298 : Obj := zj "_law_wrapped" s_law_wrapped
noncomputable def z299 : Obj := zb "_law_wrapped" 814 269 3 3 463 822 823
noncomputable def z300 : Obj := zi "_law_wrapped" s_law_wrapped "law_gapscribe_k22_puts_wraps_keeps" 734 468
noncomputable def z301 : Obj := zu [("_law_word", 828), ("_law_remark", 829), ("_law_left_out", 830), ("_law_told", 831), ("_law_e", 832)]
noncomputable def z302 : Obj := zj "_law_put" s_law_put
noncomputable def z303 : Obj := zb "_law_put" 825 276 3 3 470 833 834
noncomputable def z304 : Obj := zi "_law_put" s_law_put "law_gapscribe_k22_puts_wraps_keeps" 734 475
noncomputable def z305 : Obj := zu [("_law_word", 839), ("_law_told", 840), ("_law_e", 841)]
noncomputable def h39_0 (P : Params) (t : List Obj) : List Obj := z8 :: z297 :: z1 :: z298 :: z299 :: z300 :: z1 :: z8 :: z301 :: z1 :: z302 :: z303 :: z304 :: z1 :: z8 :: z305 :: t
noncomputable def z306 : Obj := zj "_law_bare" s_law_bare
noncomputable def z307 : Obj := zb "_law_bare" 836 286 1 3 477 842 843
noncomputable def z308 : Obj := zi "_law_bare" s_law_bare "law_gapscribe_k22_puts_wraps_keeps" 734 482
noncomputable def z309 : Obj := zu [("_law_deed", 848), ("_law_form", 849), ("_law_told", 850), ("_law_e", 851)]
noncomputable def z310 : Obj := zj "_law_done" s_law_done
noncomputable def z311 : Obj := zb "_law_done" 845 293 2 3 484 852 853
noncomputable def z312 : Obj := zi "_law_done" s_law_done "law_gapscribe_k22_puts_wraps_keeps" 734 489
noncomputable def z313 : Obj := zu [("_law_deed", 858), ("_law_form", 859), ("_law_told", 860), ("_law_e", 861)]
noncomputable def z314 : Obj := zj "_law_back" s_law_back
noncomputable def h40_0 (P : Params) (t : List Obj) : List Obj := z1 :: z306 :: z307 :: z308 :: z1 :: z8 :: z309 :: z1 :: z310 :: z311 :: z312 :: z1 :: z8 :: z313 :: z1 :: z314 :: t
noncomputable def z315 : Obj := zb "_law_back" 855 300 2 3 491 862 863
noncomputable def z316 : Obj := zi "_law_back" s_law_back "law_gapscribe_k22_puts_wraps_keeps" 734 496
noncomputable def h41_0 (P : Params) (t : List Obj) : List Obj := z315 :: z316 :: t
noncomputable def Rtree_570 : Params → B := fun P => tO (h35_0 P (h1_0 P (h2_0 P (h3_0 P (h4_0 P (h5_0 P (h6_0 P (h7_0 P (h8_0 P (h9_0 P (h10_0 P (h11_0 P (h31_0 P (h13_0 P (h14_0 P (h15_0 P (h16_0 P (h17_0 P (h21_0 P (h22_0 P (h23_0 P (h27_0 P (h28_0 P (h32_0 P (h33_0 P (h34_0 P (h36_0 P (h37_0 P (h38_0 P (h39_0 P (h40_0 P (h41_0 P []))))))))))))))))))))))))))))))))
noncomputable def d21 (P : Params) : List DictEntry := d20 P ++ [ze P "_law_both" 876 (.ref 504), ze P "_law_no_deed" 884 (.ref 511), ze P "_law_puts" 890 (.ref 516), ze P "_law_wraps" 896 (.ref 521), ze P "_law_keeps" 907 (.ref 528), ze P "law" 923 (.ref 535)]
noncomputable def z317 (P : Params) : Obj := zt "dict" (.dict ⟨d21 P⟩ 62)
noncomputable def z318 : Obj := zy [(2, 0, 20), (4, 0, 33), (6, 0, 45), (8, 0, 57), (19, 0, 81), (21, 0, 86), (25, 0, 91), (29, 0, 98), (31, 0, 103), (37, 0, 110), (39, 0, 117), (41, 0, 124), (53, 0, 131), (59, 0, 138), (67, 0, 145), (71, 0, 152), (77, 0, 159), (79, 0, 166), (83, 0, 173), (86, 0, 180), (89, 0, 187), (96, 0, 215), (110, 0, 249), (125, 0, 282), (135, 0, 308), (148, 0, 342), (161, 0, 376), (173, 0, 409), (181, 0, 414), (198, 0, 419), (207, 0, 426), (213, 0, 433), (228, 0, 440), (234, 0, 447), (254, 0, 454), (260, 0, 461), (269, 0, 468), (276, 0, 475), (286, 0, 482), (293, 0, 489), (300, 0, 496), (307, 0, 503), (318, 0, 510), (320, 0, 515), (337, 0, 520), (364, 0, 527), (374, 0, 534)]
noncomputable def h42_0 (P : Params) (t : List Obj) : List Obj := (boot_o_0 P) :: (boot_o_1 P) :: (boot_o_2 P) :: (z317 P) :: (boot_o_4 P) :: (boot_o_5 P) :: (boot_o_6 P) :: (boot_o_7 P) :: (boot_o_8 P) :: (boot_o_9 P) :: (boot_o_10 P) :: z1 :: z318 :: z3 :: z4 :: z5 :: t
noncomputable def z319 : Obj := zu [("_law_deed", 868), ("_law_form", 869), ("_law_due", 870), ("_law_k", 871), ("_law_found", 872), ("_law_back_here", 873)]
noncomputable def z320 : Obj := zj "_law_both" s_law_both
noncomputable def z321 : Obj := zb "_law_both" 865 307 3 3 498 874 875
noncomputable def z322 : Obj := zi "_law_both" s_law_both "law_gapscribe_k22_puts_wraps_keeps" 734 503
noncomputable def z323 : Obj := zu [("_law_deed", 880), ("_law_form", 881)]
noncomputable def z324 : Obj := zj "_law_no_deed" s_law_no_deed
noncomputable def z325 : Obj := zb "_law_no_deed" 877 318 2 3 505 882 883
noncomputable def z326 : Obj := zi "_law_no_deed" s_law_no_deed "law_gapscribe_k22_puts_wraps_keeps" 734 510
noncomputable def h43_0 (P : Params) (t : List Obj) : List Obj := z315 :: z316 :: z1 :: z8 :: z319 :: z1 :: z320 :: z321 :: z322 :: z1 :: z8 :: z323 :: z1 :: z324 :: z325 :: z326 :: t
noncomputable def z327 : Obj := zj "_law_puts" s_law_puts
noncomputable def z328 : Obj := zk "_law_puts" "_law_puts" 885 320 5 3 512 true (.ref 514) 888 889
noncomputable def z329 : Obj := zi "_law_puts" s_law_puts "law_gapscribe_k22_puts_wraps_keeps" 734 515
noncomputable def z330 : Obj := zj "_law_wraps" s_law_wraps
noncomputable def z331 : Obj := zk "_law_wraps" "_law_wraps" 891 337 5 3 517 true (.ref 519) 894 895
noncomputable def z332 : Obj := zi "_law_wraps" s_law_wraps "law_gapscribe_k22_puts_wraps_keeps" 734 520
noncomputable def z333 : Obj := zu [("_law_tree_here", 900), ("_law_numbers", 901), ("_law_k", 902), ("_law_part", 903), ("_law_seat", 904)]
noncomputable def z334 : Obj := zj "_law_keeps" s_law_keeps
noncomputable def z335 : Obj := zb "_law_keeps" 897 364 2 3 522 905 906
noncomputable def h44_0 (P : Params) (t : List Obj) : List Obj := z1 :: z8 :: z327 :: z328 :: z329 :: z1 :: z8 :: z330 :: z331 :: z332 :: z1 :: z8 :: z333 :: z1 :: z334 :: z335 :: t
noncomputable def z336 : Obj := zi "_law_keeps" s_law_keeps "law_gapscribe_k22_puts_wraps_keeps" 734 527
noncomputable def z337 : Obj := zu [("_law_script", 911), ("_law_names_here", 912), ("_law_word", 913), ("_law_remark", 914), ("_law_other", 915), ("_law_wrong", 916), ("_law_far", 917), ("_law_bad", 918), ("_law_tree_here", 919), ("_law_size", 920)]
noncomputable def z338 : Obj := zj "law" s_law
noncomputable def z339 : Obj := zb "law" 908 374 1 3 529 921 922
noncomputable def z340 : Obj := zi "law" s_law "law_gapscribe_k22_puts_wraps_keeps" 734 534
noncomputable def h45_0 (P : Params) (t : List Obj) : List Obj := z336 :: z1 :: z8 :: z337 :: z1 :: z338 :: z339 :: z340 :: t
noncomputable def Rtree_610 : Params → B := fun P => tO (h42_0 P (h1_0 P (h2_0 P (h3_0 P (h4_0 P (h5_0 P (h6_0 P (h7_0 P (h8_0 P (h9_0 P (h10_0 P (h11_0 P (h31_0 P (h13_0 P (h14_0 P (h15_0 P (h16_0 P (h17_0 P (h21_0 P (h22_0 P (h23_0 P (h27_0 P (h28_0 P (h32_0 P (h33_0 P (h34_0 P (h36_0 P (h37_0 P (h38_0 P (h39_0 P (h40_0 P (h43_0 P (h44_0 P (h45_0 P []))))))))))))))))))))))))))))))))))
noncomputable def Rheap_611 : Params → Heap := fun P => ⟨⟨h42_0 P (h1_0 P (h2_0 P (h3_0 P (h4_0 P (h5_0 P (h6_0 P (h7_0 P (h8_0 P (h9_0 P (h10_0 P (h11_0 P (h31_0 P (h13_0 P (h14_0 P (h15_0 P (h16_0 P (h17_0 P (h21_0 P (h22_0 P (h23_0 P (h27_0 P (h28_0 P (h32_0 P (h33_0 P (h34_0 P (h36_0 P (h37_0 P (h38_0 P (h39_0 P (h40_0 P (h43_0 P (h44_0 P (h45_0 P [])))))))))))))))))))))))))))))))))⟩, Life.mk [] [] [] 0 [] [] false #[] [] 0 false false false 0 [2000, 10, 10] false 0 true [] [] 0 false⟩
noncomputable def KK : Params → W.Frag := fun P => (nat_lit 2, boot_o_2 P) :: (nat_lit 3, z317 P) :: (nat_lit 23, z11 P) :: (nat_lit 24, z12) :: (nat_lit 36, z20 P) :: (nat_lit 37, z21) :: (nat_lit 48, z27 P) :: (nat_lit 49, z28) :: (nat_lit 67, z40 P) :: (nat_lit 68, z41) :: (nat_lit 71, z1) :: (nat_lit 72, z44) :: (nat_lit 73, z45 P) :: (nat_lit 74, z46) :: (nat_lit 75, z47) :: (nat_lit 81, z50) :: (nat_lit 82, z51) :: (nat_lit 86, z53) :: (nat_lit 87, z54) :: (nat_lit 91, z56) :: (nat_lit 92, z57) :: (nat_lit 98, z60) :: (nat_lit 99, z61) :: (nat_lit 103, z63) :: (nat_lit 104, z64) :: (nat_lit 110, z67) :: (nat_lit 111, z68) :: (nat_lit 117, z71) :: (nat_lit 118, z72) :: (nat_lit 124, z75) :: (nat_lit 125, z76) :: (nat_lit 131, z79) :: (nat_lit 132, z80) :: (nat_lit 138, z83) :: (nat_lit 139, z84) :: (nat_lit 145, z87) :: (nat_lit 146, z88) :: (nat_lit 152, z91) :: (nat_lit 153, z92) :: (nat_lit 159, z95) :: (nat_lit 160, z96) :: (nat_lit 166, z99) :: (nat_lit 167, z100) :: (nat_lit 173, z103) :: (nat_lit 174, z104) :: (nat_lit 180, z107) :: (nat_lit 181, z108) :: (nat_lit 204, z121 P) :: (nat_lit 205, z239) :: (nat_lit 217, z132) :: (nat_lit 223, z135) :: (nat_lit 224, z136) :: (nat_lit 230, z139) :: (nat_lit 231, z140) :: (nat_lit 237, z143) :: (nat_lit 238, z144) :: (nat_lit 240, z146 P) :: (nat_lit 241, z147) :: (nat_lit 273, z167 P) :: (nat_lit 274, z168) :: (nat_lit 289, z177) :: (nat_lit 290, z178) :: (nat_lit 299, z183 P) :: (nat_lit 300, z184) :: (nat_lit 310, z194) :: (nat_lit 316, z197) :: (nat_lit 317, z198) :: (nat_lit 323, z201) :: (nat_lit 324, z202) :: (nat_lit 330, z205) :: (nat_lit 331, z206) :: (nat_lit 333, z208 P) :: (nat_lit 334, z209) :: (nat_lit 344, z219) :: (nat_lit 350, z222) :: (nat_lit 351, z223) :: (nat_lit 357, z226) :: (nat_lit 358, z227) :: (nat_lit 364, z230) :: (nat_lit 365, z231) :: (nat_lit 367, z233 P) :: (nat_lit 368, z234) :: (nat_lit 383, z246) :: (nat_lit 384, z247) :: (nat_lit 390, z250) :: (nat_lit 391, z251) :: (nat_lit 400, z257 P) :: (nat_lit 401, z258) :: (nat_lit 409, z263) :: (nat_lit 410, z264) :: (nat_lit 414, z266) :: (nat_lit 415, z267) :: (nat_lit 419, z271) :: (nat_lit 420, z272) :: (nat_lit 426, z275) :: (nat_lit 427, z276) :: (nat_lit 433, z279) :: (nat_lit 434, z280) :: (nat_lit 440, z283) :: (nat_lit 441, z284) :: (nat_lit 447, z287) :: (nat_lit 448, z288) :: (nat_lit 454, z291) :: (nat_lit 455, z292) :: (nat_lit 461, z295) :: (nat_lit 462, z296) :: (nat_lit 468, z299) :: (nat_lit 469, z300) :: (nat_lit 475, z303) :: (nat_lit 476, z304) :: (nat_lit 482, z307) :: (nat_lit 483, z308) :: (nat_lit 489, z311) :: (nat_lit 490, z312) :: (nat_lit 496, z315) :: (nat_lit 497, z316) :: (nat_lit 503, z321) :: (nat_lit 504, z322) :: (nat_lit 510, z325) :: (nat_lit 511, z326) :: (nat_lit 515, z328) :: (nat_lit 516, z329) :: (nat_lit 520, z331) :: (nat_lit 521, z332) :: (nat_lit 527, z335) :: (nat_lit 528, z336) :: (nat_lit 534, z339) :: (nat_lit 535, z340) :: []
noncomputable def KA : List Addr := [2, 3, 23, 24, 36, 37, 48, 49, 67, 68, 71, 72, 73, 74, 75, 81, 82, 86, 87, 91, 92, 98, 99, 103, 104, 110, 111, 117, 118, 124, 125, 131, 132, 138, 139, 145, 146, 152, 153, 159, 160, 166, 167, 173, 174, 180, 181, 204, 205, 217, 223, 224, 230, 231, 237, 238, 240, 241, 273, 274, 289, 290, 299, 300, 310, 316, 317, 323, 324, 330, 331, 333, 334, 344, 350, 351, 357, 358, 364, 365, 367, 368, 383, 384, 390, 391, 400, 401, 409, 410, 414, 415, 419, 420, 426, 427, 433, 434, 440, 441, 447, 448, 454, 455, 461, 462, 468, 469, 475, 476, 482, 483, 489, 490, 496, 497, 503, 504, 510, 511, 515, 516, 520, 521, 527, 528, 534, 535]
noncomputable def RB (P : Params) : List W.BT × List Heap := ([Rtree_364 P, Rtree_401 P, Rtree_438 P, Rtree_486 P, Rtree_570 P, Rtree_610 P], [Rheap_611 P])
theorem e_RB : RB = RB := rfl
name_quick x_RB for K22.RB by K22.e_RB
end K22
namespace PySem.W.Fast
noncomputable def tw10013491734027828481 : PySem.Params → W.BT := tw201187405518600791
theorem te10013491734027828481 : K22.Rtree_364 = tw10013491734027828481 := te201187405518600791
noncomputable def tw12769782564688998122 : PySem.Params → W.BT := tw9595280434365889990
theorem te12769782564688998122 : K22.Rtree_401 = tw12769782564688998122 := te9595280434365889990
noncomputable def tw15059958951529417458 : PySem.Params → W.BT := tw4219135009084380334
theorem te15059958951529417458 : K22.Rtree_438 = tw15059958951529417458 := te4219135009084380334
noncomputable def tw4943223937720744206 : PySem.Params → W.BT := tw12692843279325652172
theorem te4943223937720744206 : K22.Rtree_486 = tw4943223937720744206 := te12692843279325652172
noncomputable def tw3427662125319164906 : PySem.Params → W.BT := tw7382319458299700609
theorem te3427662125319164906 : K22.Rtree_570 = tw3427662125319164906 := te7382319458299700609
noncomputable def tw10106016543962932084 : PySem.Params → W.BT := tw6063989510509119270
theorem te10106016543962932084 : K22.Rtree_610 = tw10106016543962932084 := te6063989510509119270
noncomputable def tw5909946941260716873 : PySem.Params → PySem.Heap := tw9297398928097908618
theorem te5909946941260716873 : K22.Rheap_611 = tw5909946941260716873 := te9297398928097908618
end PySem.W.Fast
namespace K22
open PySem L2 K10
noncomputable abbrev spLaw := sp_law
theorem all1 {α : Type} {P : List α → Prop} (h : ∀ a, P [a]) : ∀ us : List α, us.length = 1 → P us
 | [a], _ => h a
theorem all2 {α : Type} {P : List α → Prop} (h : ∀ a b, P [a, b]) : ∀ us : List α, us.length = 2 → P us
 | [a, b], _ => h a b
theorem all3 {α : Type} {P : List α → Prop} (h : ∀ a b c, P [a, b, c]) : ∀ us : List α, us.length = 3 → P us
 | [a, b, c], _ => h a b c
theorem all5 {α : Type} {P : List α → Prop} (h : ∀ a b c d e, P [a, b, c, d, e]) : ∀ us : List α, us.length = 5 → P us
 | [a, b, c, d, e], _ => h a b c d e
theorem tail_GE {K : W.Frag} {GE : Addr} {ddG : Option Addr} {cdG : ClassData} {slG : Array (Option Value)} {cG : Value} (ho : K.lookup GE = some ⟨cG, ddG, .cls cdG, slG⟩) (hok : W.nsOkIn K cdG.ns = true) (hni : W.nsIn K cdG.ns "__init__" = some none) : W.tailIn K VE (.ref GE :: VE) = true ∧ (W.clsIn K GE).isSome = true := by
 have e : W.tailIn K VE VE = true := by unfold W.tailIn; rfl
 refine ⟨?_, by unfold W.clsIn; rw [ho]; rfl⟩
 unfold W.tailIn
 dsimp only
 rw [ho]
 dsimp only
 rw [hok, hni, e]
 simp
theorem excI_mk {K : W.Frag} {C GE : Addr} {ddC : Option Addr} {cdC : ClassData} {slC : Array (Option Value)} {k0 k1 k2 k3 k5 : Option Value} (hC : K.lookup C = some ⟨.type "type", ddC, .cls cdC, slC⟩) (hm : cdC.mro = .ref C :: .ref GE :: VE) (hs : slC.toList = [k0, k1, k2, k3, some (.builtin "ValueError.__new__"), k5]) (hd : cdC.hasDel = false) (h : W.tailIn K VE (.ref GE :: VE) = true) : excI K C = true ∧ ((W.clsIn K C).any fun cd => overVE cd.mro) = true := by
 refine ⟨?_, ?_⟩
 ·unfold excI
  rw [hC]
  simp only [hm, hs]
  rw [hd, h]
  simp
 ·unfold W.clsIn
  rw [hC]
  dsimp only
  show overVE cdC.mro = true
  rw [hm]
  show overVE VE = true
  decide
theorem kit_ref {K : W.Frag} {C X : Addr} {b : Bool} {c : Value} {dd : Option Addr} {cd : ClassData} {sl : Array (Option Value)} (hX : K.lookup X = some ⟨c, dd, .cls cd, sl⟩) (ht : W.typeIn K (.ref X) = some (.type "type")) (hs : W.subIn K (.ref C) (.ref X) = some b) (hn : b = false → (C == X) = false) : W.kitOne K (.ref C) (.ref X) = some b := by
 unfold W.kitOne
 by_cases h : ((Value.ref C) == (Value.ref X)) = true
 ·rw [if_pos h]
  have e := beq_iff_eq.mp h
  injection e with e
  subst e
  cases b with
  | true => rfl
  | false => have := hn rfl; simp at this
 ·rw [if_neg h]
  unfold W.kitCls
  dsimp only
  rw [if_pos]
  ·exact hs
  ·rw [ht]
   unfold W.clsIn
   rw [hX]
   simp
theorem kit_ty {K : W.Frag} {C : Addr} (hs : W.subIn K (.ref C) (.type "ValueError") = some true) : W.kitOne K (.ref C) (.type "ValueError") = some true := by
 unfold W.kitOne
 rw [if_neg (by intro h; have := beq_iff_eq.mp h; cases this)]
 unfold W.kitCls
 dsimp only
 rw [if_pos (by rfl)]
 exact hs
theorem excIn_mk {K : W.Frag} {C GE : Addr} {ddC : Option Addr} {cdC : ClassData} {slC : Array (Option Value)} {k0 k1 k2 k3 k5 : Option Value} (hC : K.lookup C = some ⟨.type "type", ddC, .cls cdC, slC⟩) (hm : cdC.mro = .ref C :: .ref GE :: VE) (hs : slC.toList = [k0, k1, k2, k3, some (.builtin "ValueError.__new__"), k5]) (hd : cdC.hasDel = false) (h : W.tailIn K VE (.ref GE :: VE) = true) (hok : W.nsOkIn K cdC.ns = true) (hni : W.nsIn K cdC.ns "__init__" = some none) : W.excIn K C VE "ValueError.__new__" = true := by
 unfold W.excIn
 rw [hC]
 simp only [hm, hs]
 rw [hd, h, hok, hni]
 simp
theorem gap_top {K : W.Frag} {a e : Addr} {od : Option Addr} {its : Array Value} {n : Nat} {sl : Array (Option Value)} {tk : Tok} (l : K.lookup a = some ⟨.type "tuple", od, .seq its n, sl⟩) (h : its.toList = [.str "gap" tk, .none, .ref e]) : ∀ H, SqT K H a [.str "gap", .non, .ref e] := fun H => by
 have v : Vals [.str "gap", .non, .ref e] its.toList := by rw [h]; exact .cons ⟨tk, rfl⟩ (.cons rfl (.cons rfl .nil))
 refine .inr ⟨_, its, n, l, rfl, rfl, ?_, v⟩
 have b : 1000 ≤ sizeLine := by decide
 have e2 : its.toList.length = its.size := Array.length_toList
 have e3 : its.toList.length = 3 := by rw [h]; rfl
 omega
theorem all_mk {l : W.OpenLaw} {w : World} {K : W.Frag} {h : Heap} {mg : Str → Option Value} {fa f1 f2 f3 f4 f5 f6 f7 f8 f9 f10 f11 f12 f13 f14 f15 f16 f17 f18 f19 f20 f21 f22 f23 f24 f25 f26 f27 f28 f29 f30 f31 f32 f33 f34 f35 f36 : Addr} (X : K.In h) (G : h.Ns mainGlobals mg) (hfa : mg "law" = some (.ref fa))
  {od1 an1 od2 an2 od3 an3 od4 an4 od5 an5 od6 an6 od7 an7 od8 an8 od9 an9 od10 an10 od11 an11 od12 an12 od13 an13 od14 an14 od15 an15 od16 an16 od17 an17 od18 an18 od19 an19 od20 an20 od21 an21 od22 an22 od23 an23 od24 an24 od25 an25 od26 an26 od27 an27 od28 an28 od29 an29 od30 an30 od31 an31 od32 an32 od33 an33 od34 an34 od35 an35 od36 an36 : Option Addr}
  {sl1 sl2 sl3 sl4 sl5 sl6 sl7 sl8 sl9 sl10 sl11 sl12 sl13 sl14 sl15 sl16 sl17 sl18 sl19 sl20 sl21 sl22 sl23 sl24 sl25 sl26 sl27 sl28 sl29 sl30 sl31 sl32 sl33 sl34 sl35 sl36 : Array (Option Value)}
  {oc1 kV1 dc1 pm1 cd1 ct1 oc2 kV2 dc2 pm2 cd2 ct2 oc3 kV3 dc3 pm3 cd3 ct3 oc4 kV4 dc4 pm4 cd4 ct4 oc5 kV5 dc5 pm5 cd5 ct5 oc6 kV6 dc6 pm6 cd6 ct6 oc7 kV7 dc7 pm7 cd7 ct7 oc8 kV8 dc8 pm8 cd8 ct8 oc9 kV9 dc9 pm9 cd9 ct9 oc10 kV10 dc10 pm10 cd10 ct10 oc11 kV11 dc11 pm11 cd11 ct11 oc12 kV12 dc12 pm12 cd12 ct12 oc13 kV13 dc13 pm13 cd13 ct13 oc14 kV14 dc14 pm14 cd14 ct14 oc15 kV15 dc15 pm15 cd15 ct15 oc16 kV16 dc16 pm16 cd16 ct16 oc17 kV17 dc17 pm17 cd17 ct17 oc18 kV18 dc18 pm18 cd18 ct18 oc19 kV19 dc19 pm19 cd19 ct19 oc20 kV20 dc20 pm20 cd20 ct20 oc21 kV21 dc21 pm21 cd21 ct21 oc22 kV22 dc22 pm22 cd22 ct22 oc23 kV23 dc23 pm23 cd23 ct23 oc24 kV24 dc24 pm24 cd24 ct24 oc25 kV25 dc25 pm25 cd25 ct25 oc26 kV26 dc26 pm26 cd26 ct26 oc27 kV27 dc27 pm27 cd27 ct27 oc28 kV28 dc28 pm28 cd28 ct28 oc29 kV29 dc29 pm29 cd29 ct29 oc30 kV30 dc30 pm30 cd30 ct30 oc31 kV31 dc31 pm31 cd31 ct31 oc32 kV32 dc32 pm32 cd32 ct32 oc33 kV33 dc33 pm33 cd33 ct33 oc34 kV34 dc34 pm34 cd34 ct34 oc35 kV35 dc35 pm35 cd35 ct35 oc36 kV36 dc36 pm36 cd36 ct36 : Value}
  (a1 : W.nsIn K mainGlobals "is_whole" = some (some (.ref f1))) (l1 : K.lookup f1 = some ⟨oc1, od1, .func (W.fnOf "is_whole" "is_whole" (defArgs s_is_whole) (defBody s_is_whole) (defScope s_is_whole) .none kV1 dc1 pm1 an1 cd1 ct1), sl1⟩) (c1 : W.codeIn K cd1 "is_whole" = true) (k1 : W.keepIn K (.ref f1) = true)
  (a2 : W.nsIn K mainGlobals "is_name" = some (some (.ref f2))) (l2 : K.lookup f2 = some ⟨oc2, od2, .func (W.fnOf "is_name" "is_name" (defArgs s_is_name) (defBody s_is_name) (defScope s_is_name) .none kV2 dc2 pm2 an2 cd2 ct2), sl2⟩) (c2 : W.codeIn K cd2 "is_name" = true) (k2 : W.keepIn K (.ref f2) = true)
  (a3 : W.nsIn K mainGlobals "is_figures" = some (some (.ref f3))) (l3 : K.lookup f3 = some ⟨oc3, od3, .func (W.fnOf "is_figures" "is_figures" (defArgs s_is_figures) (defBody s_is_figures) (defScope s_is_figures) .none kV3 dc3 pm3 an3 cd3 ct3), sl3⟩) (c3 : W.codeIn K cd3 "is_figures" = true) (k3 : W.keepIn K (.ref f3) = true)
  (a4 : W.nsIn K mainGlobals "is_odd_sign" = some (some (.ref f4))) (l4 : K.lookup f4 = some ⟨oc4, od4, .func (W.fnOf "is_odd_sign" "is_odd_sign" (defArgs s_is_odd_sign) (defBody s_is_odd_sign) (defScope s_is_odd_sign) .none kV4 dc4 pm4 an4 cd4 ct4), sl4⟩) (c4 : W.codeIn K cd4 "is_odd_sign" = true) (k4 : W.keepIn K (.ref f4) = true)
  (a5 : W.nsIn K mainGlobals "is_odd" = some (some (.ref f5))) (l5 : K.lookup f5 = some ⟨oc5, od5, .func (W.fnOf "is_odd" "is_odd" (defArgs s_is_odd) (defBody s_is_odd) (defScope s_is_odd) .none kV5 dc5 pm5 an5 cd5 ct5), sl5⟩) (c5 : W.codeIn K cd5 "is_odd" = true) (k5 : W.keepIn K (.ref f5) = true)
  (a6 : W.nsIn K mainGlobals "is_word" = some (some (.ref f6))) (l6 : K.lookup f6 = some ⟨oc6, od6, .func (W.fnOf "is_word" "is_word" (defArgs s_is_word) (defBody s_is_word) (defScope s_is_word) .none kV6 dc6 pm6 an6 cd6 ct6), sl6⟩) (c6 : W.codeIn K cd6 "is_word" = true) (k6 : W.keepIn K (.ref f6) = true)
  (a7 : W.nsIn K mainGlobals "is_two_names" = some (some (.ref f7))) (l7 : K.lookup f7 = some ⟨oc7, od7, .func (W.fnOf "is_two_names" "is_two_names" (defArgs s_is_two_names) (defBody s_is_two_names) (defScope s_is_two_names) .none kV7 dc7 pm7 an7 cd7 ct7), sl7⟩) (c7 : W.codeIn K cd7 "is_two_names" = true) (k7 : W.keepIn K (.ref f7) = true)
  (a8 : W.nsIn K mainGlobals "is_note" = some (some (.ref f8))) (l8 : K.lookup f8 = some ⟨oc8, od8, .func (W.fnOf "is_note" "is_note" (defArgs s_is_note) (defBody s_is_note) (defScope s_is_note) .none kV8 dc8 pm8 an8 cd8 ct8), sl8⟩) (c8 : W.codeIn K cd8 "is_note" = true) (k8 : W.keepIn K (.ref f8) = true)
  (a9 : W.nsIn K mainGlobals "is_top_of_form" = some (some (.ref f9))) (l9 : K.lookup f9 = some ⟨oc9, od9, .func (W.fnOf "is_top_of_form" "is_top_of_form" (defArgs s_is_top_of_form) (defBody s_is_top_of_form) (defScope s_is_top_of_form) .none kV9 dc9 pm9 an9 cd9 ct9), sl9⟩) (c9 : W.codeIn K cd9 "is_top_of_form" = true) (k9 : W.keepIn K (.ref f9) = true)
  (a10 : W.nsIn K mainGlobals "is_form" = some (some (.ref f10))) (l10 : K.lookup f10 = some ⟨oc10, od10, .func (W.fnOf "is_form" "is_form" (defArgs s_is_form) (defBody s_is_form) (defScope s_is_form) .none kV10 dc10 pm10 an10 cd10 ct10), sl10⟩) (c10 : W.codeIn K cd10 "is_form" = true) (k10 : W.keepIn K (.ref f10) = true)
  (a11 : W.nsIn K mainGlobals "refuse_no_form" = some (some (.ref f11))) (l11 : K.lookup f11 = some ⟨oc11, od11, .func (W.fnOf "refuse_no_form" "refuse_no_form" (defArgs s_refuse_no_form) (defBody s_refuse_no_form) (defScope s_refuse_no_form) .none kV11 dc11 pm11 an11 cd11 ct11), sl11⟩) (c11 : W.codeIn K cd11 "refuse_no_form" = true) (k11 : W.keepIn K (.ref f11) = true)
  (a12 : W.nsIn K mainGlobals "refuse_no_gap" = some (some (.ref f12))) (l12 : K.lookup f12 = some ⟨oc12, od12, .func (W.fnOf "refuse_no_gap" "refuse_no_gap" (defArgs s_refuse_no_gap) (defBody s_refuse_no_gap) (defScope s_refuse_no_gap) .none kV12 dc12 pm12 an12 cd12 ct12), sl12⟩) (c12 : W.codeIn K cd12 "refuse_no_gap" = true) (k12 : W.keepIn K (.ref f12) = true)
  (a13 : W.nsIn K mainGlobals "many_parts" = some (some (.ref f13))) (l13 : K.lookup f13 = some ⟨oc13, od13, .func (W.fnOf "many_parts" "many_parts" (defArgs s_many_parts) (defBody s_many_parts) (defScope s_many_parts) .none kV13 dc13 pm13 an13 cd13 ct13), sl13⟩) (c13 : W.codeIn K cd13 "many_parts" = true) (k13 : W.keepIn K (.ref f13) = true)
  (a14 : W.nsIn K mainGlobals "bare" = some (some (.ref f14))) (l14 : K.lookup f14 = some ⟨oc14, od14, .func (W.fnOf "bare" "bare" (defArgs s_bare) (defBody s_bare) (defScope s_bare) .none kV14 dc14 pm14 an14 cd14 ct14), sl14⟩) (c14 : W.codeIn K cd14 "bare" = true) (k14 : W.keepIn K (.ref f14) = true)
  (a15 : W.nsIn K mainGlobals "has_part" = some (some (.ref f15))) (l15 : K.lookup f15 = some ⟨oc15, od15, .func (W.fnOf "has_part" "has_part" (defArgs s_has_part) (defBody s_has_part) (defScope s_has_part) .none kV15 dc15 pm15 an15 cd15 ct15), sl15⟩) (c15 : W.codeIn K cd15 "has_part" = true) (k15 : W.keepIn K (.ref f15) = true)
  (a16 : W.nsIn K mainGlobals "with_part" = some (some (.ref f16))) (l16 : K.lookup f16 = some ⟨oc16, od16, .func (W.fnOf "with_part" "with_part" (defArgs s_with_part) (defBody s_with_part) (defScope s_with_part) .none kV16 dc16 pm16 an16 cd16 ct16), sl16⟩) (c16 : W.codeIn K cd16 "with_part" = true) (k16 : W.keepIn K (.ref f16) = true)
  (a17 : W.nsIn K mainGlobals "_law_cell" = some (some (.ref f17))) (l17 : K.lookup f17 = some ⟨oc17, od17, .func (W.fnOf "_law_cell" "_law_cell" (defArgs s_law_cell) (defBody s_law_cell) (defScope s_law_cell) .none kV17 dc17 pm17 an17 cd17 ct17), sl17⟩) (c17 : W.codeIn K cd17 "_law_cell" = true) (k17 : W.keepIn K (.ref f17) = true)
  (a18 : W.nsIn K mainGlobals "_law_names" = some (some (.ref f18))) (l18 : K.lookup f18 = some ⟨oc18, od18, .func (W.fnOf "_law_names" "_law_names" (defArgs s_law_names) (defBody s_law_names) (defScope s_law_names) .none kV18 dc18 pm18 an18 cd18 ct18), sl18⟩) (c18 : W.codeIn K cd18 "_law_names" = true) (k18 : W.keepIn K (.ref f18) = true)
  (a19 : W.nsIn K mainGlobals "_law_odd" = some (some (.ref f19))) (l19 : K.lookup f19 = some ⟨oc19, od19, .func (W.fnOf "_law_odd" "_law_odd" (defArgs s_law_odd) (defBody s_law_odd) (defScope s_law_odd) .none kV19 dc19 pm19 an19 cd19 ct19), sl19⟩) (c19 : W.codeIn K cd19 "_law_odd" = true) (k19 : W.keepIn K (.ref f19) = true)
  (a20 : W.nsIn K mainGlobals "_law_number" = some (some (.ref f20))) (l20 : K.lookup f20 = some ⟨oc20, od20, .func (W.fnOf "_law_number" "_law_number" (defArgs s_law_number) (defBody s_law_number) (defScope s_law_number) .none kV20 dc20 pm20 an20 cd20 ct20), sl20⟩) (c20 : W.codeIn K cd20 "_law_number" = true) (k20 : W.keepIn K (.ref f20) = true)
  (a21 : W.nsIn K mainGlobals "_law_head" = some (some (.ref f21))) (l21 : K.lookup f21 = some ⟨oc21, od21, .func (W.fnOf "_law_head" "_law_head" (defArgs s_law_head) (defBody s_law_head) (defScope s_law_head) .none kV21 dc21 pm21 an21 cd21 ct21), sl21⟩) (c21 : W.codeIn K cd21 "_law_head" = true) (k21 : W.keepIn K (.ref f21) = true)
  (a22 : W.nsIn K mainGlobals "_law_many" = some (some (.ref f22))) (l22 : K.lookup f22 = some ⟨oc22, od22, .func (W.fnOf "_law_many" "_law_many" (defArgs s_law_many) (defBody s_law_many) (defScope s_law_many) .none kV22 dc22 pm22 an22 cd22 ct22), sl22⟩) (c22 : W.codeIn K cd22 "_law_many" = true) (k22 : W.keepIn K (.ref f22) = true)
  (a23 : W.nsIn K mainGlobals "_law_tree" = some (some (.ref f23))) (l23 : K.lookup f23 = some ⟨oc23, od23, .func (W.fnOf "_law_tree" "_law_tree" (defArgs s_law_tree) (defBody s_law_tree) (defScope s_law_tree) .none kV23 dc23 pm23 an23 cd23 ct23), sl23⟩) (c23 : W.codeIn K cd23 "_law_tree" = true) (k23 : W.keepIn K (.ref f23) = true)
  (a24 : W.nsIn K mainGlobals "_law_sort" = some (some (.ref f24))) (l24 : K.lookup f24 = some ⟨oc24, od24, .func (W.fnOf "_law_sort" "_law_sort" (defArgs s_law_sort) (defBody s_law_sort) (defScope s_law_sort) .none kV24 dc24 pm24 an24 cd24 ct24), sl24⟩) (c24 : W.codeIn K cd24 "_law_sort" = true) (k24 : W.keepIn K (.ref f24) = true)
  (a25 : W.nsIn K mainGlobals "_law_class" = some (some (.ref f25))) (l25 : K.lookup f25 = some ⟨oc25, od25, .func (W.fnOf "_law_class" "_law_class" (defArgs s_law_class) (defBody s_law_class) (defScope s_law_class) .none kV25 dc25 pm25 an25 cd25 ct25), sl25⟩) (c25 : W.codeIn K cd25 "_law_class" = true) (k25 : W.keepIn K (.ref f25) = true)
  (a26 : W.nsIn K mainGlobals "_law_wrapped" = some (some (.ref f26))) (l26 : K.lookup f26 = some ⟨oc26, od26, .func (W.fnOf "_law_wrapped" "_law_wrapped" (defArgs s_law_wrapped) (defBody s_law_wrapped) (defScope s_law_wrapped) .none kV26 dc26 pm26 an26 cd26 ct26), sl26⟩) (c26 : W.codeIn K cd26 "_law_wrapped" = true) (k26 : W.keepIn K (.ref f26) = true)
  (a27 : W.nsIn K mainGlobals "_law_put" = some (some (.ref f27))) (l27 : K.lookup f27 = some ⟨oc27, od27, .func (W.fnOf "_law_put" "_law_put" (defArgs s_law_put) (defBody s_law_put) (defScope s_law_put) .none kV27 dc27 pm27 an27 cd27 ct27), sl27⟩) (c27 : W.codeIn K cd27 "_law_put" = true) (k27 : W.keepIn K (.ref f27) = true)
  (a28 : W.nsIn K mainGlobals "_law_bare" = some (some (.ref f28))) (l28 : K.lookup f28 = some ⟨oc28, od28, .func (W.fnOf "_law_bare" "_law_bare" (defArgs s_law_bare) (defBody s_law_bare) (defScope s_law_bare) .none kV28 dc28 pm28 an28 cd28 ct28), sl28⟩) (c28 : W.codeIn K cd28 "_law_bare" = true) (k28 : W.keepIn K (.ref f28) = true)
  (a29 : W.nsIn K mainGlobals "_law_done" = some (some (.ref f29))) (l29 : K.lookup f29 = some ⟨oc29, od29, .func (W.fnOf "_law_done" "_law_done" (defArgs s_law_done) (defBody s_law_done) (defScope s_law_done) .none kV29 dc29 pm29 an29 cd29 ct29), sl29⟩) (c29 : W.codeIn K cd29 "_law_done" = true) (k29 : W.keepIn K (.ref f29) = true)
  (a30 : W.nsIn K mainGlobals "_law_back" = some (some (.ref f30))) (l30 : K.lookup f30 = some ⟨oc30, od30, .func (W.fnOf "_law_back" "_law_back" (defArgs s_law_back) (defBody s_law_back) (defScope s_law_back) .none kV30 dc30 pm30 an30 cd30 ct30), sl30⟩) (c30 : W.codeIn K cd30 "_law_back" = true) (k30 : W.keepIn K (.ref f30) = true)
  (a31 : W.nsIn K mainGlobals "_law_both" = some (some (.ref f31))) (l31 : K.lookup f31 = some ⟨oc31, od31, .func (W.fnOf "_law_both" "_law_both" (defArgs s_law_both) (defBody s_law_both) (defScope s_law_both) .none kV31 dc31 pm31 an31 cd31 ct31), sl31⟩) (c31 : W.codeIn K cd31 "_law_both" = true) (k31 : W.keepIn K (.ref f31) = true)
  (a32 : W.nsIn K mainGlobals "_law_no_deed" = some (some (.ref f32))) (l32 : K.lookup f32 = some ⟨oc32, od32, .func (W.fnOf "_law_no_deed" "_law_no_deed" (defArgs s_law_no_deed) (defBody s_law_no_deed) (defScope s_law_no_deed) .none kV32 dc32 pm32 an32 cd32 ct32), sl32⟩) (c32 : W.codeIn K cd32 "_law_no_deed" = true) (k32 : W.keepIn K (.ref f32) = true)
  (a33 : W.nsIn K mainGlobals "_law_puts" = some (some (.ref f33))) (l33 : K.lookup f33 = some ⟨oc33, od33, .func (W.fnOf "_law_puts" "_law_puts" (defArgs s_law_puts) (defBody s_law_puts) (defScope s_law_puts) .none kV33 dc33 pm33 an33 cd33 ct33), sl33⟩) (c33 : W.codeIn K cd33 "_law_puts" = true) (k33 : W.keepIn K (.ref f33) = true)
  (a34 : W.nsIn K mainGlobals "_law_wraps" = some (some (.ref f34))) (l34 : K.lookup f34 = some ⟨oc34, od34, .func (W.fnOf "_law_wraps" "_law_wraps" (defArgs s_law_wraps) (defBody s_law_wraps) (defScope s_law_wraps) .none kV34 dc34 pm34 an34 cd34 ct34), sl34⟩) (c34 : W.codeIn K cd34 "_law_wraps" = true) (k34 : W.keepIn K (.ref f34) = true)
  (a35 : W.nsIn K mainGlobals "_law_keeps" = some (some (.ref f35))) (l35 : K.lookup f35 = some ⟨oc35, od35, .func (W.fnOf "_law_keeps" "_law_keeps" (defArgs s_law_keeps) (defBody s_law_keeps) (defScope s_law_keeps) .none kV35 dc35 pm35 an35 cd35 ct35), sl35⟩) (c35 : W.codeIn K cd35 "_law_keeps" = true) (k35 : W.keepIn K (.ref f35) = true)
  (a36 : W.nsIn K mainGlobals "law" = some (some (.ref f36))) (l36 : K.lookup f36 = some ⟨oc36, od36, .func (W.fnOf "law" "law" (defArgs s_law) (defBody s_law) (defScope s_law) .none kV36 dc36 pm36 an36 cd36 ct36), sl36⟩) (c36 : W.codeIn K cd36 "law" = true) (k36 : W.keepIn K (.ref f36) = true)
  (z1 : W.nsIn K mainGlobals "isinstance" = some none)
  (z2 : W.nsIn K mainGlobals "int" = some none)
  (z3 : W.nsIn K mainGlobals "bool" = some none)
  (z4 : W.nsIn K mainGlobals "str" = some none)
  (z5 : W.nsIn K mainGlobals "len" = some none)
  (z6 : W.nsIn K mainGlobals "all" = some none)
  (z7 : W.nsIn K mainGlobals "tuple" = some none)
  (z8 : W.nsIn K mainGlobals "range" = some none)
  (z9 : W.nsIn K mainGlobals "enumerate" = some none)
  (z10 : W.nsIn K mainGlobals "ValueError" = some none)
  {zt100 : Tok} (z100 : W.nsIn K mainGlobals "NAME_SIGNS" = some (some (.str LET zt100)))
  {zt101 : Tok} (z101 : W.nsIn K mainGlobals "FIGURES" = some (some (.str DIG zt101)))
  {za102 : Addr} {zo102 : Option Addr} {zi102 : Array Value} {zn102 : Nat} {zs102 : Array (Option Value)} (z102 : W.nsIn K mainGlobals "WORDS_NO_NAMES" = some (some (.ref za102))) (y102 : K.lookup za102 = some ⟨.type "tuple", zo102, .seq zi102 zn102, zs102⟩) (x102 : absAll zi102.toList = some (W9.map V.str))
  {za103 : Addr} {zo103 : Option Addr} {zi103 : Array Value} {zn103 : Nat} {zs103 : Array (Option Value)} (z103 : W.nsIn K mainGlobals "WORDS_NOT_ODD" = some (some (.ref za103))) (y103 : K.lookup za103 = some ⟨.type "tuple", zo103, .seq zi103 zn103, zs103⟩) (x103 : absAll zi103.toList = some (W10.map V.str))
  {za104 : Addr} {zi104 : Array DictEntry} {zn104 : Nat} (z104 : W.nsIn K mainGlobals "PARTS_OF_WORDS" = some (some (.ref za104))) (y104 : K.lookup za104 = some ⟨.type "dict", none, .dict zi104 zn104, #[]⟩) (x104 : (za104 == sysModules) = false) (e104 : Ents w.params zi104.toList PARTS)
  {GE : Addr} {cGE : Value} {ddGE : Option Addr} {cdGE : ClassData} {slGE : Array (Option Value)} (xGa : W.nsIn K mainGlobals "GapError" = some (some (.ref GE))) (xGl : K.lookup GE = some ⟨cGE, ddGE, .cls cdGE, slGE⟩) {cN : Value} {ddN : Option Addr} {esN : Array DictEntry} {nN : Nat} {slN : Array (Option Value)} (xGn : K.lookup cdGE.ns = some ⟨cN, ddN, .dict esN nN, slN⟩) (xGk : (esN.toList.all fun e => match e.key with | .str _ _ => true | _ => false) = true) (xGi : W.nsIn K cdGE.ns "__init__" = some none) (xGt : W.typeIn K (.ref GE) = some (.type "type")) (xGb : W.subIn K (.ref GE) (.type "BaseException") = some true)
  (xcg : W.specialIn K (.builtin "object.__class__") "__get__" = some (some (.builtin "getset_descriptor.__get__"))) (xct : W.takesIn K (.builtin "object.__class__") = some true) {NF : Addr} {ddNF : Option Addr} {slNF : Array (Option Value)} {cdNF : ClassData} {j0NF j1NF j2NF j3NF j5NF : Option Value} (xNFa : W.nsIn K mainGlobals "NoForm" = some (some (.ref NF))) (xNFl : K.lookup NF = some ⟨.type "type", ddNF, .cls cdNF, slNF⟩) (xNFm : cdNF.mro = .ref NF :: .ref GE :: VE) (xNFs : slNF.toList = [j0NF, j1NF, j2NF, j3NF, some (.builtin "ValueError.__new__"), j5NF]) (xNFd : cdNF.hasDel = false)
  {cMNF : Value} {ddMNF : Option Addr} {esMNF : Array DictEntry} {nMNF : Nat} {slMNF : Array (Option Value)} (xNFn : K.lookup cdNF.ns = some ⟨cMNF, ddMNF, .dict esMNF nMNF, slMNF⟩) (xNFk : (esMNF.toList.all fun e => match e.key with | .str _ _ => true | _ => false) = true) (xNFi : W.nsIn K cdNF.ns "__init__" = some none) (xNFt : W.typeIn K (.ref NF) = some (.type "type")) (xNFh : W.hasDictIn K NF = true) (xNFg : W.findIn K (.ref NF) "__getattribute__" = some (some (.builtin "BaseException.__getattribute__"))) (xNFga : W.findIn K (.ref NF) "__getattr__" = some none)
  (xNFsa : W.findIn K (.ref NF) "__setattr__" = some (some (.builtin "object.__setattr__"))) (xNFsub : W.subIn K (.ref NF) (.ref GE) = some true) (xNFca : W.findIn K (.ref NF) "__class__" = some (some (.builtin "object.__class__"))) (xNFv : W.subIn K (.ref NF) (.type "ValueError") = some true) {ND : Addr} {ddND : Option Addr} {slND : Array (Option Value)} {cdND : ClassData} {j0ND j1ND j2ND j3ND j5ND : Option Value} (xNDa : W.nsIn K mainGlobals "NoDeed" = some (some (.ref ND))) (xNDl : K.lookup ND = some ⟨.type "type", ddND, .cls cdND, slND⟩) (xNDm : cdND.mro = .ref ND :: .ref GE :: VE)
  (xNDs : slND.toList = [j0ND, j1ND, j2ND, j3ND, some (.builtin "ValueError.__new__"), j5ND]) (xNDd : cdND.hasDel = false) {cMND : Value} {ddMND : Option Addr} {esMND : Array DictEntry} {nMND : Nat} {slMND : Array (Option Value)} (xNDn : K.lookup cdND.ns = some ⟨cMND, ddMND, .dict esMND nMND, slMND⟩) (xNDk : (esMND.toList.all fun e => match e.key with | .str _ _ => true | _ => false) = true) (xNDi : W.nsIn K cdND.ns "__init__" = some none) (xNDt : W.typeIn K (.ref ND) = some (.type "type")) (xNDh : W.hasDictIn K ND = true) (xNDg : W.findIn K (.ref ND) "__getattribute__" = some (some (.builtin "BaseException.__getattribute__")))
  (xNDga : W.findIn K (.ref ND) "__getattr__" = some none) (xNDsa : W.findIn K (.ref ND) "__setattr__" = some (some (.builtin "object.__setattr__"))) (xNDsub : W.subIn K (.ref ND) (.ref GE) = some true) (xNDca : W.findIn K (.ref ND) "__class__" = some (some (.builtin "object.__class__"))) (xNDv : W.subIn K (.ref ND) (.type "ValueError") = some true) {NP : Addr} {cNP : Value} {ddNP : Option Addr} {cdNP : ClassData} {slNP : Array (Option Value)} (xNPa : W.nsIn K mainGlobals "NoPlace" = some (some (.ref NP))) (xNPl : K.lookup NP = some ⟨cNP, ddNP, .cls cdNP, slNP⟩)
  (xNPt : W.typeIn K (.ref NP) = some (.type "type")) (sNFND : W.subIn K (.ref NF) (.ref ND) = some false) (eNFND : (NF == ND) = false) (sNDNF : W.subIn K (.ref ND) (.ref NF) = some false) (eNDNF : (ND == NF) = false) (sNFNP : W.subIn K (.ref NF) (.ref NP) = some false) (eNFNP : (NF == NP) = false) (sNDNP : W.subIn K (.ref ND) (.ref NP) = some false) (eNDNP : (ND == NP) = false) {AD : Addr} (yDa : W.nsIn K mainGlobals "Deed" = some (some (.ref AD))) {tkW tkK : Tok} {AP : Addr} (yPa : W.nsIn K mainGlobals "Put" = some (some (.ref AP))) (yPpg : W.plainGet K AP Str.empty = true)
  (yPhd : W.hasDictIn K AP = true) (yPpo : W.plainOver K AP = true) (yPsa : W.findIn K (.ref AP) "__setattr__" = some (some (.builtin "object.__setattr__"))) (yPmk : W.makesIn K AP = true) (yPkc : W.keepIn K (.ref AP) = true) (yPnf : W.findIn K (.ref AP) "form" = some none) (yPna : W.findIn K (.ref AP) "at" = some none) (yPca : W.findIn K (.ref AP) "__class__" = some (some (.builtin "object.__class__"))) (yPcm : W.mroIn K AP (.type "object") = some true) {gPd : Addr} {ocgPd kVgPd dcgPd pmgPd cdgPd ctgPd : Value} {odgPd angPd : Option Addr}
  {slgPd : Array (Option Value)} (gPda : W.findIn K (.ref AP) "done" = some (some (.ref gPd))) (gPdi : W.isFn K (.ref gPd) = true) (gPdl : K.lookup gPd = some ⟨ocgPd, odgPd, .func (W.fnOf "done" "Put.done" (defArgs s_Put_done) (defBody s_Put_done) (defScope s_Put_done) .none kVgPd dcgPd pmgPd angPd cdgPd ctgPd), slgPd⟩) (gPdc : W.codeIn K cdgPd "Put.done" = true) (gPdk : W.keepIn K (.ref gPd) = true) {gPb : Addr} {ocgPb kVgPb dcgPb pmgPb cdgPb ctgPb : Value} {odgPb angPb : Option Addr} {slgPb : Array (Option Value)} (gPba : W.findIn K (.ref AP) "back" = some (some (.ref gPb)))
  (gPbi : W.isFn K (.ref gPb) = true) (gPbl : K.lookup gPb = some ⟨ocgPb, odgPb, .func (W.fnOf "back" "Put.back" (defArgs s_Put_back) (defBody s_Put_back) (defScope s_Put_back) .none kVgPb dcgPb pmgPb angPb cdgPb ctgPb), slgPb⟩) (gPbc : W.codeIn K cdgPb "Put.back" = true) (gPbk : W.keepIn K (.ref gPb) = true) {gPi : Addr} {ocgPi kVgPi dcgPi pmgPi cdgPi ctgPi : Value} {odgPi angPi : Option Addr} {slgPi : Array (Option Value)} (gPia : W.findIn K (.ref AP) "__init__" = some (some (.ref gPi))) (gPii : W.isFn K (.ref gPi) = true) {TP : Addr} (gPil : K.lookup gPi = some ⟨ocgPi, odgPi, .func (W.fnOf "__init__" "Put.__init__" (defArgs s_Put_init) (defBody s_Put_init) (defScope s_Put_init) (.ref TP) kVgPi dcgPi pmgPi angPi cdgPi ctgPi), slgPi⟩)
  (gPic : W.codeIn K cdgPi "Put.__init__" = true) (gPik : W.keepIn K (.ref gPi) = true) {oTP : Option Addr} {nTP : Nat} {sTP : Array (Option Value)} (tP : K.lookup TP = some ⟨.type "tuple", oTP, .seq #[.none] nTP, sTP⟩) {AC : Addr} (yCa : W.nsIn K mainGlobals "Cut" = some (some (.ref AC))) (yCpg : W.plainGet K AC Str.empty = true) (yChd : W.hasDictIn K AC = true) (yCpo : W.plainOver K AC = true) (yCsa : W.findIn K (.ref AC) "__setattr__" = some (some (.builtin "object.__setattr__"))) (yCmk : W.makesIn K AC = true) (yCkc : W.keepIn K (.ref AC) = true)
  (yCnf : W.findIn K (.ref AC) "form" = some none) (yCna : W.findIn K (.ref AC) "at" = some none) (yCca : W.findIn K (.ref AC) "__class__" = some (some (.builtin "object.__class__"))) (yCcm : W.mroIn K AC (.type "object") = some true) {gCd : Addr} {ocgCd kVgCd dcgCd pmgCd cdgCd ctgCd : Value} {odgCd angCd : Option Addr} {slgCd : Array (Option Value)} (gCda : W.findIn K (.ref AC) "done" = some (some (.ref gCd))) (gCdi : W.isFn K (.ref gCd) = true) (gCdl : K.lookup gCd = some ⟨ocgCd, odgCd, .func (W.fnOf "done" "Cut.done" (defArgs s_Cut_done) (defBody s_Cut_done) (defScope s_Cut_done) .none kVgCd dcgCd pmgCd angCd cdgCd ctgCd), slgCd⟩)
  (gCdc : W.codeIn K cdgCd "Cut.done" = true) (gCdk : W.keepIn K (.ref gCd) = true) {AW : Addr} (yWa : W.nsIn K mainGlobals "Wrap" = some (some (.ref AW))) (yWpg : W.plainGet K AW Str.empty = true) (yWhd : W.hasDictIn K AW = true) (yWpo : W.plainOver K AW = true) (yWsa : W.findIn K (.ref AW) "__setattr__" = some (some (.builtin "object.__setattr__"))) (yWmk : W.makesIn K AW = true) (yWkc : W.keepIn K (.ref AW) = true) (yWnf : W.findIn K (.ref AW) "form" = some none) (yWna : W.findIn K (.ref AW) "at" = some none) (yWca : W.findIn K (.ref AW) "__class__" = some (some (.builtin "object.__class__")))
  (yWcm : W.mroIn K AW (.type "object") = some true) {gWd : Addr} {ocgWd kVgWd dcgWd pmgWd cdgWd ctgWd : Value} {odgWd angWd : Option Addr} {slgWd : Array (Option Value)} (gWda : W.findIn K (.ref AW) "done" = some (some (.ref gWd))) (gWdi : W.isFn K (.ref gWd) = true) (gWdl : K.lookup gWd = some ⟨ocgWd, odgWd, .func (W.fnOf "done" "Wrap.done" (defArgs s_Wrap_done) (defBody s_Wrap_done) (defScope s_Wrap_done) .none kVgWd dcgWd pmgWd angWd cdgWd ctgWd), slgWd⟩) (gWdc : W.codeIn K cdgWd "Wrap.done" = true) (gWdk : W.keepIn K (.ref gWd) = true) {gWb : Addr} {ocgWb kVgWb dcgWb pmgWb cdgWb ctgWb : Value}
  {odgWb angWb : Option Addr} {slgWb : Array (Option Value)} (gWba : W.findIn K (.ref AW) "back" = some (some (.ref gWb))) (gWbi : W.isFn K (.ref gWb) = true) (gWbl : K.lookup gWb = some ⟨ocgWb, odgWb, .func (W.fnOf "back" "Wrap.back" (defArgs s_Wrap_back) (defBody s_Wrap_back) (defScope s_Wrap_back) .none kVgWb dcgWb pmgWb angWb cdgWb ctgWb), slgWb⟩) (gWbc : W.codeIn K cdgWb "Wrap.back" = true) (gWbk : W.keepIn K (.ref gWb) = true) {gWi : Addr} {ocgWi kVgWi dcgWi pmgWi cdgWi ctgWi : Value} {odgWi angWi : Option Addr} {slgWi : Array (Option Value)} (gWia : W.findIn K (.ref AW) "__init__" = some (some (.ref gWi)))
  (gWii : W.isFn K (.ref gWi) = true) {TW : Addr} (gWil : K.lookup gWi = some ⟨ocgWi, odgWi, .func (W.fnOf "__init__" "Wrap.__init__" (defArgs s_Wrap_init) (defBody s_Wrap_init) (defScope s_Wrap_init) (.ref TW) kVgWi dcgWi pmgWi angWi cdgWi ctgWi), slgWi⟩) (gWic : W.codeIn K cdgWi "Wrap.__init__" = true) (gWik : W.keepIn K (.ref gWi) = true) {oTW : Option Addr} {nTW : Nat} {sTW : Array (Option Value)} (tW : K.lookup TW = some ⟨.type "tuple", oTW, .seq #[.none, .int 0 tkW] nTW, sTW⟩) {AK : Addr} (yKa : W.nsIn K mainGlobals "Keep" = some (some (.ref AK))) (yKpg : W.plainGet K AK Str.empty = true)
  (yKhd : W.hasDictIn K AK = true) (yKpo : W.plainOver K AK = true) (yKsa : W.findIn K (.ref AK) "__setattr__" = some (some (.builtin "object.__setattr__"))) (yKmk : W.makesIn K AK = true) (yKkc : W.keepIn K (.ref AK) = true) (yKnf : W.findIn K (.ref AK) "form" = some none) (yKna : W.findIn K (.ref AK) "at" = some none) (yKca : W.findIn K (.ref AK) "__class__" = some (some (.builtin "object.__class__"))) (yKcm : W.mroIn K AK (.type "object") = some true) {gKd : Addr} {ocgKd kVgKd dcgKd pmgKd cdgKd ctgKd : Value} {odgKd angKd : Option Addr}
  {slgKd : Array (Option Value)} (gKda : W.findIn K (.ref AK) "done" = some (some (.ref gKd))) (gKdi : W.isFn K (.ref gKd) = true) (gKdl : K.lookup gKd = some ⟨ocgKd, odgKd, .func (W.fnOf "done" "Keep.done" (defArgs s_Keep_done) (defBody s_Keep_done) (defScope s_Keep_done) .none kVgKd dcgKd pmgKd angKd cdgKd ctgKd), slgKd⟩) (gKdc : W.codeIn K cdgKd "Keep.done" = true) (gKdk : W.keepIn K (.ref gKd) = true) {gKb : Addr} {ocgKb kVgKb dcgKb pmgKb cdgKb ctgKb : Value} {odgKb angKb : Option Addr} {slgKb : Array (Option Value)} (gKba : W.findIn K (.ref AK) "back" = some (some (.ref gKb)))
  (gKbi : W.isFn K (.ref gKb) = true) (gKbl : K.lookup gKb = some ⟨ocgKb, odgKb, .func (W.fnOf "back" "Keep.back" (defArgs s_Keep_back) (defBody s_Keep_back) (defScope s_Keep_back) .none kVgKb dcgKb pmgKb angKb cdgKb ctgKb), slgKb⟩) (gKbc : W.codeIn K cdgKb "Keep.back" = true) (gKbk : W.keepIn K (.ref gKb) = true) {gKi : Addr} {ocgKi kVgKi dcgKi pmgKi cdgKi ctgKi : Value} {odgKi angKi : Option Addr} {slgKi : Array (Option Value)} (gKia : W.findIn K (.ref AK) "__init__" = some (some (.ref gKi))) (gKii : W.isFn K (.ref gKi) = true) {TK : Addr} (gKil : K.lookup gKi = some ⟨ocgKi, odgKi, .func (W.fnOf "__init__" "Keep.__init__" (defArgs s_Keep_init) (defBody s_Keep_init) (defScope s_Keep_init) (.ref TK) kVgKi dcgKi pmgKi angKi cdgKi ctgKi), slgKi⟩)
  (gKic : W.codeIn K cdgKi "Keep.__init__" = true) (gKik : W.keepIn K (.ref gKi) = true) {oTK : Option Addr} {nTK : Nat} {sTK : Array (Option Value)} (tK : K.lookup TK = some ⟨.type "tuple", oTK, .seq #[.int 0 tkK] nTK, sTK⟩) {AG : Addr} (yGa : W.nsIn K mainGlobals "Change" = some (some (.ref AG))) (yGpg : W.plainGet K AG Str.empty = true) (yGhd : W.hasDictIn K AG = true) (yGpo : W.plainOver K AG = true) (yGsa : W.findIn K (.ref AG) "__setattr__" = some (some (.builtin "object.__setattr__"))) (yGmk : W.makesIn K AG = true) (yGkc : W.keepIn K (.ref AG) = true)
  (yGnf : W.findIn K (.ref AG) "form" = some none) (yGna : W.findIn K (.ref AG) "at" = some none) (yGca : W.findIn K (.ref AG) "__class__" = some (some (.builtin "object.__class__"))) (yGcm : W.mroIn K AG (.type "object") = some true) {gGd : Addr} {ocgGd kVgGd dcgGd pmgGd cdgGd ctgGd : Value} {odgGd angGd : Option Addr} {slgGd : Array (Option Value)} (gGda : W.findIn K (.ref AG) "done" = some (some (.ref gGd))) (gGdi : W.isFn K (.ref gGd) = true) (gGdl : K.lookup gGd = some ⟨ocgGd, odgGd, .func (W.fnOf "done" "Change.done" (defArgs s_Change_done) (defBody s_Change_done) (defScope s_Change_done) .none kVgGd dcgGd pmgGd angGd cdgGd ctgGd), slgGd⟩)
  (gGdc : W.codeIn K cdgGd "Change.done" = true) (gGdk : W.keepIn K (.ref gGd) = true) {gGi : Addr} {ocgGi kVgGi dcgGi pmgGi cdgGi ctgGi : Value} {odgGi angGi : Option Addr} {slgGi : Array (Option Value)} (gGia : W.findIn K (.ref AG) "__init__" = some (some (.ref gGi))) (gGii : W.isFn K (.ref gGi) = true) (gGil : K.lookup gGi = some ⟨ocgGi, odgGi, .func (W.fnOf "__init__" "Change.__init__" (defArgs s_Change_init) (defBody s_Change_init) (defScope s_Change_init) .none kVgGi dcgGi pmgGi angGi cdgGi ctgGi), slgGi⟩) (gGic : W.codeIn K cdgGi "Change.__init__" = true)
  (gGik : W.keepIn K (.ref gGi) = true) (yCoi : W.findIn K (.ref AC) "__init__" = some (some (.builtin "object.__init__"))) {cAD : Value} {ddAD : Option Addr} {cdAD : ClassData} {slAD : Array (Option Value)} (yDl : K.lookup AD = some ⟨cAD, ddAD, .cls cdAD, slAD⟩) (yDt : W.typeIn K (.ref AD) = some (.type "type")) (yPs : W.subIn K (.ref AP) (.ref AD) = some true) (yCs : W.subIn K (.ref AC) (.ref AD) = some true) (yWs : W.subIn K (.ref AW) (.ref AD) = some true) (yKs : W.subIn K (.ref AK) (.ref AD) = some true) (yGs : W.subIn K (.ref AG) (.ref AD) = some true)
  (nPC : (AP == AC) = false) (nPW : (AP == AW) = false) (nPK : (AP == AK) = false) (nPG : (AP == AG) = false) (nCW : (AC == AW) = false) (nCK : (AC == AK) = false) (nCG : (AC == AG) = false) (nWK : (AW == AK) = false) (nWG : (AW == AG) = false) (nKG : (AK == AG) = false) {ga ge : Addr} {go ho : Option Addr} {gi hi : Array Value} {gn hn : Nat} {gs hs : Array (Option Value)} {gt : Tok} (w90 : W.nsIn K mainGlobals "GAP" = some (some (.ref ga))) (w91 : K.lookup ga = some ⟨.type "tuple", go, .seq gi gn, gs⟩) (w92 : gi.toList = [.str "gap" gt, .none, .ref ge]) (w93 : K.lookup ge = some ⟨.type "tuple", ho, .seq hi hn, hs⟩)
  (w94 : absAll hi.toList = some []) :
  ∃ fd : FuncData, (∀ (s : Shared) (v : Value), BindsTo s fd ⟨[v], []⟩ [("_law_script", v)]) ∧ ∀ base : Heap, K.In base → base.Ns mainGlobals mg → FnOk l.prog w K mg base CX0 13 fa fd ["_law_script"] (spLaw K) := by
 have e := hfa.symm.trans (W.mg_of X G a36)
 cases e
 have T : Txt K mg := { isinstance := W.mg_none_of X G z1, int := W.mg_none_of X G z2, bool := W.mg_none_of X G z3, str := W.mg_none_of X G z4, len := W.mg_none_of X G z5, all := W.mg_none_of X G z6, tuple := W.mg_none_of X G z7, range := W.mg_none_of X G z8, enumerate := W.mg_none_of X G z9, ValueError := W.mg_none_of X G z10 }
 have GS : Gs l.prog w K mg := { gp := ⟨_, _, ⟨_, W.mg_of X G w90, rfl⟩, gap_top w91 w92, top_tuple w93 w94 (by decide)⟩, ns := ⟨_, W.mg_of X G z100, ⟨_, rfl⟩⟩, fg := ⟨_, W.mg_of X G z101, ⟨_, rfl⟩⟩, w9 := ⟨_, ⟨_, W.mg_of X G z102, rfl⟩, top_tuple y102 x102 (by decide)⟩, w10 := ⟨_, ⟨_, W.mg_of X G z103, rfl⟩, top_tuple y103 x103 (by decide)⟩, pw := ⟨_, ⟨_, W.mg_of X G z104, rfl⟩, dk_mk y104 x104 e104 (by decide +kernel)⟩ }
 have F1 := fun_mk (st := s_is_whole) l1 c1 k1
 have b1 := F1.binds (ps := ["thing"]) fun _ _ _ _ _ _ => all1 fun _ => rfl
 have F2 := fun_mk (st := s_is_name) l2 c2 k2
 have b2 := F2.binds (ps := ["thing"]) fun _ _ _ _ _ _ => all1 fun _ => rfl
 have F3 := fun_mk (st := s_is_figures) l3 c3 k3
 have b3 := F3.binds (ps := ["text"]) fun _ _ _ _ _ _ => all1 fun _ => rfl
 have F4 := fun_mk (st := s_is_odd_sign) l4 c4 k4
 have b4 := F4.binds (ps := ["sign"]) fun _ _ _ _ _ _ => all1 fun _ => rfl
 have F5 := fun_mk (st := s_is_odd) l5 c5 k5
 have b5 := F5.binds (ps := ["thing"]) fun _ _ _ _ _ _ => all1 fun _ => rfl
 have F6 := fun_mk (st := s_is_word) l6 c6 k6
 have b6 := F6.binds (ps := ["thing"]) fun _ _ _ _ _ _ => all1 fun _ => rfl
 have F7 := fun_mk (st := s_is_two_names) l7 c7 k7
 have b7 := F7.binds (ps := ["thing"]) fun _ _ _ _ _ _ => all1 fun _ => rfl
 have F8 := fun_mk (st := s_is_note) l8 c8 k8
 have b8 := F8.binds (ps := ["word", "note"]) fun _ _ _ _ _ _ => all2 fun _ _ => rfl
 have F9 := fun_mk (st := s_is_top_of_form) l9 c9 k9
 have b9 := F9.binds (ps := ["thing"]) fun _ _ _ _ _ _ => all1 fun _ => rfl
 have F10 := fun_mk (st := s_is_form) l10 c10 k10
 have b10 := F10.binds (ps := ["thing"]) fun _ _ _ _ _ _ => all1 fun _ => rfl
 have F11 := fun_mk (st := s_refuse_no_form) l11 c11 k11
 have b11 := F11.binds (ps := ["thing"]) fun _ _ _ _ _ _ => all1 fun _ => rfl
 have F12 := fun_mk (st := s_refuse_no_gap) l12 c12 k12
 have b12 := F12.binds (ps := ["form"]) fun _ _ _ _ _ _ => all1 fun _ => rfl
 have F13 := fun_mk (st := s_many_parts) l13 c13 k13
 have b13 := F13.binds (ps := ["word"]) fun _ _ _ _ _ _ => all1 fun _ => rfl
 have F14 := fun_mk (st := s_bare) l14 c14 k14
 have b14 := F14.binds (ps := ["word", "note"]) fun _ _ _ _ _ _ => all2 fun _ _ => rfl
 have F15 := fun_mk (st := s_has_part) l15 c15 k15
 have b15 := F15.binds (ps := ["form", "number"]) fun _ _ _ _ _ _ => all2 fun _ _ => rfl
 have F16 := fun_mk (st := s_with_part) l16 c16 k16
 have b16 := F16.binds (ps := ["form", "number", "part"]) fun _ _ _ _ _ _ => all3 fun _ _ _ => rfl
 have F17 := fun_mk (st := s_law_cell) l17 c17 k17
 have b17 := F17.binds (ps := ["_law_script", "_law_k"]) fun _ _ _ _ _ _ => all2 fun _ _ => rfl
 have F18 := fun_mk (st := s_law_names) l18 c18 k18
 have b18 := F18.binds (ps := ["_law_one", "_law_other"]) fun _ _ _ _ _ _ => all2 fun _ _ => rfl
 have F19 := fun_mk (st := s_law_odd) l19 c19 k19
 have b19 := F19.binds (ps := ["_law_cell_here"]) fun _ _ _ _ _ _ => all1 fun _ => rfl
 have F20 := fun_mk (st := s_law_number) l20 c20 k20
 have b20 := F20.binds (ps := ["_law_cell_here"]) fun _ _ _ _ _ _ => all1 fun _ => rfl
 have F21 := fun_mk (st := s_law_head) l21 c21 k21
 have b21 := F21.binds (ps := ["_law_cell_here", "_law_names_here"]) fun _ _ _ _ _ _ => all2 fun _ _ => rfl
 have F22 := fun_mk (st := s_law_many) l22 c22 k22
 have b22 := F22.binds (ps := ["_law_word"]) fun _ _ _ _ _ _ => all1 fun _ => rfl
 have F23 := fun_mk (st := s_law_tree) l23 c23 k23
 have b23 := F23.binds (ps := ["_law_cells", "_law_names_here"]) fun _ _ _ _ _ _ => all2 fun _ _ => rfl
 have F24 := fun_mk (st := s_law_sort) l24 c24 k24
 have b24 := F24.binds (ps := ["_law_word"]) fun _ _ _ _ _ _ => all1 fun _ => rfl
 have F25 := fun_mk (st := s_law_class) l25 c25 k25
 have b25 := F25.binds (ps := ["_law_e"]) fun _ _ _ _ _ _ => all1 fun _ => rfl
 have F26 := fun_mk (st := s_law_wrapped) l26 c26 k26
 have b26 := F26.binds (ps := ["_law_word", "_law_remark", "_law_seat"]) fun _ _ _ _ _ _ => all3 fun _ _ _ => rfl
 have F27 := fun_mk (st := s_law_put) l27 c27 k27
 have b27 := F27.binds (ps := ["_law_word", "_law_remark", "_law_left_out"]) fun _ _ _ _ _ _ => all3 fun _ _ _ => rfl
 have F28 := fun_mk (st := s_law_bare) l28 c28 k28
 have b28 := F28.binds (ps := ["_law_word"]) fun _ _ _ _ _ _ => all1 fun _ => rfl
 have F29 := fun_mk (st := s_law_done) l29 c29 k29
 have b29 := F29.binds (ps := ["_law_deed", "_law_form"]) fun _ _ _ _ _ _ => all2 fun _ _ => rfl
 have F30 := fun_mk (st := s_law_back) l30 c30 k30
 have b30 := F30.binds (ps := ["_law_deed", "_law_form"]) fun _ _ _ _ _ _ => all2 fun _ _ => rfl
 have F31 := fun_mk (st := s_law_both) l31 c31 k31
 have b31 := F31.binds (ps := ["_law_deed", "_law_form", "_law_due"]) fun _ _ _ _ _ _ => all3 fun _ _ _ => rfl
 have F32 := fun_mk (st := s_law_no_deed) l32 c32 k32
 have b32 := F32.binds (ps := ["_law_deed", "_law_form"]) fun _ _ _ _ _ _ => all2 fun _ _ => rfl
 have F33 := fun_mk (st := s_law_puts) l33 c33 k33
 have b33 := F33.binds (ps := ["_law_word", "_law_remark", "_law_wrong", "_law_bad", "_law_tree_here"]) fun _ _ _ _ _ _ => all5 fun _ _ _ _ _ => rfl
 have F34 := fun_mk (st := s_law_wraps) l34 c34 k34
 have b34 := F34.binds (ps := ["_law_word", "_law_remark", "_law_wrong", "_law_tree_here", "_law_far"]) fun _ _ _ _ _ _ => all5 fun _ _ _ _ _ => rfl
 have F35 := fun_mk (st := s_law_keeps) l35 c35 k35
 have b35 := F35.binds (ps := ["_law_tree_here", "_law_numbers"]) fun _ _ _ _ _ _ => all2 fun _ _ => rfl
 have F36 := fun_mk (st := s_law) l36 c36 k36
 have b36 := F36.binds (ps := ["_law_script"]) fun _ _ _ _ _ _ => all1 fun _ => rfl
 refine ⟨W.fnOf "law" "law" (defArgs s_law) (defBody s_law) (defScope s_law) .none kV36 dc36 pm36 an36 cd36 ct36, fun s v => .of_eq rfl, fun base _ _ => ?_⟩
 have xGo : W.nsOkIn K cdGE.ns = true := by unfold W.nsOkIn; rw [xGn]; show (esN.all fun e => match e.key with | .str _ _ => true | _ => false) = true; rw [← Array.all_toList]; exact xGk
 obtain ⟨tG, iG⟩ := tail_GE xGl xGo xGi
 have gG := W.mg_of X G xGa
 have XG : ExcC K GE := ⟨xGt, iG, xGb⟩
 have xNFo : W.nsOkIn K cdNF.ns = true := by unfold W.nsOkIn; rw [xNFn]; show (esMNF.all fun e => match e.key with | .str _ _ => true | _ => false) = true; rw [← Array.all_toList]; exact xNFk
 have rNF := excIn_mk xNFl xNFm xNFs xNFd tG xNFo xNFi
 have gNF := W.mg_of X G xNFa
 have nNF : ExN K NF := { toExC := ⟨(excI_mk xNFl xNFm xNFs xNFd tG).2, xNFh, xNFg, xNFga, xNFsa, xNFt⟩, ca := xNFca, cg := xcg, ct := xct }
 have xNDo : W.nsOkIn K cdND.ns = true := by unfold W.nsOkIn; rw [xNDn]; show (esMND.all fun e => match e.key with | .str _ _ => true | _ => false) = true; rw [← Array.all_toList]; exact xNDk
 have rND := excIn_mk xNDl xNDm xNDs xNDd tG xNDo xNDi
 have gND := W.mg_of X G xNDa
 have nND : ExN K ND := { toExC := ⟨(excI_mk xNDl xNDm xNDs xNDd tG).2, xNDh, xNDg, xNDga, xNDsa, xNDt⟩, ca := xNDca, cg := xcg, ct := xct }
 have KD : KdC K mg NF ND NP := { nF := nNF, nD := nND, gF := gNF, gD := gND, gP := W.mg_of X G xNPa, vF := kit_ty xNFv, vD := kit_ty xNDv, fD := kit_ref xNDl xNDt sNFND fun _ => eNFND, dF := kit_ref xNFl xNFt sNDNF fun _ => eNDNF, fP := kit_ref xNPl xNPt sNFNP fun _ => eNFNP, dP := kit_ref xNPl xNPt sNDNP fun _ => eNDNP }
 have sFG := xNFsub
 have sDG := xNDsub
 have clP : Cls K AP := ⟨yPpg, yPhd, yPpo, yPsa⟩
 have oP : Own K mg "Put" AP := { cl := clP, at_ := W.mg_of X G yPa, nf := yPnf, na := yPna, ca := yPca, cg := xcg, ct := xct, cm := yPcm }
 have FgPd := fun_mk (st := s_Put_done) gPdl gPdc gPdk
 have bgPd := FgPd.binds (ps := ["self", "form"]) fun _ _ _ _ _ _ => all2 fun _ _ => rfl
 have FgPb := fun_mk (st := s_Put_back) gPbl gPbc gPbk
 have bgPb := FgPb.binds (ps := ["self", "form"]) fun _ _ _ _ _ _ => all2 fun _ _ => rfl
 have FgPi := funD_mk (st := s_Put_init) gPil gPic gPik
 have clC : Cls K AC := ⟨yCpg, yChd, yCpo, yCsa⟩
 have oC : Own K mg "Cut" AC := { cl := clC, at_ := W.mg_of X G yCa, nf := yCnf, na := yCna, ca := yCca, cg := xcg, ct := xct, cm := yCcm }
 have FgCd := fun_mk (st := s_Cut_done) gCdl gCdc gCdk
 have bgCd := FgCd.binds (ps := ["self", "form"]) fun _ _ _ _ _ _ => all2 fun _ _ => rfl
 have clW : Cls K AW := ⟨yWpg, yWhd, yWpo, yWsa⟩
 have oW : Own K mg "Wrap" AW := { cl := clW, at_ := W.mg_of X G yWa, nf := yWnf, na := yWna, ca := yWca, cg := xcg, ct := xct, cm := yWcm }
 have FgWd := fun_mk (st := s_Wrap_done) gWdl gWdc gWdk
 have bgWd := FgWd.binds (ps := ["self", "form"]) fun _ _ _ _ _ _ => all2 fun _ _ => rfl
 have FgWb := fun_mk (st := s_Wrap_back) gWbl gWbc gWbk
 have bgWb := FgWb.binds (ps := ["self", "form"]) fun _ _ _ _ _ _ => all2 fun _ _ => rfl
 have FgWi := funD_mk (st := s_Wrap_init) gWil gWic gWik
 have clK : Cls K AK := ⟨yKpg, yKhd, yKpo, yKsa⟩
 have oK : Own K mg "Keep" AK := { cl := clK, at_ := W.mg_of X G yKa, nf := yKnf, na := yKna, ca := yKca, cg := xcg, ct := xct, cm := yKcm }
 have FgKd := fun_mk (st := s_Keep_done) gKdl gKdc gKdk
 have bgKd := FgKd.binds (ps := ["self", "form"]) fun _ _ _ _ _ _ => all2 fun _ _ => rfl
 have FgKb := fun_mk (st := s_Keep_back) gKbl gKbc gKbk
 have bgKb := FgKb.binds (ps := ["self", "form"]) fun _ _ _ _ _ _ => all2 fun _ _ => rfl
 have FgKi := funD_mk (st := s_Keep_init) gKil gKic gKik
 have clG : Cls K AG := ⟨yGpg, yGhd, yGpo, yGsa⟩
 have oG : Own K mg "Change" AG := { cl := clG, at_ := W.mg_of X G yGa, nf := yGnf, na := yGna, ca := yGca, cg := xcg, ct := xct, cm := yGcm }
 have FgGd := fun_mk (st := s_Change_done) gGdl gGdc gGdk
 have bgGd := FgGd.binds (ps := ["self", "form"]) fun _ _ _ _ _ _ => all2 fun _ _ => rfl
 have FgGi := fun_mk (st := s_Change_init) gGil gGic gGik
 have bgGi := FgGi.binds (ps := ["self", "form"]) fun _ _ _ _ _ _ => all2 fun _ _ => rfl
 obtain ⟨c, ec⟩ : ∃ c : Cs, c = ⟨AD, AP, AC, AW, AK, AG⟩ := ⟨_, rfl⟩
 have ecd : c.d = AD := by rw [ec]
 have ecp : c.p = AP := by rw [ec]
 have ecc : c.c = AC := by rw [ec]
 have ecw : c.w = AW := by rw [ec]
 have eck : c.k = AK := by rw [ec]
 have ecg : c.g = AG := by rw [ec]
 have Ap : c.Apart := { pc := by rw [ecp, ecc]; intro z; subst z; simp at nPC, pw := by rw [ecp, ecw]; intro z; subst z; simp at nPW, pk := by rw [ecp, eck]; intro z; subst z; simp at nPK, pg := by rw [ecp, ecg]; intro z; subst z; simp at nPG, cw := by rw [ecc, ecw]; intro z; subst z; simp at nCW, ck := by rw [ecc, eck]; intro z; subst z; simp at nCK, cg := by rw [ecc, ecg]; intro z; subst z; simp at nCG, wk := by rw [ecw, eck]; intro z; subst z; simp at nWK, wg := by rw [ecw, ecg]; intro z; subst z; simp at nWG, kg := by rw [eck, ecg]; intro z; subst z; simp at nKG }
 have KL : Kl K mg c := { gd := by rw [ecd]; exact W.mg_of X G yDa, op := by rw [ecp]; exact oP, oc := by rw [ecc]; exact oC, ow := by rw [ecw]; exact oW, ok := by rw [eck]; exact oK, og := by rw [ecg]; exact oG, pd := by rw [ecp, ecd]; exact kit_ref yDl yDt yPs (fun h => nomatch h), cd := by rw [ecc, ecd]; exact kit_ref yDl yDt yCs (fun h => nomatch h), wd := by rw [ecw, ecd]; exact kit_ref yDl yDt yWs (fun h => nomatch h), kd := by rw [eck, ecd]; exact kit_ref yDl yDt yKs (fun h => nomatch h), hd := by rw [ecg, ecd]; exact kit_ref yDl yDt yGs (fun h => nomatch h) }
 have G_GAP : Glob mg "GAP" (.ref ga) := ⟨_, W.mg_of X G w90, rfl⟩
 have GA : GapAt K ga := ⟨fun H => TrAt.gap (gap_top w91 w92 H) (top_tuple w93 w94 (by decide) H)⟩
 have Mk0C : Make0 K mg "Cut" c.c := by rw [ecc]; exact ⟨yCmk, yCoi, yCkc, oC.at_⟩
 have mkP : Mk K c.p gPi := by rw [ecp]; exact ⟨yPmk, gPia, gPii, yPkc⟩
 have mkW : Mk K c.w gWi := by rw [ecw]; exact ⟨yWmk, gWia, gWii, yWkc⟩
 have mkK : Mk K c.k gKi := by rw [eck]; exact ⟨yKmk, gKia, gKii, yKkc⟩
 have C_is_whole := callee_of (P := l.prog) (w := w) (base := base) (ok_whole F1 T) (W.mg_of X G a1) k1 b1
 have C_is_name := callee_of (P := l.prog) (w := w) (base := base) (ok_name F2 T GS) (W.mg_of X G a2) k2 b2
 have C_is_figures := callee_of (P := l.prog) (w := w) (base := base) (ok_fig F3 T GS) (W.mg_of X G a3) k3 b3
 have C_is_odd_sign := callee_of (P := l.prog) (w := w) (base := base) (ok_osign F4 T) (W.mg_of X G a4) k4 b4
 have C_is_odd := callee_of (P := l.prog) (w := w) (base := base) (ok_odd F5 T GS C_is_odd_sign C_is_name C_is_figures) (W.mg_of X G a5) k5 b5
 have C_is_word := callee_of (P := l.prog) (w := w) (base := base) (ok_word F6 T GS) (W.mg_of X G a6) k6 b6
 have C_is_two_names := callee_of (P := l.prog) (w := w) (base := base) (ok_two F7 T C_is_name) (W.mg_of X G a7) k7 b7
 have C_is_note := callee_of (P := l.prog) (w := w) (base := base) (ok_note F8 T C_is_whole C_is_name C_is_odd C_is_two_names) (W.mg_of X G a8) k8 b8
 have C_is_top_of_form := callee_of (P := l.prog) (w := w) (base := base) (ok_top F9 T GS C_is_word C_is_note) (W.mg_of X G a9) k9 b9
 have C_is_form := callee_of (P := l.prog) (w := w) (base := base) (ok_form F10 T C_is_top_of_form) (W.mg_of X G a10) k10 b10
 have C_refuse_no_form := calleex_of (P := l.prog) (w := w) (base := base) (ok_refF F11 T C_is_form rNF gNF) (W.mg_of X G a11) k11 b11
 have C_refuse_no_gap := calleex_of (P := l.prog) (w := w) (base := base) (ok_refG F12 T rND gND) (W.mg_of X G a12) k12 b12
 have C_many_parts := calleex_of (P := l.prog) (w := w) (base := base) (ok_manyp F13 T GS C_is_word rNF gNF) (W.mg_of X G a13) k13 b13
 have C_bare := calleex_of (P := l.prog) (w := w) (base := base) (ok_bare F14 T G_GAP C_many_parts C_is_note rNF gNF) (W.mg_of X G a14) k14 b14
 have C_has_part := callee_of (P := l.prog) (w := w) (base := base) (ok_has F15 T C_is_whole) (W.mg_of X G a15) k15 b15
 have C_with_part := callee_of (P := l.prog) (w := w) (base := base) (ok_wpart F16 T) (W.mg_of X G a16) k16 b16
 have C__law_cell := callee_of (P := l.prog) (w := w) (base := base) (ok_cell F17 T) (W.mg_of X G a17) k17 b17
 have C__law_names := callee_of (P := l.prog) (w := w) (base := base) (ok_names F18 T) (W.mg_of X G a18) k18 b18
 have C__law_odd := callee_of (P := l.prog) (w := w) (base := base) (ok_lodd F19 T) (W.mg_of X G a19) k19 b19
 have C__law_number := callee_of (P := l.prog) (w := w) (base := base) (ok_num F20 T) (W.mg_of X G a20) k20 b20
 have C__law_head := callee_of (P := l.prog) (w := w) (base := base) (ok_head F21 T C__law_odd C__law_number) (W.mg_of X G a21) k21 b21
 have C__law_many := callee_of (P := l.prog) (w := w) (base := base) (ok_many F22 T) (W.mg_of X G a22) k22 b22
 have C__law_tree := callee_of (P := l.prog) (w := w) (base := base) (ok_tree F23 T C__law_head C__law_many) (W.mg_of X G a23) k23 b23
 have C__law_sort := callee_of (P := l.prog) (w := w) (base := base) (ok_sort F24 T) (W.mg_of X G a24) k24 b24
 have okP := ok_Pinit (base := base) (P := l.prog) (w := w) FgPi T KL.op C_bare rNF gNF
 have okW := ok_Winit (base := base) (P := l.prog) (w := w) FgWi T KL.ow GA C_bare C_has_part rNF gNF
 have okK := ok_Kinit (base := base) (P := l.prog) (w := w) FgKi T KL.ok
 have MkP1 : MakeK (CXR l.prog w) l.prog w K mg base 5 "Put" c.p ["self", "word", "note"] [] (fun vs _ => vs ++ [.non]) (sp_initP K c ga NF) := ⟨gPi, _, _, okP, mkP, KL.op.at_, kbP1 tP⟩
 have MkPn : MakeK (CXR l.prog w) l.prog w K mg base 5 "Put" c.p ["self", "word", "note"] ["note"] gNote (sp_initP K c ga NF) := ⟨gPi, _, _, okP, mkP, KL.op.at_, kbPn tP⟩
 have MkW3 : MakeK (CXR l.prog w) l.prog w K mg base 5 "Wrap" c.w ["self", "word", "note", "at"] [] (fun vs _ => vs) (sp_initW K c ga NF) := ⟨gWi, _, _, okW, mkW, KL.ow.at_, kbW3 tW⟩
 have MkW1 : MakeK (CXR l.prog w) l.prog w K mg base 5 "Wrap" c.w ["self", "word", "note", "at"] [] (fun vs _ => vs ++ [.non, .int 0]) (sp_initW K c ga NF) := ⟨gWi, _, _, okW, mkW, KL.ow.at_, kbW1 tW⟩
 have MkW2 : MakeK CX0 l.prog w K mg base 5 "Wrap" c.w ["self", "word", "note", "at"] [] (fun vs _ => vs ++ [.int 0]) (fun vs H Q _ => sp_initW K c ga NF vs H Q E0) := ⟨gWi, _, _, calm okW, mkW, KL.ow.at_, kbW2 tW⟩
 have MkWa : MakeK CX0 l.prog w K mg base 5 "Wrap" c.w ["self", "word", "note", "at"] ["at"] gWat (fun vs H Q _ => sp_initW K c ga NF vs H Q E0) := ⟨gWi, _, _, calm okW, mkW, KL.ow.at_, kbWa tW⟩
 have MkKx : MakeK (CXR l.prog w) l.prog w K mg base 1 "Keep" c.k ["self", "at"] [] (fun vs _ => vs) (sp_initK K c) := ⟨gKi, _, _, okK, mkK, KL.ok.at_, kbK1 tK⟩
 have MkK1 : MakeK CX0 l.prog w K mg base 1 "Keep" c.k ["self", "at"] [] (fun vs _ => vs) (sp_initK K c) := ⟨gKi, _, _, calm okK, mkK, KL.ok.at_, kbK1 tK⟩
 have MkK0 : MakeK CX0 l.prog w K mg base 1 "Keep" c.k ["self", "at"] [] (fun vs _ => vs ++ [.int 0]) (sp_initK K c) := ⟨gKi, _, _, calm okK, mkK, KL.ok.at_, kbK0 tK⟩
 have MkKa : MakeK CX0 l.prog w K mg base 1 "Keep" c.k ["self", "at"] ["at"] gKat (sp_initK K c) := ⟨gKi, _, _, calm okK, mkK, KL.ok.at_, kbKa tK⟩
 have MkG : MakeX (CXR l.prog w) l.prog w K mg base 7 "Change" c.g ["self", "form"] (sp_initG K c NF) := ⟨gGi, _, ok_Ginit FgGi T KL.og C_refuse_no_form, by rw [ecg]; exact ⟨yGmk, gGia, gGii, yGkc⟩, KL.og.at_, bgGi⟩
 have MPd : MethX (CXR l.prog w) l.prog w K mg base 3 c.p "done" ["self", "form"] (sp_done K c ND c.p) := ⟨gPd, _, ok_Pdone Ap FgPd T KL.op C_refuse_no_gap, by rw [ecp]; exact clP, by rw [ecp]; exact ⟨gPda, gPdi, gPdk⟩, bgPd⟩
 have MCd : MethX (CXR l.prog w) l.prog w K mg base 3 c.c "done" ["self", "form"] (sp_done K c ND c.c) := ⟨gCd, _, ok_Cdone Ap FgCd T G_GAP GA rND gND, by rw [ecc]; exact clC, by rw [ecc]; exact ⟨gCda, gCdi, gCdk⟩, bgCd⟩
 have MWd : MethX (CXR l.prog w) l.prog w K mg base 3 c.w "done" ["self", "form"] (sp_done K c ND c.w) := ⟨gWd, _, ok_Wdone Ap FgWd T KL.ow C_with_part, by rw [ecw]; exact clW, by rw [ecw]; exact ⟨gWda, gWdi, gWdk⟩, bgWd⟩
 have MKd : MethX (CXR l.prog w) l.prog w K mg base 3 c.k "done" ["self", "form"] (sp_done K c ND c.k) := ⟨gKd, _, ok_Kdone Ap FgKd T KL.ok C_has_part rND gND, by rw [eck]; exact clK, by rw [eck]; exact ⟨gKda, gKdi, gKdk⟩, bgKd⟩
 have MGd : MethX (CXR l.prog w) l.prog w K mg base 3 c.g "done" ["self", "form"] (sp_done K c ND c.g) := ⟨gGd, _, ok_Gdone Ap FgGd T KL.og, by rw [ecg]; exact clG, by rw [ecg]; exact ⟨gGda, gGdi, gGdk⟩, bgGd⟩
 have MPb : MethX (CXR l.prog w) l.prog w K mg base 9 c.p "back" ["self", "form"] (sp_back K c ND c.p) := ⟨gPb, _, ok_Pback Ap FgPb T MPd Mk0C, by rw [ecp]; exact clP, by rw [ecp]; exact ⟨gPba, gPbi, gPbk⟩, bgPb⟩
 have MWb : MethX (CXR l.prog w) l.prog w K mg base 9 c.w "back" ["self", "form"] (sp_back K c ND c.w) := ⟨gWb, _, ok_Wback Ap FgWb T KL.ow MkKx, by rw [ecw]; exact clW, by rw [ecw]; exact ⟨gWba, gWbi, gWbk⟩, bgWb⟩
 have MKb : MethX (CXR l.prog w) l.prog w K mg base 9 c.k "back" ["self", "form"] (sp_back K c ND c.k) := ⟨gKb, _, ok_Kback Ap FgKb T MKd MkG, by rw [eck]; exact clK, by rw [eck]; exact ⟨gKba, gKbi, gKbk⟩, bgKb⟩
 have Mdone : ∀ d : Dd, MethX (CXR l.prog w) l.prog w K mg base 3 (d.cls c) "done" ["self", "form"] (sp_done K c ND (d.cls c)) := fun d => match d with | .put _ _ => MPd | .cut => MCd | .wrap _ _ _ => MWd | .keep _ => MKd | .chg _ _ => MGd
 have Mback : ∀ d : Dd, d.hasBack = true → MethX (CXR l.prog w) l.prog w K mg base 9 (d.cls c) "back" ["self", "form"] (sp_back K c ND (d.cls c)) := fun d h => match d, h with | .put _ _, _ => MPb | .wrap _ _ _, _ => MWb | .keep _, _ => MKb
 have C__law_class := calleen_of (P := l.prog) (w := w) (base := base) (ok_class F25 T KD) (W.mg_of X G a25) k25 b25
 have C__law_wrapped := callee_of (P := l.prog) (w := w) (base := base) (ok_wrapped (c := c) F26 T GA MkW3 C__law_class XG gG sFG) (W.mg_of X G a26) k26 b26
 have C__law_put := callee_of (P := l.prog) (w := w) (base := base) (ok_put (c := c) F27 T GA MkP1 MkPn C__law_class XG gG sFG) (W.mg_of X G a27) k27 b27
 have C__law_bare := callee_of (P := l.prog) (w := w) (base := base) (ok_lbare (c := c) F28 T GA MkW1 C__law_class XG gG sFG) (W.mg_of X G a28) k28 b28
 have C__law_done := callee_of (P := l.prog) (w := w) (base := base) (ok_ldone (c := c) F29 T Mdone C__law_class XG gG sDG) (W.mg_of X G a29) k29 b29
 have C__law_back := callee_of (P := l.prog) (w := w) (base := base) (ok_lback (c := c) F30 T Mback C__law_class XG gG sDG) (W.mg_of X G a30) k30 b30
 have C__law_both := callee_of (P := l.prog) (w := w) (base := base) (ok_both F31 T KL C__law_done C__law_back) (W.mg_of X G a31) k31 b31
 have C__law_no_deed := callee_of (P := l.prog) (w := w) (base := base) (ok_nodeed F32 T C__law_done C__law_back) (W.mg_of X G a32) k32 b32
 have C__law_puts := callee_of (P := l.prog) (w := w) (base := base) (ok_puts F33 T KL C__law_many C__law_put C__law_both C__law_no_deed) (W.mg_of X G a33) k33 b33
 have C__law_wraps := callee_of (P := l.prog) (w := w) (base := base) (ok_wraps F34 T GA KL MkKa MkWa MkW2 C__law_many C__law_wrapped C__law_bare C__law_both) (W.mg_of X G a34) k34 b34
 have C__law_keeps := callee_of (P := l.prog) (w := w) (base := base) (ok_keeps F35 T KL MkK1 MkK0 C__law_both C__law_no_deed) (W.mg_of X G a35) k35 b35
 exact ok_law F36 T C__law_cell C__law_names C__law_head C__law_sort C__law_tree C__law_puts C__law_wraps C__law_keeps
theorem walk {l : W.OpenLaw} {q : Program} {loose : List Str} {XP : (Str → Option Value) → Heap → Prop} {YP : World → Heap → Prop} {d : DefRec} {K : Params → W.Frag} (hn : l.most = some 63) (hdf : d.params.defaults = [])
  (hY : ∀ (w : World) (h : Heap), YP w h → (K w.params).In h)
  (F : ∀ (w : World) (mg : Str → Option Value) (fa : Addr) (h : Heap), (K w.params).In h → h.Ns mainGlobals mg → mg d.name = some (.ref fa) →
   ∃ fd : FuncData, (∀ (s : Shared) (u : Value), BindsTo s fd ⟨[u], []⟩ [("_law_script", u)]) ∧ ∀ base : Heap, (K w.params).In base → base.Ns mainGlobals mg → FnOk l.prog w (K w.params) mg base CX0 13 fa fd ["_law_script"] (spLaw (K w.params))) :
  W.WalkO q loose XP YP l.row.toRowW d [] (fun f vs => PySem.call f vs) :=
 L2.walk_of (n := 63) (k := 13) (x := "_law_script") (CX := fun _ => CX0) (sp := fun w => spLaw (K w.params)) hn (by decide) hdf ⟨rfl, by decide, by decide⟩ hY F (fun _ _ a ns hl _ hS => ⟨a, ns, rfl, hS, hl, fun _ => rfl⟩) fun _ _ _ _ _ z => z
end K22
open PySem PySem.W PyProof.Rows
set_option maxRecDepth 100000 in
set_option maxHeartbeats 0 in
theorem PySem.Challenge.cw_gapscribe_k22_puts_wraps_keeps_holds : PySem.Challenge.rw_gapscribe_k22_puts_wraps_keeps.Holds := by
 w_on; o_law; o_head (W.kHook K22.KK K22.KA (fun _ => by kernel_rfl)); (case hw => w_witness2)
 k_fill
 refine K22.walk (l := PySem.Challenge.rw_gapscribe_k22_puts_wraps_keeps) rfl rfl (fun w h Y => W.kIn_of Y) ?F
 case F =>
  intro w mg fa h KX G hmg
  refine' K22.all_mk KX G hmg ?a1 ?l1 ?c1 ?k1 ?a2 ?l2 ?c2 ?k2 ?a3 ?l3 ?c3 ?k3 ?a4 ?l4 ?c4 ?k4 ?a5 ?l5 ?c5 ?k5 ?a6 ?l6 ?c6 ?k6 ?a7 ?l7 ?c7 ?k7 ?a8 ?l8 ?c8 ?k8 ?a9 ?l9 ?c9 ?k9 ?a10 ?l10 ?c10 ?k10 ?a11 ?l11 ?c11 ?k11 ?a12 ?l12 ?c12 ?k12 ?a13 ?l13 ?c13 ?k13 ?a14 ?l14 ?c14 ?k14 ?a15 ?l15 ?c15 ?k15 ?a16 ?l16 ?c16 ?k16 ?a17 ?l17 ?c17 ?k17 ?a18 ?l18 ?c18 ?k18 ?a19 ?l19 ?c19 ?k19 ?a20 ?l20 ?c20 ?k20 ?a21 ?l21 ?c21 ?k21 ?a22 ?l22 ?c22 ?k22 ?a23 ?l23 ?c23 ?k23 ?a24 ?l24 ?c24 ?k24 ?a25 ?l25 ?c25 ?k25 ?a26 ?l26 ?c26 ?k26 ?a27 ?l27 ?c27 ?k27 ?a28 ?l28 ?c28 ?k28 ?a29 ?l29 ?c29 ?k29 ?a30 ?l30 ?c30 ?k30 ?a31 ?l31 ?c31 ?k31 ?a32 ?l32 ?c32 ?k32 ?a33 ?l33 ?c33 ?k33 ?a34 ?l34 ?c34 ?k34 ?a35 ?l35 ?c35 ?k35 ?a36 ?l36 ?c36 ?k36 ?z1 ?z2 ?z3 ?z4 ?z5 ?z6 ?z7 ?z8 ?z9 ?z10 ?z100 ?z101 ?z102 ?y102 ?x102 ?z103 ?y103 ?x103 ?z104 ?y104 ?x104 ?e104 ?xGa ?xGl ?xGn ?xGk ?xGi ?xGt ?xGb ?xcg ?xct ?xNFa ?xNFl ?xNFm ?xNFs ?xNFd ?xNFn ?xNFk ?xNFi ?xNFt ?xNFh ?xNFg ?xNFga ?xNFsa ?xNFsub ?xNFca ?xNFv ?xNDa ?xNDl ?xNDm ?xNDs ?xNDd ?xNDn ?xNDk ?xNDi ?xNDt ?xNDh ?xNDg ?xNDga ?xNDsa ?xNDsub ?xNDca ?xNDv ?xNPa ?xNPl ?xNPt ?sNFND ?eNFND ?sNDNF ?eNDNF ?sNFNP ?eNFNP ?sNDNP ?eNDNP ?yDa ?yPa ?yPpg ?yPhd ?yPpo ?yPsa ?yPmk ?yPkc ?yPnf ?yPna ?yPca ?yPcm ?gPda ?gPdi ?gPdl ?gPdc ?gPdk ?gPba ?gPbi ?gPbl ?gPbc ?gPbk ?gPia ?gPii ?gPil ?gPic ?gPik ?tP ?yCa ?yCpg ?yChd ?yCpo ?yCsa ?yCmk ?yCkc ?yCnf ?yCna ?yCca ?yCcm ?gCda ?gCdi ?gCdl ?gCdc ?gCdk ?yWa ?yWpg ?yWhd ?yWpo ?yWsa ?yWmk ?yWkc ?yWnf ?yWna ?yWca ?yWcm ?gWda ?gWdi ?gWdl ?gWdc ?gWdk ?gWba ?gWbi ?gWbl ?gWbc ?gWbk ?gWia ?gWii ?gWil ?gWic ?gWik ?tW ?yKa ?yKpg ?yKhd ?yKpo ?yKsa ?yKmk ?yKkc ?yKnf ?yKna ?yKca ?yKcm ?gKda ?gKdi ?gKdl ?gKdc ?gKdk ?gKba ?gKbi ?gKbl ?gKbc ?gKbk ?gKia ?gKii ?gKil ?gKic ?gKik ?tK ?yGa ?yGpg ?yGhd ?yGpo ?yGsa ?yGmk ?yGkc ?yGnf ?yGna ?yGca ?yGcm ?gGda ?gGdi ?gGdl ?gGdc ?gGdk ?gGia ?gGii ?gGil ?gGic ?gGik ?yCoi ?yDl ?yDt ?yPs ?yCs ?yWs ?yKs ?yGs ?nPC ?nPW ?nPK ?nPG ?nCW ?nCK ?nCG ?nWK ?nWG ?nKG ?w90 ?w91 ?w92 ?w93 ?w94
  (case a1 => k_is)
  (case l1 => k_is)
  (case c1 => k_is)
  (case k1 => k_is)
  (case a2 => k_is)
  (case l2 => k_is)
  (case c2 => k_is)
  (case k2 => k_is)
  (case a3 => k_is)
  (case l3 => k_is)
  (case c3 => k_is)
  (case k3 => k_is)
  (case a4 => k_is)
  (case l4 => k_is)
  (case c4 => k_is)
  (case k4 => k_is)
  (case a5 => k_is)
  (case l5 => k_is)
  (case c5 => k_is)
  (case k5 => k_is)
  (case a6 => k_is)
  (case l6 => k_is)
  (case c6 => k_is)
  (case k6 => k_is)
  (case a7 => k_is)
  (case l7 => k_is)
  (case c7 => k_is)
  (case k7 => k_is)
  (case a8 => k_is)
  (case l8 => k_is)
  (case c8 => k_is)
  (case k8 => k_is)
  (case a9 => k_is)
  (case l9 => k_is)
  (case c9 => k_is)
  (case k9 => k_is)
  (case a10 => k_is)
  (case l10 => k_is)
  (case c10 => k_is)
  (case k10 => k_is)
  (case a11 => k_is)
  (case l11 => k_is)
  (case c11 => k_is)
  (case k11 => k_is)
  (case a12 => k_is)
  (case l12 => k_is)
  (case c12 => k_is)
  (case k12 => k_is)
  (case a13 => k_is)
  (case l13 => k_is)
  (case c13 => k_is)
  (case k13 => k_is)
  (case a14 => k_is)
  (case l14 => k_is)
  (case c14 => k_is)
  (case k14 => k_is)
  (case a15 => k_is)
  (case l15 => k_is)
  (case c15 => k_is)
  (case k15 => k_is)
  (case a16 => k_is)
  (case l16 => k_is)
  (case c16 => k_is)
  (case k16 => k_is)
  (case a17 => k_is)
  (case l17 => k_is)
  (case c17 => k_is)
  (case k17 => k_is)
  (case a18 => k_is)
  (case l18 => k_is)
  (case c18 => k_is)
  (case k18 => k_is)
  (case a19 => k_is)
  (case l19 => k_is)
  (case c19 => k_is)
  (case k19 => k_is)
  (case a20 => k_is)
  (case l20 => k_is)
  (case c20 => k_is)
  (case k20 => k_is)
  (case a21 => k_is)
  (case l21 => k_is)
  (case c21 => k_is)
  (case k21 => k_is)
  (case a22 => k_is)
  (case l22 => k_is)
  (case c22 => k_is)
  (case k22 => k_is)
  (case a23 => k_is)
  (case l23 => k_is)
  (case c23 => k_is)
  (case k23 => k_is)
  (case a24 => k_is)
  (case l24 => k_is)
  (case c24 => k_is)
  (case k24 => k_is)
  (case a25 => k_is)
  (case l25 => k_is)
  (case c25 => k_is)
  (case k25 => k_is)
  (case a26 => k_is)
  (case l26 => k_is)
  (case c26 => k_is)
  (case k26 => k_is)
  (case a27 => k_is)
  (case l27 => k_is)
  (case c27 => k_is)
  (case k27 => k_is)
  (case a28 => k_is)
  (case l28 => k_is)
  (case c28 => k_is)
  (case k28 => k_is)
  (case a29 => k_is)
  (case l29 => k_is)
  (case c29 => k_is)
  (case k29 => k_is)
  (case a30 => k_is)
  (case l30 => k_is)
  (case c30 => k_is)
  (case k30 => k_is)
  (case a31 => k_is)
  (case l31 => k_is)
  (case c31 => k_is)
  (case k31 => k_is)
  (case a32 => k_is)
  (case l32 => k_is)
  (case c32 => k_is)
  (case k32 => k_is)
  (case a33 => k_is)
  (case l33 => k_is)
  (case c33 => k_is)
  (case k33 => k_is)
  (case a34 => k_is)
  (case l34 => k_is)
  (case c34 => k_is)
  (case k34 => k_is)
  (case a35 => k_is)
  (case l35 => k_is)
  (case c35 => k_is)
  (case k35 => k_is)
  (case a36 => k_is)
  (case l36 => k_is)
  (case c36 => k_is)
  (case k36 => k_is)
  (case z1 => k_is)
  (case z2 => k_is)
  (case z3 => k_is)
  (case z4 => k_is)
  (case z5 => k_is)
  (case z6 => k_is)
  (case z7 => k_is)
  (case z8 => k_is)
  (case z9 => k_is)
  (case z10 => k_is)
  (case z100 => k_is)
  (case z101 => k_is)
  (case z102 => k_is)
  (case y102 => k_is)
  (case x102 => rfl)
  (case z103 => k_is)
  (case y103 => k_is)
  (case x103 => rfl)
  (case z104 => k_is)
  (case y104 => k_is)
  (case x104 => rfl)
  (case e104 => (repeat (first | exact .nil | refine .cons ⟨_, rfl⟩ ?_)))
  (case xGa => k_is)
  (case xGl => k_is)
  (case xGn => k_is)
  (case xGk => rfl)
  (case xGi => k_is)
  (case xGt => k_is)
  (case xGb => k_is)
  (case xcg => k_is)
  (case xct => k_is)
  (case xNFa => k_is)
  (case xNFl => k_is)
  (case xNFm => rfl)
  (case xNFs => rfl)
  (case xNFd => rfl)
  (case xNFn => k_is)
  (case xNFk => rfl)
  (case xNFi => k_is)
  (case xNFt => k_is)
  (case xNFh => k_is)
  (case xNFg => k_is)
  (case xNFga => k_is)
  (case xNFsa => k_is)
  (case xNFsub => k_is)
  (case xNFca => k_is)
  (case xNFv => k_is)
  (case xNDa => k_is)
  (case xNDl => k_is)
  (case xNDm => rfl)
  (case xNDs => rfl)
  (case xNDd => rfl)
  (case xNDn => k_is)
  (case xNDk => rfl)
  (case xNDi => k_is)
  (case xNDt => k_is)
  (case xNDh => k_is)
  (case xNDg => k_is)
  (case xNDga => k_is)
  (case xNDsa => k_is)
  (case xNDsub => k_is)
  (case xNDca => k_is)
  (case xNDv => k_is)
  (case xNPa => k_is)
  (case xNPl => k_is)
  (case xNPt => k_is)
  (case sNFND => k_is)
  (case eNFND => rfl)
  (case sNDNF => k_is)
  (case eNDNF => rfl)
  (case sNFNP => k_is)
  (case eNFNP => rfl)
  (case sNDNP => k_is)
  (case eNDNP => rfl)
  (case yDa => k_is)
  (case yPa => k_is)
  (case yPpg => k_is)
  (case yPhd => k_is)
  (case yPpo => k_is)
  (case yPsa => k_is)
  (case yPmk => k_is)
  (case yPkc => k_is)
  (case yPnf => k_is)
  (case yPna => k_is)
  (case yPca => k_is)
  (case yPcm => k_is)
  (case gPda => k_is)
  (case gPdi => k_is)
  (case gPdl => k_is)
  (case gPdc => k_is)
  (case gPdk => k_is)
  (case gPba => k_is)
  (case gPbi => k_is)
  (case gPbl => k_is)
  (case gPbc => k_is)
  (case gPbk => k_is)
  (case gPia => k_is)
  (case gPii => k_is)
  (case gPil => k_is)
  (case gPic => k_is)
  (case gPik => k_is)
  (case tP => k_is)
  (case yCa => k_is)
  (case yCpg => k_is)
  (case yChd => k_is)
  (case yCpo => k_is)
  (case yCsa => k_is)
  (case yCmk => k_is)
  (case yCkc => k_is)
  (case yCnf => k_is)
  (case yCna => k_is)
  (case yCca => k_is)
  (case yCcm => k_is)
  (case gCda => k_is)
  (case gCdi => k_is)
  (case gCdl => k_is)
  (case gCdc => k_is)
  (case gCdk => k_is)
  (case yWa => k_is)
  (case yWpg => k_is)
  (case yWhd => k_is)
  (case yWpo => k_is)
  (case yWsa => k_is)
  (case yWmk => k_is)
  (case yWkc => k_is)
  (case yWnf => k_is)
  (case yWna => k_is)
  (case yWca => k_is)
  (case yWcm => k_is)
  (case gWda => k_is)
  (case gWdi => k_is)
  (case gWdl => k_is)
  (case gWdc => k_is)
  (case gWdk => k_is)
  (case gWba => k_is)
  (case gWbi => k_is)
  (case gWbl => k_is)
  (case gWbc => k_is)
  (case gWbk => k_is)
  (case gWia => k_is)
  (case gWii => k_is)
  (case gWil => k_is)
  (case gWic => k_is)
  (case gWik => k_is)
  (case tW => k_is)
  (case yKa => k_is)
  (case yKpg => k_is)
  (case yKhd => k_is)
  (case yKpo => k_is)
  (case yKsa => k_is)
  (case yKmk => k_is)
  (case yKkc => k_is)
  (case yKnf => k_is)
  (case yKna => k_is)
  (case yKca => k_is)
  (case yKcm => k_is)
  (case gKda => k_is)
  (case gKdi => k_is)
  (case gKdl => k_is)
  (case gKdc => k_is)
  (case gKdk => k_is)
  (case gKba => k_is)
  (case gKbi => k_is)
  (case gKbl => k_is)
  (case gKbc => k_is)
  (case gKbk => k_is)
  (case gKia => k_is)
  (case gKii => k_is)
  (case gKil => k_is)
  (case gKic => k_is)
  (case gKik => k_is)
  (case tK => k_is)
  (case yGa => k_is)
  (case yGpg => k_is)
  (case yGhd => k_is)
  (case yGpo => k_is)
  (case yGsa => k_is)
  (case yGmk => k_is)
  (case yGkc => k_is)
  (case yGnf => k_is)
  (case yGna => k_is)
  (case yGca => k_is)
  (case yGcm => k_is)
  (case gGda => k_is)
  (case gGdi => k_is)
  (case gGdl => k_is)
  (case gGdc => k_is)
  (case gGdk => k_is)
  (case gGia => k_is)
  (case gGii => k_is)
  (case gGil => k_is)
  (case gGic => k_is)
  (case gGik => k_is)
  (case yCoi => k_is)
  (case yDl => k_is)
  (case yDt => k_is)
  (case yPs => k_is)
  (case yCs => k_is)
  (case yWs => k_is)
  (case yKs => k_is)
  (case yGs => k_is)
  (case nPC => rfl)
  (case nPW => rfl)
  (case nPK => rfl)
  (case nPG => rfl)
  (case nCW => rfl)
  (case nCK => rfl)
  (case nCG => rfl)
  (case nWK => rfl)
  (case nWG => rfl)
  (case nKG => rfl)
  (case w90 => k_is)
  (case w91 => k_is)
  (case w92 => rfl)
  (case w93 => k_is)
  (case w94 => rfl)
#print axioms PySem.Challenge.cw_gapscribe_k22_puts_wraps_keeps_holds
